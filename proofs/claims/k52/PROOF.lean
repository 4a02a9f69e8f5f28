import PyProof.Rows.All
import Wide.All
import OpenK.AllK
import Wide.FinOn
import Lean
import PyProof.EqAt
import PyProof.EqKinds
import PyProof.TupleCall
import KE.KIntText
import PyProof.ConsumeWalk
import PySem.Challenge.RW_mapround_k52_whole_walk_followed
set_option Elab.async false
set_option linter.all false
set_option maxRecDepth 100000
set_option maxHeartbeats 4000000
open Option renaming bind_eq_some_iff->oBq,map_eq_some_iff->oMq
open List renaming getElem?_eq_some_iff->gSq,getElem?_eq_getElem->gEg,getD_eq_getElem?_getD->gDq,length_append->lAq,length_map->lMq,mem_append->mAq,mem_flatten->mFq,mem_map->mMq,getElem?_map->gMq,mem_of_getElem?->mGq,map_congr_left->mCq,getElem_mem->gRq,length_singleton->lSq,mem_singleton->mSq,length_take->lTq,nodup_append->nAq,append_nil->aNq,flatten_append->fAq,getElem?_append_right->gYq,getElem?_append_left->gZq,length_cons->lCq,map_map->mPq,map_append->mBq,mem_cons_of_mem->mCo,length_set->lZq,flatten_cons->fCq,count_append->cAq,append_assoc->ah,mem_cons->aj,mem_append_right->ar,mem_cons_self->au,nodup_cons->ax,size_toArray->ay,map_cons->aC,getElem?_set_ne->aE,pairwise_append->aH,getElem?_set_self->aJ,drop_eq_getElem_cons->aK,range->aN,replicate->aO,Perm->aQ,length_drop->aS,length_range->aT,nodup_nil->aW,take_length->aZ,mem_iff_getElem?->bb,flatten_singleton->bg,perm_append_comm->bj,mem_append_left->bp,sublist_flatten_of_mem->bq,getElem?_eq_none->bu,take_add_one->bw,getElem?_set->bx,take_append_drop->bA,getElem?_replicate->bC,take_sublist->bD,perm_ext_iff_of_nodup->bF,mem_of_mem_drop->bG,drop_sublist->bI,length->bL,mem_reverse->bM,pairwise_iff_getElem->bN,mem_range->bO,mem_filter->bQ,mem_of_mem_take->bW,eraseIdx_cons_succ->bX,length_eq_zero_iff->bZ,pairwise_map->cf,take_of_length_le->cj,foldl_cons->cm,not_mem_nil->cD,eq_nil_or_concat->cF,concat_eq_append->cG,mem_flatMap->cH,getElem?_drop->cI,eq_of_mem_replicate->cK,mem_iff_getElem->cL,length_eraseIdx->cO,find?_cons->cP,Pairwise->cR,drop_length->cS,find?_cons_of_neg->cT,nodup_iff_pairwise_ne->cV,length_nil->cW,getElem?_zip_eq_some->cY,flatMap_cons->cZ,dropLast_concat->de,getElem?_take_of_lt->df,reverse_append->dg,getElem?_range->dh,set_cons_zero->dr,nil_append->dv,drop_eq_nil_of_le->dA,find?_cons_of_pos->dC,append_eq_nil_iff->dE,length_replicate->dF,ext_getElem?->dG,find?_isSome->dJ,any_eq_true->dS,nodup_range->dU,extract_eq_take_drop->dW,length_pos_iff->dY,idxOf_lt_length_iff->dZ,pairwise_cons->eh,set_cons_succ->eC,count_pos_iff->eF,drop_zero->eJ,getElem_drop->eO,length_pos_of_mem->eQ,drop_of_length_le->eS,findIdx_lt_length_of_exists->eT,take_succ_eq_append_getElem->eU,length_eq_countP_add_countP->eV,eraseIdxIfInBounds_toArray->eW,any_cons->eX,set_getElem_self->fc,min?_eq_some_iff->fe,reverse_reverse->fh,nodup_iff_count->fj,set_set->fm,filterMap_cons->fq,perm_iff_count->fu,filter_sublist->fv,countP_eq_length_filter->fx,flatMap_append->fy,perm_append_comm_assoc->fA,getElem_idxOf->fB,contains_cons->fD,map_id->fG,getElem_take->fK,foldl_append->fL,map_nil->fS,pairwise_mergeSort->fU,Sublist->fW,of_mem_zip->fY,getElem?_zipWith->gc,getElem?_toArray->gg,count_cons_of_ne->gn,take_zero->gq,reduceReplicate->gw,findIdx_getElem->gA,flatten_flatten->gB,count_cons_self->gC,mergeSort_perm->gD,map_take->gE,length_reverse->gF,mem_filterMap->gH,getElem?_take->gI,flatMap_def->gY,length_zip->hU,zipWith->iw,any_map->ix
open And renaming intro->aa
open PySem.Heap renaming get?_push_of_some->ae,lt_size->ai,get?_push_size->az,get?_update_other->bf,SameBut->bK,get?_update_ne->cu,get?_update_self->cC,size_push->dN,get?_none_of_le->dP,size_update->dQ,get?_push_ne->eP,MadeExcOf->ig,ExtBut->iE
open Array renaming getElem?_eq_getElem->af,length_toList->ao,getElem?_toList->aq,getElem?_eq_some_iff->aD,toList_append->aL,getElem_mem->aY,toList_reverse->cM,toList_push->cQ,size_extract->eB,getD->eR,toList_extract->fg,toArray_toList->fi,toList_setIfInBounds->fF,getElem?_extract->fZ,mem_toList_iff->gu,append_assoc->gG,Perm->hW,size_map->ie
open Nat renaming le_refl->ag,ne_of_lt->aw,lt_of_lt_of_le->aF,zero_le->aV,lt_succ_of_lt->bE,le_succ->bH,le_trans->bJ,sub_self->bP,zero_add->bY,le_of_lt->cw,ne_of_gt->cz,lt_irrefl->cA,lt_succ_self->cB,not_lt_zero->cX,min_eq_left->dz,le_of_eq->dO,add_one_sub_one->dX,lt_or_eq_of_le->ef,pos_of_ne_zero->eA,add_sub_cancel->eD,add_assoc->eY,le_add_right->eZ,lt_trichotomy->fJ,lt_succ_iff_lt_or_eq->fP,le_of_not_lt->fQ,add_sub_cancel_left->fT,lt_trans->gJ,add_zero->gK,add_comm->gM,le_of_lt_succ->gN,max_eq_right->gT,min_eq_right->gU,reduceEqDiff->gV,reduceLeDiff->gW,mod_eq_of_lt->gX,strongRecOn->hV,mod_lt->hZ,reduceAdd->ir,reduceSub->iu,min_self->iy,mod_self->iA
open PySem.F renaming plainAttrs_list->ak,slot_list_append->aA,type_list_append->aB,slot_list_pop->bS,type_list_pop->bT,called_set->bU,slot_list_index->eG,plain_extend_loop->fM,type_list_index->fX,plain_set_new->gf,slot_set_iter->gh
open Sum renaming inl->aG,inr->fI
open Bool renaming false_ne_true->aR,eq_iff_iff->bR,not_eq_true->cE,false_eq_true->du,and_eq_true->dR,or_true->gL,not_eq_true'->gO,eq_false_iff->gP,false_and->ic
open Option renaming some->aU,isSome_map->cc,isSome_some->cU,map_some->fk,bind_some->fR,getD_none->gR,none->iD
open Int renaming toNat_natCast->aX,emod_lt_of_pos->bh,emod_nonneg->bo,fdiv_eq_ediv_of_nonneg->fE,zero_add->fV,toNat->gj,neg_neg->gm,mul_one->gQ,le_refl->gS
open PySem.Value renaming ref->bc,none->cg,type->cJ,int->eK,isStrOf->ik,str->iq,isInt->iC,bool->iH
open PyProof.Rows renaming callWith_type1->bz,boot_isinstance->bV,boot_list->dD,callWith_builtin1->ff,boot_sorted->fO,boot_int->gi,eq_dataH_same->ij,boot_tuple->iz,boot_bool->iB,boot_min->iF,boot_str->iG,lt_int->iI
open Classical renaming propDecidable->eI,byContradiction->fN
open Prod renaming ext->gZ
open PySem renaming wpAny_bind->iJ,wpAny->iM,wpAny_pure->iN,model->iO,sizeLine->iR,mainGlobals->iS,Program->iT,World->iU,starEach->iW,rawInt->iX,call_isinstance->iY,FuncData->ja,sizeLine_eq->jb,wpAny_mono->jc,wpAny_truthy_bool->je,codeAny_builtin->jf,wpAny_call_entry->jg,wpAny_setState_of->jh,wpAny_newObj_type->ji,lookup_relabel_local->jm,wpAny_holding->jo,compareOp->jq,sysModules->jt,wpAny_setField_rec->ju,wpAny_Call_Name_kw->jv,wpAny_passesOwn->jw,isinstance_true->jx,relabel->jy,unsupported->jA,scanBound->jB,wpAny_callSpecial?_slot->jD,intKind->jE,codeAny->jF,wpAny_ite_split->jG,Scope->jI,wpAny_loadPart_at->jK,isSubtype_type->jL,isinstance_false_int->jM,cLine->jO,wpAny_newList->jP,plainId_quiet->jQ,pyNext->jR,backTo->jS,sliceBounds->jT,wpAny_comprehension_free->jW,tupleKind_room_in1->jX,bootBuiltins->jY,binaryOp->jZ,foldedSetIterable->kf,wpAny_attempt->ki,behindInMarks->km,setNext->kq,wpAny_execs_nil->kr,letOwnedTupleGo->ku,codeAny_mono->ky,typeLookup->kz,setEntries->kA,call_meets->kB,wpAny_fieldsOf->kC,firstArgMember->kE,wpAny_standAt->kF,fits_of_scanBound->kG,assignEach->kH,Model->kJ,valueAt->kK,callerA->kL,wpAny_isInstance->kM,wpAny_askSetting->kN,relayAll->kO,codeAny_of_tree->kR,tupleKind->kS,atKey->kT,codeAny_compStart_list->kW,wpAny_of_eq->kX,wpAny_field->kY,subscripted->kZ,excClassObj->lg,wpAny_isTrue_Compare1->lj,isinstance_false_none->lu,builtinLookup_eq_fast->ly,wpAny_setField->lB,wpAny_runValue->lF,getItem->lK,BindsTo->lO,wpAny_newFunctionEnv->lR,isinstance_false_str->lS,codeAny_call_builtin->lV,wpAny_rule->lW,wpAny_call->lY,intKind_is->lZ,setField->mh,wpAny_isSubtype_exc->mq,wpAny_typeOf->mv,swapsWith->mC,seqIndex?->mD,newList->mE
open PyProof.Rows renaming Keyed->iK,wpS_bind->iP,wpS_pure->iQ,arrOf->iV,seqObj->iZ,IntsAre->jd,wpS_forRange->jj,setArr->jk,SortKind->jl,wpS_mono->jn,elem'->jr,envOfC->jz,pairsOf->jC,pendingOf->jH,oneType'->jJ,wpS_modify->jN,wpS_get->jU,getElem?_mirror_all->jV,sortedHeap->kc,AllBare->ke,reverseSlice'->kj,gallopOf->ko,pairsOf_size->kx,get?_update_seq->kP,entry_list_sort->kQ,subscriptTail_builtinR->kU,slot_list_sort->lH,args_list_sort->lJ,entry_proto_collect'->lU,keyKind'->mi,subscriptTail->mj,listUpdate_at->mn,plain_sorted->mw,entry_sorted->mz,args_sorted1->mB,seqEpoch_at->mF,kind_sorted->mG
noncomputable section
open Array renaming mem_of_getElem?->aQq
local macro_rules|`(tactic|trivial)=>`(tactic|first|exact Or.inl rfl|exact Or.inr rfl|exact Or.inr (Or.inl rfl)|exact Or.inr (Or.inr rfl)|exact⟨rfl,rfl,rfl,by decide +kernel,rfl,by decide +kernel,by decide +kernel⟩|fail)
theorem oz{c:Prop}{_:Decidable c}(h:c){α}{t e:α}:ite c t e=t:=if_pos h
theorem oB{c:Prop}{_:Decidable c}(h:¬c){α}{t e:α}:ite c t e=e:=if_neg h
namespace L2
open PySem PySem.Spec PyProof.Rows
abbrev oy:=Sum Int Str
def CY:oy->Value->Bool
 | .inl k,v=>iC k v
 | .inr x,v=>ik x v
def VC(w:iU):oy->Int
 | .inl k=>hashInt k
 | .inr x=>hashStr w x
theorem qc:∀{k:oy}{v:Value},CY k v=true->(∃i t,k=aG i/\v=eK i t)∨(∃x t,k=fI x/\v=iq x t)
 | .inl i,v,h=>by
  obtain⟨t,e⟩:=Value.isInt_shape (k:=i) (v:=v) h;exact .inl ⟨i,t,rfl,e⟩
 | .inr x,v,h=>by
  obtain⟨t,e⟩:=Value.isStrOf_shape (x:=x) (v:=v) h;exact .inr ⟨x,t,rfl,e⟩
theorem Jg(i:Int) (t:Tok):CY (.inl i) (.int i t)=true:=by simp[CY,iC]
theorem JX(x:Str) (t:Tok):CY (.inr x) (.str x t)=true:=by simp[CY,ik]
theorem QQ(a b:Int):decide ((aG a:oy)=aG b)=(a == b):=by
 by_cases e:a=b
 .subst e;simp
 .have h:¬ (aG a:oy)=aG b:=λq=>e (aG.inj q)
  rw[decide_eq_false h];exact(beq_eq_false_iff_ne.mpr e).symm
theorem RW(a b:Str):decide ((fI a:oy)=fI b)=decide (a=b):=by
 by_cases e:a=b
 .subst e;simp
 .have h:¬ (fI a:oy)=fI b:=λq=>e (fI.inj q)
  rw[decide_eq_false h,decide_eq_false e]
theorem Sk(a:Int) (b:Str):decide ((aG a:oy)=fI b)=false:=decide_eq_false (λq=>nomatch q)
theorem R7(a:Str) (b:Int):decide ((fI a:oy)=aG b)=false:=decide_eq_false (λq=>nomatch q)
def qk(prog:iT) (w:iU):PySem.KeyKind prog w oy where
 is:=CY
 hash:=VC w
 inj:=λv a b ha hb=>by
  rcases qc ha with ⟨i,t,rfl,rfl⟩|⟨x,t,rfl,rfl⟩
  .rcases qc hb with ⟨j,u,rfl,e⟩|⟨y,u,rfl,e⟩
   .injection e with e1 _;rw[e1]
   .exact nomatch e
  .rcases qc hb with ⟨j,u,rfl,e⟩|⟨y,u,rfl,e⟩
   .exact nomatch e
   .injection e with e1 _;rw[e1]
 byValue:=λk v h=>by
  rcases qc h with ⟨i,t,rfl,rfl⟩|⟨x,t,rfl,rfl⟩ <;> rfl
 pyHash:=λhv h=>by
  rcases qc hv with ⟨i,t,rfl,rfl⟩|⟨x,t,rfl,rfl⟩
  .exact wpAny_pyHash_int h
  .exact wpAny_pyHash_str h
 eqBool:=λhu hv h=>by
  rcases qc hu with ⟨i,t,rfl,rfl⟩|⟨x,t,rfl,rfl⟩
  .rcases qc hv with ⟨j,u,rfl,rfl⟩|⟨y,u,rfl,rfl⟩
   .rw [QQ]at h;exact wpAny_eqBool_int h
   .rw [Sk]at h;exact SeqAt.EqAt.int_str i t y u _ _ _ _ h
  .rcases qc hv with ⟨j,u,rfl,rfl⟩|⟨y,u,rfl,rfl⟩
   .rw [R7]at h;exact SeqAt.EqAt.str_int x t j u _ _ _ _ h
   .rw [RW]at h;exact wpAny_eqBool_str h
 «strs»:=λk x t v h=>by
  rcases qc h with ⟨i,u,rfl,e⟩|⟨y,u,rfl,e⟩
  .exact nomatch e
  .injection e with e1 _
   subst e1;cases v <;> rfl
theorem FO(prog:iT) (w:iU) (i:Int) (t:Tok):(qk prog w).is (.inl i) (.int i t)=true:=Jg i t
theorem Gc(prog:iT) (w:iU) (x:Str) (t:Tok):(qk prog w).is (.inr x) (.str x t)=true:=JX x t
inductive V where
 |non|bl (b:Bool)|int (i:Int)|str (x:Str)|byt (b:Array UInt8)|flt (b:UInt64)|ref (a:Addr)|ty (n:String)
 deriving DecidableEq
def pY:V->Value->Prop
 | .non,u=>u=cg
 | .bl b,u=>u=iH b
 | .int i,u=>∃t,u=eK i t
 | .str x,u=>∃t,u=iq x t
 | .byt b,u=>∃t,u=Value.bytes b t
 | .flt b,u=>∃t,u=Value.float b t
 | .ref a,u=>u=bc a
 | .ty n,u=>u=cJ n
abbrev oQ:List V->List Value->Prop:=Paired pY
theorem oQ.length{xs:List V}{us:List Value}(r:oQ xs us):xs.length=us.length:=Paired.length r
theorem oQ.get:∀{xs:List V}{us:List Value}{i:Nat}{x:V},oQ xs us->xs[i]?=some x->∃u,us[i]?=some u/\pY x u
 |_,_,_,_,.nil,e=>by simp at e
 |_,_,0,_,.cons r _,e=>by simp at e;subst e;exact⟨_,rfl,r⟩
 |_,_,i+1,x,.cons _ t,e=>by
  obtain⟨u,h1,h2⟩:=oQ.get (i:=i) (x:=x) t (by simpa using e)
  exact⟨u,by simpa using h1,h2⟩
theorem oQ.set{x:V}{u:Value}(r:pY x u):∀{xs:List V}{us:List Value}(i:Nat),oQ xs us->oQ (xs.set i x) (us.set i u)
 |_,_,_,.nil=>.nil
 |_,_,0,.cons _ t=>.cons r t
 |_,_,i+1,.cons q t=>.cons q (oQ.set r i t)
theorem oQ.append:∀{xs ys:List V}{us ws:List Value},oQ xs us->oQ ys ws->oQ (xs++ys) (us++ws)
 |_,_,_,_,.nil,s=>s
 |_,_,_,_,.cons r t,s=>.cons r (oQ.append t s)
theorem oQ.take:∀{xs:List V}{us:List Value}(n:Nat),oQ xs us->oQ (xs.take n) (us.take n)
 |_,_,0,_=>.nil
 |_,_,_+1,.nil=>.nil
 |_,_,n+1,.cons r t=>.cons r (oQ.take n t)
theorem oQ.drop:∀{xs:List V}{us:List Value}(n:Nat),oQ xs us->oQ (xs.drop n) (us.drop n)
 |_,_,0,r=>r
 |_,_,_+1,.nil=>.nil
 |_,_,n+1,.cons _ t=>oQ.drop n t
def Cz:Option V->Option Value->Prop
 |some v,some u=>pY v u
 |none,none=>True
 |_,_=>False
def KV{κ:Type}:List (κ×V)->List (κ×Value)->Prop:=Paired λ(p:κ×V) (q:κ×Value)=>p.1=q.1/\pY p.2 q.2
def kV:oy->V
 | .inl i=>.int i
 | .inr x=>.str x
inductive HO where
 /-- a list -/
 |lst (xs:List V)
 /-- a tuple (never changes) -/
 |tup (xs:List V)
 /-- a dict whose keys are ints and texts;one whose keys are tuples of ints and texts (the empty one is Ur) -/
 |dK (kvs:List (oy×V))|dT (kvs:List (List oy×V))
 /-- a set of ints: its members,its size -/
 |set (S:Int->Bool) (n:Nat)
 /-- an instance of the class at C,its dict at dx,its attributes -/
 |ins (C dx:Addr) (fs:List (Str×V))
 /-- the dict of the instance at x -/
 |own (x:Addr)
 /-- the dict of an exception -/
 |xd (fs:List (Str×V))
 /-- a bound method,f of x -/
 |met (f x:Addr)
 /-- a range object lo,lo+1,.. below hi -/
 |rng (lo hi:Int)
 /-- a thing that is known to the object (the script;a dict while a loop walks it): read,never written while it is so -/
 |frz (o:Obj) (u:HO)
 /-- a code object's table -/
 |tbl (ps:Array Value)
 /-- any other thing,by what is true of its one object (a def of one's own: SetO a S n:=HO.ext λh=>..) -/
 |ext (φ:Heap->Prop)
abbrev Hp:=Addr->Option HO
def pX(H:Hp) (a:Addr) (o:HO):Hp:=λb=>if b=a then some o else H b
theorem oh{H:Hp}{a:Addr}{o:HO}:pX H a o a=some o:=by unfold pX;rw[oz rfl]
theorem nY{H:Hp}{a b:Addr}{o:HO}(h:b≠a):pX H a o b=H b:=by unfold pX;rw[oB h]
theorem OL{H:Hp}{a:Addr}{o u:HO}:pX (pX H a o) a u=pX H a u:=by
 funext b;unfold pX;split <;> rfl
theorem TY{H:Hp}{a b:Addr}{o u:HO}(h:H a=some o) (h':H b=some u) (d:o≠u):a≠b:=by
 intro e;subst e;rw[h]at h';exact d (aU.inj h')
theorem qh{H:Hp}{a b:Addr}{o:HO}(h:H a=some o) (h':H b=none):a≠b:=by
 intro e;subst e;rw[h]at h';cases h'
section
variable (P:iT) (w:iU)
def qr(H:Hp) (h:Heap) (a:Addr):HO->Prop
 | .lst xs=>xs.length<=iR/\∃(its:List Value) (n:Nat),oQ xs its/\h.get? a=some { cls:=.type "list", data:=.seq its.toArray n }
 | .tup xs=>xs.length<=iR/\∃its:List Value,oQ xs its/\IsTup h a its.toArray
 | .dK kvs=>kvs.length<=iR/\(a == jt)=false/\∃vs,KV kvs vs/\h.DictOf (qk P w) a vs
 | .dT kvs=>kvs.length<=iR/\(a == jt)=false/\∃xs:List (List oy×Addr×Value),
   Paired (λ(p:List oy×V) (q:List oy×Addr×Value)=>p.1=q.1/\H q.2.1=some (.tup (p.1.map kV))/\pY p.2 q.2.2) kvs xs /\
   ∃o es ep,h.get? a=some o/\o.ExactDict/\o.data = .dict es ep/\es.toList=xs.map (entryOfKey (kS (qk P w)))/\(xs.map (·.1)).Nodup
 | .set S n=>h.SetOf (jE P w) a S n
 | .ins C dx fs=>H dx=some (.own a)/\fs.length<=1000/\dx≠a/\h.get? a=some (W.instObj C dx) /\
   ∃mA,h.Ns1 dx mA/\(∀f,Cz (fs.lookup f) (mA f))/\PySem.Within mA (fs.map (·.1))
 | .own _=>∃o,h.get? a=some o
 | .xd fs=>∃mA,h.Ns1 a mA/\∀f,Cz (fs.lookup f) (mA f)
 | .rng lo hi=>∃t u v,h.get? a=some { cls:=.type "range", data:=.fields #[.int lo t,.int hi u,.int 1 v] }
 | .frz o u=>h.get? a=some o/\qr H h a u
 | .tbl ps=>h.get? a=some { cls:=.none,data:=.fields ps }
 | .met f x=>h.get? a=some (W.methodObj (.ref f) (.ref x))
 | .ext φ=>φ h/\(∃o,h.get? a=some o)/\∀h1 h2:Heap,φ h1->(∀o,h1.get? a=some o->h2.get? a=some o)->φ h2
def xu(H:Hp) (h:Heap):Prop:=∀a o,H a=some o->qr P w H h a o
end
section
variable {P:iT}{w:iU}{H H':Hp}{h h':Heap}{a:Addr}{o:HO}
theorem qr.lt(x:qr P w H h a o):a<h.objs.size:=by
 cases o with
 |lst xs=>obtain⟨_,_,_,_,e⟩:=x;exact ai e
 |tup xs=>obtain⟨_,_,_,p⟩:=x;exact p.lt
 |dK kvs=>obtain⟨_,_,_,_,o,_,_,e,_⟩:=x;exact ai e
 |dT kvs=>obtain⟨_,_,_,_,o,_,_,e,_⟩:=x;exact ai e
 |set S n=>obtain⟨o,_,_,_,e,_⟩:=x;exact ai e
 |ins C dx fs=>obtain⟨_,_,_,e,_⟩:=x;exact ai e
 |own y=>obtain⟨_,e⟩:=x;exact ai e
 |xd fs=>obtain⟨_,⟨_,_,_,e,_⟩,_⟩:=x;exact ai e
 |rng lo hi=>obtain⟨_,_,_,e⟩:=x;exact ai e
 |frz ob u=>obtain⟨e,_⟩:=x;exact ai e
 |tbl ps=>exact ai (show h.get? a=some _ from x)
 |met f y=>exact ai (show h.get? a=some _ from x)
 |ext φ=>obtain⟨_,⟨_,e⟩,_⟩:=x;exact ai e
theorem Paired.mapP{α β:Type}{F G:α->β->Prop}:∀{l₁:List α}{l₂:List β},Paired F l₁ l₂->(∀a b,F a b->G a b)->Paired G l₁ l₂
 |_,_,.nil,_=>.nil
 |_,_,.cons r t,f=>.cons (f _ _ r) (Paired.mapP t f)
theorem qr.stay(x:qr P w H h a o) (k:∀b u,(b=a∨H b=some (.own a))->h.get? b=some u->h'.get? b=some u)
  (ho:∀b,H b=some (.own a)->H' b=some (.own a)) (ht:∀b xs,H b=some (.tup xs)->H' b=some (.tup xs)):qr P w H' h' a o:=by
 induction o with
 |lst xs=>obtain⟨z,its,n,r,e⟩:=x;exact⟨z,its,n,r,k _ _ (.inl rfl) e⟩
 |tup xs=>obtain⟨z,its,r,ob,e,c⟩:=x;exact⟨z,its,r,ob,k _ _ (.inl rfl) e,c⟩
 |dK kvs=>obtain⟨z,y,vs,r,ob,es,ep,e,c⟩:=x;exact⟨z,y,vs,r,ob,es,ep,k _ _ (.inl rfl) e,c⟩
 |dT kvs =>
  obtain⟨z,y,xs,r,ob,es,ep,e,c⟩:=x;exact⟨z,y,xs,Paired.mapP r λp q z=>⟨z.1,ht _ _ z.2.1,z.2.2⟩,ob,es,ep,k _ _ (.inl rfl) e,c⟩
 |set S n=>obtain⟨ob,es,ep,t,e,c⟩:=x;exact⟨ob,es,ep,t,k _ _ (.inl rfl) e,c⟩
 |ins C dx fs =>
  obtain⟨d,z,ne,e,mA,⟨od,es,ep,e2,c⟩,r⟩:=x;exact⟨ho _ d,z,ne,k _ _ (.inl rfl) e,mA,⟨od,es,ep,k _ _ (.inr d) e2,c⟩,r⟩
 |own y=>obtain⟨ob,e⟩:=x;exact⟨ob,k _ _ (.inl rfl) e⟩
 |xd fs=>obtain⟨mA,⟨od,es,ep,e,c⟩,r⟩:=x;exact⟨mA,⟨od,es,ep,k _ _ (.inl rfl) e,c⟩,r⟩
 |rng lo hi=>obtain⟨t,u,v,e⟩:=x;exact⟨t,u,v,k _ _ (.inl rfl) e⟩
 |frz ob u ih=>obtain⟨e,q⟩:=x;exact⟨k _ _ (.inl rfl) e,ih q⟩
 |tbl ps =>
  have e:h.get? a=some { cls:=.none,data:=.fields ps }:=x;show h'.get? a=some { cls:=.none,data:=.fields ps };exact k a _ (.inl rfl) e
 |met f y =>
  have e:h.get? a=some (W.methodObj (.ref f) (.ref y)):=x;show h'.get? a=some (W.methodObj (.ref f) (.ref y));exact k a _ (.inl rfl) e
 |ext φ=>obtain⟨p,⟨o,e⟩,st⟩:=x;exact⟨st _ _ p λo q=>k _ _ (.inl rfl) q,⟨o,k _ _ (.inl rfl) e⟩,st⟩
theorem xu.lt(x:xu P w H h) (e:H a=some o):a<h.objs.size:=(x a o e).lt
theorem xu.fresh(x:xu P w H h) (e:h.objs.size<=a):H a=none:=by
 cases q:H a with
 |none=>rfl
 |some u=>exact absurd (aF (x.lt q) e) (cA _)
theorem xu.kept(x:xu P w H h) (k:∀b u,h.get? b=some u->h'.get? b=some u):xu P w H h':=λa o e =>
 (x a o e).stay (λb u _ q=>k b u q) (λ_ q=>q) λ_ _ q=>q
theorem xu.laid(x:xu P w H h) (k:∀b u,h.get? b=some u->h'.get? b=some u) (hp:h.objs.size<=a) (new:qr P w (pX H a o) h' a o):xu P w (pX H a o) h':=λb u e=>by
 have hn:=x.fresh hp
 by_cases hb:b=a
 .subst hb;rw[oh]at e;cases e;exact new
 .rw [nY hb]at e;exact(x b u e).stay (λc v _ q=>k c v q) (λc q=>by rw[nY (qh q hn)];exact q) λc xs q=>by rw[nY (qh q hn)];exact q
end
def Rd(H:Hp) (a:Addr) (u:HO):Prop:=H a=some u∨∃o,H a=some (.frz o u)
theorem Rd.ok{P:iT}{w:iU}{H:Hp}{h:Heap}{a:Addr}{u:HO}(r:Rd H a u) (x:xu P w H h):qr P w H h a u:=by
 rcases r with r|⟨o,r⟩
 .exact x a u r
 .obtain ⟨_,q⟩:=x a _ r;exact q
def UQ:Option HO->Prop
 |some (.lst _)=>True
 |some (.dK _)=>True
 |some (.dT _)=>True
 |some (.set _ _)=>True
 |some (.ins _ _ _)=>True
 |some (.ext _)=>True
 |_=>False
section
variable {P:iT}{w:iU}{H:Hp}{h h':Heap}{x e:Addr}{o':HO}
theorem xu.write(ok:xu P w H h) (mu:UQ (H x)) (he:e=x∨H e=some (.own x)) (k:∀b u,b≠e->h.get? b=some u->h'.get? b=some u) (heo:∃u,h'.get? e=some u)
  (new:qr P w (pX H x o') h' x o'):xu P w (pX H x o') h':=λb u q=>by
 have nown:∀c y,H c=some (.own y)->c≠x:=λc y r z=>by subst z;rw[r]at mu;exact mu
 have ntup:∀c xs,H c=some (.tup xs)->c≠x:=λc xs r z=>by subst z;rw[r]at mu;exact mu
 by_cases hb:b=x
 .subst hb;rw[oh]at q;cases q;exact new
 .rw [nY hb]at q
  by_cases hbe:b=e
  .have q':H b=some (.own x):=by
    rcases he with z|z
    .exact absurd (hbe.trans z) hb
    .rw [hbe];exact z
   rw[q]at q';cases q';obtain⟨v,hv⟩:=heo;exact⟨v,by rw[hbe];exact hv⟩
  .refine (ok b u q).stay (λc v hc r=>k c v ?_ r) (λc r=>by rw[nY (nown c b r)];exact r) λc xs r=>by rw[nY (ntup c xs r)];exact r
   rcases hc with rfl|hc
   .exact hbe
   .rintro rfl;rcases he with z|z
    .exact nown c b hc z
    .rw [hc]at z;cases z;exact hb rfl
end
structure Un (fs ex:List Addr) (H H':Hp) (h h':Heap):Prop where
 keep:∀b o,h.get? b=some o->H b=none->b∉fs->b∉ex->h'.get? b=some o
 slot:∀b o,h.get? b=some o->H b=none->b∈fs->b∉ex->∃sl,h'.get? b=some { o with slots:=sl }
 free:∀b o,h.get? b=some o->H b=none->b∉ex->H' b=none
 there:∀b o,h.get? b=some o->b∉ex->∃o',h'.get? b=some o'
 tups:∀b xs,H b=some (.tup xs)->H' b=some (.tup xs)
 frzs:∀b o u,H b=some (.frz o u)->H' b=some (.frz o u)
 tbls:∀b ps,H b=some (.tbl ps)->∃more,H' b=some (.tbl (ps++more))
section
variable {fs fs' ex ex':List Addr}{H H1 H2:Hp}{h h1 h2 h':Heap}{a x e:Addr}{o:HO}
theorem Un.any(u:Un fs ex H H1 h h1) {b:Addr}{ob:Obj}(q:h.get? b=some ob) (n:H b=none) (hx:b∉ex):∃sl,h1.get? b=some { ob with slots:=sl }:=by
 by_cases hb:b∈fs
 .exact u.slot b ob q n hb hx
 .exact ⟨ob.slots,u.keep b ob q n hb hx⟩
theorem Un.kept(k:∀b u,h.get? b=some u->h'.get? b=some u):Un fs ex H H h h' :=
 ⟨λb ob q _ _ _=>k b ob q,λb ob q _ _ _=>⟨ob.slots,k b ob q⟩,λ_ _ _ n _=>n,λb ob q _=>⟨ob,k b ob q⟩,λ_ _ q=>q,λ_ _ _ q=>q,λ_ ps q=>⟨#[],by rw[q];simp⟩⟩
theorem Un.refl:Un fs ex H H h h:=Un.kept λ_ _ q=>q
theorem Un.laid(k:∀b u,h.get? b=some u->h'.get? b=some u) (hp:h.objs.size<=a) (hn:H a=none):Un fs ex H (pX H a o) h h' where
 keep:=λb u q _ _ _=>k b u q
 slot:=λb u q _ _ _=>⟨u.slots,k b u q⟩
 free:=λb u q n _=>by rw[nY (aw (aF (ai q) hp))];exact n
 there:=λb u q _=>⟨u,k b u q⟩
 tups:=λb xs q=>by rw[nY (qh q hn)];exact q
 frzs:=λb u xs q=>by rw[nY (qh q hn)];exact q
 tbls:=λb ps q=>⟨#[],by rw[nY (qh q hn),q];simp⟩
theorem Un.write(mu:UQ (H x)) (he:e=x∨H e=some (.own x)) (k:∀b u,b≠e->h.get? b=some u->h'.get? b=some u) (heo:∃u,h'.get? e=some u):Un fs ex H (pX H x o) h h':=by
 have hx:∀b,H b=none->b≠x:=λb n z=>by subst z;rw[n]at mu;exact mu
 have hb:∀b,H b=none->b≠e:=λb n z=>by
  subst z;rcases he with r|r
  .exact hx b n r
  .rw [n]at r;cases r
 have hm:∀b u,H b=some u->¬ UQ (some u)->b≠x:=λb u q nm z=>by subst z;rw[q]at mu;exact nm mu
 refine⟨λb u q n _ _=>k b u (hb b n) q,λb u q n _ _=>⟨u.slots,k b u (hb b n) q⟩,λb u q n _=>by rw[nY (hx b n)];exact n,λb u q _=>?_,
  λb xs q=>by rw[nY (hm b _ q λz=>z)];exact q,λb u xs q=>by rw[nY (hm b _ q λz=>z)];exact q,λb ps q=>⟨#[],by rw[nY (hm b _ q λz=>z),q];simp⟩⟩
 by_cases hbe:b=e
 .subst hbe;exact heo
 .exact ⟨u,k b u hbe q⟩
end
def Vo(h:Heap) (H:Hp):List Addr:=(aN h.objs.size).filter λa=>(H a).isSome
def Ej(h:Heap) (H:Hp):Heap:=W.hideAll h (Vo h H)
theorem Jn(h:Heap) (H:Hp):(Ej h H).objs.size=h.objs.size:=W.hideAll_size _ _
theorem Lh{h:Heap}{H:Hp}{b:Addr}{o:Obj}(e:h.get? b=some o) (n:H b=none):(Ej h H).get? b=some o :=
 W.hideAll_get _ e λhm=>by
  have q:(H b).isSome=true:=(bQ.mp hm).2;rw[n]at q;simp at q
theorem Pp{h:Heap}{H:Hp}{b:Addr}{o:Obj}(e:(Ej h H).get? b=some o):h.get? b=some o/\H b=none:=by
 have e':h.get? b=some o:=W.of_hideAll (Vo h H) e;refine⟨e',?_⟩;cases q:H b with
 |none=>rfl
 |some x =>
  have hm:b∈Vo h H:=bQ.mpr ⟨bO.mpr (ai e'),by simp[q]⟩
  have z:(Ej h H).get? b=none:=W.hideAll_none (Vo h H) hm;rw[z]at e;cases e
def Oc(g h:Heap) (L:Addr):List (Addr×Obj):=(aN h.objs.size).filterMap λa=>if a=L∨(g.get? a).isSome=true then none else (h.get? a).map λo=>(a,o)
def rest(g h:Heap) (L d:Addr):List (Addr×Obj):=(Oc g h L).filter λp=>decide (p.1≠d)
structure Mod (K:W.Frag) (mg:Str->Option Value) (base:Heap):Prop where
 kin:K.In base
 glob:base.Ns iS mg
 blt:∃mb,base.Ns builtinsNs mb/\∀x:Str,x ≠ "__name__" -> mb x=jY x
 nolimit:base.NoLimit
structure Cx where
 prog:iT
 w:iU
 K:W.Frag
 mg:Str->Option Value
 base:Heap
 A:Around
 N:List Str
 s₀:Shared
 H₀:Hp
 env:Env
 outer:List Env
 stack:List Env
 ex:List Addr
 fn:Str->Bool
 calm:Bool
 pn:List (Addr×Obj)
 xe:Value->Shared->Prop
def Gz(l:List Env):List Addr:=l.filterMap (·.frame)
abbrev Cx.fs(X:Cx):List Addr:=Gz X.outer
def Ww(sc:jI) (x:Str):Prop:=sc.names.lookup x=some .local∨sc.names.lookup x=some .cell∨sc.names.lookup x=some .free
def Va(sc:jI) (x:Str):Prop:=sc.names.lookup x=some .local∨sc.names.lookup x=some .cell
def Wo(env:Env) (h:Heap) (m:Str->Option Value) (x:Str) (u:Value):Prop :=
 (env.kindOf x=some .local/\m x=some u)∨((env.kindOf x=some .cell∨env.kindOf x=some .free)/\∃c,env.cells.lookup x=some c/\h.IsCell c (some u))
structure Cx.Ok (X:Cx):Prop where
 mod:Mod X.K X.mg X.base
 kind:X.env.scope.kind = .function
 glob:X.env.globals=iS
 blt:X.env.builtins=builtinsNs
 above:X.s₀.heap.objs.size<=X.env.locals
 inj:∀x y c,X.env.cells.lookup x=some c->X.env.cells.lookup y=some c->x=y
 has:∀x,(X.env.kindOf x=some .cell∨X.env.kindOf x=some .free)->∃c,X.env.cells.lookup x=some c
 cab:∀x c,X.fn x=true->X.env.cells.lookup x=some c->X.s₀.heap.objs.size<=c
 hd:X.calm=true->X.A.handled=none
 frames:X.A.frames=some X.stack
 stk:X.stack=X.outer∨(X.stack=X.env::X.outer/\X.env.frame=some X.env.locals)
 exf:∀b∈X.ex,b≠X.env.locals/\∀x c,X.env.cells.lookup x=some c->c≠b
 bs:∀b o,X.base.get? b=some o->X.s₀.heap.get? b=some o/\X.H₀ b=none
 bsz:X.base.objs.size<=X.s₀.heap.objs.size
 noex:∀b o,X.base.get? b=some o->b∉X.ex
 exfs:∀b∈X.ex,b∉X.fs
 funs:X.s₀.heap.FunFrames X.base X.outer
 frf:∀b∈X.fs,X.H₀ b=none
structure Inv (X:Cx) (nA:List (Addr×Obj)) (σ:List (Option V)) (H:Hp) (s:Shared):Prop where
 ok:X.Ok
 os:s.os=X.s₀.os
 bare:ke s.gens
 base:Un X.fs X.ex X.H₀ H X.s₀.heap s.heap
 loc:∃m,s.heap.Ns X.env.locals m/\∀(i:Nat) (x:Str) (v:V),X.N[i]?=some x->σ[i]?=some (some v)->Ww X.env.scope x->∃u,pY v u/\Wo X.env s.heap m x u
 cell:∀x c,X.env.cells.lookup x=some c->∃v,s.heap.IsCell c v
 free:H X.env.locals=none
 freeC:∀x c,X.env.cells.lookup x=some c->H c=none
 pin:∀p∈X.pn++nA,s.heap.get? p.1=some p.2/\H p.1=none/\p.1≠X.env.locals/\p.1∉X.fs/\∀v,p.2.data ≠ .cell v
 hok:xu X.prog X.w H s.heap
 len:σ.length=X.N.length
section
variable {X:Cx}{nA:List (Addr×Obj)}{σ:List (Option V)}{H H':Hp}{s:Shared}{h':Heap}
theorem Cx.Ok.nofr(ok:X.Ok) {b:Addr}{o:Obj}(e:X.base.get? b=some o):b∉X.fs:=λhb=>by
 have:=(ok.funs.mem hb).1;rw[e]at this;cases this
theorem Inv.bs(I:Inv X nA σ H s):∀b o,X.base.get? b=some o->s.heap.get? b=some o/\H b=none:=λb o e =>
 ⟨I.base.keep b o (I.ok.bs b o e).1 (I.ok.bs b o e).2 (I.ok.nofr e) (I.ok.noex b o e),I.base.free b o (I.ok.bs b o e).1 (I.ok.bs b o e).2 (I.ok.noex b o e)⟩
theorem Inv.bk(I:Inv X nA σ H s):∀b o,X.base.get? b=some o->s.heap.get? b=some o:=λb o e=>(I.bs b o e).1
theorem Inv.mod(I:Inv X nA σ H s):Mod X.K X.mg X.base:=I.ok.mod
theorem Inv.kIn(I:Inv X nA σ H s):X.K.In s.heap:=I.ok.mod.kin.keeps I.bk
theorem Inv.lt(I:Inv X nA σ H s):X.env.locals<s.heap.objs.size:=let ⟨_,hn,_⟩:=I.loc;hn.lt
theorem Inv.sz(I:Inv X nA σ H s):X.s₀.heap.objs.size<=s.heap.objs.size:=bJ I.ok.above (cw I.lt)
theorem Inv.nofs(I:Inv X nA σ H s) {a:Addr}(h:s.heap.objs.size<=a):a∉X.fs:=λhb=>by
 obtain⟨_,o,ho,_⟩:=I.ok.funs.mem hb;exact absurd (aF (ai ho) (bJ I.sz h)) (cA _)
theorem Inv.cne(I:Inv X nA σ H s):∀x c,X.env.cells.lookup x=some c->c≠X.env.locals:=λx c e z=>by
 obtain⟨v,o,ho,hd⟩:=I.cell x c e;obtain⟨m,⟨o',es,ep,ho',hd',_⟩,_⟩:=I.loc;rw[z,ho']at ho;cases ho;rw[hd']at hd;cases hd
theorem Inv.funs(I:Inv X nA σ H s):s.heap.FunFrames X.base X.outer:=by
 have all:∀(l:List Env),(∀b∈Gz l,b∈X.fs)->X.s₀.heap.FunFrames X.base l->s.heap.FunFrames X.base l:=by
  intro l
  induction l with
  |nil=>intro _ _;trivial
  |cons env r ih =>
   intro hs hl;obtain⟨hk,⟨L,o,hf,hn,ho,hd⟩,hr⟩:=hl;have hL:L∈X.fs:=hs L (by unfold Gz;rw[fq,hf];exact au)
   obtain⟨sl,e⟩:=I.base.slot L o ho (I.ok.frf L hL) hL λz=>I.ok.exfs L z hL
   exact⟨hk,⟨L,_,hf,hn,e,hd⟩,ih (λb hb=>hs b (by unfold Gz;rw[fq,hf];exact mCo _ hb)) hr⟩
 exact all X.outer (λ_ hb=>hb) I.ok.funs
theorem Inv.stack(I:Inv X nA σ H s):s.heap.FunFrames X.base X.stack:=by
 rcases I.ok.stk with e|⟨e,hf⟩
 .rw [e];exact I.funs
 .rw [e];obtain⟨m,hn,_⟩:=I.loc;refine .cons (by rw[I.ok.kind];decide) hf hn ?_ I.funs
  exact dP (bJ I.ok.bsz I.ok.above)
theorem Inv.stkSub(I:Inv X nA σ H s):∀b∈Gz X.stack,b∈X.env.locals::X.fs:=λb hb=>by
 rcases I.ok.stk with e|⟨e,hf⟩
 .rw [e]at hb;exact mCo _ hb
 .rw [e]at hb;unfold Gz at hb;rw[fq,hf]at hb;exact hb
theorem Inv.stkFree(I:Inv X nA σ H s):∀b∈Gz X.stack,H b=none:=λb hb=>by
 rcases aj.mp (I.stkSub b hb) with e|hb
 .rw [e];exact I.free
 .obtain ⟨_,o,ho,_⟩:=I.ok.funs.mem hb;exact I.base.free b o ho (I.ok.frf b hb) λz=>I.ok.exfs b z hb
theorem Inv.step{g':Array GenState}{t':Nat}{d':Drawn}{ch:List Addr}(I:Inv X nA σ H s)
  (hch:∀b∈ch,(b∈X.ex∨X.s₀.heap.objs.size<=b)/\b≠X.env.locals/\(∀x c,X.env.cells.lookup x=some c->c≠b)/\∀p∈X.pn++nA,p.1≠b)
  (keep:∀b o,b≠X.env.locals->b∉X.fs->b∉ch->s.heap.get? b=some o->H b=none->h'.get? b=some o)
  (slot:∀b o,b≠X.env.locals->b∈X.fs->b∉ch->s.heap.get? b=some o->H b=none->∃sl,h'.get? b=some { o with slots:=sl }) (free:∀b o,b∉ch->s.heap.get? b=some o->H b=none->H' b=none)
  (there:∀b o,b∉ch->s.heap.get? b=some o->∃o',h'.get? b=some o')
  (tups:∀b xs,H b=some (.tup xs)->H' b=some (.tup xs)) (frzs:∀b o u,H b=some (.frz o u)->H' b=some (.frz o u)) (tbls:∀b ps,H b=some (.tbl ps)->∃more,H' b=some (.tbl (ps++more)))
  (ns:∀m,s.heap.Ns X.env.locals m->h'.Ns X.env.locals m) (hok:xu X.prog X.w H' h') (hg:ke g') :
  Inv X nA σ H' { s with heap:=h',gens:=g',drawn:=d',toks:=t' }:=by
 have neL:∀b o,X.s₀.heap.get? b=some o->b≠X.env.locals:=λb o e=>aw (aF (ai e) I.ok.above)
 have neC:∀b o,X.s₀.heap.get? b=some o->b∉X.ex->b∉ch:=λb o e hx hb=>by
  rcases (hch b hb).1 with z|z
  .exact hx z
  .exact absurd (aF (ai e) z) (cA _)
 have cellK:∀x c,X.env.cells.lookup x=some c->∀v,s.heap.IsCell c v->h'.IsCell c v:=λx c e v ⟨o,ho,hd⟩=>by
  have nch:c∉ch:=λz=>(hch c z).2.2.1 x c e rfl
  by_cases hc:c∈X.fs
  .obtain ⟨sl,q⟩:=slot c o (I.cne x c e) hc nch ho (I.freeC x c e);exact⟨_,q,hd⟩
  .exact ⟨o,keep c o (I.cne x c e) hc nch ho (I.freeC x c e),hd⟩
 refine⟨I.ok,I.os,hg,⟨λb o e n hb hx=>?_,λb o e n hb hx=>?_,λb o e n hx=>?_,λb o e hx=>?_,λb xs e=>tups b xs (I.base.tups b xs e),λb o xs e=>frzs b o xs (I.base.frzs b o xs e),λb ps e=>?_⟩,?_,λx c e=>?_,?_,λx c e=>?_,λp hp=>?_,hok,I.len⟩
 .exact keep b o (neL b o e) hb (neC b o e hx) (I.base.keep b o e n hb hx) (I.base.free b o e n hx)
 .obtain ⟨sl,e1⟩:=I.base.slot b o e n hb hx;obtain⟨sl',e2⟩:=slot b _ (neL b o e) hb (neC b o e hx) e1 (I.base.free b o e n hx);exact⟨sl',e2⟩
 .obtain ⟨o',e1⟩:=I.base.there b o e hx;exact free b o' (neC b o e hx) e1 (I.base.free b o e n hx)
 .obtain ⟨o',e1⟩:=I.base.there b o e hx;exact there b o' (neC b o e hx) e1
 .obtain ⟨m1,e1⟩:=I.base.tbls b ps e;obtain⟨m2,e2⟩:=tbls b _ e1;exact⟨m1++m2,by rw[e2,gG]⟩
 .obtain ⟨m,hn,hl⟩:=I.loc;refine⟨m,ns m hn,λi x v e1 e2 e3=>?_⟩
  obtain⟨u,r,l⟩:=hl i x v e1 e2 e3;refine⟨u,r,?_⟩;rcases l with l|⟨k,c,e,z⟩
  .exact .inl l
  .exact .inr ⟨k,c,e,cellK x c e _ z⟩
 .obtain ⟨v,z⟩:=I.cell x c e;exact⟨v,cellK x c e v z⟩
 .obtain ⟨m,⟨o,_,_,ho,_⟩,_⟩:=I.loc;exact free _ o (λz=>(hch _ z).2.1 rfl) ho I.free
 .obtain ⟨v,o,ho,hd⟩:=I.cell x c e;exact free c o (λz=>(hch c z).2.2.1 x c e rfl) ho (I.freeC x c e)
 .obtain ⟨e,n,ne,nf,d⟩:=I.pin p hp;have nch:p.1∉ch:=λz=>(hch p.1 z).2.2.2 p hp rfl
  exact⟨keep p.1 p.2 ne nf nch e n,free p.1 p.2 nch e n,ne,nf,d⟩
theorem Inv.un{t':Nat}(I:Inv X nA σ H s) (u:Un X.fs [] H H' s.heap h') (hok:xu X.prog X.w H' h'):Inv X nA σ H' { s with heap:=h',toks:=t' }:=by
 obtain⟨m,⟨o,es,ep,ho,r⟩,_⟩:=id I.loc;obtain⟨sl,hL⟩:=u.any ho I.free (by simp)
 exact I.step (g':=s.gens) (d':=s.drawn) (ch:=[]) (λ_ z=>nomatch z) (λb o _ hb _ e n=>u.keep b o e n hb (by simp)) (λb o _ hb _ e n=>u.slot b o e n hb (by simp)) (λb o _ e n=>u.free b o e n (by simp)) (λb o _ e=>u.there b o e (by simp)) u.tups u.frzs u.tbls (λm' hm=>by
  obtain⟨o',es',ep',ho',r'⟩:=hm;rw[ho]at ho';cases ho';exact⟨_,es',ep',hL,r'⟩) hok I.bare
theorem Inv.call{g':Array GenState}{t':Nat}{d':Drawn}{ch:List Addr}(I:Inv X nA σ H s) (u:Un (Gz X.stack) ch H H' s.heap h') (hok:xu X.prog X.w H' h') (hg:ke g')
  (hch:∀b∈ch,(b∈X.ex∨X.s₀.heap.objs.size<=b)/\b≠X.env.locals/\(∀x c,X.env.cells.lookup x=some c->c≠b)/\∀p∈X.pn++nA,p.1≠b) :
  Inv X nA σ H' { s with heap:=h',gens:=g',drawn:=d',toks:=t' }:=by
 obtain⟨m,⟨o,es,ep,ho,r⟩,_⟩:=id I.loc;obtain⟨sl,hL⟩:=u.any ho I.free λz=>(hch _ z).2.1 rfl
 exact I.step (ch:=ch) hch (λb o hL hb hc e n=>u.keep b o e n (λz=>(aj.mp (I.stkSub b z)).elim hL hb) hc) (λb o _ _ hc e n=>u.any e n hc) (λb o hc e n=>u.free b o e n hc) (λb o hc e=>u.there b o e hc) u.tups u.frzs u.tbls (λm' hm=>by
  obtain⟨o',es',ep',ho',r'⟩:=hm;rw[ho]at ho';cases ho';exact⟨_,es',ep',hL,r'⟩) hok hg
theorem Inv.turned{t':Nat}{it:Addr}(I:Inv X nA σ H s) (k:∀b o,b≠it->s.heap.get? b=some o->h'.get? b=some o) (hn:H it=none) (hL:it≠X.env.locals)
  (h1:it∈X.ex∨X.s₀.heap.objs.size<=it) (h2:∀x c,X.env.cells.lookup x=some c->c≠it) (h3:∀p∈X.pn++nA,p.1≠it):Inv X nA σ H { s with heap:=h',toks:=t' }:=by
 have nit:∀b u,H b=some u->b≠it:=λb u e z=>by rw[z,hn]at e;cases e
 refine I.step (g':=s.gens) (d':=s.drawn) (ch:=[it]) (λb hb=>?_) (λb o _ _ hc e _=>k b o (λz=>hc (by simp[z])) e) (λb o _ _ hc e _=>⟨o.slots,k b o (λz=>hc (by simp[z])) e⟩) (λ_ _ _ _ n=>n)
  (λb o hc e=>⟨o,k b o (λz=>hc (by simp[z])) e⟩) (λ_ _ e=>e) (λ_ _ _ e=>e) (λb ps e=>⟨#[],by rw[e];simp⟩) (λm hm=>?_) (λb u e=>?_) I.bare
 .have e:b=it:=by simpa using hb
  subst e;exact⟨h1,hL,h2,h3⟩
 .obtain ⟨o,es,ep,ho,r⟩:=hm;exact⟨o,es,ep,k _ o (Ne.symm hL) ho,r⟩
 .refine (I.hok b u e).stay (λc v hc q=>k c v ?_ q) (λ_ q=>q) λ_ _ q=>q
  rcases hc with z|z
  .rw [z];exact nit b u e
  .exact nit c _ z
theorem Inv.tok(I:Inv X nA σ H s) (t:Nat):Inv X nA σ H { s with toks:=t }:=I.un (h':=s.heap) (t':=t) Un.refl I.hok
theorem Inv.kept{t':Nat}(I:Inv X nA σ H s) (k:∀b u,s.heap.get? b=some u->h'.get? b=some u):Inv X nA σ H { s with heap:=h',toks:=t' }:=I.un (Un.kept k) (I.hok.kept k)
theorem Inv.laid{a:Addr}{o:HO}{t':Nat}(I:Inv X nA σ H s) (k:∀b u,s.heap.get? b=some u->h'.get? b=some u) (hp:s.heap.objs.size<=a) (new:qr X.prog X.w (pX H a o) h' a o) :
  Inv X nA σ (pX H a o) { s with heap:=h',toks:=t' }:=I.un (Un.laid k hp (I.hok.fresh hp)) (I.hok.laid k hp new)
theorem Inv.write{x e:Addr}{o:HO}{t':Nat}(I:Inv X nA σ H s) (mu:UQ (H x)) (he:e=x∨H e=some (.own x)) (k:∀b u,b≠e->s.heap.get? b=some u->h'.get? b=some u) (heo:∃u,h'.get? e=some u)
  (new:qr X.prog X.w (pX H x o) h' x o):Inv X nA σ (pX H x o) { s with heap:=h',toks:=t' }:=I.un (Un.write mu he k heo) (I.hok.write mu he k heo new)
theorem Inv.pins_of{pins':List (Addr×Obj)}(I:Inv X nA σ H s) (h:∀p∈pins',s.heap.get? p.1=some p.2/\H p.1=none/\p.1≠X.env.locals/\p.1∉X.fs/\∀v,p.2.data ≠ .cell v):Inv X pins' σ H s :=
 ⟨I.ok,I.os,I.bare,I.base,I.loc,I.cell,I.free,I.freeC,λp hp=>(mAq.mp hp).elim (λz=>I.pin p (bp _ z)) (h p),I.hok,I.len⟩
theorem FH{N:List Str}(hN:N.Nodup) {i j:Nat}{x:Str}(a:N[i]?=some x) (b:N[j]?=some x):i=j:=by
 obtain⟨h1,e1⟩:=gSq.mp a;obtain⟨h2,e2⟩:=gSq.mp b;exact(List.getElem_inj hN).mp (e1.trans e2.symm)
theorem Jo{M:kJ}{A:Around}{E:Value->Shared->Prop}{i:Nat}{x:Str}{v:V}{u:Value}{Q:Unit->Shared->Prop}(I:Inv X nA σ H s) (hN:X.N.Nodup) (hi:X.N[i]?=some x) (hx:Va X.env.scope x) (r:pY v u)
  (h:∀s',Inv X nA (σ.set i (some v)) H s'->(∃a,bK a s.heap s'.heap/\(a=X.env.locals∨X.env.cells.lookup x=some a))->Q () s') (hf:X.fn x=true∨X.env.scope.names.lookup x=some .local:=by trivial):iM M A (storeName X.env x u) Q E s:=by
 obtain⟨m,hn,hl⟩:=id I.loc;have hcls:(X.env.scope.kind == .class || (X.env.scope.kind == .module && X.env.locals != X.env.globals))=false:=by rw[I.ok.kind];rfl
 have hiσ:i<σ.length:=by rw[I.len];exact(gSq.mp hi).1
 have cne:=I.cne;have tracked:∀{a:Addr}{h':Heap},(∃o,s.heap.get? a=some o/\H a=none)->bK a s.heap h'->xu X.prog X.w H h':=λ{a h'} ha hs b ob e=>by
  obtain⟨_,_,hfree⟩:=ha;refine(I.hok b ob e).stay (λc w' hc q=>(hs.2 c ?_).trans q) (λ_ q=>q) λ_ _ q=>q
  rintro rfl;rcases hc with rfl|hc
  .rw [hfree]at e;cases e
  .rw [hfree]at hc;cases hc
 rcases hx with hk|hk
 .refine wpAny_storeName_local hk hn (λh' hn' hs=>?_) hcls
  obtain⟨oL,_,_,hoL,_⟩:=id hn;refine h _ ⟨I.ok,I.os,I.bare,⟨λb o e n hb hx=>?_,λb o e n hb hx=>?_,I.base.free,λb o e hx=>?_,I.base.tups,I.base.frzs,I.base.tbls⟩,⟨_,hn',λj y v' e1 e2 e3=>?_⟩,λy c e=>?_,I.free,I.freeC,λp hp=>?_,tracked ⟨oL,hoL,I.free⟩ hs,by simpa using I.len⟩ ⟨_,hs,.inl rfl⟩
  .exact (hs.2 b (aw (aF (ai e) I.ok.above))).trans (I.base.keep b o e n hb hx)
  .obtain ⟨sl,e1⟩:=I.base.slot b o e n hb hx;exact⟨sl,(hs.2 b (aw (aF (ai e) I.ok.above))).trans e1⟩
  .obtain ⟨o',e1⟩:=I.base.there b o e hx;exact⟨o',(hs.2 b (aw (aF (ai e) I.ok.above))).trans e1⟩
  .by_cases hj:j=i
   .subst hj;rw[hi]at e1;cases e1;rw[aJ hiσ]at e2;cases e2;exact⟨u,r,.inl ⟨hk,by simp⟩⟩
   .rw [aE (Ne.symm hj)]at e2;obtain⟨u',r',q⟩:=hl j y v' e1 e2 e3;refine⟨u',r',?_⟩;rcases q with ⟨k,e⟩|⟨k,c,e,z⟩
    .refine .inl ⟨k,?_⟩;have:y≠x:=λe=>hj (FH hN e1 (e ▸ hi))
     simp[this,e]
    .exact .inr ⟨k,c,e,z.sameBut hs (cne y c e)⟩
  .obtain ⟨w',z⟩:=I.cell y c e;exact⟨w',z.sameBut hs (cne y c e)⟩
  .obtain ⟨e,n,ne,nf,d⟩:=I.pin p hp;exact⟨(hs.2 p.1 ne).trans e,n,ne,nf,d⟩
 .have hfn:X.fn x=true:=by
   rcases hf with z|z
   .exact z
   .rw [z]at hk;cases hk
  obtain⟨c,hc⟩:=I.ok.has x (.inl hk);obtain⟨w',z⟩:=I.cell x c hc;refine wpAny_storeName_cell I.ok.kind hk hc z (λh' hc' hs=>?_)
  obtain⟨oc,hoc,hocd⟩:=id z;refine h { s with heap:=h' } ⟨I.ok,I.os,I.bare,⟨λb o e n hb hx=>?_,λb o e n hb hx=>?_,I.base.free,λb o e hx=>?_,I.base.tups,I.base.frzs,I.base.tbls⟩,⟨m,hn.sameBut hs (Ne.symm (cne x c hc)),λj y v' e1 e2 e3=>?_⟩,λy c' e=>?_,I.free,I.freeC,λp hp=>?_,tracked ⟨oc,hoc,I.freeC x c hc⟩ hs,by simpa using I.len⟩ ⟨c,hs,.inr hc⟩
  .exact (hs.2 b (aw (aF (ai e) (I.ok.cab x c hfn hc)))).trans (I.base.keep b o e n hb hx)
  .obtain ⟨sl,e1⟩:=I.base.slot b o e n hb hx;exact⟨sl,(hs.2 b (aw (aF (ai e) (I.ok.cab x c hfn hc)))).trans e1⟩
  .obtain ⟨o',e1⟩:=I.base.there b o e hx;exact⟨o',(hs.2 b (aw (aF (ai e) (I.ok.cab x c hfn hc)))).trans e1⟩
  .by_cases hj:j=i
   .subst hj;rw[hi]at e1;cases e1;rw[aJ hiσ]at e2;cases e2;exact⟨u,r,.inr ⟨.inl hk,c,hc,hc'⟩⟩
   .rw [aE (Ne.symm hj)]at e2;obtain⟨u',r',q⟩:=hl j y v' e1 e2 e3;refine⟨u',r',?_⟩;rcases q with q|⟨k,c',e,z'⟩
    .exact .inl q
    .refine .inr ⟨k,c',e,z'.sameBut hs ?_⟩;rintro rfl;exact hj (FH hN e1 (I.ok.inj _ _ _ e hc ▸ hi))
  .by_cases hcc:c'=c
   .subst hcc;exact⟨_,hc'⟩
   .obtain ⟨w2,z2⟩:=I.cell y c' e;exact⟨w2,z2.sameBut hs hcc⟩
  .obtain ⟨e,n,ne,nf,d⟩:=I.pin p hp;refine⟨(hs.2 p.1 ?_).trans e,n,ne,nf,d⟩;intro q;rw[q,hoc]at e;have q':oc=p.2:=aU.inj e;exact d w' (by rw[←q'];exact hocd)
theorem Ff{M:kJ}{A:Around}{E:Value->Shared->Prop}{i:Nat}{x:Str}{v:V}{u:Value}{Q:Unit->Shared->Prop}(I:Inv X nA σ H s) (hN:X.N.Nodup) (hi:X.N[i]?=some x) (hx:Va X.env.scope x) (r:pY v u)
  (h:∀s',Inv X nA (σ.set i (some v)) H s'->Q () s') (hf:X.fn x=true∨X.env.scope.names.lookup x=some .local:=by trivial):iM M A (storeName X.env x u) Q E s :=
 Jo I hN hi hx r (λs' I' _=>h s' I') hf
theorem Inv.call'{s':Shared}{ch:List Addr}(I:Inv X nA σ H s) (ho:s'.os=s.os) (u:Un (Gz X.stack) ch H H' s.heap s'.heap) (hok:xu X.prog X.w H' s'.heap) (hg:ke s'.gens)
  (hch:∀b∈ch,(b∈X.ex∨X.s₀.heap.objs.size<=b)/\b≠X.env.locals/\(∀x c,X.env.cells.lookup x=some c->c≠b)/\∀p∈X.pn++nA,p.1≠b):Inv X nA σ H' s':=by
 obtain⟨h',g',d',t',o'⟩:=s';have e:o'=s.os:=ho;subst e;exact I.call (g':=g') (t':=t') (d':=d') u hok hg hch
end
abbrev XK:=Value->Option Addr->Hp->Prop
abbrev St:=List (Option V)
abbrev VK:=V->Hp->Prop
abbrev TE:=St->Hp->VK->Prop
abbrev TT:=St->Hp->(Bool->Hp->Prop)->Prop
abbrev TA:=St->Hp->(List V->Hp->Prop)->Prop
structure vX where
 nx:St->Hp->Prop
 rt:VK
 bk:St->Hp->Prop:=λ_ _=>False
 ct:St->Hp->Prop:=λ_ _=>False
abbrev TS:=vX->St->Hp->Prop
def EP(X:Cx) (nA:List (Addr×Obj)) (σ:St) (Q:VK) (u:Value) (s':Shared):Prop:=∃v H',Inv X nA σ H' s'/\pY v u/\Q v H'
def TP(X:Cx) (nA:List (Addr×Obj)) (σ:St) (Q:Bool->Hp->Prop) (b:Bool) (s':Shared):Prop:=∃H',Inv X nA σ H' s'/\Q b H'
def AP(X:Cx) (nA:List (Addr×Obj)) (σ:St) (Q:List V->Hp->Prop) (us:List Value) (s':Shared):Prop:=∃vs H',Inv X nA σ H' s'/\oQ vs us/\Q vs H'
def SP(X:Cx) (nA:List (Addr×Obj)) (D:vX) (f:Flow) (s':Shared):Prop :=
 match f with
 | .next=>∃σ' H',Inv X nA σ' H' s'/\D.nx σ' H'
 | .brk=>∃σ' H',Inv X nA σ' H' s'/\D.bk σ' H'
 | .cont=>∃σ' H',Inv X nA σ' H' s'/\D.ct σ' H'
 | .ret u=>∃v σ' H',Inv X nA σ' H' s'/\pY v u/\D.rt v H'
def PE(X:Cx) (e:Expr) (t:TE):Prop :=
 ∀(nA:List (Addr×Obj)) (s:Shared) (σ:St) (H:Hp) (Q:VK),Inv X nA σ H s->t σ H Q->iM (iO X.prog X.w) X.A (eval e X.env) (EP X nA σ Q) X.xe s
def PT(X:Cx) (e:Expr) (t:TT):Prop :=
 ∀(nA:List (Addr×Obj)) (s:Shared) (σ:St) (H:Hp) (Q:Bool->Hp->Prop),Inv X nA σ H s->t σ H Q->iM (iO X.prog X.w) X.A (isTrue e X.env (eval e X.env)) (TP X nA σ Q) X.xe s
def PW(X:Cx) (e:Expr) (t:TT):Prop :=
 ∀(whole:Sem Value) (nA:List (Addr×Obj)) (s:Shared) (σ:St) (H:Hp) (Q:Bool->Hp->Prop),Inv X nA σ H s->t σ H Q->iM (iO X.prog X.w) X.A (isTrue e X.env whole) (TP X nA σ Q) X.xe s
theorem PW.pt{X:Cx}{e:Expr}{t:TT}(h:PW X e t):PT X e t:=h _
def PA(X:Cx) (es:List Expr) (t:TA):Prop :=
 ∀(pos:Pos) (nA:List (Addr×Obj)) (s:Shared) (σ:St) (H:Hp) (Q:List V->Hp->Prop),Inv X nA σ H s->t σ H Q->iM (iO X.prog X.w) X.A (spliced (jS pos (iW es X.env))) (AP X nA σ Q) X.xe s
def PS(X:Cx) (st:Stmt) (t:TS):Prop :=
 ∀(nA:List (Addr×Obj)) (s:Shared) (σ:St) (H:Hp) (D:vX),Inv X nA σ H s->t D σ H->iM (iO X.prog X.w) X.A (exec st X.env) (SP X nA D) X.xe s
def IT(X:Cx) (st:List Stmt) (t:TS):Prop :=
 ∀(nA:List (Addr×Obj)) (s:Shared) (σ:St) (H:Hp) (D:vX),Inv X nA σ H s->t D σ H->iM (iO X.prog X.w) X.A (execs st X.env) (SP X nA D) X.xe s
theorem thn{α:Type}{t:Sem α}{Q Q':α->Shared->Prop}{M:kJ}{A:Around}{E:Value->Shared->Prop}{s:Shared}(h:iM M A t Q E s) (hQ:∀a s,Q a s->Q' a s):iM M A t Q' E s:=jc h hQ λ_ _ x=>x
section
variable {X:Cx}
def xP(i:Nat):TE:=λσ H Q=>∃v,σ[i]?=some (some v)/\Q v H
def tC(v:V):TE:=λ_ H Q=>Q v H
theorem Q9{i:Nat}{x:Str}{pos:Pos}(hN:X.N[i]?=some x) (hv:Ww X.env.scope x) (hd:(x == ("__debug__" : Str))=false:=by decide) (hcd:(x == ("__classdict__" : Str))=false:=by decide):PE X (.Name x pos) (xP i):=by
 intro nA s σ H Q I h;obtain⟨v,e,h⟩:=h;obtain⟨m,hn,hl⟩:=I.loc;obtain⟨u,r,l⟩:=hl i x v hN e hv;have fin:EP X nA σ Q u s:=⟨v,H,I,r,h⟩;rcases l with ⟨hk,hm⟩|⟨hk,c,hc,hcell⟩
 .exact wpAny_Name (wpAny_loadName_local I.ok.kind hk hn hm fin) hd
 .rcases hk with hk|hk
  .exact wpAny_Name (wpAny_loadName_cell I.ok.kind hk hc hcell fin) hd
  .exact wpAny_Name (wpAny_loadName_free I.ok.kind hk hc hcell fin hcd) hd
theorem nQ{i j pos}:PE X (.Constant (.int i) j pos) (tC (.int i)):=λ_ _ _ H _ I h=>wpAny_Constant_int ⟨.int i,H,I.tok _,⟨_,rfl⟩,h⟩
theorem vp{b j pos}:PE X (.Constant (.bool b) j pos) (tC (.bl b)):=λ_ _ _ H _ I h=>Constant_bool ⟨.bl b,H,I,rfl,h⟩
theorem Rv{j pos}:PE X (.Constant .none j pos) (tC .non):=λ_ _ _ H _ I h=>Constant_none ⟨.non,H,I,rfl,h⟩
theorem Ae{x j pos}:PE X (.Constant (.str x) j pos) (tC (.str x)):=λ_ _ _ H _ I h=>Calls.Constant_str ⟨.str x,H,I.tok _,⟨_,rfl⟩,h⟩
def Gl(X:Cx) (x:Str):Prop:=X.env.kindOf x=some .globalImplicit
theorem HI{E:Value->Shared->Prop}{nA:List (Addr×Obj)}{s:Shared}{σ:St}{H:Hp}{x:Str}{u:Value}{pos:Pos}{Q:Value->Shared->Prop}(I:Inv X nA σ H s) (hg:Gl X x) (hm:X.mg x=some u) (h:Q u s)
  (hd:(x == ("__debug__" : Str))=false:=by decide):iM (iO X.prog X.w) X.A (eval (.Name x pos) X.env) Q E s :=
 Calls.Name_function_global I.ok.kind hg (Calls.loadGlobal_global (by rw[I.ok.glob];exact I.mod.glob.keeps I.bk) hm h) hd
theorem vI{E:Value->Shared->Prop}{nA:List (Addr×Obj)}{s:Shared}{σ:St}{H:Hp}{x:Str}{u:Value}{pos:Pos}{Q:Value->Shared->Prop}(I:Inv X nA σ H s) (hg:Gl X x) (hm:X.mg x=none) (hv:jY x=some u) (h:Q u s)
  (hn:x ≠ "__name__" := by decide) (hd:(x == ("__debug__" : Str))=false:=by decide):iM (iO X.prog X.w) X.A (eval (.Name x pos) X.env) Q E s:=by
 obtain⟨mb,h1,h2⟩:=I.mod.blt;exact Calls.Name_function_global I.ok.kind hg (Calls.loadGlobal_builtin (by rw[I.ok.glob];exact I.mod.glob.keeps I.bk) hm (by rw[I.ok.blt];exact h1.keeps I.bk) ((h2 x hn).trans hv) h) hd
theorem zD{x:Str}{v:V}{u:Value}{pos:Pos}(hg:Gl X x) (hm:X.mg x=none) (hv:jY x=some u) (r:pY v u) (hn:x ≠ "__name__" := by decide) (hd:(x == ("__debug__" : Str))=false:=by decide):PE X (.Name x pos) (tC v) :=
 λ_ _ _ H _ I h=>vI I hg hm hv ⟨v,H,I,r,h⟩ hn hd
variable {a b:Expr}{ta tb:TE}{pos:Pos}
def PC(X:Cx) (op:CmpOp) (a b:Expr) (t:TE):Prop :=
 ∀(nA:List (Addr×Obj)) (s:Shared) (σ:St) (H:Hp) (Q:VK),Inv X nA σ H s->t σ H Q ->
  iM (iO X.prog X.w) X.A (eval a X.env) (λv s₁=>iM (iO X.prog X.w) X.A (eval b X.env) (λu s₂=>iM (iO X.prog X.w) X.A (jq op v u) (EP X nA σ Q) X.xe s₂) X.xe s₁) X.xe s
def tB(t:TE):TT:=λσ H Q=>t σ H λx H1=>∃c,x = .bl c/\Q c H1
theorem yI{op:CmpOp}{t:TE}(h:PC X op a b t) (h1:km op b=false:=by first|exact nobehind _ (by decide) (by decide)|rfl):PT X (.Compare a [op] [b] pos) (tB t):=by
 intro nA s σ H Q I hw;refine lj (thn (h nA s σ H _ I hw) λv s1 h1=>thn h1 λu s2 h2=>thn h2 λc s3 ⟨x,H1,I1,r1,q1⟩=>?_) h1
 obtain⟨d,rfl,q⟩:=q1;cases r1;exact je ⟨H1,I1,q⟩
theorem yG{e:Expr}{t:TE}(h:PE X e t) (he:∀whole,isTrue e X.env whole=(do let v ←whole;standAt e.pos;holding [v] (truthy v)):=by intro _;rfl):PT X e (tB t):=by
 intro nA s σ H Q I hw;refine isTrue_plain (thn (h nA s σ H _ I hw) λv s1 ⟨x,H1,I1,r1,q1⟩=>?_) (he _)
 obtain⟨d,rfl,q⟩:=q1;cases r1;exact je ⟨H1,I1,q⟩
variable {tA tB':TT}{rest:List Expr}
def T6(t u:TT):TT:=λσ H Q=>t σ H λc H1=>if c=true then u σ H1 Q else Q false H1
def W8(t u:TT):TT:=λσ H Q=>t σ H λc H1=>if c=true then Q true H1 else u σ H1 Q
def UV(t:TT):TT:=λσ H Q=>t σ H λc H1=>Q (!c) H1
theorem DJ(ha:PT X a tA):PW X (.BoolOp .And [a] pos) tA:=by
 intro wh nA s σ H Q I h;refine isTrue_and (thn (ha nA s σ H Q I h) λc s1 e=>?_)
 cases c with
 |true=>exact isTrue_and_nil e
 |false=>exact e
theorem Ew(ha:PT X a tA):PW X (.BoolOp .Or [a] pos) tA:=by
 intro wh nA s σ H Q I h;refine isTrue_or (thn (ha nA s σ H Q I h) λc s1 e=>?_)
 cases c with
 |false=>exact isTrue_or_nil e
 |true=>exact e
theorem Hq(ha:PT X a tA) (hb:PW X (.BoolOp .And (b::rest) pos) tB'):PW X (.BoolOp .And (a::b::rest) pos) (T6 tA tB'):=by
 intro wh nA s σ H Q I h;refine isTrue_and (thn (ha nA s σ H _ I h) λc s1 ⟨H1,I1,q1⟩=>?_)
 cases c with
 |true=>exact hb wh nA s1 σ H1 Q I1 q1
 |false=>exact⟨H1,I1,q1⟩
theorem E7(ha:PT X a tA) (hb:PW X (.BoolOp .Or (b::rest) pos) tB'):PW X (.BoolOp .Or (a::b::rest) pos) (W8 tA tB'):=by
 intro wh nA s σ H Q I h;refine isTrue_or (thn (ha nA s σ H _ I h) λc s1 ⟨H1,I1,q1⟩=>?_)
 cases c with
 |true=>exact⟨H1,I1,q1⟩
 |false=>exact hb wh nA s1 σ H1 Q I1 q1
theorem zR(ha:PT X a tA):PT X (.UnaryOp .Not a pos) (UV tA):=by
 intro nA s σ H Q I h;exact isTrue_not (ha nA s σ H (λc H1=>Q (!c) H1) I h)
def QB(ta tb:TE):TE:=λσ H Q=>ta σ H λx H1=>∃c,x = .bl c/\if c=true then tb σ H1 Q else Q (.bl false) H1
def Qh(ta:TE):TE:=λσ H Q=>ta σ H λx H1=>∃c,x = .bl c/\Q (.bl (!c)) H1
theorem Em{op} {t:TE}(h:PE X a t):PE X (.BoolOp op [a] pos) t:=λnA s σ H Q I hw=>BoolOp_one (h nA s σ H Q I hw)
theorem B3(ha:PE X a ta) (hb:PE X (.BoolOp .And (b::rest) pos) tb):PE X (.BoolOp .And (a::b::rest) pos) (QB ta tb):=by
 intro nA s σ H Q I h;refine BoolOp_and (thn (ha nA s σ H _ I h) λv s1 ⟨x,H1,I1,r1,q1⟩=>?_)
 obtain⟨c,rfl,q1⟩:=q1;cases r1;refine je ?_;cases c with
 |true=>exact hb nA s1 σ H1 Q I1 q1
 |false=>exact⟨.bl false,H1,I1,rfl,q1⟩
theorem So(ha:PE X a ta):PE X (.UnaryOp .Not a pos) (Qh ta):=by
 intro nA s σ H Q I h;refine UnaryOp_ (thn (ha nA s σ H _ I h) λv s1 ⟨x,H1,I1,r1,q1⟩=>?_)
 obtain⟨c,rfl,q1⟩:=q1;cases r1;exact not_of (je ⟨.bl (!c),H1,I1,rfl,q1⟩)
end
def qS(K:W.Frag) (H:Hp) (a:Addr) (xs:List V):Prop :=
 Rd H a (.lst xs) ∨
  ∃(o:Obj) (its:Array Value) (n:Nat),K.lookup a=some o/\o.cls = .type "list" /\ o.dict=none/\o.data = .seq its n/\its.size<=iR/\oQ xs its.toList
def BR(K:W.Frag) (H:Hp) (a:Addr) (xs:List V):Prop :=
 Rd H a (.tup xs) ∨
  ∃(o:Obj) (its:Array Value) (n:Nat),K.lookup a=some o/\o.cls = .type "tuple" /\ o.data = .seq its n/\its.size<=iR/\oQ xs its.toList
def Vz:Value->Option V
 | .none=>some .non
 | .bool b=>some (.bl b)
 | .int i _=>some (.int i)
 | .str x _=>some (.str x)
 | .bytes b _=>some (.byt b)
 | .float b _=>some (.flt b)
 | .ref a=>some (.ref a)
 | .type n=>some (.ty n)
 |_=>none
theorem pY.abs{x:V}{u:Value}(r:pY x u):Vz u=some x:=by
 cases x with
 |non=>cases r;rfl
 |bl _=>cases r;rfl
 |int _=>obtain⟨t,rfl⟩:=r;rfl
 |str _=>obtain⟨t,rfl⟩:=r;rfl
 |byt _=>obtain⟨t,rfl⟩:=r;rfl
 |flt _=>obtain⟨t,rfl⟩:=r;rfl
 |ref _=>cases r;rfl
 |ty _=>cases r;rfl
theorem pY.inj{x y:V}{u:Value}(r:pY x u) (q:pY y u):x=y:=aU.inj (r.abs.symm.trans q.abs)
theorem oQ.inj:∀{xs ys:List V}{us:List Value},oQ xs us->oQ ys us->xs=ys
 |_,_,_,.nil,.nil=>rfl
 |_,_,_,.cons r t,.cons r' t'=>by rw[r.inj r',oQ.inj t t']
section
variable {X:Cx}{nA:List (Addr×Obj)}{σ:St}{H:Hp}{s:Shared}{a:Addr}{xs ys:List V}
theorem qS.of{K:W.Frag}(h:H a=some (.lst xs)):qS K H a xs:=.inl (.inl h)
theorem BR.of{K:W.Frag}(h:H a=some (.tup xs)):BR K H a xs:=.inl (.inl h)
theorem Inv.list(I:Inv X nA σ H s) (h:qS X.K H a xs):∃its:List Value,oQ xs its/\PlainL s.heap a its.toArray/\xs.length<=iR:=by
 rcases h with h|⟨o,its,n,hk,hc,hd,hs,hz,r⟩
 .obtain ⟨z,its,n,r,e⟩:=h.ok I.hok;exact⟨its,r,⟨_,n,e,rfl,rfl,rfl⟩,z⟩
 .refine ⟨its.toList,r,⟨o,n,I.kIn a o hk,hc,hd,by simpa using hs⟩,?_⟩
  have e:=r.length;simp only[ao]at e;lia
theorem Inv.tuple(I:Inv X nA σ H s) (h:BR X.K H a xs):∃its:List Value,oQ xs its/\IsTup s.heap a its.toArray/\xs.length<=iR:=by
 rcases h with h|⟨o,its,n,hk,hc,hs,hz,r⟩
 .obtain ⟨z,its,r,p⟩:=h.ok I.hok;exact⟨its,r,p,z⟩
 .refine ⟨its.toList,r,⟨o,I.kIn a o hk,hc,n,by simpa using hs⟩,?_⟩
  have e:=r.length;simp only[ao]at e;lia
theorem Inv.list_inj(I:Inv X nA σ H s) (h:qS X.K H a xs) (h':qS X.K H a ys):xs=ys:=by
 obtain⟨its,r,⟨o,n,e,_,_,d⟩,_⟩:=I.list h;obtain⟨its',r',⟨o',n',e',_,_,d'⟩,_⟩:=I.list h';rw[e]at e';cases e';rw[d]at d';injection d' with d1 _
 have:its=its':=by simpa using congrArg Array.toList d1
 subst this;exact r.inj r'
end
abbrev Cx.wish(X:Cx) (E:Value->Shared->Prop):Cx:={ X with xe:=E }
abbrev Cx.nox(X:Cx):Cx:=X.wish λ_ _=>False
theorem Cx.Ok.wish{X:Cx}(ok:X.Ok) (E:Value->Shared->Prop):(X.wish E).Ok :=
 ⟨ok.mod,ok.kind,ok.glob,ok.blt,ok.above,ok.inj,ok.has,ok.cab,ok.hd,ok.frames,ok.stk,ok.exf,ok.bs,ok.bsz,ok.noex,ok.exfs,ok.funs,ok.frf⟩
theorem Cx.Ok.unwish{X:Cx}{E:Value->Shared->Prop}(ok:(X.wish E).Ok):X.Ok :=
 ⟨ok.mod,ok.kind,ok.glob,ok.blt,ok.above,ok.inj,ok.has,ok.cab,ok.hd,ok.frames,ok.stk,ok.exf,ok.bs,ok.bsz,ok.noex,ok.exfs,ok.funs,ok.frf⟩
section
variable {X:Cx}{nA:List (Addr×Obj)}{σ:St}{H:Hp}{s:Shared}{E:Value->Shared->Prop}
theorem Inv.wish(I:Inv X nA σ H s) (E:Value->Shared->Prop):Inv (X.wish E) nA σ H s:=⟨I.ok.wish E,I.os,I.bare,I.base,I.loc,I.cell,I.free,I.freeC,I.pin,I.hok,I.len⟩
theorem Inv.unwish(I:Inv (X.wish E) nA σ H s):Inv X nA σ H s:=⟨I.ok.unwish,I.os,I.bare,I.base,I.loc,I.cell,I.free,I.freeC,I.pin,I.hok,I.len⟩
theorem SP.unwish{D:vX}{f:Flow}{s':Shared}(h:SP (X.wish E) nA D f s'):SP X nA D f s':=by
 cases f with
 |next=>obtain⟨σ',H',I,q⟩:=h;exact⟨σ',H',I.unwish,q⟩
 |brk=>obtain⟨σ',H',I,q⟩:=h;exact⟨σ',H',I.unwish,q⟩
 |cont=>obtain⟨σ',H',I,q⟩:=h;exact⟨σ',H',I.unwish,q⟩
 |ret u=>obtain⟨v,σ',H',I,r,q⟩:=h;exact⟨v,σ',H',I.unwish,r,q⟩
theorem IT.nox{st:List Stmt}{t:TS}(h:IT X.nox st t):IT X st t:=λnA s σ H D I hw =>
 jc (h nA s σ H D (I.wish _) hw) (λ_ _ q=>q.unwish) λ_ _ z=>False.elim z
end
section
variable {X:Cx}{st:Stmt}{rest:List Stmt}{t u:TS}{e:Expr}{te:TE}{pos:Pos}
def P6:TS:=λD σ H=>D.nx σ H
def Kb(t u:TS):TS:=λD σ H=>t { D with nx:=u D } σ H
theorem qa:IT X [] P6:=λ_ _ σ H _ I h=>kr ⟨σ,H,I,h⟩
theorem nC(h1:PS X st t) (h2:IT X rest u):IT X (st::rest) (Kb t u):=by
 intro nA s σ H D I h;refine wpAny_execs_cons (thn (h1 nA s σ H { D with nx:=u D } I h) λf s1 q=>?_)
 cases f with
 |next =>
  obtain⟨σ',H',I',q⟩:=q;exact h2 nA s1 σ' H' D I' q
 |ret v=>exact q
 |brk=>exact q
 |cont=>exact q
theorem nM(h1:PS X st t):IT X [st] t:=by
 intro nA s σ H D I h;refine wpAny_execs_cons (thn (h1 nA s σ H D I h) λf s1 q=>?_)
 cases f with
 |next=>exact kr q
 |ret v=>exact q
 |brk=>exact q
 |cont=>exact q
theorem Inv.quiet{nA:List (Addr×Obj)}{σ:St}{H:Hp}{s:Shared}(I:Inv X nA σ H s):interactive X.env=false:=by simp[interactive,I.ok.kind]
def zm(te:TE):TS:=λD σ H=>te σ H λ_ H1=>D.nx σ H1
theorem pU(he:PE X e te) (hs:mC e none pos.line X.env=pure false:=by rfl):PS X (.Expr e pos) (zm te):=by
 intro nA s σ H D I h;exact wpAny_Expr_any (thn (he nA s σ H _ I h) λv s1 ⟨x,H1,I1,r1,q1⟩=>⟨σ,H1,I1,q1⟩) I.quiet hs
def T4(te:TE):TS:=λD σ H=>te σ H D.rt
theorem pS(he:PE X e te):PS X (.Return (some e) pos) (T4 te):=by
 intro nA s σ H D I h;exact wpAny_Return_some (thn (he nA s σ H _ I h) λv s1 ⟨x,H1,I1,r1,q1⟩=>⟨x,σ,H1,I1,r1,q1⟩)
def Nl(c:TT) (t u:TS):TS:=λD σ H=>c σ H λb H1=>if b=true then t D σ H1 else u D σ H1
theorem qV{c:Expr}{a b:List Stmt}{tc:TT}(hc:PT X c tc) (ha:IT X a t) (hb:IT X b u):PS X (.If c a b pos) (Nl tc t u):=by
 intro nA s σ H D I h;refine wpAny_If (thn (hc nA s σ H _ I h) λd s1 ⟨H1,I1,q1⟩=>?_)
 cases d with
 |true=>exact ha nA s1 σ H1 D I1 q1
 |false=>exact hb nA s1 σ H1 D I1 q1
end
abbrev TG:=V->St->Hp->(St->Hp->Prop)->Prop
abbrev SD:=List V->St->Hp->(St->Hp->Prop)->Prop
def PG(X:Cx) (target:Expr) (t:TG):Prop :=
 ∀(nA:List (Addr×Obj)) (s:Shared) (σ:St) (H:Hp) (v:V) (u:Value) (Q:St->Hp->Prop),Inv X nA σ H s->pY v u->t v σ H Q ->
  iM (iO X.prog X.w) X.A (assign target X.env u) (λ_ s'=>∃σ' H',Inv X nA σ' H' s'/\Q σ' H') X.xe s
def Vq(X:Cx) (ts:List Expr) (t:SD):Prop :=
 ∀(nA:List (Addr×Obj)) (s:Shared) (σ:St) (H:Hp) (vs:List V) (us:List Value) (Q:St->Hp->Prop),Inv X nA σ H s->oQ vs us->t vs σ H Q ->
  iM (iO X.prog X.w) X.A (assignInOrder ((kH ts X.env).map (·.2)) us) (λ_ s'=>∃σ' H',Inv X nA σ' H' s'/\Q σ' H') X.xe s
section
variable {X:Cx}{pos:Pos}
def rG(i:Nat):TG:=λv σ H Q=>Q (σ.set i (some v)) H
theorem oH{i:Nat}{x:Str}(hN:X.N.Nodup) (hi:X.N[i]?=some x) (hx:Va X.env.scope x) (hf:X.fn x=true∨X.env.scope.names.lookup x=some .local:=by trivial):PG X (.Name x pos) (rG i):=by
 intro nA s σ H v u Q I r h;exact wpAny_assign_Name (Ff I hN hi hx r (λs' I'=>⟨_,H,I',h⟩) hf)
def Jq:SD:=λvs σ H Q=>vs=[]/\Q σ H
def xy(t:TG) (u:SD):SD:=λvs σ H Q=>∃v r,vs=v::r/\t v σ H λσ' H'=>u r σ' H' Q
theorem zB:Vq X [] Jq:=by
 intro nA s σ H vs us Q I r h;obtain⟨e,h⟩:=h;subst e;cases r;exact assignInOrder_nil ⟨σ,H,I,h⟩
theorem rY{e:Expr}{es:List Expr}{t:TG}{u:SD}(h1:PG X e t) (h2:Vq X es u)
  (hs:(kH (e::es) X.env).map (·.2)=assign e X.env::(kH es X.env).map (·.2):=by rfl):Vq X (e::es) (xy t u):=by
 intro nA s σ H vs us Q I r h;obtain⟨v,vr,e1,h⟩:=h;subst e1;cases r with
 |cons r rr =>
  rw[hs];refine assignInOrder_cons (thn (h1 nA s σ H _ _ _ I r h) λ_ s1 ⟨σ1,H1,I1,q1⟩=>?_)
  exact h2 nA s1 σ1 H1 _ _ Q I1 rr q1
def Ka(K:W.Frag) (n:Nat) (t:SD):TG:=λv σ H Q=>∃a xs,v = .ref a/\BR K H a xs/\xs.length=n/\t xs σ H Q
theorem BD{es:List Expr}{k:Nat}{t:SD}{n:Nat}(hc:X.calm=true) (h:Vq X es t)
  (hn:(kH es X.env).length=n:=by rfl) (hst:(kH es X.env).findIdx? (·.1)=none:=by rfl):PG X (.Tuple es k pos) (Ka X.K n t):=by
 intro nA s σ H v u Q I r hw;obtain⟨a,xs,e1,hq,hl,hw⟩:=hw;subst e1;cases r;obtain⟨its,rv,ht,hz⟩:=I.tuple hq;refine assign_Tuple_tuple (I.ok.hd hc) ht (by simp[hn,←hl,rv.length]) hst λh' hx=>?_
 have I1:Inv X nA σ H { s with heap:=h' }:=I.kept (t':=s.toks) λb o e=>hx b o (aw (ai e)) e
 exact h nA _ σ H xs _ Q I1 (by simpa using rv) hw
def E6(te:TE) (g:TG):TS:=λD σ H=>te σ H λx H1=>g x σ H1 D.nx
theorem nR{i:Nat}{x:Str}{e:Expr}{te:TE}{pos':Pos}(hN:X.N.Nodup) (hi:X.N[i]?=some x) (hx:Va X.env.scope x) (he:PE X e te) (hs:mC e (some (.Name x pos')) pos.line X.env=pure false:=by rfl) (hf:X.fn x=true∨X.env.scope.names.lookup x=some .local:=by trivial) :
  PS X (.Assign [.Name x pos'] e pos) (E6 te (rG i)):=by
 intro nA s σ H D I h;refine wpAny_Assign_Name (thn (he nA s σ H _ I h) λv s1 ⟨y,H1,I1,r1,q1⟩=>?_) hs
 exact Ff I1 hN hi hx r1 (λs2 I2=>⟨_,H1,I2,q1⟩) hf
end
section
variable {X:Cx}{pos:Pos}
def NF(c:TT) (tb:TS):TS:=λD σ H=>∃W:Nat->St->Hp->Prop,(∃m,W m σ H)/\∀m σ H,W m σ H ->
 c σ H λb H1=>if b=true then ∃N:St->Hp->Prop,(∀σ' H',N σ' H'->∃m',m'<m/\W m' σ' H')/\tb { D with nx:=N,ct:=N,bk:=D.nx } σ H1 else D.nx σ H1
theorem yZ{c:Expr}{body:List Stmt}{tc:TT}{tb:TS}(hp:PassesOwn (iO X.prog X.w) X.A X.env X.xe) (hc:PT X c tc) (hb:IT X body tb):PS X (.While c body [] pos) (NF tc tb):=by
 intro nA s σ H D I h;obtain⟨W,⟨m0,w0⟩,turn⟩:=h;refine wpAny_While (codeAny_whileLoop (λn s'=>∃σ' H',Inv X nA σ' H' s'/\W n σ' H') ?_ m0 ⟨σ,H,I,w0⟩)
 rintro n s1 ⟨σ1,H1,I1,w1⟩;refine jw hp (thn (hc nA s1 σ1 H1 _ I1 (turn n σ1 H1 w1)) λb s2 ⟨H2,I2,q2⟩=>?_)
 cases b with
 |true =>
  obtain⟨N,hN,q2⟩:=q2;rw[oz rfl];refine jw hp (thn (hb nA s2 σ1 H2 _ I2 q2) λf s3 q3=>?_)
  cases f with
  |next =>
   obtain⟨σ3,H3,I3,n3⟩:=q3;obtain⟨m',hm,w3⟩:=hN σ3 H3 n3;exact⟨m',hm,σ3,H3,I3,w3⟩
  |cont =>
   obtain⟨σ3,H3,I3,n3⟩:=q3;obtain⟨m',hm,w3⟩:=hN σ3 H3 n3;exact⟨m',hm,σ3,H3,I3,w3⟩
  |brk=>exact q3
  |ret v=>exact q3
 |false =>
  rw[oB aR];exact kr ⟨σ1,H2,I2,q2⟩
end
structure It where
 go:Nat->Hp->Prop
 yld:Nat->Hp->V->Hp->Prop
 stop:Nat->Hp->Prop
def yN(X:Cx) (nA:List (Addr×Obj)) (H:Hp) (b:Addr):Prop :=
 H b=none/\b≠X.env.locals/\b∉X.fs/\(b∈X.ex∨X.s₀.heap.objs.size<=b)/\(∀x c,X.env.cells.lookup x=some c->c≠b)/\∀p∈X.pn++nA,p.1≠b
theorem Inv.fpOk{X:Cx}{nA:List (Addr×Obj)}{σ:St}{H H':Hp}{s:Shared}{b:Addr}(I:Inv X nA σ H s) (hb:s.heap.objs.size<=b) (hn:H' b=none):yN X nA H' b:=by
 refine⟨hn,cz (aF I.lt hb),I.nofs hb,.inr (bJ I.sz hb),λx c e z=>?_,λp hp z=>?_⟩
 .obtain ⟨v,q⟩:=I.cell x c e;exact absurd (aF q.lt (by rw[z];exact hb)) (cA _)
 .exact absurd (aF (ai (I.pin p hp).1) (by rw[z];exact hb)) (cA _)
structure Gx (P:iT) (w:iU) (K:W.Frag) (tg:Expr) (J:It) (fp:List Addr) (it:Addr) (tn:Nat->Heap->Prop):Prop where
 mem:it∈fp
 obj:∀i h,tn i h->∀b∈fp,∃o,h.get? b=some o/\∀v,o.data ≠ .cell v
 keep:∀i h h',tn i h->(∀b∈fp,∀o,h.get? b=some o->h'.get? b=some o)->tn i h'
 item:∀(X:Cx),X.prog=P->X.w=w->X.K=K->X.calm=true->∀(i:Nat) (nA:List (Addr×Obj)) (s:Shared) (σ:St) (H:Hp) (E:Value->Shared->Prop),Inv X nA σ H s->(∀b∈fp,yN X nA H b)->tn i s.heap->J.go i H ->
  iM (iO P w) X.A (jR (.ref it)) (λr s1=>∃u,r=some u /\
   iM (iO P w) X.A (ku tg (.ref it) u) (λ_ s2=>∃x H',Inv X nA σ H' s2/\pY x u/\J.yld i H x H'/\tn (i+1) s2.heap/\∀b∈fp,H' b=none) E s1) E s
 done:∀(X:Cx),X.prog=P->X.w=w->X.K=K->X.calm=true->∀(i:Nat) (nA:List (Addr×Obj)) (s:Shared) (σ:St) (H:Hp) (E:Value->Shared->Prop),Inv X nA σ H s->(∀b∈fp,yN X nA H b)->tn i s.heap->J.stop i H ->
  iM (iO P w) X.A (jR (.ref it)) (λr s1=>r=none/\Inv X nA σ H s1) E s
 self:∀(A:Around) (i:Nat) (s:Shared) (Q:Value->Shared->Prop) (E:Value->Shared->Prop),tn i s.heap->Q (.ref it) s->iM (iO P w) A (pyIter (.ref it)) Q E s
abbrev TI:=St->Hp->(It->Hp->Prop)->Prop
def WO(X:Cx) (nA:List (Addr×Obj)) (σ:St) (tg:Expr) (R:It->Hp->Prop) (itv:Value) (s2:Shared):Prop :=
 ∃(it:Addr) (fp:List Addr) (tn:Nat->Heap->Prop) (J:It) (H':Hp),itv = .ref it/\Inv X nA σ H' s2/\Gx X.prog X.w X.K tg J fp it tn/\tn 0 s2.heap/\(∀b∈fp,yN X nA H' b)/\R J H'
def PI(X:Cx) (tg iter:Expr) (wi:TI):Prop :=
 ∀(nA:List (Addr×Obj)) (s:Shared) (σ:St) (H:Hp) (R:It->Hp->Prop),Inv X nA σ H s->wi σ H R ->
  iM (iO X.prog X.w) X.A (eval iter X.env) (λv s1=>iM (iO X.prog X.w) X.A (pyIter v) (WO X nA σ tg R) X.xe s1) X.xe s
theorem QC{M:kJ}{A:Around}{E:Value->Shared->Prop}{s:Shared}{tg:Expr}{it:Addr}{u:Value}{o:Obj}{n:String}{vs:Array Value}{Q:Unit->Shared->Prop}(ho:s.heap.get? it=some o) (hc:o.cls = .type n) (hd:o.data = .fields vs)
    (hn:["enumerate", "zip", "dict_itemiterator", "dict_reverseitemiterator", "odict_iterator", "itertools.zip_longest", "itertools.pairwise"].contains n=false) (hQ:Q () s):iM M A (ku tg (.ref it) u) Q E s:=by
  unfold ku;cases tg <;> first
    |exact iN hQ
    | (cases u <;> first
        |exact iN hQ
        | (refine iJ (wpAny_load ho ?_)
           rw[hc,hd];show iM M A (if (["enumerate", "zip", "dict_itemiterator", "dict_reverseitemiterator", "odict_iterator", "itertools.zip_longest", "itertools.pairwise"].contains n && vs[0]? == some (iX _))=true then _ else _) Q E s
           rw[oB (by intro h;rw[hn,ic]at h;cases h)]
           exact iN hQ))
def Uz(K:W.Frag) (a:Addr):It :=
 ⟨λi H=>∃xs x,qS K H a xs/\xs[i]?=some x,λi H x H'=>H'=H/\∀xs,qS K H a xs->xs[i]?=some x,λi H=>∃xs,qS K H a xs/\xs.length<=i⟩
def Oy(lo:Int) (n:Nat):It:=⟨λi _=>i<n,λi H x H'=>H'=H/\x = .int (lo+i),λi _=>n<=i⟩
theorem JJ{P:iT}{w:iU}{K:W.Frag}{tg:Expr}(a it:Addr):Gx P w K tg (Uz K a) [it] it (λi h=>h.IsListIter it a i) where
 mem:=by simp
 obj:=λi h st b hb=>by
  have e:b=it:=by simpa using hb
  subst e;obtain⟨o,e,c,d⟩:=st;exact⟨o,e,λv z=>by rw[d]at z;cases z⟩
 keep:=λi h h' st k=>st.at λo e=>k it (by simp) o e
 item:=by
  intro X hP hw hK hc i nA s σ H E I hf st hg;subst hP hw hK;obtain⟨xs,x,hq,hx⟩:=hg;obtain⟨its,rv,p,hz⟩:=I.list hq;obtain⟨u,hu,ru⟩:=rv.get hx;obtain⟨f0,f1,f2,f3,f4,f5⟩:=hf it (by simp)
  refine wpAny_pyNext_list_item st p.isList (x:=u) (by simpa using hu) λh' st' sb=>?_
  have I1:Inv X nA σ H { s with heap:=h' }:=I.turned (t':=s.toks) (λb o hb e=>(sb.2 b hb).trans e) f0 f1 f3 f4 f5
  obtain⟨o,e,c,d⟩:=id st';exact⟨u,rfl,QC (s:={ s with heap:=h' }) e c d (by decide) ⟨x,H,I1,ru,⟨rfl,λys hy=>by rw[I.list_inj hy hq];exact hx⟩,st',λb hb=>(hf b hb).1⟩⟩
 done:=by
  intro X hP hw hK hc i nA s σ H E I hf st hg;subst hP hw hK;obtain⟨xs,hq,hx⟩:=hg;obtain⟨its,rv,p,hz⟩:=I.list hq;obtain⟨f0,f1,f2,f3,f4,f5⟩:=hf it (by simp)
  have hl:=rv.length;exact wpAny_pyNext_list_end (I.ok.hd hc) st p.isList (by simp;lia) λh' eb=>⟨rfl,I.turned (t':=s.toks) (λb o hb e=>eb b o hb e) f0 f1 f3 f4 f5⟩
 self:=λ_ _ _ _ _ st h=>wpAny_pyIter_listiter st h
theorem GB{P:iT}{w:iU}{K:W.Frag}{tg:Expr}(it:Addr) (lo:Int) (n:Nat):Gx P w K tg (Oy lo n) [it] it (λi h=>IsRangeIter h it (lo+(i:Nat)*1) ((n:Int)-(i:Nat)) 1) where
 mem:=by simp
 obj:=λi h st b hb=>by
  have e:b=it:=by simpa using hb
  subst e;exact⟨_,st,λv z=>by
   have z':Data.fields _=Data.cell v:=z;cases z'⟩
 keep:=λi h h' st k=>k it (by simp) _ st
 item:=by
  intro X hP hw hK hc i nA s σ H E I hf st hg;subst hP hw hK;obtain⟨f0,f1,f2,f3,f4,f5⟩:=hf it (by simp)
  have W:=Walks.range (prog:=X.prog) (w:=X.w) (I.ok.hd hc) it lo 1 n;refine W.item i s _ _ hg st λv h' tk hv st' kk=>?_
  obtain⟨t,rfl⟩:=hv;have I1:Inv X nA σ H { s with heap:=h',toks:=tk }:=I.turned (λb o hb e=>kk b o (by simpa using hb) e) f0 f1 f3 f4 f5
  refine⟨_,rfl,QC (s:={ s with heap:=h',toks:=tk }) (n := "range_iterator") st' rfl rfl (by decide) ⟨.int (lo+i),H,I1,⟨t,?_⟩,⟨rfl,rfl⟩,st',λb hb=>(hf b hb).1⟩⟩
  rw[gQ]
 done:=by
  intro X hP hw hK hc i nA s σ H E I hf st hg;subst hP hw hK;obtain⟨f0,f1,f2,f3,f4,f5⟩:=hf it (by simp)
  exact wpAny_pyNext_range_end (I.ok.hd hc) st (by have:n<=i:=hg;lia) λh' eb=>⟨rfl,I.turned (t':=s.toks) (λb o hb e=>eb b o hb e) f0 f1 f3 f4 f5⟩
 self:=λ_ _ _ _ _ st h=>wpAny_pyIter_rangeiter st h
section
variable {X:Cx}{tg:Expr}
def Me(K:W.Frag) (tl:TE):TI:=λσ H R=>tl σ H λx H1=>∃a,x = .ref a/\(∃xs,qS K H1 a xs)/\R (Uz K a) H1
theorem qo{l:Expr}{tl:TE}(hl:PE X l tl):PI X tg l (Me X.K tl):=by
 intro nA s σ H R I h;refine thn (hl nA s σ H _ I h) λv s1 ⟨x,H1,I1,r1,q1⟩=>?_
 obtain⟨a,e,⟨xs,hq⟩,q⟩:=q1;subst e;cases r1;obtain⟨its,rv,p,hz⟩:=I1.list hq;refine wpAny_pyIter_list p.isList ?_;refine⟨s1.heap.objs.size,[s1.heap.objs.size],_,_,H1,rfl,I1.kept (t':=s1.toks) λb o e=>ae _ e,JJ a _,⟨_,az _ rfl,rfl,rfl⟩,λb hb=>?_,q⟩
 have e:b=s1.heap.objs.size:=by simpa using hb
 subst e;exact I1.fpOk (ag _) (I1.hok.fresh (ag _))
theorem Lc{nA:List (Addr×Obj)}{σ:St}{H:Hp}{s:Shared}{R:It->Hp->Prop}{E:Value->Shared->Prop}{lo hi:Int}{t u v:Tok}{tk:Nat}(I:Inv X nA σ H s) (h1:-(2 ^ 62)<=lo) (h2:lo<2 ^ 62) (h3:-(2 ^ 62)<=hi) (h4:hi<2 ^ 62)
  (q:R (Oy lo (hi-lo).toNat) H):iM (iO X.prog X.w) X.A (pyIter (.ref s.heap.objs.size)) (WO X nA σ tg R) E { s with heap:=s.heap.push { cls:=.type "range", data:=.fields #[.int lo t,.int hi u,.int 1 v] },toks:=tk }:=by
 refine wpAny_pyIter_range (IsRange.new ..) (small_one h1 h2 h3 h4) ?_;have I1:Inv X nA σ H { s with heap:=s.heap.push { cls:=.type "range", data:=.fields #[.int lo t,.int hi u,.int 1 v] },toks:=tk }:=I.kept λb o e=>ae _ e
 refine⟨(s.heap.push { cls:=.type "range", data:=.fields #[.int lo t,.int hi u,.int 1 v] }).objs.size,[(s.heap.push { cls:=.type "range", data:=.fields #[.int lo t,.int hi u,.int 1 v] }).objs.size],_,_,H,rfl,
  I1.kept (t':=tk) λb o e=>ae _ e,GB _ lo (hi-lo).toNat,?_,λb hb=>?_,q⟩
 .have e1:lo+((0:Nat):Int)*1=lo:=by simp
  have e2:(((hi-lo).toNat:Nat):Int)-((0:Nat):Int)=Builtin.Range.rangeSize lo hi 1:=by rw[rangeSize_one];split <;> lia
  show IsRangeIter _ _ (lo+((0:Nat):Int)*1) ((((hi-lo).toNat:Nat):Int)-((0:Nat):Int)) 1;rw[e1,e2];exact az _ rfl
 .have e:b=(s.heap.push { cls:=.type "range", data:=.fields #[.int lo t,.int hi u,.int 1 v] }).objs.size:=by simpa using hb
  subst e;exact I1.fpOk (ag _) (I1.hok.fresh (ag _))
def NO(ta:TA):TI:=λσ H R=>ta σ H λvs H1=>∃j:Int,vs=[.int j]/\-(2 ^ 62)<=j/\j<2 ^ 62/\R (Oy 0 j.toNat) H1
theorem vZ{a:Expr}{ta:TA}{p pos:Pos}(hg:Gl X "range") (hm:X.mg "range" = none) (ha:PA X [a] ta) (hs:iW [a] X.env=[(false,eval a X.env)]:=by rfl):PI X tg (.Call (.Name "range" p) [a] [] pos) (NO ta):=by
 intro nA s σ H R I h;refine Call_ (vI I hg hm boot_range (bz (thn (ha pos nA s σ H _ I h) λus s1 ⟨vs,H1,I1,r1,q1⟩=>?_) hs rfl))
 obtain⟨j,e,q1,q2,q⟩:=q1;subst e;cases r1 with
 |cons r rr =>
  cases rr;obtain⟨t,rfl⟩:=r;exact call_range_1 (Lc I1 (by lia) (by lia) q1 q2 (by simpa using q))
def Ny(wi:TI) (g:TG) (tb:TS):TS:=λD σ H=>wi σ H λJ H1=>∃W:Nat->Nat->St->Hp->Prop,(∃m,W 0 m σ H1)/\∀i m σ H,W i m σ H ->
 (J.stop i H/\D.nx σ H)∨(J.go i H/\∃N:St->Hp->Prop,(∀σ' H',N σ' H'->∃m',m'<m/\W (i+1) m' σ' H')/\∀x H',J.yld i H x H'->g x σ H' λσ2 H2=>tb { D with nx:=N,ct:=N,bk:=D.nx } σ2 H2)
def zS(fp:List Addr) (h:Heap):List (Addr×Obj):=fp.filterMap λb=>(h.get? b).map λo=>(b,o)
theorem tE{fp:List Addr}{h:Heap}{b:Addr}{o:Obj}(hb:b∈fp) (e:h.get? b=some o):(b,o)∈zS fp h:=gH.mpr ⟨b,hb,by rw[e];rfl⟩
theorem JU{fp:List Addr}{h:Heap}{p:Addr×Obj}(hp:p∈zS fp h):p.1∈fp/\h.get? p.1=some p.2:=by
 obtain⟨b,hb,e⟩:=gH.mp hp;cases q:h.get? b with
 |none=>rw[q]at e;cases e
 |some o =>
  rw[q]at e;have e':(b,o)=p:=aU.inj e;subst e';exact⟨hb,q⟩
theorem Inv.pinned{nA:List (Addr×Obj)}{σ:St}{H:Hp}{s:Shared}{fp:List Addr}(I:Inv X nA σ H s) (hf:∀b∈fp,yN X nA H b) (ho:∀b∈fp,∃o,s.heap.get? b=some o/\∀v,o.data ≠ .cell v):Inv X (nA++zS fp s.heap) σ H s :=
 I.pins_of λp hp=>(mAq.mp hp).elim (λz=>I.pin p (ar _ z)) λz=>by
  obtain⟨hb,e⟩:=JU z;obtain⟨f0,f1,f2,_⟩:=hf p.1 hb;obtain⟨o,e',d⟩:=ho p.1 hb;rw[e]at e';cases e';exact⟨e,f0,f1,f2,d⟩
theorem Inv.unpinned{nA pl:List (Addr×Obj)}{σ:St}{H:Hp}{s:Shared}(I:Inv X (nA++pl) σ H s):Inv X nA σ H s:=I.pins_of λp hp=>I.pin p (ar _ (bp _ hp))
theorem qu{iter:Expr}{body:List Stmt}{wi:TI}{g:TG}{tb:TS}{pos:Pos}(hp:PassesOwn (iO X.prog X.w) X.A X.env X.xe) (hc:X.calm=true) (hi:PI X tg iter wi) (hg:PG X tg g) (hb:IT X body tb)
  (hs:∀x,kf iter X.env x=pure x:=by intro _;rfl):PS X (.For tg iter body [] pos) (Ny wi g tb):=by
 intro nA s σ H D I h;refine wpAny_For (thn (hi nA s σ H _ I h) λv s1 h1=>thn h1 λitv s2 h2=>?_) hs
 obtain⟨it,fp,tn,J,H2,e,I2,T,Bw,f2,W,⟨m0,w0⟩,turn⟩:=h2;subst e;have stat:∀{H':Hp},(∀b∈fp,H' b=none)->∀b∈fp,yN X nA H' b:=λhn b hb=>⟨hn b hb,(f2 b hb).2⟩
 refine codeAny_forLoop_any (λn s'=>∃i σ' H',Inv X nA σ' H' s'/\tn i s'.heap/\(∀b∈fp,H' b=none)/\W i n σ' H') ?_ m0 ⟨0,σ,H2,I2,Bw,λb hb=>(f2 b hb).1,w0⟩
 rintro n s3 ⟨i,σ3,H3,I3,Vi,fr3,w3⟩;rcases turn i n σ3 H3 w3 with ⟨stop,qn⟩|⟨go,N,hN,step⟩
 .refine jw hp (thn (T.done X rfl rfl rfl hc i nA s3 σ3 H3 X.xe I3 (stat fr3) Vi stop) λr s4 ⟨hr,I4⟩=>?_)
  subst hr;exact kr ⟨σ3,H3,I4,qn⟩
 .refine jw hp (thn (T.item X rfl rfl rfl hc i nA s3 σ3 H3 X.xe I3 (stat fr3) Vi go) λr s4 ⟨u,hr,h4⟩=>?_)
  subst hr;refine jw hp (thn h4 λ_ s5 ⟨x,H5,I5,r5,y5,st5,fr5⟩=>?_)
  have I5':=I5.pinned (stat fr5) (T.obj _ _ st5);refine jw hp (thn (hg _ s5 σ3 H5 x u _ I5' r5 (step x H5 y5)) λ_ s6 ⟨σ6,H6,I6,q6⟩=>?_)
  refine jw hp (thn (hb _ s6 σ6 H6 _ I6 q6) λf s7 q7=>?_)
  have again:∀{σ7:St}{H7:Hp},Inv X (nA++zS fp s5.heap) σ7 H7 s7->N σ7 H7->∃m,m<n/\∃i σ' H',Inv X nA σ' H' s7/\tn i s7.heap/\(∀b∈fp,H' b=none)/\W i m σ' H':=λ{σ7 H7} I7 n7=>by
   obtain⟨m',hm,w7⟩:=hN σ7 H7 n7;refine⟨m',hm,i+1,σ7,H7,I7.unpinned,T.keep _ _ _ st5 λb hb o e=>(I7.pin (b,o) (ar _ (ar _ (tE hb e)))).1,λb hb=>?_,w7⟩
   obtain⟨o,e,d⟩:=T.obj _ _ st5 b hb;exact(I7.pin (b,o) (ar _ (ar _ (tE hb e)))).2.1
  cases f with
  |next=>obtain⟨σ7,H7,I7,n7⟩:=q7;exact again I7 n7
  |cont=>obtain⟨σ7,H7,I7,n7⟩:=q7;exact again I7 n7
  |brk=>obtain⟨σ7,H7,I7,q7⟩:=q7;exact⟨σ7,H7,I7.unpinned,q7⟩
  |ret v=>obtain⟨x7,σ7,H7,I7,r7,q7⟩:=q7;exact⟨x7,σ7,H7,I7.unpinned,r7,q7⟩
end
theorem NK{K:W.Frag}{a:Addr}{xs:List V}{g:TG}{tb:TS}{D:vX}{σ:St}{H:Hp}(Pv:Nat->St->Hp->Prop) (h0:Pv 0 σ H) (hl:∀i σ H,i<=xs.length->Pv i σ H->qS K H a xs)
  (hs:∀i x σ H,xs[i]?=some x->Pv i σ H->g x σ H λσ2 H2=>tb { D with nx:=Pv (i+1),ct:=Pv (i+1),bk:=D.nx } σ2 H2) (hd:∀σ H,Pv xs.length σ H->D.nx σ H) :
  ∃W:Nat->Nat->St->Hp->Prop,(∃m,W 0 m σ H)/\∀i m σ H,W i m σ H ->
   ((Uz K a).stop i H/\D.nx σ H)∨((Uz K a).go i H/\∃N:St->Hp->Prop,(∀σ' H',N σ' H'->∃m',m'<m/\W (i+1) m' σ' H')/\∀x H',(Uz K a).yld i H x H'->g x σ H' λσ2 H2=>tb { D with nx:=N,ct:=N,bk:=D.nx } σ2 H2):=by
 refine⟨λi m σ H=>m=xs.length-i/\i<=xs.length/\Pv i σ H,⟨xs.length,by simp,aV _,h0⟩,?_⟩
 rintro i m σ H ⟨rfl,hi,p⟩;have q:=hl i σ H hi p
 by_cases hlt:i<xs.length
 .refine .inr ⟨⟨xs,xs[i],q,by simp[hlt]⟩,Pv (i+1),λσ' H' p'=>⟨xs.length-(i+1),by lia,rfl,hlt,p'⟩,λx H' y=>?_⟩
  obtain⟨e,y⟩:=y;subst e;exact hs i x σ _ (y xs q) p
 .have e:i=xs.length:=by lia
  subst e;exact .inl ⟨⟨xs,q,ag _⟩,hd σ H p⟩
theorem JP{lo:Int}{n:Nat}{g:TG}{tb:TS}{D:vX}{σ:St}{H:Hp}(Pv:Nat->St->Hp->Prop) (h0:Pv 0 σ H)
  (hs:∀i σ H,i<n->Pv i σ H->g (.int (lo+i)) σ H λσ2 H2=>tb { D with nx:=Pv (i+1),ct:=Pv (i+1),bk:=D.nx } σ2 H2) (hd:∀σ H,Pv n σ H->D.nx σ H) :
  ∃W:Nat->Nat->St->Hp->Prop,(∃m,W 0 m σ H)/\∀i m σ H,W i m σ H ->
   ((Oy lo n).stop i H/\D.nx σ H)∨((Oy lo n).go i H/\∃N:St->Hp->Prop,(∀σ' H',N σ' H'->∃m',m'<m/\W (i+1) m' σ' H')/\∀x H',(Oy lo n).yld i H x H'->g x σ H' λσ2 H2=>tb { D with nx:=N,ct:=N,bk:=D.nx } σ2 H2):=by
 refine⟨λi m σ H=>m=n-i/\i<=n/\Pv i σ H,⟨n,by simp,aV _,h0⟩,?_⟩
 rintro i m σ H ⟨rfl,hi,p⟩
 by_cases hlt:i<n
 .refine .inr ⟨hlt,Pv (i+1),λσ' H' p'=>⟨n-(i+1),by lia,rfl,hlt,p'⟩,λx H' y=>?_⟩
  obtain⟨e,y⟩:=y;subst e y;exact hs i σ _ hlt p
 .have e:i=n:=by lia
  subst e;exact .inl ⟨ag _,hd σ H p⟩
abbrev R2:=V->V->Hp->VK->Prop
def CK(X:Cx) (f:Value->Value->Sem Value) (r:R2):Prop :=
 ∀(nA:List (Addr×Obj)) (s:Shared) (σ:St) (H:Hp) (x y:V) (v u:Value) (Q:VK),Inv X nA σ H s->pY x v->pY y u->r x y H Q ->
  iM (iO X.prog X.w) X.A (f v u) (EP X nA σ Q) X.xe s
def V4(X:Cx) (f:Value->Sem Value) (r:V->Hp->VK->Prop):Prop :=
 ∀(nA:List (Addr×Obj)) (s:Shared) (σ:St) (H:Hp) (x:V) (v:Value) (Q:VK),Inv X nA σ H s->pY x v->r x H Q ->
  iM (iO X.prog X.w) X.A (f v) (EP X nA σ Q) X.xe s
def sF(X:Cx) (f:Value) (r:List V->Hp->VK->Prop):Prop :=
 ∀(nA:List (Addr×Obj)) (s:Shared) (σ:St) (H:Hp) (xs:List V) (us:List Value) (Q:VK),Inv X nA σ H s->oQ xs us->r xs H Q ->
  iM (iO X.prog X.w) X.A (call f us) (EP X nA σ Q) X.xe s
def WE(X:Cx) (r:V->Hp->(Bool->Hp->Prop)->Prop):Prop :=
 ∀(nA:List (Addr×Obj)) (s:Shared) (σ:St) (H:Hp) (x:V) (v:Value) (Q:Bool->Hp->Prop),Inv X nA σ H s->pY x v->r x H Q ->
  iM (iO X.prog X.w) X.A (truthy v) (TP X nA σ Q) X.xe s
def OH(r:R2) (ta tb:TE):TE:=λσ H Q=>ta σ H λx H1=>tb σ H1 λy H2=>r x y H2 Q
def VQ(r:V->Hp->VK->Prop) (ta:TE):TE:=λσ H Q=>ta σ H λx H1=>r x H1 Q
def rI(C:Int->Int->Prop) (g:Int->Int->V):R2:=λx y H Q=>∃i j,x = .int i/\y = .int j/\C i j/\Q (g i j) H
def Mw(g:Int->Int->V):R2:=λx y H Q=>∃i j,x = .int i/\y = .int j/\Q (g i j) H
def rU(g:Int->V):V->Hp->VK->Prop:=λx H Q=>∃i,x = .int i/\Q (g i) H
section
variable {X:Cx}{a b c:Expr}{ta tb tc:TE}{pos:Pos}
theorem RQ(ha:PE X a ta) (hb:PE X b tb) {nA:List (Addr×Obj)}{s:Shared}{σ:St}{H:Hp}{R:V->V->Hp->Prop}(I:Inv X nA σ H s)
  (h:ta σ H λx H1=>tb σ H1 λy H2=>R x y H2) {Q:Value->Shared->Prop}{f:Value->Value->Sem Value}
  (hf:∀v u s2 x y H2,Inv X nA σ H2 s2->pY x v->pY y u->R x y H2->iM (iO X.prog X.w) X.A (f v u) Q X.xe s2) :
  iM (iO X.prog X.w) X.A (eval a X.env) (λv s₁=>iM (iO X.prog X.w) X.A (eval b X.env) (λu s₂=>iM (iO X.prog X.w) X.A (f v u) Q X.xe s₂) X.xe s₁) X.xe s:=by
 refine thn (ha nA s σ H _ I h) λv s1 ⟨x,H1,I1,r1,q1⟩=>?_
 refine thn (hb nA s1 σ H1 _ I1 q1) λu s2 ⟨y,H2,I2,r2,q2⟩=>?_
 exact hf v u s2 x y H2 I2 r1 r2 q2
theorem oE{op:Operator}{r:R2}(ho:CK X (jZ op) r) (ha:PE X a ta) (hb:PE X b tb):PE X (.BinOp a op b pos) (OH r ta tb):=by
 intro nA s σ H Q I h;exact wpAny_BinOp (RQ ha hb I h λv u s2 x y H2 I2 rx ry q=>ho nA s2 σ H2 x y v u Q I2 rx ry q)
theorem tW{op:UnaryOp}{r:V->Hp->VK->Prop}(ho:V4 X (unaryOp op) r) (ha:PE X a ta):PE X (.UnaryOp op a pos) (VQ r ta):=by
 intro nA s σ H Q I h;exact UnaryOp_ (thn (ha nA s σ H _ I h) λv s1 ⟨x,H1,I1,r1,q1⟩=>ho nA s1 σ H1 x v Q I1 r1 q1)
theorem T5{f:Value->Value->Sem Value}{C:Int->Int->Prop}{g:Int->Int->Int}
  (rule:∀(i j:Int) (t u:Tok) (s:Shared) (Q:Value->Shared->Prop) (E:Value->Shared->Prop),C i j->Q (.int (g i j) s.toks) { s with toks:=s.toks+1 }->iM (iO X.prog X.w) X.A (f (.int i t) (.int j u)) Q E s) :
  CK X f (rI C λi j=>.int (g i j)):=by
 intro nA s σ H x y v u Q I rx ry h;obtain⟨i,j,rfl,rfl,hc,q⟩:=h;obtain⟨t,rfl⟩:=rx;obtain⟨t',rfl⟩:=ry;exact rule i j t t' s _ _ hc ⟨.int (g i j),H,I.tok _,⟨_,rfl⟩,q⟩
theorem Ua{f:Value->Value->Sem Value}{g:Int->Int->Int}
  (rule:∀(i j:Int) (t u:Tok) (s:Shared) (Q:Value->Shared->Prop) (E:Value->Shared->Prop),Q (.int (g i j) s.toks) { s with toks:=s.toks+1 }->iM (iO X.prog X.w) X.A (f (.int i t) (.int j u)) Q E s) :
  CK X f (Mw λi j=>.int (g i j)):=by
 intro nA s σ H x y v u Q I rx ry h;obtain⟨i,j,rfl,rfl,q⟩:=h;obtain⟨t,rfl⟩:=rx;obtain⟨t',rfl⟩:=ry;exact rule i j t t' s _ _ ⟨.int (g i j),H,I.tok _,⟨_,rfl⟩,q⟩
theorem T2{f:Value->Value->Sem Value}{g:Int->Int->Bool}
  (rule:∀(i j:Int) (t u:Tok) (s:Shared) (Q:Value->Shared->Prop) (E:Value->Shared->Prop),Q (.bool (g i j)) s->iM (iO X.prog X.w) X.A (f (.int i t) (.int j u)) Q E s) :
  CK X f (Mw λi j=>.bl (g i j)):=by
 intro nA s σ H x y v u Q I rx ry h;obtain⟨i,j,rfl,rfl,q⟩:=h;obtain⟨t,rfl⟩:=rx;obtain⟨t',rfl⟩:=ry;exact rule i j t t' s _ _ ⟨.bl (g i j),H,I,rfl,q⟩
def Rz(i j:Int):Prop:=0<j/\j<1073741824
def QM(i j:Int):Prop:=0<=j/\j<=1000000/\i.natAbs<2 ^ 64
def Mq(i j:Int):Prop:=(-(2 ^ 64)<i/\i<2 ^ 64)∨(-(2 ^ 64)<j/\j<2 ^ 64)
theorem Mq.ok{i j:Int}(h:Mq i j):IntMulOk i j:=by
 rcases h with ⟨h1,h2⟩|⟨h1,h2⟩
 .exact .of_left (intBits_le_64 h1 h2)
 .exact .of_right (intBits_le_64 h1 h2)
theorem ue:CK X (jZ .Add) (Mw λi j=>.int (i+j)):=Ua λ_ _ _ _ _ _ _ q=>add_int q
theorem Br:CK X (jZ .Sub) (Mw λi j=>.int (i-j)):=Ua λ_ _ _ _ _ _ _ q=>sub_int q
theorem Ef:CK X (jZ .Mult) (rI Mq λi j=>.int (i*j)):=T5 λ_ _ _ _ _ _ _ hc q=>mul_int q hc.ok
theorem wI:CK X (jZ .FloorDiv) (rI Rz λi j=>.int (i / j)):=T5 λi j _ _ _ _ _ hc q=>by
 have h1:(0:Int)<j:=hc.1;have h2:j<1073741824:=hc.2;exact floordiv_int (by lia) (by rw[fE i (by lia)];exact q) (.inl (PyProof.noPylong_small (by lia)))
theorem rq:CK X (jZ .Mod) (rI (λ_ j=>0<j) λi j=>.int (i % j)):=T5 λi j _ _ _ _ _ hc q=>by
 have h1:(0:Int)<j:=hc;exact mod_int' (by lia) (by rw[Int.fmod_eq_emod_of_nonneg i (by lia)];exact q)
theorem GX:CK X (jZ .Pow) (rI QM λi j=>.int (i ^ j.toNat)):=T5 λ_ _ _ _ _ _ _ hc q=>pow_int_small hc.1 hc.2.1 hc.2.2 q
theorem XI{f:Value->Sem Value}{g:Int->Int}
  (rule:∀(i:Int) (t:Tok) (s:Shared) (Q:Value->Shared->Prop) (E:Value->Shared->Prop),Q (.int (g i) s.toks) { s with toks:=s.toks+1 }->iM (iO X.prog X.w) X.A (f (.int i t)) Q E s) :
  V4 X f (rU λi=>.int (g i)):=by
 intro nA s σ H x v Q I rx h;obtain⟨i,rfl,q⟩:=h;obtain⟨t,rfl⟩:=rx;exact rule i t s _ _ ⟨.int (g i),H,I.tok _,⟨_,rfl⟩,q⟩
theorem rH:V4 X (unaryOp .USub) (rU λi=>.int (-i)):=XI λ_ _ _ _ _ q=>neg_int q
end
def scal:V->V->Bool
 | .non,.non=>true|.non,.int _=>true|.int _,.non=>true|.non,.bl _=>true|.bl _,.non=>true|.non,.str _=>true|.str _,.non=>true
 | .int _,.int _=>true|.bl _,.bl _=>true|.str _,.str _=>true|.byt _,.byt _=>true
 | .int _,.str _=>true|.str _,.int _=>true|.bl _,.str _=>true|.str _,.bl _=>true
 |_,_=>false
def WS:R2:=λx y H Q=>scal x y=true/\Q (.bl (decide (x=y))) H
def WU:R2:=λx y H Q=>scal x y=true/\Q (.bl (!decide (x=y))) H
theorem HN{i j:Int}:decide (V.int i=V.int j)=(i == j):=by
 rw[bR];simp
theorem K6{i j:Bool}:decide (V.bl i=V.bl j)=(i == j):=by
 rw[bR];simp
theorem ID{i j:Str}:decide (V.str i=V.str j)=(i == j):=by
 rw[bR];simp
theorem IP{i j:Array UInt8}:decide (V.byt i=V.byt j)=(i.toList == j.toList):=by
 rw[bR];cases i;cases j;simp
section
variable {X:Cx}{a b c:Expr}{ta tb tc:TE}{pos:Pos}
theorem pD{nA:List (Addr×Obj)}{σ:St}{H:Hp}{s:Shared}{Q:VK}{k k':Bool}(I:Inv X nA σ H s) (q:Q (.bl k) H) (e:k=k'):EP X nA σ Q (.bool k') s:=by
 subst e;exact⟨.bl k,H,I,rfl,q⟩
theorem zE:CK X (jq .Eq) WS:=by
 intro nA s σ H x y v u Q I rx ry h;obtain⟨hs,q⟩:=h;cases x with
 |non =>
  cases rx;cases y with
  |non=>cases ry;exact PySem.EqNone.eq_none_none (pD I q (by simp))
  |bl j=>cases ry;exact PySem.EqNone.eq_none_bool (pD I q (by simp))
  |int j=>obtain⟨t',rfl⟩:=ry;exact PySem.EqNone.eq_none_int (pD I q (by simp))
  |str j=>obtain⟨t',rfl⟩:=ry;exact PySem.EqNone.eq_none_str (pD I q (by simp))
  |_=>exact absurd (show false=true from hs) aR
 |bl i =>
  cases rx;cases y with
  |non=>cases ry;exact PySem.EqNone.eq_bool_none (pD I q (by simp))
  |bl j=>cases ry;exact eq_bool (pD I q K6)
  |str j=>obtain⟨t',rfl⟩:=ry;exact PySem.EqMixed.eq_bool_str (pD I q (by simp))
  |_=>exact absurd (show false=true from hs) aR
 |int i =>
  obtain⟨t,rfl⟩:=rx;cases y with
  |non=>cases ry;exact PySem.EqNone.eq_int_none (pD I q (by simp))
  |int j=>obtain⟨t',rfl⟩:=ry;exact eq_int (pD I q HN)
  |str j=>obtain⟨t',rfl⟩:=ry;exact PySem.EqMixed.eq_int_str (pD I q (by simp))
  |_=>exact absurd (show false=true from hs) aR
 |str i =>
  obtain⟨t,rfl⟩:=rx;cases y with
  |non=>cases ry;exact PySem.EqNone.eq_str_none (pD I q (by simp))
  |bl j=>cases ry;exact PySem.EqMixed.eq_str_bool (pD I q (by simp))
  |int j=>obtain⟨t',rfl⟩:=ry;exact PySem.EqMixed.eq_str_int (pD I q (by simp))
  |str j=>obtain⟨t',rfl⟩:=ry;exact eq_str (pD I q ID)
  |_=>exact absurd (show false=true from hs) aR
 |byt i =>
  obtain⟨t,rfl⟩:=rx;cases y with
  |byt j=>obtain⟨t',rfl⟩:=ry;exact W.eq_bytes (pD I q IP)
  |_=>exact absurd (show false=true from hs) aR
 |_=>cases y <;> exact absurd (show false=true from hs) aR
theorem Ig:CK X (jq .NotEq) WU:=by
 intro nA s σ H x y v u Q I rx ry h;obtain⟨hs,q⟩:=h;cases x with
 |non =>
  cases rx;cases y with
  |non=>cases ry;exact PySem.EqNone.ne_none_none (pD I q (by simp))
  |bl j=>cases ry;exact PySem.EqNone.ne_none_bool (pD I q (by simp))
  |int j=>obtain⟨t',rfl⟩:=ry;exact PySem.EqNone.ne_none_int (pD I q (by simp))
  |str j=>obtain⟨t',rfl⟩:=ry;exact PySem.EqNone.ne_none_str (pD I q (by simp))
  |_=>exact absurd (show false=true from hs) aR
 |bl i =>
  cases rx;cases y with
  |non=>cases ry;exact PySem.EqNone.ne_bool_none (pD I q (by simp))
  |bl j=>cases ry;exact ne_bool (pD I q (congrArg not K6))
  |str j=>obtain⟨t',rfl⟩:=ry;exact PySem.EqMixed.ne_bool_str (pD I q (by simp))
  |_=>exact absurd (show false=true from hs) aR
 |int i =>
  obtain⟨t,rfl⟩:=rx;cases y with
  |non=>cases ry;exact PySem.EqNone.ne_int_none (pD I q (by simp))
  |int j=>obtain⟨t',rfl⟩:=ry;exact ne_int (pD I q (congrArg not HN))
  |str j=>obtain⟨t',rfl⟩:=ry;exact PySem.EqMixed.ne_int_str (pD I q (by simp))
  |_=>exact absurd (show false=true from hs) aR
 |str i =>
  obtain⟨t,rfl⟩:=rx;cases y with
  |non=>cases ry;exact PySem.EqNone.ne_str_none (pD I q (by simp))
  |bl j=>cases ry;exact PySem.EqMixed.ne_str_bool (pD I q (by simp))
  |int j=>obtain⟨t',rfl⟩:=ry;exact PySem.EqMixed.ne_str_int (pD I q (by simp))
  |str j=>obtain⟨t',rfl⟩:=ry;exact ne_str (pD I q (congrArg not ID))
  |_=>exact absurd (show false=true from hs) aR
 |byt i =>
  obtain⟨t,rfl⟩:=rx;cases y with
  |byt j=>obtain⟨t',rfl⟩:=ry;exact W.ne_bytes (pD I q (congrArg not IP))
  |_=>exact absurd (show false=true from hs) aR
 |_=>cases y <;> exact absurd (show false=true from hs) aR
theorem Dr:CK X (jq .Lt) (Mw λi j=>.bl (decide (i<j))):=T2 λ_ _ _ _ _ _ _ q=>lt_int q
theorem Nk:CK X (jq .Gt) (Mw λi j=>.bl (decide (j<i))):=T2 λ_ _ _ _ _ _ _ q=>gt_int q
theorem qg(b:Expr) {op:CmpOp}(h:op ≠ .In:=by decide) (h2:op ≠ .NotIn:=by decide):km op b=false:=by
 have e1:(op == CmpOp.In)=false:=by cases op <;> first|rfl|exact absurd rfl h
 have e2:(op == CmpOp.NotIn)=false:=by cases op <;> first|rfl|exact absurd rfl h2
 cases b <;> simp[km,e1,e2]
theorem wK{op:CmpOp}{r:R2}(ho:CK X (jq op) r) (ha:PE X a ta) (hb:PE X b tb) (hm:km op b=false):PE X (.Compare a [op] [b] pos) (OH r ta tb):=by
 intro nA s σ H Q I h;exact wpAny_Compare1 (RQ ha hb I h λv u s2 x y H2 I2 rx ry q=>ho nA s2 σ H2 x y v u Q I2 rx ry q) hm
def Lj(t:TE):TT:=λσ H Q=>t σ H λx H'=>∃k,x = .bl k/\Q k H'
theorem qG{op:CmpOp}{r:R2}(ho:CK X (jq op) r) (ha:PE X a ta) (hb:PE X b tb) (hm:km op b=false):PT X (.Compare a [op] [b] pos) (Lj (OH r ta tb)):=by
 intro nA s σ H Q I h;refine lj (thn (ha nA s σ H _ I h) λv s1 ⟨x,H1,I1,r1,q1⟩=>thn (hb nA s1 σ H1 _ I1 q1) λu s2 ⟨y,H2,I2,r2,q2⟩ =>
  thn (ho nA s2 σ H2 x y v u _ I2 r1 r2 q2) λc s3 ⟨z,H3,I3,r3,k,e,q3⟩=>?_) hm
 subst e;cases r3;exact je ⟨H3,I3,q3⟩
def Kx(r r':R2) (ta tb tc:TE):TE:=λσ H Q=>ta σ H λx H1=>tb σ H1 λy H2=>r x y H2 λz H3=>∃k,z = .bl k /\
 (if k=true then tc σ H3 λw' H4=>r' y w' H4 Q else Q (.bl false) H3)
theorem Nv{op op':CmpOp}{r r':R2}(ho:CK X (jq op) r) (ho':CK X (jq op') r') (ha:PE X a ta) (hb:PE X b tb) (hc:PE X c tc)
  (hm:lastMarks [op,op'] [b,c]=false:=by with_unfolding_all rfl):PT X (.Compare a [op,op'] [b,c] pos) (Lj (Kx r r' ta tb tc)):=by
 intro nA s σ H Q I h;refine isTrue_chain (thn (ha nA s σ H _ I h) λv s1 ⟨x,H1,I1,r1,q1⟩=>test_link (thn (hb nA s1 σ H1 _ I1 q1) λu s2 ⟨y,H2,I2,r2,q2⟩ =>
  thn (ho nA s2 σ H2 x y v u _ I2 r1 r2 q2) λd s3 ⟨z,H3,I3,r3,k,e,q3⟩=>?_)) hm
 subst e;cases r3;refine je ?_;cases k with
 |false =>
  obtain⟨k',e',q'⟩:=q3;cases e';exact ite_ff ⟨H3,I3,q'⟩
 |true =>
  refine ite_tt (test_last (thn (hc nA s3 σ H3 _ I3 q3) λw' s4 ⟨z',H4,I4,r4,q4⟩=>thn (ho' nA s4 σ H4 y z' u w' _ I4 r2 r4 q4) λd' s5 ⟨z2,H5,I5,r5,k2,e2,q5⟩=>?_))
  subst e2;cases r5;exact je ⟨H5,I5,q5⟩
def MB(K:W.Frag) (x:V) (H:Hp) (k:Bool):Prop :=
 match x with
 | .non=>k=false
 | .bl b=>k=b
 | .int i=>k=(i != 0)
 | .str y=>y.length<=iR/\k=((y.length:Int) != 0)
 | .byt y=>y.size<=iR/\k=((y.size:Int) != 0)
 | .ref p=>(∃xs,qS K H p xs/\k = !xs.isEmpty)∨(∃xs,BR K H p xs/\k = !xs.isEmpty)∨∃kvs,H p=some (.dK kvs)/\k = !kvs.isEmpty
 |_=>False
theorem G7{κ:Type}{kvs:List (κ×V)}{vs:List (κ×Value)}(r:KV kvs vs):(!vs.isEmpty) = !kvs.isEmpty:=by
 cases r <;> rfl
theorem Cj{xs:List V}{its:List Value}(r:oQ xs its):(!its.toArray.isEmpty) = !xs.isEmpty:=by
 cases r <;> simp
theorem Et:(iR:Nat)<2 ^ 63:=by rw[jb];decide
theorem Gw:WE X (λx H Q=>∃k,MB X.K x H k/\Q k H):=by
 intro nA s σ H x v Q I rx h;obtain⟨k,e,q⟩:=h;have hl:=Et;have hs:iR=16777216:=jb;cases x with
 |non =>
  cases rx;have e':k=false:=e;subst e';exact truthy_none ⟨H,I,q⟩
 |bl b =>
  cases rx;have e':k=b:=e;subst e';exact je ⟨H,I,q⟩
 |int i =>
  obtain⟨t,rfl⟩:=rx;have e':k=(i != 0):=e;subst e';exact PySem.P.truthy_int ⟨H,I,q⟩
 |str y =>
  obtain⟨t,rfl⟩:=rx;obtain⟨hy,e'⟩:y.length<=iR/\k=((y.length:Int) != 0):=e;subst e';exact PySem.P.truthy_str (by lia) ⟨H,I.tok _,q⟩
 |byt y =>
  obtain⟨t,rfl⟩:=rx;obtain⟨hy,e'⟩:y.size<=iR/\k=((y.size:Int) != 0):=e;subst e';exact W.truthy_bytes (by lia) ⟨H,I.tok _,q⟩
 |ref p =>
  cases rx;have e':(∃xs,qS X.K H p xs/\k = !xs.isEmpty)∨(∃xs,BR X.K H p xs/\k = !xs.isEmpty)∨∃kvs,H p=some (.dK kvs)/\k = !kvs.isEmpty:=e;rcases e' with ⟨xs,hx,e'⟩|⟨xs,hx,e'⟩|⟨kvs,hx,e'⟩
  .subst e';obtain⟨its,r,pl,hz⟩:=I.list hx;have hlen:=r.length;exact wpAny_truthy_list pl.isList (by simp only[ay];lia) ⟨H,I.tok _,by rw[Cj r];exact q⟩
  .subst e';obtain⟨its,r,pl,hz⟩:=I.tuple hx;have hlen:=r.length;exact truthy_tuple pl (by simp only[ay];lia) ⟨H,I.tok _,by rw[Cj r];exact q⟩
  .subst e';obtain⟨hz,hS,vs,r,m⟩:kvs.length<=iR/\(p == jt)=false/\∃vs,KV kvs vs/\s.heap.DictOf (qk X.prog X.w) p vs:=I.hok p _ hx;have hlen:kvs.length=vs.length:=Paired.length r;exact wpAny_truthy_dict hS m (by lia) ⟨H,I.tok _,by rw[G7 r];exact q⟩
 |_=>exact(show False from e).elim
theorem uM(ha:PE X a ta) (he:∀whole,isTrue a X.env whole=(do let v ←whole;standAt a.pos;holding [v] (truthy v))) :
  PT X a (λσ H Q=>ta σ H λx H'=>∃k,MB X.K x H' k/\Q k H'):=by
 intro nA s σ H Q I h;exact isTrue_plain (thn (ha nA s σ H _ I h) λv s1 ⟨x,H1,I1,r1,q1⟩=>Gw nA s1 σ H1 x v Q I1 r1 q1) (he _)
theorem xw{x:V}{us:List Value}(r:oQ [x] us):∃u,us=[u]/\pY x u:=by
 cases r with
 |cons r1 r2=>cases r2;exact⟨_,rfl,r1⟩
theorem L1{x y:V}{us:List Value}(r:oQ [x,y] us):∃u w',us=[u,w']/\pY x u/\pY y w':=by
 cases r with
 |cons r1 r2 =>
  cases r2 with
  |cons r3 r4=>cases r4;exact⟨_,_,rfl,r1,r3⟩
def Um(K:W.Frag) (x:V) (H:Hp) (n:Nat):Prop :=
 match x with
 | .str y=>y.length<=iR/\n=y.length
 | .byt y=>y.size<=iR/\n=y.size
 | .ref p=>(∃xs,qS K H p xs/\n=xs.length)∨∃xs,BR K H p xs/\n=xs.length
 |_=>False
theorem pW:sF X (.builtin "len") (λxs H Q=>∃x n,xs=[x]/\Um X.K x H n/\Q (.int n) H):=by
 intro nA s σ H xs us Q I r h;obtain⟨x,n,rfl,e,q⟩:=h;obtain⟨u,rfl,rx⟩:=xw r;have hl:=Et;have hs:iR=16777216:=jb;cases x with
 |str y =>
  obtain⟨t,rfl⟩:=rx;obtain⟨hy,e'⟩:y.length<=iR/\n=y.length:=e;subst e';exact len_str (by lia) ⟨.int _,H,I.tok _,⟨_,rfl⟩,q⟩
 |byt y =>
  obtain⟨t,rfl⟩:=rx;obtain⟨hy,e'⟩:y.size<=iR/\n=y.size:=e;subst e';exact W.len_bytes (by lia) ⟨.int _,H,I.tok _,⟨_,rfl⟩,q⟩
 |ref p =>
  cases rx;have e':(∃xs,qS X.K H p xs/\n=xs.length)∨∃xs,BR X.K H p xs/\n=xs.length:=e;rcases e' with ⟨xs,hx,e'⟩|⟨xs,hx,e'⟩
  .subst e';obtain⟨its,r',pl,hz⟩:=I.list hx;have hlen:=r'.length;exact Calls.call_len_list pl.isList (by simp only[ay];lia) ⟨.int xs.length,H,I.tok _,⟨_,by simp only[ay];rw[hlen]⟩,q⟩
  .subst e';obtain⟨its,r',pl,hz⟩:=I.tuple hx;have hlen:=r'.length;exact len_tuple pl (by simp only[ay];lia) ⟨.int xs.length,H,I.tok _,⟨_,by simp only[ay];rw[hlen]⟩,q⟩
 |_=>exact(show False from e).elim
end
theorem Cz.some_of{v:V}{o:Option Value}(r:Cz (some v) o):∃u,o=some u/\pY v u:=by
 cases o with
 |none=>exact(show False from r).elim
 |some u=>exact⟨u,rfl,r⟩
structure uu (k:Nat) (A:Around):Prop where
 hd:A.handled=none
 dp:A.depth+3*k+5<recursionLimit
 un:A.units+16*k+200<jO
theorem uu.mono{j k:Nat}{A:Around}(r:uu k A) (h:j<=k):uu j A:=⟨r.hd,by have:=r.dp;lia,by have:=r.un;lia⟩
theorem uu.deeper{k:Nat}{A:Around}(r:uu (k+1) A) (env:Env):uu k (A.deeper env) :=
 ⟨r.hd,by have:=r.dp;show A.depth+1+3*k+5<_;lia,by have:=r.un;show A.units+3+16*k+200<_;lia⟩
theorem uu.depth{k:Nat}{A:Around}(r:uu k A):A.depth<recursionLimit:=by have:=r.dp;lia
theorem uu.units{k:Nat}{A:Around}(r:uu k A):A.units+64<jO:=by have:=r.un;lia
def xr:TA:=λ_ H Q=>Q [] H
def sY(ta:TE) (tr:TA):TA:=λσ H Q=>ta σ H λx H1=>tr σ H1 λxs H2=>Q (x::xs) H2
section
variable {X:Cx}{e:Expr}{es:List Expr}{te:TE}{t:TA}{pos:Pos}
theorem nF:PA X [] xr:=λ_ _ _ _ H Q I h=>Calls.spliced_nil ⟨[],H,I,.nil,h⟩
theorem nB(ha:PE X e te) (hr:PA X es t) (hs:iW (e::es) X.env=(false,eval e X.env)::iW es X.env:=by rfl):PA X (e::es) (sY te t):=by
 intro pos nA s σ H Q I h;rw[hs];show iM _ _ (spliced ((false,eval e X.env)::jS pos (iW es X.env))) _ _ s;refine Calls.spliced_cons (thn (ha nA s σ H _ I h) λu s1 ⟨x,H1,I1,r1,q1⟩=>?_)
 exact thn (hr pos nA s1 σ H1 _ I1 q1) λus s2 ⟨xs,H2,I2,r2,q2⟩=>⟨x::xs,H2,I2,.cons r1 r2,q2⟩
def Uy(t:TA):TE:=λσ H Q=>t σ H λxs H1=>xs.length<=iR/\∀p,H1 p=none->Q (.ref p) (pX H1 p (.tup xs))
def Vb(t:TA):TE:=λσ H Q=>t σ H λxs H1=>xs.length<=iR/\∀p,H1 p=none->Q (.ref p) (pX H1 p (.lst xs))
theorem GA{x1} (h:PA X es t):PE X (.Tuple es x1 pos) (Uy t):=by
 intro nA s σ H Q I hq;refine wpAny_Tuple_spliced (thn (h pos nA s σ H _ I hq) λus s1 ⟨xs,H1,I1,r,z,q⟩=>⟨by rw[←r.length];exact z,?_⟩)
 have hf:H1 s1.heap.objs.size=none:=I1.hok.fresh (ag _);refine⟨.ref s1.heap.objs.size,pX H1 s1.heap.objs.size (.tup xs),I1.laid (t':=s1.toks) (λb u e=>ae _ e) (ag _) ?_,rfl,q _ hf⟩
 exact⟨z,us,r,⟨_,az _ rfl,rfl,_,rfl⟩⟩
theorem qt(h:PA X es t):PE X (.List es pos) (Vb t):=by
 intro nA s σ H Q I hq;refine wpAny_List_spliced (thn (h pos nA s σ H _ I hq) λus s1 ⟨xs,H1,I1,r,z,q⟩=>⟨by rw[←r.length];exact z,?_⟩)
 have hf:H1 s1.heap.objs.size=none:=I1.hok.fresh (ag _);refine⟨.ref s1.heap.objs.size,pX H1 s1.heap.objs.size (.lst xs),I1.laid (t':=s1.toks) (λb u e=>ae _ e) (ag _) ?_,rfl,q _ hf⟩
 exact⟨z,us,0,r,az _ rfl⟩
end
abbrev Sp:=List V->Hp->VK->XK->Prop
abbrev Ko:=List Env->Hp->Shared->XK->Value->Shared->Prop
structure N9 (P:iT) (w:iU) (K:W.Frag) (mg:Str->Option Value) (base:Heap) (A:Around) (outer:List Env) (s:Shared) (H:Hp):Prop where
 frames:A.frames=some outer
 mod:Mod K mg base
 bs:∀b o,base.get? b=some o->s.heap.get? b=some o/\H b=none
 bsz:base.objs.size<=s.heap.objs.size
 funs:s.heap.FunFrames base outer
 frf:∀b∈Gz outer,H b=none
 hok:xu P w H s.heap
 bare:ke s.gens
def CE(outer:List Env) (P:iT) (w:iU) (H:Hp) (s:Shared) (Q:VK) (u:Value) (s':Shared):Prop :=
 ∃v H',s'.os=s.os/\ke s'.gens/\Un (Gz outer) [] H H' s.heap s'.heap/\xu P w H' s'.heap/\pY v u/\Q v H'
def CR(CX:Ko) (outer:List Env) (P:iT) (w:iU) (H:Hp) (s:Shared) (Q:VK) (E:XK) (r:Result) (s':Shared):Prop :=
 match r with
 | .ok (.ret u)=>CE outer P w H s Q u s'
 | .ok _=>False
 | .error e=>CX outer H s E e s'
structure yW (P:iT) (w:iU) (K:W.Frag) (mg:Str->Option Value) (base:Heap) (CX:Ko) (k:Nat) (f:Addr) (fd:ja) (ps:List Str) (sp:Sp):Prop where
 len:∀vs H Q E,sp vs H Q E->vs.length=ps.length
 run:∀(A:Around) (outer:List Env) (s:Shared) (H:Hp) (args:Args) (us:List Value) (vs:List V) (Q:VK) (E:XK),uu k A->N9 P w K mg base A outer s H->lO s fd args (ps.zip us)->oQ vs us->sp vs H Q E ->
  jF (iO P w) A (.call (.ref f) args) (CR CX outer P w H s Q E) s
theorem yW.imp{P:iT}{w:iU}{K:W.Frag}{mg:Str->Option Value}{base:Heap}{CX:Ko}{k:Nat}{f:Addr}{fd:ja}{ps:List Str}{sp sp':Sp}(F:yW P w K mg base CX k f fd ps sp)
  (h:∀vs H Q E,sp' vs H Q E->sp vs H Q E):yW P w K mg base CX k f fd ps sp' :=
 ⟨λvs H Q E q=>F.len vs H Q E (h _ _ _ _ q),λA outer s H args us vs Q E hr he hb hv hs=>F.run A outer s H args us vs Q E hr he hb hv (h _ _ _ _ hs)⟩
section
variable {X:Cx}{nA:List (Addr×Obj)}{σ:St}{H:Hp}{s s':Shared}
theorem Inv.env0(I:Inv X nA σ H s):N9 X.prog X.w X.K X.mg X.base X.A X.stack s H :=
 ⟨I.ok.frames,I.ok.mod,I.bs,bJ I.ok.bsz I.sz,I.stack,I.stkFree,I.hok,I.bare⟩
theorem Inv.after{Q:VK}{u:Value}(I:Inv X nA σ H s) (h:CE X.stack X.prog X.w H s Q u s'):EP X nA σ Q u s':=by
 obtain⟨v,H',os,bare,un,hok,r,q⟩:=h;obtain⟨hh,g,d,t,os'⟩:=s';obtain rfl:os'=s.os:=os;exact⟨v,H',I.call (h':=hh) (g':=g) (d':=d) (t':=t) (ch:=[]) un hok bare (λb z=>absurd z (by simp)),r,q⟩
end
def Ao(sp:Sp) (dvs:List V) (E:XK) (t:TA):TE:=λσ H Q=>t σ H λvs H1=>sp (vs++dvs) H1 Q E
def yu(K:W.Frag) (fd:ja) (ps:List Str) (ds:List Value):Prop :=
 ∀(s:Shared) (us:List Value),K.In s.heap->(us++ds).length=ps.length->lO s fd ⟨us,[]⟩ (ps.zip (us++ds))
theorem yu.all{K:W.Frag}{fd:ja}{ps:List Str}(h:∀us:List Value,us.length=ps.length->bindArgs fd ⟨us,[]⟩=pure (ps.zip us)):yu K fd ps []:=λs us _ hl=>by
 rw[aNq]at hl ⊢;exact .of_eq (h us hl)
def zL(CX:Ko) (X:Cx) (E:XK):Prop:=∀(nA:List (Addr×Obj)) (σ:St) (H:Hp) (s:Shared) (e:Value) (s':Shared),Inv X nA σ H s->CX X.stack H s E e s'->X.xe e s'
section
variable {X:Cx}{CX:Ko}{k:Nat}{f C:Addr}{fd:ja}{ps:List Str}{sp:Sp}{dvs:List V}{ds:List Value}{E:XK}{x m:Str}{p pos apos:Pos}{e o:Expr}{es:List Expr}{ta:TE}{t:TA}
theorem RI{nA:List (Addr×Obj)}{σ:St}{H:Hp}{s:Shared}{Q:VK}{us:List Value}{vs:List V}(F:yW X.prog X.w X.K X.mg X.base CX k f fd ps sp) (hr:uu k X.A) (hb:yu X.K fd ps ds) (hd:oQ dvs ds) (hx:zL CX X E)
  (I:Inv X nA σ H s) (r:oQ vs us) (h:sp (vs++dvs) H Q E):iM (iO X.prog X.w) X.A (call (.ref f) us) (EP X nA σ Q) X.xe s:=by
 have r2:oQ (vs++dvs) (us++ds):=r.append hd;have hl:(us++ds).length=ps.length:=by rw[←r2.length];exact F.len _ _ _ _ h
 refine lY (ky (F.run X.A X.stack s H ⟨us,[]⟩ (us++ds) (vs++dvs) Q E hr I.env0 (hb s us I.kIn hl) r2 h) λr s' hq=>?_)
 cases r with
 |error e=>exact hx nA σ H s e s' I hq
 |ok fl =>
  cases fl with
  |ret u=>exact I.after hq
  |next=>exact False.elim hq
  |brk=>exact False.elim hq
  |cont=>exact False.elim hq
theorem Ec(F:yW X.prog X.w X.K X.mg X.base CX k f fd ps sp) (hr:uu k X.A) (hg:Gl X x) (hm:X.mg x=some (.ref f)) (hk:W.keepIn X.K (.ref f)=true) (hb:yu X.K fd ps ds) (hd:oQ dvs ds) (hx:zL CX X E)
  (ha:PA X (e::es) t) (hdb:(x == ("__debug__" : Str))=false:=by decide) (he:iW (e::es) X.env=(false,eval e X.env)::iW es X.env:=by rfl) (hpl:(jS pos (iW es X.env)).any (·.1)=false:=by rfl) :
  PE X (.Call (.Name x p) (e::es) [] pos) (Ao sp dvs E t):=by
 intro nA s σ H Q I h;refine jv (HI I hg hm ?_ hdb);refine W.callWith_K (h₀:=X.base) I.ok.mod.kin hk (thn (ha pos nA s σ H _ I h) λus s1 ⟨vs,H1,I1,r,q⟩=>⟨I1.kIn,?_⟩) he hpl
 exact RI F hr hb hd hx I1 r q
end
structure oY (N P:List Str) (sc:jI):Prop where
 kind:sc.kind = .function
 co:sc.isCoroutine=false
 gen:sc.isGenerator=false
 nd:N.Nodup
 pre:N.take P.length=P
 par:∀x∈P,sc.names.lookup x=some .local∨sc.names.lookup x=some .cell
 nofree:∀y∈sc.names,y.2 ≠ .free
theorem Dl{kindOf:Str->Option NameKind}{x:Str}:∀{binds:List (Str×Value)}{m:Str->Option Value},(∀v,(x,v)∉binds)->bindL kindOf binds m x=m x
 | [],_,_=>rfl
 | (n,v)::r,m,h=>by
  unfold bindL;rw[Dl λw hw=>h w (mCo _ hw)]
  split
  .have:x≠n:=by rintro rfl;exact h v au
   simp[this]
  .rfl
theorem Dp{kindOf:Str->Option NameKind}{x:Str}:∀{binds:List (Str×Value)}{m:Str->Option Value},(∀v,(x,v)∉binds)->bindC kindOf binds m x=m x
 | [],_,_=>rfl
 | (n,v)::r,m,h=>by
  unfold bindC;rw[Dp λw hw=>h w (mCo _ hw)]
  split
  .rfl
  .have:x≠n:=by rintro rfl;exact h v au
   simp[this]
theorem Da{kindOf:Str->Option NameKind}{x:Str}{v:Value}:∀{P:List Str}{vs:List Value}{i:Nat}{m:Str->Option Value},P.Nodup->P[i]?=some x->vs[i]?=some v->kindOf x=some .local ->
  bindL kindOf (P.zip vs) m x=some v
 | [],_,_,_,_,h,_,_=>by simp at h
 |_::_,[],_,_,_,_,h,_=>by simp at h
 |p::P,w::vs,0,m,nd,h1,h2,hk=>by
  simp at h1 h2;subst h1;subst h2;show bindL kindOf ((p,w)::P.zip vs) m p=_;unfold bindL;rw[Dl λv hv=>(ax.mp nd).1 (fY hv).1,oz hk]
  simp
 |p::P,w::vs,i+1,m,nd,h1,h2,hk=>by
  show bindL kindOf ((p,w)::P.zip vs) m x=_;unfold bindL;exact Da (i:=i) (ax.mp nd).2 (by simpa using h1) (by simpa using h2) hk
theorem CO{kindOf:Str->Option NameKind}{x:Str}{v:Value}:∀{P:List Str}{vs:List Value}{i:Nat}{m:Str->Option Value},P.Nodup->P[i]?=some x->vs[i]?=some v->kindOf x≠some .local ->
  bindC kindOf (P.zip vs) m x=some v
 | [],_,_,_,_,h,_,_=>by simp at h
 |_::_,[],_,_,_,_,h,_=>by simp at h
 |p::P,w::vs,0,m,nd,h1,h2,hk=>by
  simp at h1 h2;subst h1;subst h2;show bindC kindOf ((p,w)::P.zip vs) m p=_;unfold bindC;rw[Dp λv hv=>(ax.mp nd).1 (fY hv).1,oB hk]
  simp
 |p::P,w::vs,i+1,m,nd,h1,h2,hk=>by
  show bindC kindOf ((p,w)::P.zip vs) m x=_;unfold bindC;exact CO (i:=i) (ax.mp nd).2 (by simpa using h1) (by simpa using h2) hk
def sZ(N:List Str) (vs:List V):St:=vs.map some++aO (N.length-vs.length) none
def Ei(CX:Ko) (P:iT) (w:iU) (K:W.Frag) (mg:Str->Option Value) (base:Heap) (N:List Str) (qual:Str) (scope:jI) (f:Addr) (cd:Value) (A:Around) (outer:List Env) (s:Shared) (H:Hp) (E:XK):Cx where
 prog:=P
 w:=w
 K:=K
 mg:=mg
 base:=base
 A:=A.deeper (jz qual scope s.heap.objs.size f cd)
 N:=N
 s₀:=s
 H₀:=H
 env:=jz qual scope s.heap.objs.size f cd
 outer:=outer
 stack:=jz qual scope s.heap.objs.size f cd::outer
 ex:=[]
 calm:=true
 fn:=λ_=>true
 pn:=[]
 xe:=λe s'=>iM (iO P w) (A.deeper (jz qual scope s.heap.objs.size f cd)) (leaving (jz qual scope s.heap.objs.size f cd) e) (λ_ s''=>CX outer H s E e s'') (λe' s''=>CX outer H s E e' s'') s'
theorem FK{sc:jI}{n:Nat}{x:Str}(h:sc.names.lookup x=some .cell):∃c,(cellsFrom n sc.names []).lookup x=some c:=by
 have q:=W.cellsFrom_some sc.names n [] (.inl h);exact Option.isSome_iff_exists.mp q
theorem IY{CX:Ko}{P:iT}{w:iU}{K:W.Frag}{mg:Str->Option Value}{base:Heap}{N ps:List Str}{qual:Str}{scope:jI}{f:Addr}{cd:Value}{A:Around}{outer:List Env}{s s1:Shared}{H:Hp}{E:XK}{us:List Value}{vs:List V}
  (S:oY N ps scope) (hd:A.handled=none) (e0:N9 P w K mg base A outer s H) (hl:vs.length=ps.length) (r:oQ vs us)
  (x:InCallC s s.heap.objs.size (bindL (jz qual scope s.heap.objs.size f cd).kindOf (ps.zip us) λ_=>none) (cellsFrom (s.heap.objs.size+1) scope.names []) (bindC (jz qual scope s.heap.objs.size f cd).kindOf (ps.zip us) λ_=>none) s1) :
  Inv (Ei CX P w K mg base N qual scope f cd A outer s H E) [] (sZ N vs) H s1:=by
 have hpl:ps.length<=N.length:=by have:=congrArg bL S.pre;rw[lTq]at this;lia
 obtain⟨h1,tk,rfl,hk⟩:=x.done;have noA:∀b:Addr,b∉(Ei CX P w K mg base N qual scope f cd A outer s H E).ex:=λb z=>absurd (show b∈([]:List Addr) from z) (by simp)
 refine⟨⟨e0.mod,S.kind,rfl,rfl,ag _,λy z c h1 h2=>?_,λy hy=>?_,λy c _ h=>?_,λ_=>hd,Around.frames_deeper e0.frames,.inr ⟨rfl,rfl⟩,λb z=>absurd z (noA b),e0.bs,e0.bsz,λb _ _=>noA b,λb z=>absurd z (noA b),e0.funs,e0.frf⟩,
  rfl,e0.bare,Un.kept hk,⟨_,x.toInCall.ns,λi y v h1 h2 h3=>?_⟩,λy c h=>⟨_,x.cell y c h⟩,e0.hok.fresh (ag _),λy c h=>?_,λp hp=>absurd (show p∈([]:List (Addr×Obj)) from hp) (by simp),e0.hok.kept hk,?_⟩
 .exact name_of_addr x.apart (PySem.mem_of_lookup h1) (PySem.mem_of_lookup h2)
 .have hy:scope.names.lookup y=some .cell∨scope.names.lookup y=some .free:=hy;rcases hy with hy|hy
  .exact FK hy
  .exact absurd rfl (S.nofree _ (PySem.mem_of_lookup hy))
 .exact cw (x.above y c (PySem.mem_of_lookup h))
 .have hi:i<vs.length:=by
   unfold sZ at h2
   by_cases hi:i<vs.length
   .exact hi
   .rw [gYq (by simpa using hi)]at h2
    rw[bC]at h2;split at h2 <;> cases h2
  have ha:vs[i]?=some v:=by
   unfold sZ at h2;rw[gZq (by simpa using hi),gMq]at h2
   cases e:vs[i]? with
   |none=>rw[e]at h2;cases h2
   |some a=>rw[e]at h2;cases h2;rfl
  obtain⟨u,hu,rv⟩:=r.get ha;have hp:ps[i]?=some y:=by
   rw[←S.pre,df (by lia)];exact h1
  have ndP:ps.Nodup:=by rw[←S.pre];exact S.nd.sublist (bD _ _)
  refine⟨u,rv,?_⟩;rcases S.par y (mGq hp) with k|k
  .exact .inl ⟨k,Da ndP hp hu k⟩
  .obtain ⟨c,e⟩:=FK (n:=s.heap.objs.size+1) k;refine .inr ⟨.inl k,c,e,?_⟩;have q:=x.cell y c e;rw[CO ndP hp hu (by show scope.names.lookup y≠_;rw[k];decide)]at q
   exact q
 .exact e0.hok.fresh (cw (x.above y c (PySem.mem_of_lookup h)))
 .unfold sZ;show _=N.length;rw[lAq,lMq,dF];lia
theorem Qd{CX:Ko}{P:iT}{w:iU}{K:W.Frag}{mg:Str->Option Value}{base:Heap}{k:Nat}{f:Addr}{name qual:Str}{params:Arguments}{body:List Stmt}{scope:jI}{dV kV doc pm tj ct oc:Value}{an od:Option Addr}
  {osl:Array (Option Value)}{N ps:List Str}{sp:Sp}(lk:K.lookup f=some ⟨oc,od,.func (W.fnOf name qual params body scope dV kV doc pm an tj ct),osl⟩) (hcd:W.codeIn K tj qual=true) (S:oY N ps scope)
  (len:∀vs H Q E,sp vs H Q E->vs.length=ps.length)
  (hbody:∀(A:Around) (outer:List Env) (s:Shared) (H:Hp) (vs:List V) (Q:VK) (E:XK),uu k (A.deeper (jz qual scope s.heap.objs.size f tj))->sp vs H Q E ->
   ∃t,IT (Ei CX P w K mg base N qual scope f tj A outer s H E) body t/\t { nx:=λ_ H'=>Q .non H',rt:=Q } (sZ N vs) H) :
  yW P w K mg base CX (k+1) f (W.fnOf name qual params body scope dV kV doc pm an tj ct) ps sp:=by
 refine⟨len,λA outer s H args us vs Q E hr e0 hb r hsp=>?_⟩
 have hl:=len _ _ _ _ hsp;have KX:K.In s.heap:=e0.mod.kin.keeps λb o e=>(e0.bs b o e).1
 have lim:s.heap.NoLimit:=e0.mod.nolimit.keeps λb o e=>(e0.bs b o e).1
 have hkind:∀y∈ps.zip us,scope.names.lookup y.1=some .local∨(scope.names.lookup y.1=some .cell/\((cellsFrom (s.heap.objs.size+1) scope.names []).lookup y.1).isSome=true):=λ⟨n,v⟩ hy=>by
  rcases S.par n (fY hy).1 with q|q
  .exact .inl q
  .exact .inr ⟨q,W.cellsFrom_some _ _ _ (.inl q)⟩
 refine codeAny_call_function hr.depth (KX _ _ lk) rfl S.co S.gen rfl (W.codeRec_of KX hcd) (hb _ _ _ _ ?_);refine wpAny_newFunctionEnv_cells S.kind hkind λenv he s1 x=>?_
 subst he;refine⟨lim.keeps x.toInCall.keep,codeAny_func ?_⟩;obtain⟨t,ht,hq⟩:=hbody A outer s H vs Q E (hr.deeper _) hsp;have I:Inv (Ei CX P w K mg base N qual scope f tj A outer s H E) [] (sZ N vs) H s1:=IY S hr.hd e0 hl r x;refine jc (ht [] s1 (sZ N vs) H _ I hq) (λfl s' hs=>?_) λe s' hs=>hs
 have fin:∀{σ':St}{H':Hp}{v:V}{u:Value},Inv (Ei CX P w K mg base N qual scope f tj A outer s H E) [] σ' H' s'->pY v u->Q v H'->CE outer P w H s Q u s' :=
  λ{σ' H' v u} J rv q=>⟨v,H',J.os,J.bare,J.base,J.hok,rv,q⟩
 cases fl with
 |ret u =>
  obtain⟨v,σ',H',J,rv,q⟩:=hs;exact fin J rv q
 |next =>
  obtain⟨σ',H',J,q⟩:=hs;exact fin (v:=V.non) (u:=cg) J rfl q
 |brk =>
  obtain⟨_,_,_,q⟩:=hs;exact False.elim q
 |cont =>
  obtain⟨_,_,_,q⟩:=hs;exact False.elim q
section
variable {X:Cx}{x:Str}{p pos:Pos}{e:Expr}{es:List Expr}{t:TA}{id T:String}{r:List V->Hp->VK->Prop}
def N3(r:List V->Hp->VK->Prop) (t:TA):TE:=λσ H Q=>t σ H λvs H1=>r vs H1 Q
theorem oq(hc:sF X (.builtin id) r) (hg:Gl X x) (hm:X.mg x=none) (hv:jY x=some (.builtin id)) (ha:PA X (e::es) t) (hn:x ≠ "__name__" := by decide) (hdb:(x == ("__debug__" : Str))=false:=by decide)
  (he:iW (e::es) X.env=(false,eval e X.env)::iW es X.env:=by rfl) (hpl:(jS pos (iW es X.env)).any (·.1)=false:=by rfl):PE X (.Call (.Name x p) (e::es) [] pos) (N3 r t):=by
 intro nA s σ H Q I h;refine jv (vI I hg hm hv ?_ hn hdb);exact ff (thn (ha pos nA s σ H _ I h) λus s1 ⟨vs,H1,I1,r1,q1⟩=>hc nA s1 σ H1 vs us Q I1 r1 q1) he hpl
theorem yo(hc:sF X (.type T) r) (hg:Gl X x) (hm:X.mg x=none) (hv:jY x=some (.type T)) (ha:PA X (e::es) t) (hn:x ≠ "__name__" := by decide) (hdb:(x == ("__debug__" : Str))=false:=by decide)
  (he:iW (e::es) X.env=(false,eval e X.env)::iW es X.env:=by rfl) (hpl:(jS pos (iW es X.env)).any (·.1)=false:=by rfl):PE X (.Call (.Name x p) (e::es) [] pos) (N3 r t):=by
 intro nA s σ H Q I h;refine jv (vI I hg hm hv ?_ hn hdb);exact bz (thn (ha pos nA s σ H _ I h) λus s1 ⟨vs,H1,I1,r1,q1⟩=>hc nA s1 σ H1 vs us Q I1 r1 q1) he hpl
end
end L2
namespace HT
open PySem PyProof.Rows
def rF:List Int->List Int->Bool
 | [],[]=>false
 | [],_::_=>true
 |_::_,[]=>false
 |x::xs,y::ys=>if x=y then rF xs ys else decide (x<y)
theorem wX(x y:Int) (xs ys:List Int):rF (x::xs) (y::ys)=if x=y then rF xs ys else decide (x<y):=rfl
theorem Ct:rF [] []=false:=rfl
theorem BF(y:Int) (ys:List Int):rF [] (y::ys)=true:=rfl
theorem B4(x:Int) (xs:List Int):rF (x::xs) []=false:=rfl
theorem Mc(A:Around) (s:Shared) (a:Int) (t:Tok) (c:Int) (u:Tok):∃e,SeqAt.EqAt A s (.int a t) (.int c u) e/\(e=true↔a=c) :=
 ⟨(a == c),SeqAt.EqAt.int_int a t c u,by simp⟩
theorem Kv(A:Around) (s:Shared) (a:Int) (t:Tok) (c:Int) (u:Tok) (prog:iT) (w:iU) (E:Value->Shared->Prop) (Q:Value->Shared->Prop) (h:Q (.bool (decide (a<c))) s) :
  iM (iO prog w) A (richCompare .Lt (.int a t) (.int c u)) Q E s :=
 (iI h:iM (iO prog w) A (jq .Lt (.int a t) (.int c u)) Q E s)
section
open PySem.SeqAt
open PySem.AutoSeq1 (wpAny_loadPart')
open PySem.MeetsSeq PySem.MeetsSeq2 PySem.MeetsSeq3
end
section
variable {prog:iT}{w:iU}{A:Around}{E:Value->Shared->Prop}{s:Shared}
def Di(n d:Nat):Option Int->Nat
 |none=>d
 |some v=>if v<0 then (v+(n:Int)).toNat else min v.toNat n
theorem EZ(n d:Nat):Di n d none=d:=rfl
theorem A0(n d k:Nat):Di n d (some (k:Int))=min k n:=by
 show (if (k:Int)<0 then ((k:Int)+(n:Int)).toNat else min (k:Int).toNat n)=min k n
 rw[oB (by lia),aX]
end
end HT
namespace L2
open PySem PySem.Spec PyProof.Rows
abbrev TO:=St->Hp->(Option Int->Hp->Prop)->Prop
def PO(X:Cx) (e:Option Expr) (t:TO):Prop :=
 ∀(nA:List (Addr×Obj)) (s:Shared) (σ:St) (H:Hp) (Q:Option Int->Hp->Prop),Inv X nA σ H s->t σ H Q ->
  iM (iO X.prog X.w) X.A (evalPart e X.env) (λu s'=>∃o H',Inv X nA σ H' s'/\IsPart u o/\Q o H') X.xe s
def Ii:TO:=λ_ H Q=>Q none H
def Qq(t:TE):TO:=λσ H Q=>t σ H λx H1=>∃i,x = .int i/\Q (some i) H1
theorem yS{ns:List Int}:∀{us:List Value},oQ (ns.map V.int) us->jd us ns:=by
 induction ns with
 |nil=>intro us r;rw[fS]at r;cases r;exact .nil
 |cons n ns ih =>
  intro us r;rw[aC]at r;cases r with
  |cons r1 r2 =>
   obtain⟨t,e⟩:=r1;subst e;exact .cons n t (ih r2)
section
variable {X:Cx}{e:Expr}{te:TE}{lo hi:Option Expr}{tl th:TO}{pos p2:Pos}
theorem AR:PO X none Ii:=by
 intro nA s σ H Q I h;rw[evalPart_none];exact iN ⟨none,H,I,.none,h⟩
theorem yh(h:PE X e te):PO X (some e) (Qq te):=by
 intro nA s σ H Q I hw;rw[evalPart_some];refine thn (h nA s σ H _ I hw) λu s1 ⟨x,H1,I1,r1,q1⟩=>?_
 obtain⟨i,rfl,q⟩:=q1;obtain⟨t,rfl⟩:=r1;exact⟨some i,H1,I1,.int i t,q⟩
def WY(X:Cx) (r:V->Option Int->Option Int->Hp->VK->Prop):Prop :=
 ∀(nA:List (Addr×Obj)) (s:Shared) (σ:St) (H:Hp) (x:V) (v vl vu:Value) (lo hi:Option Int) (sl:Addr) (Q:VK),Inv X nA σ H s->pY x v->s.heap.IsSliceOf sl vl vu .none->IsPart vl lo->IsPart vu hi->r x lo hi H Q ->
  ∃T id,kz (.type T) "__getitem__" = pure (some (.builtin id))/\s.TypeIs v T/\iM (iO X.prog X.w) X.A (lK v (.ref sl)) (EP X nA σ Q) X.xe s
def WQ(r:V->Option Int->Option Int->Hp->VK->Prop) (te:TE) (tl th:TO):TE:=λσ H Q=>te σ H λx H1=>tl σ H1 λl H2=>th σ H2 λu H3=>r x l u H3 Q
theorem xJ{r:V->Option Int->Option Int->Hp->VK->Prop}(hr:WY X r) (he:PE X e te) (hl:PO X lo tl) (hu:PO X hi th):PE X (.Subscript e (.Slice lo hi none p2) pos) (WQ r te tl th):=by
 intro nA s σ H Q I h;refine Subscript_ (thn (he nA s σ H _ I h) λv s1 ⟨x,H1,I1,r1,q1⟩=>?_)
 refine wpAny_Slice (thn (hl nA s1 σ H1 _ I1 q1) λvl s2 ⟨l,H2,I2,pl,q2⟩=>thn (hu nA s2 σ H2 _ I2 q2) λvu s3 ⟨u,H3,I3,pu,q3⟩=>?_)
 rw[evalPart_none];refine iN ?_;have I4:Inv X nA σ H3 { s3 with heap:=s3.heap.push { cls:=.type "slice", data:=.fields #[vl,vu,.none] } }:=I3.kept (t':=s3.toks) λb ob q=>ae _ q
 obtain⟨T,id,hT,ht,hg⟩:=hr nA { s3 with heap:=s3.heap.push { cls:=.type "slice", data:=.fields #[vl,vu,.none] } } σ H3 x v vl vu l u s3.heap.objs.size Q I4 r1 (Heap.IsSliceOf.new ..) pl pu q3
 show iM (iO X.prog X.w) X.A (mj e (.Slice lo hi none p2) v (.ref s3.heap.objs.size)) (EP X nA σ Q) X.xe { s3 with heap:=s3.heap.push { cls:=.type "slice", data:=.fields #[vl,vu,.none] } }
 exact tail_any (ops:=[.ref s3.heap.objs.size,v]) ht hT hg (by with_unfolding_all rfl)
def Gr(xs:List V) (lo hi:Option Int):List V:=(xs.drop (HT.Di xs.length 0 lo)).take (HT.Di xs.length xs.length hi-HT.Di xs.length 0 lo)
theorem Fz(xs:List V) (lo hi:Option Int):(Gr xs lo hi).length<=xs.length:=by
 unfold Gr;rw[lTq,aS];lia
end
def E1(n:Nat) (i:Int):Option Nat:=if 0<=i then (if i<n then some i.toNat else none) else if -(n:Int)<=i then some (i+n).toNat else none
def atI{α:Type}(xs:List α) (i:Int):Option α:=(E1 xs.length i).bind λj=>xs[j]?
theorem HZ{n:Nat}{i:Int}{j:Nat}(h:E1 n i=some j):mD i n=some j/\j<n/\-(n:Int)<=i/\i<n:=by
 unfold E1 at h
 by_cases h0:0<=i
 .rw [oz h0]at h
  by_cases h1:i<n
  .rw [oz h1]at h;have e:i.toNat=j:=aU.inj h;exact⟨by rw[seqIndex_of h0 h1,e],by lia,by lia,h1⟩
  .rw [oB h1]at h;cases h
 .rw [oB h0]at h
  by_cases h1:-(n:Int)<=i
  .rw [oz h1]at h;have e:(i+n).toNat=j:=aU.inj h;exact⟨by rw[seqIndex_neg (by lia) h1,e],by lia,h1,by lia⟩
  .rw [oB h1]at h;cases h
theorem Ib{α:Type}{xs:List α}{i:Int}{v:α}(h:atI xs i=some v):∃j,mD i xs.length=some j/\xs[j]?=some v/\j<xs.length/\-(xs.length:Int)<=i/\i<xs.length:=by
 unfold atI at h;cases e:E1 xs.length i with
 |none=>rw[e]at h;cases h
 |some j =>
  rw[e]at h;obtain⟨h1,h2,h3,h4⟩:=HZ e;exact⟨j,h1,h,h2,h3,h4⟩
theorem si{α:Type}{xs:List α}{j:Nat}{v:α}(h:xs[j]?=some v):atI xs (j:Int)=some v:=by
 have hj:j<xs.length:=(gSq.mp h).1;have e:E1 xs.length (j:Int)=some j:=by
  unfold E1;rw[oz (by lia),oz (by lia)];simp
 unfold atI;rw[e];exact h
theorem B1{α:Type}(xs:List α) (v:α):atI (xs++[v]) (-1)=some v:=by
 have hl:(xs++[v]).length=xs.length+1:=by simp
 have e:E1 (xs++[v]).length (-1)=some xs.length:=by
  unfold E1;rw[hl,oB (by decide),oz (by lia)]
  congr 1;lia
 unfold atI;rw[e];show (xs++[v])[xs.length]?=some v;simp
def OZ(b:Expr):Prop:=∀o i,kZ b false o i=operate [o,i] (lK o i)
def O1(X:Cx) (r:R2):Prop :=
 ∀(value slice:Expr) (nA:List (Addr×Obj)) (s:Shared) (σ:St) (H:Hp) (x y:V) (v u:Value) (Q:VK),Inv X nA σ H s->pY x v->pY y u->r x y H Q ->
  kZ slice false v u=operate [v,u] (lK v u)->iM (iO X.prog X.w) X.A (mj value slice v u) (EP X nA σ Q) X.xe s
def Vv(X:Cx) (id:String) (r:V->List V->Hp->VK->Prop):Prop :=
 ∀(nA:List (Addr×Obj)) (s:Shared) (σ:St) (H:Hp) (x:V) (xs:List V) (v:Value) (us:List Value) (Q:VK),Inv X nA σ H s->pY x v->oQ xs us->r x xs H Q ->
  iM (iO X.prog X.w) X.A (call (.builtin id) (v::us)) (EP X nA σ Q) X.xe s
section
variable {X:Cx}{a b:Expr}{ta tb:TE}{pos:Pos}
theorem O1.or{r r':R2}(h:O1 X r) (h':O1 X r'):O1 X (λx y H Q=>r x y H Q∨r' x y H Q):=by
 intro value slice nA s σ H x y v u Q I rx ry q hs;rcases q with q|q
 .exact h value slice nA s σ H x y v u Q I rx ry q hs
 .exact h' value slice nA s σ H x y v u Q I rx ry q hs
theorem qU{r:R2}(hr:O1 X r) (ha:PE X a ta) (hb:PE X b tb) (hs:OZ b):PE X (.Subscript a b pos) (OH r ta tb):=by
 intro nA s σ H Q I h;exact Subscript_ (RQ ha hb I h λv u s2 x y H2 I2 rx ry q=>hr a b nA s2 σ H2 x y v u Q I2 rx ry q (hs _ _))
def KU(K:W.Frag):R2:=λx y H Q=>∃p xs i v,x = .ref p/\y = .int i/\qS K H p xs/\atI xs i=some v/\Q v H
def QL(K:W.Frag):R2:=λx y H Q=>∃p xs i v,x = .ref p/\y = .int i/\BR K H p xs/\atI xs i=some v/\Q v H
theorem pM:O1 X (KU X.K):=by
 intro value slice nA s σ H x y v u Q I rx ry h hs;obtain⟨p,xs,i,z,rfl,rfl,hq,he,q⟩:=h;cases rx;obtain⟨t,rfl⟩:=ry;obtain⟨its,r,pl,hz⟩:=I.list hq;obtain⟨j,h1,h2,h3,h4,h5⟩:=Ib he;obtain⟨w,ew,rw'⟩:=r.get h2;have hl:=r.length;have hn:=Et;have fin:EP X nA σ Q w s:=⟨z,H,I,rw',q⟩
 by_cases h0:0<=i
 .have hj:i.toNat=j:=by
   rw[seqIndex_of h0 h5]at h1;exact aU.inj h1
  exact item_listR pl.isList h0 (by lia) (by rw[hj];simpa using ew) fin hs
 .have hj:(i+(its.toArray.size:Int)).toNat=j:=by
   rw[seqIndex_neg (by lia) h4]at h1
   rw[ay,←hl];exact aU.inj h1
  exact kU (x:=w) pl.isList.typeIs slot_list_getitem.lookup
   (wpAny_getItem_list_neg (Q:=λr s'=>r=w/\EP X nA σ Q r s') pl.isList (by lia) (by rw[ay] <;> lia) (by lia) (by rw[hj];simpa using ew) ⟨rfl,fin⟩) hs
theorem Eu:O1 X (QL X.K):=by
 intro value slice nA s σ H x y v u Q I rx ry h hs;obtain⟨p,xs,i,z,rfl,rfl,hq,he,q⟩:=h;cases rx;obtain⟨t,rfl⟩:=ry;obtain⟨its,r,pl,hz⟩:=I.tuple hq;obtain⟨j,h1,h2,h3,h4,h5⟩:=Ib he;obtain⟨w,ew,rw'⟩:=r.get h2;have hl:=r.length;have hn:=Et;have fin:EP X nA σ Q w s:=⟨z,H,I,rw',q⟩;exact kU (x:=w) pl.typeIs slot_tuple_getitem.lookup
  (getItem_tuple (j:=j) (Q:=λr s'=>r=w/\EP X nA σ Q r s') pl (by lia) (by lia) (by rw[ay,←hl];exact h1) (by simpa using ew) ⟨rfl,fin⟩) hs
theorem D5(lo hi:Option Int) (n:Nat):(jT lo hi none n).1=((HT.Di n 0 lo:Nat):Int)/\(jT lo hi none n).2.1=((HT.Di n n hi:Nat):Int)/\(jT lo hi none n).2.2=1:=by
 refine⟨?_,?_,rfl⟩
 .cases lo with
  |none=>simp[jT,HT.Di]
  |some i =>
   simp only[jT,HT.Di,gR,show (1:Int)>0 by decide,if_true]
   by_cases h:i<0
   .simp only [h,if_true] <;> lia
   .simp only [h,if_false] <;> lia
 .cases hi with
  |none=>simp[jT,HT.Di]
  |some i =>
   simp only[jT,HT.Di,gR,show (1:Int)>0 by decide,if_true]
   by_cases h:i<0
   .simp only [h,if_true] <;> lia
   .simp only [h,if_false] <;> lia
theorem Cq(its:List Value) (lo hi:Option Int):slicePick its.toArray lo hi none=((its.drop (HT.Di its.length 0 lo)).take (HT.Di its.length its.length hi-HT.Di its.length 0 lo)).toArray:=by
 obtain⟨h1,h2,h3⟩:=D5 lo hi its.toArray.size;unfold slicePick;rw[h1,h2,h3];simp only[sliceRange_one,pick_run,ay] <;> rfl
def TC(K:W.Frag):V->Option Int->Option Int->Hp->VK->Prop:=λx lo hi H Q=>∃a xs,x = .ref a/\qS K H a xs/\∀p,H p=none->Q (.ref p) (pX H p (.lst (Gr xs lo hi)))
theorem zw:WY X (TC X.K):=by
 intro nA s σ H x v vl vu lo hi sl Q I rx hs pl pu h;obtain⟨a,xs,rfl,hx,q⟩:=h;cases rx;obtain⟨its,r,ht,hz⟩:=I.list hx;have hlen:=r.length;refine⟨"list", _,slot_list_getitem.lookup,ht.isList.typeIs,?_⟩;refine wpAny_getItem_list_slice ht.isList hs pl pu .none (by simp) ?_ (by rw[ay] <;> lia)
 rw[Cq,←hlen];refine⟨.ref s.heap.objs.size,_,I.laid (t':=s.toks) (o:=.lst (Gr xs lo hi)) (λb ob q=>ae _ q) (ag _) ?_,rfl,q _ (I.hok.fresh (ag _))⟩
 exact⟨bJ (Fz xs lo hi) hz,_,0,(r.drop (HT.Di xs.length 0 lo)).take (HT.Di xs.length xs.length hi-HT.Di xs.length 0 lo),az _ rfl⟩
theorem sF.or{f:Value}{r r':List V->Hp->VK->Prop}(h:sF X f r) (h':sF X f r'):sF X f (λxs H Q=>r xs H Q∨r' xs H Q):=by
 intro nA s σ H xs us Q I rs q;rcases q with q|q
 .exact h nA s σ H xs us Q I rs q
 .exact h' nA s σ H xs us Q I rs q
theorem wO:sF X (.type "list") (λxs H Q=>∃p ys,xs=[.ref p]/\(qS X.K H p ys∨BR X.K H p ys)/\∀l,H l=none->Q (.ref l) (pX H l (.lst ys))):=by
 intro nA s σ H xs us Q I r h;obtain⟨p,ys,rfl,hq,q⟩:=h;obtain⟨u,rfl,rx⟩:=xw r;cases rx;have fin:∀(its:List Value),oQ ys its->ys.length<=iR->∀(h':Heap) (c':Nat),(∀b o',s.heap.get? b=some o'->h'.get? b=some o') ->
   h'.get? s.heap.objs.size=some { cls:=.type "list", dict:=none,data:=.seq its.toArray c',slots:=#[] }->EP X nA σ Q (.ref s.heap.objs.size) { s with heap:=h' }:=λits r' hz h' c' kp e =>
  ⟨.ref s.heap.objs.size,_,I.laid (t':=s.toks) kp (ag _) (show qr X.prog X.w _ h' _ (.lst ys) from ⟨hz,its,c',r',e⟩),rfl,q _ (I.hok.fresh (ag _))⟩
 rcases hq with hq|hq
 .obtain ⟨its,r',pl,hz⟩:=I.list hq;have hlen:=r'.length;obtain⟨o,ho,hc,n,hd⟩:=pl.isList;exact call_list_seq p (.inl rfl) ho hc hd (λh' c' kp e=>fin its r' hz h' c' kp e) (by simp only[ay] <;> lia)
 .obtain ⟨its,r',pl,hz⟩:=I.tuple hq;have hlen:=r'.length;obtain⟨o,ho,hc,n,hd⟩:=pl;exact call_list_seq p (.inr rfl) ho hc hd (λh' c' kp e=>fin its r' hz h' c' kp e) (by simp only[ay] <;> lia)
def Vt(K:W.Frag) (T:String) (x:V) (H:Hp):Prop:=match x with
 | .str _=>T = "str"
 | .int _=>T = "int"
 | .ref p=>(T = "list" /\ ∃xs,qS K H p xs)∨(T = "tuple" /\ ∃o,K.lookup p=some o/\o.cls = .type "tuple" /\ o.dict=none) ∨
   (T = "dict" /\ ((∃kvs,H p=some (.dK kvs))∨∃kvs,H p=some (.dT kvs)))∨(T = "set" /\ ∃S n,H p=some (.set S n))
 |_=>False
theorem K2{nA:List (Addr×Obj)}{σ:St}{H:Hp}{s:Shared}{T:String}{x:V}{v:Value}(I:Inv X nA σ H s) (r:pY x v) (ty:Vt X.K T x H) :
  s.TypeIs v T/\∀a,v = .ref a->∃ob,s.heap.get? a=some ob/\ob.dict=none:=by
 cases x with
 |str z =>
  obtain⟨t,rfl⟩:=r;cases (show T = "str" from ty)
  exact⟨typeIs_str s z t,λ_ e=>nomatch e⟩
 |int i =>
  obtain⟨t,rfl⟩:=r;cases (show T = "int" from ty)
  exact⟨typeIs_int s i t,λ_ e=>nomatch e⟩
 |ref p =>
  cases r;rcases ty with ⟨rfl,xs,hq⟩|⟨rfl,o,hk,hc,hd⟩|⟨rfl,hk⟩|⟨rfl,S,n,hk⟩
  .obtain ⟨its,_,pl,_⟩:=I.list hq;refine⟨pl.isList.typeIs,λa e=>?_⟩
   cases e;obtain⟨o,n,e,c,hd,_⟩:=pl;exact⟨o,e,hd⟩
  .refine ⟨⟨o,I.kIn p o hk,hc⟩,λa e=>?_⟩
   cases e;exact⟨o,I.kIn _ o hk,hd⟩
  .have z:∃o,s.heap.get? p=some o/\o.ExactDict:=by
    rcases hk with ⟨kvs,hk⟩|⟨kvs,hk⟩
    .obtain ⟨_,_,_,_,o,_,_,e,ex,_⟩:=I.hok p _ hk;exact⟨o,e,ex⟩
    .obtain ⟨_,_,_,_,o,_,_,e,ex,_⟩:=I.hok p _ hk;exact⟨o,e,ex⟩
   obtain⟨o,e,ex⟩:=z;refine⟨⟨o,e,ex.1⟩,λa e2=>?_⟩
   cases e2;exact⟨o,e,ex.2.1⟩
  .obtain ⟨o,_,_,_,e,ex,_⟩:=I.hok p _ hk;refine⟨⟨o,e,ex.1⟩,λa e2=>?_⟩
   cases e2;exact⟨o,e,ex.2.1⟩
 |_=>exact False.elim ty
def UT(K:W.Frag) (T:String) (r:V->List V->Hp->VK->Prop) (to:TE):TE:=λσ H Q=>to σ H λx H1=>Vt K T x H1/\r x [] H1 Q
def N1(K:W.Frag) (T:String) (r:V->List V->Hp->VK->Prop) (to:TE) (t:TA):TE:=λσ H Q=>to σ H λx H1=>Vt K T x H1/\t σ H1 λxs H2=>r x xs H2 Q
variable {o e:Expr}{es:List Expr}{to:TE}{t:TA}{name:Str}{apos cpos:Pos}{T id:String}{r:V->List V->Hp->VK->Prop}
theorem Cg(pa:PlainAttrs T) (slot:Slot T name id) (hty:typeOf (.builtin id)=pure (.type "method_descriptor")) (hm:Vv X id r) (ho:PE X o to)
  (hbase:attributeBase o name X.env (eval o X.env)=eval o X.env:=by rfl) (hline:(apos.endLine == cpos.line)=true:=by rfl):PE X (.Call (.Attribute o name apos) [] [] cpos) (UT X.K T r to):=by
 intro nA s σ H Q I h;refine wpAny_Call_method0_late hbase hline (thn (ho nA s σ H _ I h) λv s1 ⟨x,H1,I1,r1,ty,q1⟩=>?_)
 obtain⟨h1,h2⟩:=K2 I1 r1 ty;exact⟨T,id,pa,slot,hty,h1,h2,Calls.callWith_builtin rfl (PySem.evalArgs_none (hm nA s1 σ H1 x [] v [] Q I1 r1 .nil q1))⟩
theorem rJ(pa:PlainAttrs T) (slot:Slot T name id) (hty:typeOf (.builtin id)=pure (.type "method_descriptor")) (hm:Vv X id r) (ho:PE X o to) (ha:PA X (e::es) t)
  (hbase:attributeBase o name X.env (eval o X.env)=eval o X.env:=by rfl)
  (hfew:((jS cpos (iW (e::es) X.env)).all (λx=>!x.1) && (backToKw cpos (keywordEach [] X.env)).all (λx=>x.1.isSome)
   && decide ((e::es).length+([]:List Keyword).length+(if ([]:List Keyword).isEmpty then 0 else 1)<30))=true:=by rfl)
  (hline:(apos.endLine == cpos.line)=true:=by rfl) (hs:iW (e::es) X.env=(false,eval e X.env)::iW es X.env:=by rfl) (hplain:(jS cpos (iW es X.env)).any (·.1)=false:=by rfl) :
  PE X (.Call (.Attribute o name apos) (e::es) [] cpos) (N1 X.K T r to t):=by
 intro nA s σ H Q I h;refine wpAny_Call_method_late hbase hfew hline rfl (thn (ho nA s σ H _ I h) λv s1 ⟨x,H1,I1,r1,ty,q1⟩=>?_)
 obtain⟨h1,h2⟩:=K2 I1 r1 ty;refine⟨T,id,pa,slot,hty,h1,h2,?_⟩;have hA:=ha cpos nA s1 σ H1 _ I1 q1;rw[hs]at hA ⊢;refine Calls.callWith_builtin (by show (false || (jS cpos (iW es X.env)).any (·.1))=false;rw[hplain] <;> rfl) (Calls.evalArgs_plain ?_)
 exact thn hA λus s2 ⟨vs,H2,I2,r2,q2⟩=>hm nA s2 σ H2 x vs v us Q I2 r1 r2 q2
/- xs.append(e),list.index on a module's tuple .. are Vv facts of 06m -/
end
def Vk(X:Cx) (id:String) (r:V->List V->Hp->VK->Prop):Prop :=
 ∀(nA:List (Addr×Obj)) (s:Shared) (σ:St) (H:Hp) (x:V) (xs:List V) (v:Value) (us:List Value) (Q:VK),Inv X nA σ H s->pY x v->oQ xs us->r x xs H Q ->
  iM (iO X.prog X.w) X.A (call (.builtin id) (v::us)) (EP X nA σ Q) X.xe s
theorem oQ.one:∀{x:V}{us:List Value},oQ [x] us->∃u,us=[u]/\pY x u
 |_,_,.cons r .nil=>⟨_,rfl,r⟩
theorem oQ.zero:∀{us:List Value},oQ [] us->us=[]
 |_,.nil=>rfl
theorem oQ.dropLast{xs:List V}{us:List Value}(h:oQ xs us):oQ xs.dropLast us.dropLast:=by
 induction h with
 |nil=>exact .nil
 |cons r t ih =>
  cases t with
  |nil=>exact .nil
  |cons q t'=>exact .cons r ih
theorem oQ.eraseIdx:∀{xs:List V}{us:List Value}(i:Nat),oQ xs us->oQ (xs.eraseIdx i) (us.eraseIdx i)
 |_,_,_,.nil=>.nil
 |_,_,0,.cons _ t=>t
 |_,_,i+1,.cons r t=>.cons r (oQ.eraseIdx i t)
theorem yQ{α:Type}(l:List α):l.eraseIdx (l.length-1)=l.dropLast:=by
 induction l with
 |nil=>rfl
 |cons a r ih =>
  cases r with
  |nil=>rfl
  |cons b r =>
   have e:(a::b::r).length-1=((b::r).length-1)+1:=by
    have h1:(a::b::r).length=r.length+2:=rfl;have h2:(b::r).length=r.length+1:=rfl;lia
   rw[e,bX,ih]
   all_goals rfl
theorem Du{α:Type}:∀(l:List α) (i:Nat),(l.eraseIdx i).length<=l.length
 | [],_=>ag _
 |_::_,0=>bH _
 |_::r,i+1=>Nat.succ_le_succ (Du r i)
section
variable {X:Cx}{nA:List (Addr×Obj)}{σ:St}{H:Hp}{s:Shared}{l b:Addr}{xs ys zs:List V}
theorem Inv.lset{its its':List Value}{n:Nat}{f:Array Value->Array Value}{t':Nat}(I:Inv X nA σ H s) (hH:H l=some (.lst xs))
  (e:s.heap.get? l=some { cls:=.type "list", data:=.seq its.toArray n }) (hf:f its.toArray=its'.toArray) (hv:oQ ys its') (hz:ys.length<=iR) :
  Inv X nA σ (pX H l (.lst ys)) { s with heap:=s.heap.update l (Obj.mapSeq f),toks:=t' }:=by
 have q:=PySem.IsL.update e f;rw[hf]at q;refine I.write (x:=l) (e:=l) (by rw[hH];exact trivial) (.inl rfl) (λb' u hb hu=>(bf s.heap (Obj.mapSeq f) (Ne.symm hb)).trans hu) ⟨_,q⟩ ?_
 exact⟨hz,its',_,hv,q⟩
theorem Inv.lnew{its:List Value}{t':Nat}(I:Inv X nA σ H s) (hv:oQ ys its) (hz:ys.length<=iR) :
  Inv X nA σ (pX H s.heap.objs.size (.lst ys)) { s with heap:=s.heap.push { cls:=.type "list", data:=.seq its.toArray },toks:=t' } :=
 I.laid (λ_ _ q=>ae _ q) (ag _) ⟨hz,its,0,hv,az _ rfl⟩
theorem Inv.fresh(I:Inv X nA σ H s):H s.heap.objs.size=none:=I.hok.fresh (ag _)
theorem Inv.lstM(I:Inv X nA σ H s) (hH:H l=some (.lst xs)):xs.length<=iR/\∃(its:List Value) (n:Nat),oQ xs its/\xs.length=its.length/\s.heap.get? l=some { cls:=.type "list", data:=.seq its.toArray n }:=by
 obtain⟨z,its,n,r,e⟩:=I.hok l _ hH;exact⟨z,its,n,r,r.length,e⟩
theorem Lz{n:Nat}(h:n<=iR):Builtin.List.listTooLong n=false:=by
 unfold Builtin.List.listTooLong;exact decide_eq_false (by lia)
end
section
variable {X:Cx}
def yn:V->List V->Hp->VK->Prop:=λx vs H Q=>∃l xs y,x = .ref l/\vs=[y]/\H l=some (.lst xs)/\xs.length<iR/\Q .non (pX H l (.lst (xs++[y])))
theorem oK:Vk X "list.append" yn:=by
 intro nA s σ H x vs v us Q I rx rv h;obtain⟨l,xs,y,rfl,rfl,hH,hz,q⟩:=h;cases rx;obtain⟨u,rfl,ru⟩:=rv.one;obtain⟨z,its,n,r,hl,e⟩:=I.lstM hH;refine kB F.slot_list_append ⟨_,e,rfl⟩ F.entry_list_append (F.args_list_append_2 _ _) (PySem.list_append l its.toArray n u (by rw[ay];lia)) ⟨e,?_⟩
 refine⟨.non,_,I.lset (its':=its++[u]) hH e (by simp) (r.append (.cons ru .nil)) ?_,rfl,q⟩
 rw[lAq,lSq];lia
def Ik:V->List V->Hp->VK->Prop:=λx vs H Q=>∃l b xs zs,x = .ref l/\vs=[.ref b]/\H l=some (.lst xs)/\H b=some (.lst zs)/\xs.length+zs.length<=iR/\Q .non (pX H l (.lst (xs++zs)))
theorem Ki:Vk X "list.extend" Ik:=by
 intro nA s σ H x vs v us Q I rx rv h;obtain⟨l,b,xs,zs,rfl,rfl,hH,hB,hz,q⟩:=h;cases rx;obtain⟨u,rfl,ru⟩:=rv.one;cases ru;obtain⟨z,its,n,r,hl,e⟩:=I.lstM hH;obtain⟨z2,its2,n2,r2,hl2,e2⟩:=I.lstM hB;have hsz:its.toArray.size+its2.toArray.size<=iR:=by rw[ay,ay];lia
 have hlong:¬ (!its.toArray.isEmpty && Builtin.List.listTooLong (its.toArray.size+its2.toArray.size))=true:=by
  rw[Lz hsz,Bool.and_false];exact aR
 refine kB F.slot_list_extend ⟨_,e,rfl⟩ F.entry_list_extend (F.args_list_extend_2 _ _)
  (AutoSeq1.list_extend_list_list_0 l its.toArray n b its2.toArray n2 hlong (by rw[ay];lia) (by lia)) ⟨e,e2,?_⟩
 refine⟨.non,_,I.lset (its':=its++its2) hH e (by simp) (r.append r2) ?_,rfl,q⟩
 rw[lAq];lia
def S9:V->List V->Hp->VK->Prop:=λx vs H Q=>∃l xs y,x = .ref l/\vs=[]/\H l=some (.lst xs)/\xs[xs.length-1]?=some y/\Q y (pX H l (.lst xs.dropLast))
theorem BU:Vk X "list.pop" S9:=by
 intro nA s σ H x vs v us Q I rx rv h;obtain⟨l,xs,y,rfl,rfl,hH,hy,q⟩:=h;cases rx;have hus:=rv.zero;subst hus;obtain⟨z,its,n,r,hl,e⟩:=I.lstM hH;obtain⟨u,hu,ru⟩:=r.get hy;have hy':its.toArray[its.toArray.size-1]?=some u:=by
  show its.toArray[its.length-1]?=some u;rw[←aq,←hl];exact hu
 refine kB F.slot_list_pop ⟨_,e,rfl⟩ F.entry_list_pop (F.args_list_pop_1 _) (MeetsSeq.list_pop_last l its.toArray n u hy' (by rw[ay];lia)) ⟨e,?_⟩
 refine⟨y,_,I.lset (its':=its.dropLast) hH e ?_ r.dropLast ?_,ru,q⟩
 .show its.toArray.eraseIdxIfInBounds (its.toArray.size-1)=its.dropLast.toArray;rw[ay,eW,yQ]
 .rw [List.length_dropLast];lia
def Mh:V->List V->Hp->VK->Prop:=λx vs H Q=>∃l xs i k y,x = .ref l/\vs=[.int i]/\H l=some (.lst xs)/\-(2 ^ 63)<=i/\i<2 ^ 63/\mD i xs.length=some k/\xs[k]?=some y/\Q y (pX H l (.lst (xs.eraseIdx k)))
theorem E3:Vk X "list.pop" Mh:=by
 intro nA s σ H x vs v us Q I rx rv h;obtain⟨l,xs,i,k,y,rfl,rfl,hH,h1,h2,hk,hy,q⟩:=h;cases rx;obtain⟨u,rfl,ru⟩:=rv.one;obtain⟨t,rfl⟩:=ru;obtain⟨z,its,n,r,hl,e⟩:=I.lstM hH;obtain⟨w,hw,rw'⟩:=r.get hy;refine kB F.slot_list_pop ⟨_,e,rfl⟩ F.entry_list_pop (F.args_list_pop_2 _ _)
  (MeetsSeq.list_pop_at l its.toArray n i t k w (fitsIndex_both h1 h2) (by rw[ay,←hl];exact hk) (by rw[←aq];exact hw) (by rw[ay];lia)) ⟨e,?_⟩
 refine⟨y,_,I.lset (its':=its.eraseIdx k) hH e ?_ (r.eraseIdx k) ?_,rw',q⟩
 .show its.toArray.eraseIdxIfInBounds k=(its.eraseIdx k).toArray;rw[eW]
 .have:=Du xs k;lia
def UA:R2:=λx y H Q=>∃l b xs zs,x = .ref l/\y = .ref b/\H l=some (.lst xs)/\H b=some (.lst zs)/\xs.length+zs.length<=iR/\∀p,H p=none->Q (.ref p) (pX H p (.lst (xs++zs)))
theorem M9:CK X (jZ .Add) UA:=by
 intro nA s σ H x y v u Q I rx ry h;obtain⟨l,b,xs,zs,rfl,rfl,hH,hB,hz,q⟩:=h;cases rx;cases ry;obtain⟨z,its,n,r,hl,e⟩:=I.lstM hH;obtain⟨z2,its2,n2,r2,hl2,e2⟩:=I.lstM hB;refine PySem.P.add_list e e2 ?_ (by rw[ay,ay];lia)
 have ea:its.toArray++its2.toArray=(its++its2).toArray:=by simp
 rw[ea];exact⟨.ref _,_,I.lnew (t':=s.toks) (r.append r2) (by rw[lAq];lia),rfl,q _ I.fresh⟩
end
section
variable {κ:Type} [DecidableEq κ]
def yX(kvs:List (κ×V)) (k:κ):Option V:=(kvs.find? λkv=>decide (kv.1=k)).map (·.2)
def xF(kvs:List (κ×V)) (k:κ) (v:V):List (κ×V) :=
 if (kvs.any λkv=>decide (kv.1=k))=true then kvs.map (λkv=>if kv.1=k then (kv.1,v) else kv) else kvs++[(k,v)]
theorem Bd{p:κ×V}{r:List (κ×V)}{k:κ}(e:p.1=k):yX (p::r) k=some p.2:=by simp[yX,cP,e]
theorem Bn{p:κ×V}{r:List (κ×V)}{k:κ}(e:¬ p.1=k):yX (p::r) k=yX r k:=by simp[yX,cP,e]
theorem FJ(k:κ):∀kvs:List (κ×V),(kvs.any λkv=>decide (kv.1=k))=(yX kvs k).isSome
 | []=>rfl
 |p::r=>by
  rw[eX]
  by_cases e:p.1=k
  .simp only [Bd e,decide_eq_true e,Bool.true_or,cU]
  .rw [Bn e,decide_eq_false e,Bool.false_or];exact FJ k r
theorem xx(kvs:List (κ×V)) (k:κ) (v:V):(xF kvs k v).length<=kvs.length+1:=by
 unfold xF;split
 .rw [lMq];lia
 .rw [lAq,lCq,cW];lia
theorem Cz.isSome_eq{o:Option V}{u:Option Value}(r:Cz o u):o.isSome=u.isSome:=by
 cases o with
 |none=>cases u with
  |none=>rfl
  |some _=>exact(show False from r).elim
 |some _=>cases u with
  |none=>exact(show False from r).elim
  |some _=>rfl
theorem KV.val{kvs:List (κ×V)}{vs:List (κ×Value)}(r:KV kvs vs) (k:κ):Cz (yX kvs k) (kK vs k):=by
 unfold KV at r
 induction r with
 |nil=>exact True.intro
 | @cons p q ps qs h t ih =>
  obtain⟨h1,h2⟩:=h
  by_cases e:p.1=k
  .have e':q.1=k:=h1.symm.trans e;have b:kK (q::qs) k=some q.2:=by simp[kK,cP,e']
   rw[Bd e,b];exact h2
  .have e':¬ q.1=k:=λz=>e (h1.trans z)
   have b:kK (q::qs) k=kK qs k:=by simp[kK,cP,e']
   rw[Bn e,b];exact ih
theorem KV.any{kvs:List (κ×V)}{vs:List (κ×Value)}(r:KV kvs vs) (k:κ):(kvs.any λkv=>decide (kv.1=k))=vs.any λkv=>decide (kv.1=k):=by
 unfold KV at r
 induction r with
 |nil=>rfl
 |cons h t ih=>rw[eX,eX,ih,h.1]
theorem KV.repl{kvs:List (κ×V)}{vs:List (κ×Value)}(r:KV kvs vs) (k:κ) {y:V}{u:Value}(ry:pY y u) :
  KV (kvs.map λkv=>if kv.1=k then (kv.1,y) else kv) (vs.map λkv=>if kv.1=k then (kv.1,u) else kv):=by
 unfold KV at r ⊢
 induction r with
 |nil=>exact .nil
 | @cons p q ps qs h t ih =>
  rw[aC,aC];refine .cons ?_ ih;obtain⟨h1,h2⟩:=h
  by_cases e:p.1=k
  .rw [oz e,oz (h1.symm.trans e)];exact⟨h1,ry⟩
  .rw [oB e,oB (λz=>e (h1.trans z))];exact⟨h1,h2⟩
theorem KV.put{kvs:List (κ×V)}{vs:List (κ×Value)}(r:KV kvs vs) (k:κ) {y:V}{u:Value}(ry:pY y u):KV (xF kvs k y) (stored vs k u):=by
 unfold xF stored;rw[r.any k]
 by_cases e:(vs.any λkv=>decide (kv.1=k))=true
 .rw [oz e,oz e];exact r.repl k ry
 .rw [oB e,oB e];exact Paired.snoc r ⟨rfl,ry⟩
theorem KV.length{kvs:List (κ×V)}{vs:List (κ×Value)}(r:KV kvs vs):kvs.length=vs.length:=Paired.length r
end
theorem C4{P:iT}{w:iU}{k:oy}{u:Value}(r:pY (kV k) u):(qk P w).is k u=true:=by
 cases k with
 |inl i=>obtain⟨t,e⟩:=(show ∃t,u=eK i t from r);subst e;exact FO P w i t
 |inr x=>obtain⟨t,e⟩:=(show ∃t,u=iq x t from r);subst e;exact Gc P w x t
theorem DD{P:iT}{w:iU}:∀{ks:List oy}{us:List Value},oQ (ks.map kV) us->ItemsAre (qk P w) ks us
 | [],_,r=>by rw[fS]at r;cases r;exact .nil
 |k::ks,_,r=>by
  rw[aC]at r;cases r with
  |cons h t=>exact .cons (C4 h) (DD t)
abbrev KT(H:Hp):List (List oy×V)->List (List oy×Addr×Value)->Prop:=Paired λp q=>p.1=q.1/\H q.2.1=some (.tup (p.1.map kV))/\pY p.2 q.2.2
theorem KT.val{H:Hp}{kvs:List (List oy×V)}{xs:List (List oy×Addr×Value)}(r:KT H kvs xs) (k:List oy):Cz (yX kvs k) ((kT xs k).map (·.2)):=by
 induction r with
 |nil=>exact True.intro
 | @cons p q ps qs h t ih =>
  obtain⟨h1,_,h2⟩:=h
  by_cases e:p.1=k
  .have e':q.1=k:=h1.symm.trans e;have b:kT (q::qs) k=some q.2:=by simp[kT,cP,e']
   rw[Bd e,b];exact h2
  .have e':¬ q.1=k:=λz=>e (h1.trans z)
   have b:kT (q::qs) k=kT qs k:=by simp[kT,cP,e']
   rw[Bn e,b];exact ih
theorem KT.repl{H:Hp}{kvs:List (List oy×V)}{xs:List (List oy×Addr×Value)}(r:KT H kvs xs) (k:List oy) {y:V}{u:Value}(ry:pY y u) :
  KT H (kvs.map λkv=>if kv.1=k then (kv.1,y) else kv) (xs.map (putAt k u)):=by
 induction r with
 |nil=>exact .nil
 | @cons p q ps qs h t ih =>
  rw[aC,aC];refine .cons ?_ ih;obtain⟨h1,h2,h3⟩:=h;unfold putAt
  by_cases e:p.1=k
  .rw [oz e,oz (h1.symm.trans e)];exact⟨h1,h2,ry⟩
  .rw [oB e,oB (λz=>e (h1.trans z))];exact⟨h1,h2,h3⟩
theorem KT.put{H:Hp}{kvs:List (List oy×V)}{xs:List (List oy×Addr×Value)}(r:KT H kvs xs) (k:List oy) {b:Addr}{y:V}{u:Value}(hb:H b=some (.tup (k.map kV))) (ry:pY y u) :
  KT H (xF kvs k y) (storedH xs k b u):=by
 have e:(kvs.any λkv=>decide (kv.1=k))=(kT xs k).isSome:=by
  rw[FJ,(r.val k).isSome_eq,cc]
 unfold xF storedH;rw[e]
 by_cases q:(kT xs k).isSome=true
 .rw [oz q,oz q];exact r.repl k ry
 .rw [oB q,oB q];exact Paired.snoc r ⟨rfl,hb,ry⟩
theorem KT.keeps{H H':Hp}{kvs:List (List oy×V)}{xs:List (List oy×Addr×Value)}(r:KT H kvs xs) (ht:∀b ys,H b=some (.tup ys)->H' b=some (.tup ys)):KT H' kvs xs :=
 Paired.mapP r λ_ _ z=>⟨z.1,ht _ _ z.2.1,z.2.2⟩
section
variable {P:iT}{w:iU}{H:Hp}{h:Heap}{a:Addr}
theorem Qe{u:HO}(ok:xu P w H h) (e:Rd H a u):qr P w H h a u:=e.ok ok
theorem Be{kvs:List (oy×V)}(ok:xu P w H h) (e:Rd H a (.dK kvs)):kvs.length<=iR/\(a == jt)=false/\∃vs,KV kvs vs/\h.DictOf (qk P w) a vs :=
 show qr P w H h a (.dK kvs) from Qe ok e
theorem P9{kvs:List (oy×V)}(ok:xu P w H h) (e:H a=some (.dK kvs)):kvs.length<=iR/\(a == jt)=false/\∃vs,KV kvs vs/\h.DictOf (qk P w) a vs:=Be ok (.inl e)
theorem Ck{ks:List oy}(ok:xu P w H h) (e:H a=some (.tup (ks.map kV))):(kS (qk P w)).is h ks a:=by
 obtain⟨_,its,r,o,h1,h2,n,h3⟩:=(show qr P w H h a (.tup (ks.map kV)) from ok a _ e)
 exact⟨o,its.toArray,n,h1,h2,h3,by simpa using DD r⟩
theorem Dy{kvs:List (List oy×V)}(ok:xu P w H h) (e:Rd H a (.dT kvs)):kvs.length<=iR/\(a == jt)=false /\
  ∃xs,KT H kvs xs/\h.DictOfH (kS (qk P w)) a xs:=by
 obtain⟨z,y,xs,r,o,es,ep,h1,h2,h3,h4,h5⟩:=(show qr P w H h a (.dT kvs) from Qe ok e)
 refine⟨z,y,xs,r,o,es,ep,h1,h2,h3,h4,λx hx=>?_,h5⟩
 have all:∀{l:List (List oy×V)}{m:List (List oy×Addr×Value)},KT H l m->∀x∈m,(kS (qk P w)).is h x.1 x.2.1:=by
  intro l m q
  induction q with
  |nil=>intro x hx;exact nomatch hx
  | @cons p q ps qs hq t ih =>
   intro x hx;rcases aj.mp hx with e|hx
   .subst e;exact Ck ok (by rw[←hq.1];exact hq.2.1)
   .exact ih x hx
 exact all r x hx
theorem Uj{kvs:List (List oy×V)}(ok:xu P w H h) (e:H a=some (.dT kvs)):kvs.length<=iR/\(a == jt)=false /\
  ∃xs,KT H kvs xs/\h.DictOfH (kS (qk P w)) a xs:=Dy ok (.inl e)
end
def Ac(H:Hp) (a:Addr) (y:V) (r:Option V):Prop :=
 (∃kvs k,Rd H a (.dK kvs)/\y=kV k/\r=yX kvs k)∨∃kvs k b,Rd H a (.dT kvs)/\y = .ref b/\H b=some (.tup (k.map kV))/\r=yX kvs k
def LK(H:Hp) (a:Addr) (y v:V) (H':Hp):Prop :=
 (∃kvs k,H a=some (.dK kvs)/\y=kV k/\kvs.length<iR/\H'=pX H a (.dK (xF kvs k v))) ∨
 ∃kvs k b,H a=some (.dT kvs)/\y = .ref b/\H b=some (.tup (k.map kV))/\kvs.length<iR/\H'=pX H a (.dT (xF kvs k v))
theorem Ac.k{H:Hp}{a:Addr}{kvs:List (oy×V)}{k:oy}(e:H a=some (.dK kvs)):Ac H a (kV k) (yX kvs k):=.inl ⟨kvs,k,.inl e,rfl,rfl⟩
theorem LK.k{H:Hp}{a:Addr}{kvs:List (oy×V)}{k:oy}{v:V}(e:H a=some (.dK kvs)) (hl:kvs.length<iR):LK H a (kV k) v (pX H a (.dK (xF kvs k v))):=.inl ⟨kvs,k,e,rfl,hl,rfl⟩
section
variable {X:Cx}{nA:List (Addr×Obj)}{σ:St}{H:Hp}{s:Shared}{a:Addr}{y v:V}{u r:Value}{o:Option V}{A:Around}{E:Value->Shared->Prop}
theorem Inv.big(I:Inv X nA σ H s):jt<s.heap.objs.size:=by
 have h:iS<s.heap.objs.size:=(I.mod.glob.keeps I.bk).lt;exact gJ (by decide) h
theorem Kg{Q:Value->Shared->Prop}(hu:A.units+1<jO) (I:Inv X nA σ H s) (g:Ac H a y (some v)) (ry:pY y u) (h:∀w' s',Inv X nA σ H s'->pY v w'->Q w' s') :
  iM (iO X.prog X.w) A (lK (.ref a) u) Q E s:=by
 rcases g with ⟨kvs,k,e,ey,l⟩|⟨kvs,k,b,e,ey,eb,l⟩
 .subst ey;obtain⟨z,hd,vs,rel,dd⟩:=Be I.hok e;obtain⟨w',hw,rw'⟩:=Cz.some_of (v:=v) (o:=kK vs k) (by rw[l];exact rel.val k)
  exact wpAny_getItem_of (C4 ry) dd.mapOf hw (h w' _ (I.tok _) rw')
 .subst ey;cases (show u=bc b from ry)
  obtain⟨z,hd,xs,rel,dd⟩:=Dy I.hok e;obtain⟨w',hw,rw'⟩:=Cz.some_of (v:=v) (o:=(kT xs k).map (·.2)) (by rw[l];exact rel.val k)
  obtain⟨p,hp,hp2⟩:=oMq.mp hw;refine wpAny_getItem_heap (jX hu) (Ck I.hok eb) dd hp ?_;rw[hp2];exact h w' _ (I.tok _) rw'
theorem V8{Q:Value->Shared->Prop}(hu:A.units+1<jO) (I:Inv X nA σ H s) (g:Ac H a y o) (ry:pY y u) (h:∀s',Inv X nA σ H s'->Q (.bool o.isSome) s') :
  iM (iO X.prog X.w) A (jq .In u (.ref a)) Q E s:=by
 rcases g with ⟨kvs,k,e,ey,l⟩|⟨kvs,k,b,e,ey,eb,l⟩
 .subst ey;obtain⟨z,hd,vs,rel,dd⟩:=Be I.hok e;refine wpAny_in_of (C4 ry) hd dd.mapOf ?_;rw[← (rel.val k).isSome_eq,←l];exact h _ (I.tok _)
 .subst ey;cases (show u=bc b from ry)
  obtain⟨z,hd,xs,rel,dd⟩:=Dy I.hok e;refine wpAny_in_heap (jX hu) (Ck I.hok eb) hd dd ?_;have q:=(rel.val k).isSome_eq;rw[cc]at q;rw[←q,←l];exact h _ (I.tok _)
theorem Py{Q:Value->Shared->Prop}(hu:A.units+1<jO) (I:Inv X nA σ H s) (g:Ac H a y o) (ry:pY y u) (h:∀s',Inv X nA σ H s'->Q (.bool (!o.isSome)) s') :
  iM (iO X.prog X.w) A (jq .NotIn u (.ref a)) Q E s:=by
 rcases g with ⟨kvs,k,e,ey,l⟩|⟨kvs,k,b,e,ey,eb,l⟩
 .subst ey;obtain⟨z,hd,vs,rel,dd⟩:=Be I.hok e;refine wpAny_notIn_of (C4 ry) hd dd.mapOf ?_;rw[← (rel.val k).isSome_eq,←l];exact h _ (I.tok _)
 .subst ey;cases (show u=bc b from ry)
  obtain⟨z,hd,xs,rel,dd⟩:=Dy I.hok e;refine wpAny_notIn_heap (jX hu) (Ck I.hok eb) hd dd ?_;have q:=(rel.val k).isSome_eq;rw[cc]at q;rw[←q,←l];exact h _ (I.tok _)
theorem En{h':Heap}{t':Nat}{ob:HO}(I:Inv X nA σ H s) (mu:UQ (H a)) (hs:bK a s.heap h') (he:∃q,h'.get? a=some q) (new:qr X.prog X.w (pX H a ob) h' a ob) :
  Inv X nA σ (pX H a ob) { s with heap:=h',toks:=t' } :=
 I.write (x:=a) (e:=a) mu (.inl rfl) (λb q hb z=>(hs.2 b hb).trans z) he new
theorem Nd{P:iT}{w:iU}{H':Hp}{h':Heap}{kvs:List (oy×V)}{vs:List (oy×Value)}(z:kvs.length<=iR) (hd:(a == jt)=false) (rel:KV kvs vs) (dd:h'.DictOf (qk P w) a vs) :
  qr P w H' h' a (.dK kvs):=⟨z,hd,vs,rel,dd⟩
theorem IZ{H':Hp}{Q:Unit->Shared->Prop}(hu:A.units+1<jO) (I:Inv X nA σ H s) (g:LK H a y v H') (ry:pY y u) (rv:pY v r) (h:∀s',Inv X nA σ H' s'->Q () s') :
  iM (iO X.prog X.w) A (setItem (.ref a) u r) Q E s:=by
 rcases g with ⟨kvs,k,e,ey,l,eH⟩|⟨kvs,k,b,e,ey,eb,l,eH⟩
 .subst ey eH;obtain⟨z,hd,vs,rel,dd⟩:=P9 I.hok e;have hz:vs.length<=iR:=by rw[←rel.length];exact z
  have hl:(xF kvs k v).length<=iR:=by have:=xx kvs k v;lia
  refine wpAny_setItem_pairs (hsz:=hz) (C4 ry) dd λh' dd' hs=>h _ ?_
  have he:∃q,h'.get? a=some q:=let ⟨q,_,_,hq,_⟩:=dd';⟨q,hq⟩
  exact En I (by rw[e];exact True.intro) hs he (Nd hl hd (rel.put k rv) dd')
 .subst ey eH;cases (show u=bc b from ry)
  obtain⟨z,hd,xs,rel,dd⟩:=Uj I.hok e;have hz:xs.length<=iR:=by rw[←Paired.length rel];exact z
  have hl:(xF kvs k v).length<=iR:=by have:=xx kvs k v;lia
  refine wpAny_setItem_heap (hsz:=hz) (jX hu) (Ck I.hok eb) dd λh' dd' hs=>h _ ?_
  obtain⟨q,es,ep,hq,h2,h3,h4,_,h5⟩:=dd';refine En I (by rw[e];exact True.intro) hs ⟨q,hq⟩ ⟨hl,hd,_,(rel.put k eb rv).keeps λc ys ec=>?_,q,es,ep,hq,h2,h3,h4,h5⟩
  rw[nY (TY ec e (λz=>nomatch z))]
  exact ec
end
section
variable {X:Cx}{nA:List (Addr×Obj)}{σ:St}{H:Hp}{s:Shared}{a:Addr}{kvs:List (oy×V)}{k:oy}{u:Value}{A:Around}{E:Value->Shared->Prop}
theorem Us{Q:Value->Shared->Prop}(I:Inv X nA σ H s) (e:Rd H a (.dK kvs)) (h:∀t s',Inv X nA σ H s'->Q (.int kvs.length t) s'):iM (iO X.prog X.w) A (call (.builtin "len") [.ref a]) Q E s:=by
 obtain⟨z,hd,vs,rel,dd⟩:=Be I.hok e;refine call_len_dict hd dd (by rw[←rel.length];rw[jb]at z;lia) ?_
 rw[←rel.length];exact h _ _ (I.tok _)
end
def Uh(i:Expr):Prop:=∀ov iv,kZ i false ov iv=operate [ov,iv] (lK ov iv)
theorem Om{prog:iT}{w:iU}{A:Around}{E:Value->Shared->Prop}{s:Shared}{env:Env}{value slice:Expr}{pos:Pos}{T id:String}{Q:Value->Shared->Prop}
  (hl:kz (.type T) "__getitem__" = pure (some (.builtin id))) (hs:Uh slice)
  (h:iM (iO prog w) A (eval value env) (λo s₁=>iM (iO prog w) A (eval slice env) (λi s₂=>s₂.TypeIs o T/\iM (iO prog w) A (lK o i) Q E s₂) E s₁) E s) :
  iM (iO prog w) A (eval (.Subscript value slice pos) env) Q E s:=by
 refine Subscript_ (jc h (λo s₁ h₁=>jc h₁ (λi s₂ h₂=>?_) λ_ _ x=>x) λ_ _ x=>x)
 obtain⟨hT,h₂⟩:=h₂;unfold mj;refine iJ ?_;rw[getitemInPython_of_ne hT.not_modules];refine iJ (wpAny_specialOf hT hl ?_);have fin:iM (iO prog w) A (kZ slice false o i) (λr s₃=>iM (iO prog w) A (letTemporaryGo value o r >>= λ_=>pure r) Q E s₃) E s₂:=by
  rw[hs o i];exact wpAny_operating (jc h₂ (λr s₃ h₃=>iJ (wpAny_letTemporaryGo (iN h₃))) λ_ _ x=>x)
 first
  |exact iN (iJ fin)
  |exact iJ (iN (iJ fin))
  |exact iJ fin
theorem FA{X:Cx}{nA:List (Addr×Obj)}{σ:St}{H:Hp}{s:Shared}{a:Addr}{y:V}{o:Option V}(I:Inv X nA σ H s) (g:Ac H a y o):s.TypeIs (.ref a) "dict" := by
 rcases g with ⟨kvs,k,e,_,_⟩|⟨kvs,k,b,e,_,_,_⟩
 .obtain ⟨_,_,vs,_,dd⟩:=Be I.hok e;exact dd.typeIs
 .obtain ⟨_,_,xs,_,dd⟩:=Dy I.hok e;exact dd.typeIs
def Qw(td ty:TE):TE:=λσ H Q=>td σ H λx H1=>ty σ H1 λy H2=>∃a v,x = .ref a/\Ac H2 a y (some v)/\Q v H2
def Uo(ty td:TE):TE:=λσ H Q=>ty σ H λy H1=>td σ H1 λx H2=>∃a o,x = .ref a/\Ac H2 a y o/\Q (.bl o.isSome) H2
def IC(ty td:TE):TE:=λσ H Q=>ty σ H λy H1=>td σ H1 λx H2=>∃a o,x = .ref a/\Ac H2 a y o/\Q (.bl (!o.isSome)) H2
def Qa(td ty tv:TE):TS:=λD σ H=>tv σ H λv H1=>td σ H1 λx H2=>ty σ H2 λy H3=>∃a H4,x = .ref a/\LK H3 a y v H4/\D.nx σ H4
section
variable {X:Cx}{o i e value:Expr}{pos pos' tpos:Pos}{td ty tv:TE}
theorem ri(hu:X.A.units+1<jO) (ho:PE X o td) (hi:PE X i ty) (hs:Uh i):PE X (.Subscript o i pos) (Qw td ty):=by
 intro nA s σ H Q I h;refine Om PySem.F.slot_dict_getitem.lookup hs (thn (ho nA s σ H _ I h) λu s1 ⟨x,H1,I1,rx,q1⟩=>thn (hi nA s1 σ H1 _ I1 q1) λiv s2 ⟨y,H2,I2,ry,a,v,ex,g,q2⟩=>?_)
 subst ex;obtain rfl:u=bc a:=rx;exact⟨FA I2 g,Kg hu I2 g ry λw' s3 I3 rw'=>⟨v,H2,I3,rw',q2⟩⟩
theorem Sx(hu:X.A.units+1<jO) (hi:PE X i ty) (ho:PE X o td):PC X .In i o (Uo ty td):=by
 intro nA s σ H Q I h;refine thn (hi nA s σ H _ I h) λiv s1 ⟨y,H1,I1,ry,q1⟩=>thn (ho nA s1 σ H1 _ I1 q1) λu s2 ⟨x,H2,I2,rx,a,ov,ex,g,q2⟩=>?_
 subst ex;obtain rfl:u=bc a:=rx;exact V8 hu I2 g ry λs3 I3=>⟨.bl ov.isSome,H2,I3,rfl,q2⟩
theorem uC(hu:X.A.units+1<jO) (hi:PE X i ty) (ho:PE X o td):PC X .NotIn i o (IC ty td):=by
 intro nA s σ H Q I h;refine thn (hi nA s σ H _ I h) λiv s1 ⟨y,H1,I1,ry,q1⟩=>thn (ho nA s1 σ H1 _ I1 q1) λu s2 ⟨x,H2,I2,rx,a,ov,ex,g,q2⟩=>?_
 subst ex;obtain rfl:u=bc a:=rx;exact Py hu I2 g ry λs3 I3=>⟨.bl (!ov.isSome),H2,I3,rfl,q2⟩
theorem tQ(hu:X.A.units+1<jO) (ho:PE X o td) (hi:PE X i ty) (hv:PE X value tv) (hs:mC value (some (.Subscript o i pos')) pos.line X.env=pure false) :
  PS X (.Assign [.Subscript o i pos'] value pos) (Qa td ty tv):=by
 intro nA s σ H D I h;refine wpAny_Assign_Subscript (thn (hv nA s σ H _ I h) λr s1 ⟨v,H1,I1,rv,q1⟩=>thn (ho nA s1 σ H1 _ I1 q1) λu s2 ⟨x,H2,I2,rx,q2⟩=>thn (hi nA s2 σ H2 _ I2 q2) λiv s3 ⟨y,H3,I3,ry,a,H4,ex,g,q3⟩=>?_) hs
 subst ex;obtain rfl:u=bc a:=rx;exact IZ hu I3 g ry rv λs4 I4=>⟨σ,H4,I4,q3⟩
end
theorem Gd{P:iT}{w:iU}{H:Hp}(h:Heap) (hb:jt<h.objs.size):qr P w H (h.push { cls:=.type "dict", data:=.dict #[] }) h.objs.size (.dK []) :=
 ⟨aV _,beq_eq_false_iff_ne.mpr (Ne.symm (aw hb)),[],.nil,Heap.DictOf.new h⟩
def Nc:TE:=λ_ H Q=>∀p,H p=none->Q (.ref p) (pX H p (.dK []))
section
variable {X:Cx}{pos:Pos}
theorem vc:PE X (.Dict [] [] pos) Nc:=λnA s σ H Q I h =>
 wpAny_Dict_empty ⟨.ref s.heap.objs.size,_,I.laid (a:=s.heap.objs.size) (o:=.dK []) (t':=s.toks) (λ_ _ q=>ae _ q) (ag _) (Gd s.heap I.big),rfl,h _ (I.hok.fresh (ag _))⟩
end
def GC:List (TE×TE)->St->Hp->(List (V×V)->Hp->Prop)->Prop
 | [],_,H,Q=>Q [] H
 | (tk,tv)::r,σ,H,Q=>tk σ H λx H1=>tv σ H1 λy H2=>GC r σ H2 λps H3=>Q ((x,y)::ps) H3
abbrev VV:List (V×V)->List (Value×Value)->Prop:=Paired λp q=>pY p.1 q.1/\pY p.2 q.2
def Vg(X:Cx) (pos:Pos) (keys:List (Option Expr)) (values:List Expr) (trs:List (TE×TE)):Prop :=
 ∀(nA:List (Addr×Obj)) (s:Shared) (σ:St) (H:Hp) (Q:List (V×V)->Hp->Prop),Inv X nA σ H s->GC trs σ H Q ->
  iM (iO X.prog X.w) X.A (evalPairs (pairTrees keys values X.env pos)) (λvs s'=>∃ps H',Inv X nA σ H' s'/\VV ps vs/\Q ps H') X.xe s
theorem DY{X:Cx}{pos:Pos}:Vg X pos [] [] []:=λnA s σ H Q I h=>pairTrees_nil_walk ⟨[],H,I,.nil,h⟩
theorem BO{X:Cx}{pos:Pos}{k v:Expr}{ks:List (Option Expr)}{vs:List Expr}{tk tv:TE}{trs:List (TE×TE)}(hk:PE X k tk) (hv:PE X v tv) (hr:Vg X pos ks vs trs) :
  Vg X pos (some k::ks) (v::vs) ((tk,tv)::trs):=λnA s σ H Q I h =>
 pairTrees_cons_walk (thn (hk nA s σ H _ I h) λu s1 ⟨x,H1,I1,rx,q1⟩=>thn (hv nA s1 σ H1 _ I1 q1) λw2 s2 ⟨y,H2,I2,ry,q2⟩ =>
  thn (hr nA s2 σ H2 _ I2 q2) λws s3 ⟨ps,H3,I3,rel,q3⟩=>⟨(x,y)::ps,H3,I3,.cons ⟨rx,ry⟩ rel,q3⟩)
def Ag(kvs more:List (oy×V)):List (oy×V):=more.foldl (λacc kv=>xF acc kv.1 kv.2) kvs
theorem KV.merge:∀{more:List (oy×V)}{rs:List (oy×Value)}{kvs:List (oy×V)}{vs:List (oy×Value)},KV more rs->KV kvs vs->KV (Ag kvs more) (merged vs rs):=by
 intro more rs kvs vs r;unfold KV at r
 induction r generalizing kvs vs with
 |nil=>intro q;exact q
 | @cons p q ps qs h t ih =>
  intro r0;have e:KV (xF kvs p.1 p.2) (stored vs q.1 q.2):=by
   have:=r0.put p.1 h.2;rw[←h.1];exact this
  exact ih e
theorem yB:∀(more kvs:List (oy×V)),(Ag kvs more).length<=kvs.length+more.length
 | [],kvs=>by show kvs.length<=kvs.length+0;lia
 |p::r,kvs=>by
  have h1:=yB r (xF kvs p.1 p.2);have h2:=xx kvs p.1 p.2;show (Ag (xF kvs p.1 p.2) r).length<=_;rw[lCq];lia
theorem By{P:iT}{w:iU}:∀{kvs:List (oy×V)}{ws:List (Value×Value)},VV (kvs.map λkv=>(kV kv.1,kv.2)) ws->∃rs,Carries (qk P w) ws rs/\KV kvs rs
 | [],_,r=>by rw[fS]at r;cases r;exact⟨[],True.intro,.nil⟩
 |p::kvs,_,r=>by
  rw[aC]at r;cases r with
  | @cons a b as bs h t =>
   obtain⟨rs,c,q⟩:=By (P:=P) (w:=w) t;obtain⟨b1,b2⟩:=b;exact⟨(p.1,b2)::rs,⟨C4 h.1,rfl,c⟩,.cons ⟨rfl,h.2⟩ q⟩
def Qp(trs:List (TE×TE)):TE:=λσ H Q=>∀p,H p=none->GC trs σ (pX H p (.dK [])) λps H2=>H2 p=some (.dK [])/\∃kvs:List (oy×V),ps=kvs.map (λkv=>(kV kv.1,kv.2))/\kvs.length<=15/\Q (.ref p) (pX H2 p (.dK (Ag [] kvs)))
theorem D8{X:Cx}{pos:Pos}{keys:List (Option Expr)}{values:List Expr}{trs:List (TE×TE)}(h:Vg X pos keys values trs) (hall:keys.all (·.isSome)=true) (hl:keys.length=values.length) (h0:keys≠[])
  (h15:keys.length<=15):PE X (.Dict keys values pos) (Qp trs):=by
 intro nA s σ H Q I q;have hn:=I.hok.fresh (ag s.heap.objs.size);have I1:=I.laid (a:=s.heap.objs.size) (o:=.dK []) (h':=s.heap.push { cls:=.type "dict", data:=.dict #[] }) (t':=s.toks) (λ_ _ q=>ae _ q) (ag _) (Gd s.heap I.big)
 refine wpAny_Dict_walk (knd:=qk X.prog X.w) hall hl h0 h15 (thn (h nA _ σ _ _ I1 (q _ hn)) λws s2 ⟨ps,H2,I2,rel,e,kvs,ep,lk,q2⟩=>?_)
 subst ep;obtain⟨rs,c,rk⟩:=By (P:=X.prog) (w:=X.w) rel;obtain⟨z,hd,vs0,r0,dd⟩:=P9 I2.hok e;cases r0;refine⟨rs,c,dd,λh' dd' hs=>⟨.ref s.heap.objs.size,_,?_,rfl,q2⟩⟩
 have hz:(Ag [] kvs).length<=iR:=by
  have h1:=yB kvs [];rw[cW]at h1;rw[jb];lia
 have he:∃q,h'.get? s.heap.objs.size=some q:=let ⟨q,_,_,hq,_⟩:=dd';⟨q,hq⟩
 exact En I2 (by rw[e];exact True.intro) hs he (Nd hz hd (rk.merge .nil) dd')
def Xt(H:Hp) (a:Addr):Prop:=(∃kvs,Rd H a (.dK kvs))∨∃kvs,Rd H a (.dT kvs)
theorem QF{X:Cx}{nA:List (Addr×Obj)}{σ:St}{H:Hp}{s:Shared}{a:Addr}(I:Inv X nA σ H s) (d:Xt H a) :
  s.TypeIs (.ref a) "dict" /\ (∀b,bc a = .ref b->∃ob,s.heap.get? b=some ob/\ob.dict=none)/\(a == jt)=false:=by
 rcases d with ⟨kvs,e⟩|⟨kvs,e⟩
 .obtain ⟨_,hd,vs,_,dd⟩:=Be I.hok e;refine⟨dd.typeIs,λb q=>?_,hd⟩
  cases q;obtain⟨ob,_,_,h1,h2,_⟩:=dd;exact⟨ob,h1,h2.2.1⟩
 .obtain ⟨_,hd,xs,_,dd⟩:=Dy I.hok e;refine⟨dd.typeIs,λb q=>?_,hd⟩
  cases q;obtain⟨ob,_,_,h1,h2,_⟩:=dd;exact⟨ob,h1,h2.2.1⟩
end L2
namespace Att
open PySem PySem.W PySem.Calls PyProof.Rows
theorem AC{P:Params}{h:Heap}:∀(ns:List Int) (vs:List Value),WellAll P h vs (ns.map WData.int)->jd vs ns:=by
 intro ns
 induction ns with
 |nil =>
  intro vs w;rw[fS]at w;cases w;exact .nil
 |cons n ns ih =>
  intro vs w;rw[aC]at w;cases w with
  |cons a b =>
   cases a;exact .cons _ _ (ih _ b)
theorem JT{l:OpenLaw}{n:Nat}(hn:l.most=some n) {P:Params}{h:Heap}{args:List WData}{vals:List Value}
  (hpre:l.row.toRowW.claim.pre args=true) (hwl:WellAll P h vals args) :
  ∃a vs ns,vals=[bc a]/\args=[WData.list (ns.map WData.int)]/\h.get? a=some { cls:=.type "list", data:=.seq vs.toArray }/\jd vs ns/\ns.length<=n:=by
 have hsh:WShape.hasAll [] args [.list .int]=true:=(pre_splitW hpre).1;have hc:l.pre.holds [] { args:=args }=true:=(pre_splitW hpre).2;obtain⟨d,r,rfl,h1,h2⟩:=hasAllW_cons hsh;obtain rfl:=hasAllW_nil h2;obtain⟨xs,rfl,h3⟩:=hasW_list h1;obtain⟨ns,rfl⟩:=items_int h3;have hlen:ns.length<=n:=by
  unfold OpenLaw.pre at hc;have h4:(WTm.not (.lt (.lit (.int (n:Int))) (.len (.arg 0)))).holds [] { args:=[.list (ns.map .int)] }=true:=by
   have h4:=(holds_andW hc).1;rw[hn]at h4;exact h4
  have h5:=condW_of h4 (w_not (w_lt w_lit (w_len_list (w_arg rfl))));rw[lMq]at h5;refine fQ λq=>?_
  have q':(n:Int)<((ns.length:Nat):Int):=by lia
  first
   | (rw[decide_eq_true q']at h5;exact absurd h5 (by decide))
   | (simp at h5;lia)
 cases hwl with
 |cons w1 w2 =>
  cases w2;cases w1 with
  |list ho hall=>exact⟨_,_,ns,rfl,rfl,ho,AC ns _ hall,hlen⟩
theorem JD(l:OpenLaw) (args:List WData):l.row.toRowW.claim.post args (.bool true) args=true :=
 postW_of (r:=l.row.toRowW) (X:=(true == true))
  (show WShape.has [] (.bool true) .bool=true by first|rfl|decide|simp[WShape.has,WShape.arms,WShape.armsAll])
  (show (WTm.eq .res (.lit (.bool true))).value [] { args:=args,res:=some (.bool true),after:=args }=some (.bool (true == true)) from w_eq_bool (w_res rfl) w_lit) rfl
theorem FB{l:OpenLaw}{n:Nat}{q:iT}{loose:List Str}{XP:(Str->Option Value)->Heap->Prop}{YP:iU->Heap->Prop}{d:DefRec}
  (hn:l.most=some n) (hdf:d.params.defaults=[])
  (call:∀(w:iU) (s₀ s₁:Shared) (mg mb:Str->Option Value) (fa:Addr) (o:Obj) (pm cd doc:Value) (a:Addr) (vs:List Value) (ns:List Int),
   Ground q loose [] XP w s₀ mg mb s₁.heap->YP w s₁.heap ->
   s₁.heap.get? fa=some o->o.data = .func (docDef d.name d.params d.body d.scope pm cd doc)->s₁.heap.CodeRec cd d.name->mg d.name=some (.ref fa) ->
   s₁.heap.get? a=some { cls:=.type "list", data:=.seq vs.toArray }->jd vs ns->ns.length<=n->s₁.gens=#[] ->
   jF (iO l.prog w) kL (.call (.ref fa) ⟨[.ref a],[]⟩) (λr s'=>r = .ok (.ret (.bool true))/\OldK s₁.heap s'.heap/\s'.os=s₁.os/\ke s'.gens) s₁) :
  WalkO q loose XP YP l.row.toRowW d [] (λf vs=>PySem.call f vs):=by
 intro w s₀ s₁ mg mb G Y fa o pm cd doc dV kV ho hd hcd hD hmg hg args vals as hpre hlay hrd hwl hlo;obtain rfl:dV = .none:=Dflts.none hD hdf;obtain rfl:kV = .none:=Dflts.noKw hD;obtain⟨a,vs,ns,rfl,rfl,hobj,hints,hlen⟩:=JT hn hpre hwl;refine enter_call (ky (call w s₀ s₁ mg mb fa o pm cd doc a vs ns G Y ho (fd_plain hd) hcd hmg hobj hints hlen hg) λr s' hq=>?_)
 obtain⟨rfl,h2,h3,h4⟩:=hq;exact⟨.inl ⟨.bool true,.bool true,[],rfl,λ_=>rfl,.bool true,JD l _,λ_=>⟨cR.nil,λ_ hm=>(nomatch hm)⟩⟩,h2,h3,h4⟩
end Att
namespace L2
open PySem PySem.Spec PyProof.Rows
theorem vals_ints:∀{vs:List Value}{ns:List Int},jd vs ns->oQ (ns.map V.int) vs
 |_,_,.nil=>.nil
 |_,_,.cons n t h=>.cons ⟨t,rfl⟩ (vals_ints h)
def Sf(H:Hp):Prop:=∀b,H b=none∨∃o xs,H b=some (.frz o (.lst xs))
theorem Nw{P:iT}{w:iU}{K:W.Frag}{mg mb:Str->Option Value}{CX:Ko}{k:Nat}{fa a:Addr}{fd:ja}{x:Str}{sp:Sp}{s₁:Shared}{vs:List Value}{ns:List Int}
  (KX:K.In s₁.heap) (hns:s₁.heap.Ns iS mg) (hb:s₁.heap.Ns builtinsNs mb) (hbb:∀x:Str,x ≠ "__name__" -> mb x=jY x) (hlim:s₁.heap.NoLimit) (hg:s₁.gens=#[])
  (ha:s₁.heap.get? a=some { cls:=.type "list", data:=.seq vs.toArray }) (hi:jd vs ns) (hl:ns.length<=iR) (hr:uu k kL)
  (F:∀base:Heap,K.In base->base.Ns iS mg->yW P w K mg base CX k fa fd [x] sp) (hbind:∀(s:Shared) (u:Value),lO s fd ⟨[u],[]⟩ [(x,u)])
  (hsp:∀H:Hp,Sf H->qS K H a (ns.map V.int)->sp [.ref a] H (λv _=>v = .bl true) λ_ _ _=>False)
  (hCX:∀H e s',CX [] H s₁ (λ_ _ _=>False) e s'->False) :
  jF (iO P w) kL (.call (.ref fa) ⟨[.ref a],[]⟩) (λr s'=>r = .ok (.ret (.bool true))/\OldK s₁.heap s'.heap/\s'.os=s₁.os/\ke s'.gens) s₁:=by
 have rv:=vals_ints hi;have lenV:=hi.length;have core:∀H:Hp,Sf H->qS K H a (ns.map V.int)->xu P w H s₁.heap->(∀b,H b≠none->b=a)->(H a≠none->K.lookup a=none) ->
   jF (iO P w) kL (.call (.ref fa) ⟨[.ref a],[]⟩) (λr s'=>r = .ok (.ret (.bool true))/\OldK s₁.heap s'.heap/\s'.os=s₁.os/\ke s'.gens) s₁:=by
  intro H hO hS hok hA hK;have base_of:∀{b:Addr}{o:Obj},s₁.heap.get? b=some o->H b=none->(Ej s₁.heap H).get? b=some o:=λe n=>Lh e n
  have noA:∀{b:Addr}{o:Obj}{es:Array DictEntry}{ep:Nat},s₁.heap.get? b=some o->o.data = .dict es ep->H b=none:=λ{b o es ep} e d=>by
   cases q:H b with
   |none=>rfl
   |some u =>
    have e':b=a:=hA b (by rw[q];simp)
    subst e';rw[ha]at e;cases e;have d':Data.seq vs.toArray _=Data.dict es ep:=d;cases d'
  have nsK:∀{b:Addr}{m:Str->Option Value},s₁.heap.Ns b m->(Ej s₁.heap H).Ns b m:=λ{b m} ⟨o,es,ep,e,d,r⟩=>⟨o,es,ep,base_of e (noA e d),d,r⟩
  have hKb:K.In (Ej s₁.heap H):=λb o e=>base_of (KX b o e) (by
   cases q:H b with
   |none=>rfl
   |some u =>
    have e':b=a:=hA b (by rw[q];simp)
    subst e';rw[hK (by rw[q];simp)]at e;cases e)
  have hM:Mod K mg (Ej s₁.heap H):=⟨hKb,nsK hns,⟨mb,nsK hb,hbb⟩,let ⟨mc,h1,h2⟩:=hlim;⟨mc,nsK h1,h2⟩⟩
  have e0:N9 P w K mg (Ej s₁.heap H) kL [] s₁ H:=⟨rfl,hM,λb o e=>Pp e,dO (Jn _ _),trivial,λb hb=>absurd (show b∈([]:List Addr) from hb) (by simp),hok,.of_eq hg⟩
  refine ky ((F _ hKb (nsK hns)).run kL [] s₁ H ⟨[.ref a],[]⟩ [.ref a] [.ref a] _ _ hr e0 (hbind s₁ (.ref a)) (.cons rfl .nil) (hsp H hO hS)) λr s' h=>?_
  cases r with
  |error e=>exact(hCX H e s' h).elim
  |ok fl =>
   cases fl with
   |next=>exact False.elim h
   |brk=>exact False.elim h
   |cont=>exact False.elim h
   |ret u =>
    obtain⟨v,H',os,bare,un,hok',r',q⟩:=h;have q':v = .bl true:=q;subst q';obtain rfl:u=iH true:=r';refine⟨rfl,OldK.of_keep λb o e=>?_,os,bare⟩
    cases q:H b with
    |none=>exact un.keep b o e q (by intro z;exact absurd (show b∈([]:List Addr) from z) (by simp)) (by simp)
    |some u =>
     rcases hO b with z|⟨ob,xs,z⟩
     .rw [q]at z;cases z
     .have z2:=un.frzs b ob _ z;obtain⟨e1,_⟩:=hok b _ z;obtain⟨e2,_⟩:=hok' b _ z2;rw[e]at e1;cases e1;exact e2
 cases hk:K.lookup a with
 |some o =>
  have e:=KX a o hk;rw[ha]at e;cases e;refine core (λ_=>none) (λ_=>.inl rfl) (.inr ⟨_,vs.toArray,_,hk,rfl,rfl,rfl,by rw[ay,lenV];exact hl,by simpa using rv⟩) (λb u z=>by have z':(none:Option HO)=some u:=z;cases z') (λb z=>absurd rfl z) λz=>absurd rfl z
 |none =>
  refine core (λb=>if b=a then some (.frz { cls:=.type "list", data:=.seq vs.toArray } (.lst (ns.map V.int))) else none) (λb=>?_) (.inl (.inr ⟨{ cls:=.type "list", data:=.seq vs.toArray },oz rfl⟩)) (λb u z=>?_) (λb z=>?_) λ_=>hk
  .by_cases hb:b=a
   .exact .inr ⟨_,_,oz hb⟩
   .exact .inl (oB hb)
  .by_cases hb:b=a
   .have z':=(oz hb).symm.trans z;cases z';subst hb;exact⟨ha,by rw[lMq];exact hl,vs,_,rv,ha⟩
   .have z':=(oB hb).symm.trans z;cases z'
  .by_cases hb:b=a
   .exact hb
   .exact absurd (oB hb) z
theorem Od{l:W.OpenLaw}{n k:Nat}{q:iT}{loose:List Str}{XP:(Str->Option Value)->Heap->Prop}{YP:iU->Heap->Prop}{d:DefRec}{K:Params->W.Frag}{CX:iU->Ko}{sp:iU->Sp}{x:Str}
  (hn:l.most=some n) (hn2:n<=iR) (hdf:d.params.defaults=[]) (hr:uu k kL)
  (hY:∀(w:iU) (h:Heap),YP w h->(K w.params).In h)
  (F:∀(w:iU) (mg:Str->Option Value) (fa:Addr) (h:Heap),(K w.params).In h->h.Ns iS mg->mg d.name=some (.ref fa) ->
   ∃fd:ja,(∀(s:Shared) (u:Value),lO s fd ⟨[u],[]⟩ [(x,u)]) /\
    ∀base:Heap,(K w.params).In base->base.Ns iS mg->yW l.prog w (K w.params) mg base (CX w) k fa fd [x] (sp w))
  (hsp:∀(w:iU) (H:Hp) (a:Addr) (ns:List Int),ns.length<=n->Sf H->qS (K w.params) H a (ns.map V.int)->sp w [.ref a] H (λv _=>v = .bl true) λ_ _ _=>False)
  (hCX:∀(w:iU) (H:Hp) (s:Shared) (e:Value) (s':Shared),CX w [] H s (λ_ _ _=>False) e s'->False) :
  W.WalkO q loose XP YP l.row.toRowW d [] (λf vs=>PySem.call f vs):=by
 refine Att.FB hn hdf λw s₀ s₁ mg mb fa o pm cd doc a vs ns G Y ho hd hcd hmg hobj hints hlen hg=>?_
 have KX:=hY w _ Y;obtain⟨fd,hb,hF⟩:=F w mg fa _ KX G.T.g hmg;exact Nw KX G.T.g G.T.b G.T.builtins G.T.nolimit hg hobj hints (bJ hlen hn2) hr hF hb (λH hO hS=>hsp w H a ns hlen hO hS) λH e s'=>hCX w H s₁ e s'
def uv(s:Stmt):Arguments:=match s with
 | .FunctionDef _ a _ _ _ _ _ _ _ _=>a
 |_=>{ posonlyargs:=[],args:=[],vararg:=none,kwonlyargs:=[],kw_defaults:=[],kwarg:=none,defaults:=[] }
def sL(s:Stmt):List Stmt:=match s with
 | .FunctionDef _ _ b _ _ _ _ _ _ _=>b
 |_=>[]
def og(s:Stmt):jI:=match s with
 | .FunctionDef _ _ _ _ _ _ sc _ _ _=>sc
 |_=>{ kind:=.function,names:=[],isGenerator:=false,isCoroutine:=false }
abbrev Si:Ko:=λ_ _ _ _ _ _=>False
abbrev E0:XK:=λ_ _ _=>False
theorem U9{X:Cx}:zL Si X E0:=λ_ _ _ _ _ _ _ h=>h.elim
structure P2 (K:W.Frag) (x qual:Str) (st:Stmt) (f:Addr) (fd:ja):Prop where
 ex:∃(oc:Value) (od:Option Addr) (kV doc pm:Value) (an:Option Addr) (tj ct:Value) (osl:Array (Option Value)),
  fd=W.fnOf x qual (uv st) (sL st) (og st) .none kV doc pm an tj ct/\K.lookup f=some ⟨oc,od,.func fd,osl⟩/\W.codeIn K tj qual=true
 kp:W.keepIn K (.ref f)=true
section
variable {P:iT}{w:iU}{K:W.Frag}{mg:Str->Option Value}{base:Heap}
theorem P2.ok{x qual:Str}{st:Stmt}{f:Addr}{fd:ja}{N ps:List Str}{k:Nat}{sp:Sp}(F:P2 K x qual st f fd) (S:oY N ps (og st)) (len:∀vs H Q E,sp vs H Q E->vs.length=ps.length)
  (hbody:∀(tj:Value) (A:Around) (outer:List Env) (s:Shared) (H:Hp) (vs:List V) (Q:VK) (E:XK),uu k (A.deeper (jz qual (og st) s.heap.objs.size f tj))->sp vs H Q E ->
   ∃t,IT (Ei Si P w K mg base N qual (og st) f tj A outer s H E).nox (sL st) t/\t { nx:=λ_ H'=>Q .non H',rt:=Q } (sZ N vs) H):yW P w K mg base Si (k+1) f fd ps sp:=by
 obtain⟨oc,od,kV,doc,pm,an,tj,ct,osl,rfl,lk,hcd⟩:=F.ex;refine Qd lk hcd S len λA outer s H vs Q E hr hsp=>?_
 obtain⟨t,h,q⟩:=hbody tj A outer s H vs Q E hr hsp;exact⟨t,h.nox,q⟩
theorem P2.binds{x qual:Str}{st:Stmt}{f:Addr}{fd:ja}{ps:List Str}(F:P2 K x qual st f fd)
  (h:∀(kV doc pm:Value) (an:Option Addr) (tj ct:Value) (us:List Value),us.length=ps.length->bindArgs (W.fnOf x qual (uv st) (sL st) (og st) .none kV doc pm an tj ct) ⟨us,[]⟩=pure (ps.zip us)):yu K fd ps []:=by
 obtain⟨oc,od,kV,doc,pm,an,tj,ct,osl,rfl,lk,hcd⟩:=F.ex;exact .all (h kV doc pm an tj ct)
theorem G2{x qual:Str}{st:Stmt}{f:Addr}{oc:Value}{od an:Option Addr}{osl:Array (Option Value)}{kV doc pm tj ct:Value}(l:K.lookup f=some ⟨oc,od,.func (W.fnOf x qual (uv st) (sL st) (og st) .none kV doc pm an tj ct),osl⟩)
  (c:W.codeIn K tj qual=true) (k:W.keepIn K (.ref f)=true):P2 K x qual st f (W.fnOf x qual (uv st) (sL st) (og st) .none kV doc pm an tj ct):=⟨⟨oc,od,kV,doc,pm,an,tj,ct,osl,rfl,l,c⟩,k⟩
end
theorem qi{A:Around}{k:Nat}(hr:uu k A):A.units+1<jO:=Nat.lt_of_le_of_lt (Nat.add_le_add_left (by decide:1<=64) _) hr.units
section
variable {X:Cx}
theorem pv(i:Nat) {x:Str}{pos:Pos}(hN:X.N[i]?=some x:=by rfl) (hv:Ww X.env.scope x:=by trivial) (hd:(x == ("__debug__" : Str))=false:=by decide)
  (hcd:(x == ("__classdict__" : Str))=false:=by decide):PE X (.Name x pos) (xP i):=Q9 hN hv hd hcd
end
theorem Bs{A B:Prop}(h:B):if false=true then A else B:=by
 rw[oB aR];exact h
theorem Bh{A B:Prop}(h:A):if true=true then A else B:=by
 rw[oz rfl];exact h
def ou(H H':Hp):Prop:=∀b o,H b=some o->H' b=some o
theorem ou.refl(H:Hp):ou H H:=λ_ _ h=>h
theorem ou.trans{H H1 H2:Hp}(a:ou H H1) (b:ou H1 H2):ou H H2:=λc o h=>b c o (a c o h)
theorem ou.free{H H':Hp}(e:ou H H') {l:Addr}(h:H' l=iD):H l=iD:=by
 cases q:H l with
 |none=>rfl
 |some o =>
  rw[e l o q]at h;cases h
theorem ou.seq{K:W.Frag}{H H':Hp}{a:Addr}{xs:List V}(e:ou H H') (h:qS K H a xs):qS K H' a xs:=by
 rcases h with (h|⟨o,h⟩)|h
 .exact .inl (.inl (e _ _ h))
 .exact .inl (.inr ⟨o,e _ _ h⟩)
 .exact .inr h
section
variable {X:Cx}
theorem ym:sF X (.builtin "len") (λxs H Q=>∃a kvs,xs=[V.ref a]/\H a=some (.dK kvs)/\Q (.int kvs.length) H):=by
 intro nA s σ H xs us Q I r h;obtain⟨a,kvs,rfl,ha,q⟩:=h;obtain⟨u,rfl,ru⟩:=xw r;cases ru;exact Us I (.inl ha) λt s' I'=>⟨.int kvs.length,H,I',⟨t,rfl⟩,q⟩
end
end L2
namespace Mr
def cell(ns:List Int) (k:Nat):Int:=ns.getD k 0
def pK(ns:List Int):Nat->Nat
 |0=>0
 |k+1=>if ns.getD k 0<ns.getD (pK ns k) 0 then k else pK ns k
def rot(ns:List Int) (i:Nat):List Int:=ns.drop i++ns.take i
def qZ(ns:List Int):List Int:=rot ns (pK ns ns.length)
theorem xh(ns:List Int):∀n,(0<n->pK ns n<n)/\(∀j,j<n->ns.getD (pK ns n) 0<=ns.getD j 0)/\(∀j,j<pK ns n->ns.getD (pK ns n) 0<ns.getD j 0)
 |0=>⟨λh=>absurd h (cA _),λj h=>absurd h (cX _),λj h=>absurd h (cX _)⟩
 |n+1=>by
  obtain⟨h1,h2,h3⟩:=xh ns n;simp only[pK]
  by_cases c:ns.getD n 0<ns.getD (pK ns n) 0
  .rw [oz c];refine⟨λ_=>cB n,λj hj=>?_,λj hj=>?_⟩
   .rcases ef (gN hj) with q|q
    .have:=h2 j q;lia
    .subst q;exact gS _
   .have:=h2 j hj;lia
  .rw [oB c];refine⟨λ_=>?_,λj hj=>?_,h3⟩
   .by_cases hn:0<n
    .exact bE (h1 hn)
    .have:n=0:=by lia
     subst this;exact cB 0
   .rcases ef (gN hj) with q|q
    .exact h2 j q
    .subst q;lia
theorem GN(ns:List Int):pK ns ns.length<=ns.length:=by
 by_cases h:0<ns.length
 .exact cw ((xh ns ns.length).1 h)
 .have:ns.length=0:=by lia
  rw[this];exact ag 0
theorem AQ{ns:List Int}{j:Nat}(h:j<ns.length):ns.getD j 0=ns[j]:=by
 rw[gDq,gEg h];rfl
theorem FW{ns:List Int}{M:Int}(hm:M∈ns) (hl:∀a,a∈ns->M<=a):ns.idxOf M=pK ns ns.length:=by
 have h0:0<ns.length:=eQ hm;obtain⟨h1,h2,h3⟩:=xh ns ns.length;have h1:=h1 h0;have hi:ns.idxOf M<ns.length:=dZ.mpr hm;have e:ns.getD (ns.idxOf M) 0=M:=by rw[AQ hi];exact fB hi
 have eL:ns.getD (pK ns ns.length) 0=M:=by
  have q1:=h2 _ hi;rw[e]at q1;have q2:=hl _ (by rw[AQ h1];exact gRq h1:ns.getD (pK ns ns.length) 0∈ns)
  lia
 rcases fJ (ns.idxOf M) (pK ns ns.length) with q|q|q
 .have:=h3 _ q;lia
 .exact q
 .exfalso;have:=List.not_of_lt_findIdx (p:=(· == M)) (xs:=ns) (i:=pK ns ns.length) (by simpa [List.idxOf] using q)
  rw[AQ h1]at eL;simp[eL]at this
theorem L8:qZ []=[]:=rfl
theorem Hg(ns:List Int) (i:Nat):(rot ns i).length=ns.length:=by
 unfold rot;rw[lAq,aS,lTq];lia
theorem Fi(ns:List Int):(qZ ns).length=ns.length:=Hg _ _
def step(ns:List Int):Int:=if 0<cell ns 0 % 3 then cell ns 0 % 10 ^ 40+1 else 1
theorem KM(t:List Int) (i:Nat):(rot t i).Perm t:=by
 unfold rot;exact bj.trans (by rw[bA])
theorem uH(t:List Int):(qZ t).Perm t:=KM t _
theorem wB{rs ts:List (List Int)}(h:rs.Perm ts):rs.flatten.Perm ts.flatten:=by
 induction h with
 |nil=>exact .refl _
 |cons x _ ih=>rw[fCq,fCq];exact aQ.append (.refl x) ih
 |swap x y l =>
  rw[fCq,fCq,fCq,fCq,←ah,←ah];exact aQ.append bj (.refl _)
 |trans _ _ a b=>exact a.trans b
theorem rO{f:List Int->List Int}(hf:∀r,(f r).Perm r):∀rs:List (List Int),(rs.map f).flatten.Perm rs.flatten
 | []=>.refl _
 |r::rs=>by
  rw[aC,fCq,fCq];exact aQ.append (hf r) (rO hf rs)
theorem MZ{rs:List (List Int)}{r:List Int}(hr:r∈rs):r.length<=rs.flatten.length:=(bq hr).length_le
def TQ(r:List Int) (i:Nat) (e:Int):List Int:=r.take i++[e]++r.drop i
def Xl(ts:List (List Int)) (a:Nat) (f:Nat->Nat) (e:Int):List (List Int):=ts.set a (TQ (ts.getD a []) (f (ts.getD a []).length) e)
theorem HG:∀t:Fin 66,∀d:Fin 67,0<d.val->(t.val+1)*d.val % 67≠0:=by decide +kernel
end Mr
namespace MrS
open PySem PyProof.Rows
def vy:Bool->iK->Array iK->Nat->Nat->Nat->StateT SortSt Sem (Option Nat):=sortPriv% PySem.Builtin.gallop
structure yd (prog:iT) (w:iU) (A:Around) (s:Shared) (κ:jl) (P:iK->Prop) (lt:iK->iK->Bool):Prop where
 ask:∀x y,P x->P y->∀(E:Value->Shared->Prop) (Q:Bool->Shared->Prop),Q (lt x y) s->iM (iO prog w) A (keyLt' κ x.1 y.1) Q E s
 asym:∀x y,P x->P y->lt x y=true->lt y x=false
 trans:∀x y z,P x->P y->P z->lt y x=false->lt z y=false->lt z x=false
section
variable {prog:iT}{w:iU}{A:Around}{E:Value->Shared->Prop}{s:Shared}{κ:jl}{P:iK->Prop}{lt:iK->iK->Bool}
theorem yd.refl(C:yd prog w A s κ P lt) {x:iK}(hx:P x):lt x x=false:=by
 cases e:lt x x with
 |false=>rfl
 |true=>rw[←C.asym x x hx hx e,e]
theorem yd.cmp(C:yd prog w A s κ P lt) {x y:iK}{st:SortSt}{Q:Option Bool->SortSt->Prop}(hx:P x) (hy:P y) (hk:kindOf st=κ) (h:Q (some (lt x y)) st) :
  wpS (iO prog w) A E s (lt' x y) Q st:=by
 rw[lt'_eq];refine iP (jU ?_);rw[hk];refine iP (wpS_lift (ki (C.ask x y hx hy _ _ ⟨rfl,?_⟩)));exact iQ h
theorem oO{arr:Array iK}{i:Nat}{x:iK}{st:SortSt}{Q:iK->SortSt->Prop}(hx:arr[i]?=some x) (h:Q x st):wpS (iO prog w) A E s (jr arr i) Q st:=by
 rw[elem'_eq,hx];exact iQ h
theorem yd.at(C:yd prog w A s κ P lt) {i j:Nat}{x y:iK}{st:SortSt}{Q:Option Bool->SortSt->Prop}(hi:(iV st)[i]?=some x) (hj:(iV st)[j]?=some y) (hx:P x) (hy:P y) (hk:kindOf st=κ) (h:Q (some (lt x y)) st) :
  wpS (iO prog w) A E s (ltAt' i j) Q st:=by
 rw[ltAt'_eq];refine iP (jU ?_);exact iP (oO hi (iP (oO hj (C.cmp hx hy hk h))))
def wD(lt:iK->iK->Bool) (left:Bool) (key:iK) (arr:Array iK) (base i:Nat):Bool :=
 if left then lt (arr.getD (base+i) key) key else !lt key (arr.getD (base+i) key)
theorem GI(left:Bool) (key:iK) (arr:Array iK) (base n hint:Nat):vy left key arr base n hint=(do
 let beyond (i:Nat):StateT SortSt Sem (Option Bool):=do
  let x ←jr arr (base+i)
  if left then lt' x key else return (←lt' key x).map (!·)
 let mut lastofs:=0
 let mut ofs:=1
 let mut lo:=0
 let mut hi:=0
 let some right ←beyond hint|return none
 if right then
  let maxofs:=n-hint
  for _ in [0:n] do
   if ofs ≥ maxofs then break
   let some more ←beyond (hint+ofs)|return none
   if !more then break
   lastofs:=ofs
   ofs:=2*ofs+1
  lo:=hint+lastofs+1
  hi:=hint+min ofs maxofs
 else
  let maxofs:=hint+1
  for _ in [0:n] do
   if ofs ≥ maxofs then break
   let some found ←beyond (hint-ofs)|return none
   if found then break
   lastofs:=ofs
   ofs:=2*ofs+1
  lo:=hint+1-min ofs maxofs
  hi:=hint-lastofs
 for _ in [0:n] do
  if lo ≥ hi then break
  let m:=lo+(hi-lo) / 2
  let some more ←beyond m|return none
  if more then lo:=m+1 else hi:=m
 return some hi):=rfl
theorem uR(C:yd prog w A s κ P lt) {left:Bool}{key:iK}{arr:Array iK}{base i:Nat}{st:SortSt}{Q:Option Bool->SortSt->Prop}(hi:base+i<arr.size) (ha:∀x,x∈arr->P x) (hkey:P key) (hk:kindOf st=κ)
  (h:Q (some (wD lt left key arr base i)) st):wpS (iO prog w) A E s (do
   let x ←jr arr (base+i)
   if left=true then lt' x key else do
    let __x ←lt' key x
    pure (__x.map (!·))) Q st:=by
 have e:arr[base+i]?=some arr[base+i]:=af hi;have e2:arr.getD (base+i) key=arr[base+i]:=by simp[eR,hi]
 refine iP (oO e ?_);have hp:P arr[base+i]:=ha _ (aY hi);unfold wD at h;rw[e2]at h;cases left with
 |true =>
  rw[oz rfl]at h ⊢;exact C.cmp hp hkey hk h
 |false =>
  rw[oB (by decide)]at h ⊢
  exact iP (C.cmp hkey hp hk (iQ h))
theorem Av{left:Bool}{key:iK}{arr:Array iK}{base n lo hi:Nat}{st:SortSt}{f:Nat->Option (Option Nat)×Nat×Nat->StateT SortSt Sem (ForInStep (Option (Option Nat)×Nat×Nat))}
  (mono:∀i j,i<=j->j<n->wD lt left key arr base j=true->wD lt left key arr base i=true)
  (down:∀i j,i<=j->j<n->wD lt left key arr base i=false->wD lt left key arr base j=false)
  (hf:∀(i l u:Nat) (Q':ForInStep (Option (Option Nat)×Nat×Nat)->SortSt->Prop),u<=n->(u<=l->Q' (.done (none,l,u)) st)->(l<u->wD lt left key arr base (l+(u-l) / 2)=true->Q' (.yield (none,l+(u-l) / 2+1,u)) st) ->
   (l<u->wD lt left key arr base (l+(u-l) / 2)=false->Q' (.yield (none,l,l+(u-l) / 2)) st)->wpS (iO prog w) A E s (f i (none,l,u)) Q' st)
  (h1:lo<=hi) (h2:hi<=n) (h3:∀j,j<lo->wD lt left key arr base j=true) (h4:∀j,hi<=j->j<n->wD lt left key arr base j=false) :
  wpS (iO prog w) A E s (forIn [:n] ((none,lo,hi):Option (Option Nat)×Nat×Nat) f)
   (λc st'=>∃k,c=(none,k,k)/\st'=st/\k<=n/\(∀j,j<k->wD lt left key arr base j=true)/\(∀j,k<=j->j<n->wD lt left key arr base j=false)) st:=by
 refine jj
  (I:=λi c st'=>∃l u,c=(none,l,u)/\st'=st/\l<=u/\u<=n/\(∀j,j<l->wD lt left key arr base j=true)/\(∀j,u<=j->j<n->wD lt left key arr base j=false)/\(u-l)+i<=n)
  ?step ?fin ⟨lo,hi,rfl,rfl,h1,h2,h3,h4,by lia⟩
 case step =>
  rintro i c st' _ hi' ⟨l,u,rfl,rfl,a1,a2,a3,a4,a5⟩;refine hf i l u _ a2 (λc1=>?_) (λc1 e=>?_) (λc1 e=>?_)
  .have e:l=u:=by lia
   subst e;exact⟨l,rfl,rfl,a2,a3,a4⟩
  .exact ⟨_,u,rfl,rfl,by lia,a2,λj hj=>mono j _ (by lia) (by lia) e,a4,by lia⟩
  .exact ⟨l,_,rfl,rfl,by lia,by lia,a3,λj hj hn=>down _ j hj hn e,by lia⟩
 case fin =>
  rintro c st' ⟨l,u,rfl,rfl,a1,a2,a3,a4,a5⟩;have e:l=u:=by lia
  subst e;exact⟨l,rfl,rfl,a2,a3,a4⟩
theorem tD(C:yd prog w A s κ P lt) {left:Bool}{key:iK}{arr:Array iK}{base n hint:Nat}{st:SortSt}{Q:Option Nat->SortSt->Prop}(hh:hint<n) (hb:base+n<=arr.size) (ha:∀x,x∈arr->P x) (hkey:P key) (hk:kindOf st=κ)
  (mono:∀i j,i<=j->j<n->wD lt left key arr base j=true->wD lt left key arr base i=true)
  (h:∀k,k<=n->(∀j,j<k->wD lt left key arr base j=true)->(∀j,k<=j->j<n->wD lt left key arr base j=false)->Q (some k) st) :
  wpS (iO prog w) A E s (vy left key arr base n hint) Q st:=by
 have down:∀i j,i<=j->j<n->wD lt left key arr base i=false->wD lt left key arr base j=false:=λi j hij hj e=>by
  cases q:wD lt left key arr base j with
  |false=>rfl
  |true=>rw[mono i j hij hj q]at e;cases e
 rw[GI];dsimp only;refine iP (uR C (base:=base) (i:=hint) (by lia) ha hkey hk ?_)
 cases er:wD lt left key arr base hint with
 |true =>
  dsimp only;rw[oz rfl];refine iP (jn (jj
   (I:=λi c st'=>∃l o,c=(none,l,o)/\st'=st/\l<o/\i+1<=o/\hint+l<n/\wD lt left key arr base (hint+l)=true)
   (Q:=λc st'=>∃l o,c=(none,l,o)/\st'=st/\l<o/\hint+l<n/\wD lt left key arr base (hint+l)=true/\(n-hint<=o∨(hint+o<n/\wD lt left key arr base (hint+o)=false)))
   ?step ?fin ⟨0,1,rfl,rfl,by lia,by lia,by lia,er⟩) ?post)
  case step =>
   rintro i c st' _ hi' ⟨l,o,rfl,rfl,a1,a2,a3,a4⟩;dsimp only
   by_cases c1:o ≥ n-hint
   .rw [oz c1];exact iQ ⟨l,o,rfl,rfl,a1,a3,a4,.inl c1⟩
   .rw [oB c1];refine iP (uR C (base:=base) (i:=hint+o) (by lia) ha hkey hk ?_)
    cases e:wD lt left key arr base (hint+o) with
    |true =>
     dsimp only;rw[oB (by decide)]
     exact iQ ⟨o,_,rfl,rfl,by lia,by lia,by lia,e⟩
    |false =>
     dsimp only;rw[oz (by decide)]
     exact iQ ⟨l,o,rfl,rfl,a1,a3,a4,.inr ⟨by lia,e⟩⟩
  case fin =>
   rintro c st' ⟨l,o,rfl,rfl,a1,a2,a3,a4⟩;exact⟨l,o,rfl,rfl,a1,a3,a4,.inl (by lia)⟩
  case post =>
   rintro c st' ⟨l,o,rfl,rfl,a1,a3,a4,a5⟩;dsimp only;refine iP (jn (Av (lt:=lt) (left:=left) (key:=key) (arr:=arr) (base:=base) mono down (λi l' u' Q' hu q1 q2 q3=>?_) (by lia) (by lia) (λj hj=>mono j _ (by lia) a3 a4) ?_) ?_)
   .dsimp only
    by_cases c1:l' ≥ u'
    .rw [oz c1];exact iQ (q1 c1)
    .rw [oB c1];refine iP (uR C (base:=base) (i:=l'+(u'-l') / 2) (by lia) ha hkey hk ?_)
     cases e:wD lt left key arr base (l'+(u'-l') / 2) with
     |true =>
      dsimp only;rw[oz rfl];exact iQ (q2 (by lia) e)
     |false =>
      dsimp only;rw[oB (by decide)]
      exact iQ (q3 (by lia) e)
   .intro j hj hn;rcases a5 with a5|⟨a5,a6⟩
    .lia
    .exact down (hint+o) j (by lia) hn a6
   .rintro c st' ⟨k,rfl,rfl,k1,k2,k3⟩;exact iQ (h k k1 k2 k3)
 |false =>
  dsimp only;rw[oB (by decide)]
  refine iP (jn (jj
   (I:=λi c st'=>∃l o,c=(none,l,o)/\st'=st/\l<o/\i+1<=o/\l<=hint/\wD lt left key arr base (hint-l)=false)
   (Q:=λc st'=>∃l o,c=(none,l,o)/\st'=st/\l<o/\l<=hint/\wD lt left key arr base (hint-l)=false/\(hint+1<=o∨(o<=hint/\wD lt left key arr base (hint-o)=true)))
   ?step ?fin ⟨0,1,rfl,rfl,by lia,by lia,by lia,er⟩) ?post)
  case step =>
   rintro i c st' _ hi' ⟨l,o,rfl,rfl,a1,a2,a3,a4⟩;dsimp only
   by_cases c1:o ≥ hint+1
   .rw [oz c1];exact iQ ⟨l,o,rfl,rfl,a1,a3,a4,.inl c1⟩
   .rw [oB c1];refine iP (uR C (base:=base) (i:=hint-o) (by lia) ha hkey hk ?_)
    cases e:wD lt left key arr base (hint-o) with
    |true =>
     dsimp only;rw[oz rfl];exact iQ ⟨l,o,rfl,rfl,a1,a3,a4,.inr ⟨by lia,e⟩⟩
    |false =>
     dsimp only;rw[oB (by decide)]
     exact iQ ⟨o,_,rfl,rfl,by lia,by lia,by lia,e⟩
  case fin =>
   rintro c st' ⟨l,o,rfl,rfl,a1,a2,a3,a4⟩;exact⟨l,o,rfl,rfl,a1,a3,a4,.inl (by lia)⟩
  case post =>
   rintro c st' ⟨l,o,rfl,rfl,a1,a3,a4,a5⟩;dsimp only;refine iP (jn (Av (lt:=lt) (left:=left) (key:=key) (arr:=arr) (base:=base) mono down (λi l' u' Q' hu q1 q2 q3=>?_) (by lia) (by lia) ?_ (λj hj hn=>down _ j hj hn a4)) ?_)
   .dsimp only
    by_cases c1:l' ≥ u'
    .rw [oz c1];exact iQ (q1 c1)
    .rw [oB c1];refine iP (uR C (base:=base) (i:=l'+(u'-l') / 2) (by lia) ha hkey hk ?_)
     cases e:wD lt left key arr base (l'+(u'-l') / 2) with
     |true =>
      dsimp only;rw[oz rfl];exact iQ (q2 (by lia) e)
     |false =>
      dsimp only;rw[oB (by decide)]
      exact iQ (q3 (by lia) e)
   .intro j hj;rcases a5 with a5|⟨a5,a6⟩
    .lia
    .exact mono j (hint-o) (by lia) (by lia) a6
   .rintro c st' ⟨k,rfl,rfl,k1,k2,k3⟩;exact iQ (h k k1 k2 k3)
end
abbrev xg(lt:iK->iK->Bool) (l:List iK):Prop:=l.Pairwise λx y=>lt y x=false
structure MI (lt:iK->iK->Bool) (a b out:Array iK) (ia ib:Nat):Prop where
 la:ia<=a.size
 lb:ib<=b.size
 pm:(out.toList++(a.toList.drop ia++b.toList.drop ib)).Perm (a.toList++b.toList)
 so:xg lt out.toList
 ua:∀x∈out.toList,∀y∈a.toList.drop ia,lt y x=false
 ub:∀x∈out.toList,∀y∈b.toList.drop ib,lt y x=false
section
variable {lt:iK->iK->Bool}{a b out out':Array iK}{ia ib k:Nat}
theorem MI.congr(m:MI lt a b out ia ib) (e:out'.toList=out.toList):MI lt a b out' ia ib:=⟨m.la,m.lb,by rw[e];exact m.pm,by rw[e];exact m.so,by rw[e];exact m.ua,by rw[e];exact m.ub⟩
theorem Gb(l:List iK) (i k:Nat):l.drop i=(l.drop i).take k++l.drop (i+k):=by
 rw[←List.drop_drop,bA]
theorem wY(a:Array iK) (i k:Nat):(a.extract i (i+k)).toList=(a.toList.drop i).take k:=by
 rw[fg,dW,fT]
theorem MI.moreA(m:MI lt a b out ia ib) (sa:xg lt a.toList) (hk:ia+k<=a.size) (h:∀x∈(a.toList.drop ia).take k,∀y∈b.toList.drop ib,lt y x=false):MI lt a b (out++a.extract ia (ia+k)) (ia+k) ib:=by
 have e:(out++a.extract ia (ia+k)).toList=out.toList++(a.toList.drop ia).take k:=by rw[aL,wY]
 have sd:xg lt (a.toList.drop ia):=sa.sublist (bI _ _);have c:=Gb a.toList ia k;have sd2:=sd;rw[c]at sd2;obtain⟨q1,q2,q3⟩:=aH.mp sd2;refine⟨hk,m.lb,?_,?_,?_,?_⟩
 .rw [e,ah];refine(aQ.append_left _ ?_).trans m.pm;rw[←ah,←c]
 .rw [e];exact aH.mpr ⟨m.so,q1,λx hx y hy=>m.ua x hx y (bW hy)⟩
 .rw [e];intro x hx y hy;rcases mAq.mp hx with hx|hx
  .exact m.ua x hx y (by rw[c];exact ar _ hy)
  .exact q3 x hx y hy
 .rw [e];intro x hx y hy;rcases mAq.mp hx with hx|hx
  .exact m.ub x hx y hy
  .exact h x hx y hy
theorem MI.moreB(m:MI lt a b out ia ib) (sb:xg lt b.toList) (hk:ib+k<=b.size) (h:∀x∈(b.toList.drop ib).take k,∀y∈a.toList.drop ia,lt y x=false):MI lt a b (out++b.extract ib (ib+k)) ia (ib+k):=by
 have e:(out++b.extract ib (ib+k)).toList=out.toList++(b.toList.drop ib).take k:=by rw[aL,wY]
 have sd:xg lt (b.toList.drop ib):=sb.sublist (bI _ _);have c:=Gb b.toList ib k;have sd2:=sd;rw[c]at sd2;obtain⟨q1,q2,q3⟩:=aH.mp sd2;refine⟨m.la,hk,?_,?_,?_,?_⟩
 .rw [e,ah];refine(aQ.append_left _ ?_).trans m.pm;refine((fA _ _ _).trans ?_);rw[←c]
 .rw [e];exact aH.mpr ⟨m.so,q1,λx hx y hy=>m.ub x hx y (bW hy)⟩
 .rw [e];intro x hx y hy;rcases mAq.mp hx with hx|hx
  .exact m.ua x hx y hy
  .exact h x hx y hy
 .rw [e];intro x hx y hy;rcases mAq.mp hx with hx|hx
  .exact m.ub x hx y (by rw[c];exact ar _ hy)
  .exact q3 x hx y hy
theorem wQ{l:List iK}{i:Nat}{x:iK}(h:l[i]?=some x):(l.drop i).take 1=[x]:=by
 obtain⟨hi,e⟩:=gSq.mp h;rw[aK hi,e];rfl
theorem MI.pushA{x:iK}(m:MI lt a b out ia ib) (sa:xg lt a.toList) (hx:a[ia]?=some x) (h:∀y∈b.toList.drop ib,lt y x=false):MI lt a b (out.push x) (ia+1) ib:=by
 have hi:ia<a.size:=(aD.mp hx).1;have hx':a.toList[ia]?=some x:=by rw[aq];exact hx
 refine(m.moreA sa (k:=1) hi λz hz y hy=>?_).congr ?_
 .rw [wQ hx',mSq]at hz;rw[hz];exact h y hy
 .rw [cQ,aL,wY,wQ hx']
theorem MI.pushB{x:iK}(m:MI lt a b out ia ib) (sb:xg lt b.toList) (hx:b[ib]?=some x) (h:∀y∈a.toList.drop ia,lt y x=false):MI lt a b (out.push x) ia (ib+1):=by
 have hi:ib<b.size:=(aD.mp hx).1;have hx':b.toList[ib]?=some x:=by rw[aq];exact hx
 refine(m.moreB sb (k:=1) hi λz hz y hy=>?_).congr ?_
 .rw [wQ hx',mSq]at hz;rw[hz];exact h y hy
 .rw [cQ,aL,wY,wQ hx']
structure N4 (lt:iK->iK->Bool) (a b r:Array iK):Prop where
 pm:r.toList.Perm (a.toList++b.toList)
 so:xg lt r.toList
theorem wc(a:Array iK) (i:Nat):(a.extract i a.size).toList=a.toList.drop i:=by
 rw[fg,dW];exact cj (by rw[aS,ao];exact ag _)
theorem MI.endB(m:MI lt a b out ia ib) (sa:xg lt a.toList) (e:ib=b.size):N4 lt a b (out++a.extract ia a.size++b.extract ib b.size):=by
 have eb:b.toList.drop ib=[]:=by rw[e,←ao,cS]
 have et:(out++a.extract ia a.size++b.extract ib b.size).toList=out.toList++a.toList.drop ia:=by
  rw[aL,aL,wc,wc,eb,aNq]
 have pm:=m.pm;rw[eb,aNq]at pm;exact⟨by rw[et];exact pm,by rw[et];exact aH.mpr ⟨m.so,sa.sublist (bI _ _),m.ua⟩⟩
theorem MI.endA(m:MI lt a b out ia ib) (sb:xg lt b.toList) (e:ia=a.size):N4 lt a b (out++a.extract ia a.size++b.extract ib b.size):=by
 have ea:a.toList.drop ia=[]:=by rw[e,←ao,cS]
 have et:(out++a.extract ia a.size++b.extract ib b.size).toList=out.toList++b.toList.drop ib:=by
  rw[aL,aL,wc,wc,ea,aNq]
 have pm:=m.pm;rw[ea,dv]at pm;exact⟨by rw[et];exact pm,by rw[et];exact aH.mpr ⟨m.so,sb.sublist (bI _ _),m.ub⟩⟩
theorem MI.lastA(m:MI lt a b out ia ib) (sa:xg lt a.toList) (sb:xg lt b.toList) (h:∀x∈b.toList.drop ib,∀y∈a.toList.drop ia,lt y x=false):N4 lt a b (out++b.extract ib b.size++a.extract ia a.size):=by
 have et:(out++b.extract ib b.size++a.extract ia a.size).toList=out.toList++(b.toList.drop ib++a.toList.drop ia):=by
  rw[aL,aL,wc,wc,ah]
 refine⟨?_,?_⟩
 .rw [et];exact(aQ.append_left _ bj).trans m.pm
 .rw [et];refine aH.mpr ⟨m.so,aH.mpr ⟨sb.sublist (bI _ _),sa.sublist (bI _ _),h⟩,λx hx y hy=>?_⟩
  rcases mAq.mp hy with hy|hy
  .exact m.ub x hx y hy
  .exact m.ua x hx y hy
end
def BM:Array iK->Array iK->StateT SortSt Sem (Array iK):=sortPriv% PySem.Builtin.mergeLo
def qX:Nat->StateT SortSt Sem Unit:=sortPriv% PySem.Builtin.setMinGallop
abbrev sg(st:SortSt) (g:Nat):SortSt:=SortSt.mk' (kindOf st) (iV st) (jH st) g (failedOf st)
theorem Af(g:Nat):qX g=modify λst=>sg st g:=rfl
section
variable (a b:Array iK)
abbrev dn(o:Array iK) (i j:Nat):=o++a.extract i a.size++b.extract j b.size
abbrev lA(o:Array iK) (i j:Nat):=o++b.extract j b.size++a.extract i a.size
abbrev SF(α:Type):=ForInStep (Option (Array iK)×Array iK×Nat×Nat×α)
def V1(o:Array iK) (i j m k l:Nat):StateT SortSt Sem (SF (Nat×Nat×Nat)):=do
 let x ←jr a i
 if i+1+1 == a.size then pure (.done (some (lA a b (o.push x) (i+1) j),o.push x,i+1,j,m,k,l))
 else if decide (k<7) && decide (l<7) then pure (.done (none,o.push x,i+1,j,m,k,l))
 else pure (.yield (none,o.push x,i+1,j,m,k,l))
def WB(o:Array iK) (i j m k q:Nat):StateT SortSt Sem (SF (Nat×Nat×Nat)):=do
 let x ←jr b j
 if j+1 == b.size then pure (.done (some (dn a b (o.push x) i (j+1)),o.push x,i,j+1,m,k,q))
 else do
  let y ←jr a i
  match ←vy true y b (j+1) (b.size-(j+1)) 0 with
  |some l =>
   if l>0 then
    if j+1+l == b.size then pure (.done (some (dn a b (o.push x++b.extract (j+1) (j+1+l)) i (j+1+l)),o.push x++b.extract (j+1) (j+1+l),i,j+1+l,m,k,l))
    else V1 a b (o.push x++b.extract (j+1) (j+1+l)) i (j+1+l) m k l
   else V1 a b (o.push x) i (j+1) m k l
  |_=>pure (.done (some (dn a b (o.push x) i (j+1)),o.push x,i,j+1,m,k,q))
def Wf(o:Array iK) (i j m p q:Nat):StateT SortSt Sem (SF (Nat×Nat×Nat)):=do
 qX m
 let x ←jr b j
 match ←vy false x a i (a.size-i) 0 with
 |some k =>
  if k>0 then
   if i+k+1 == a.size then pure (.done (some (lA a b (o++a.extract i (i+k)) (i+k) j),o++a.extract i (i+k),i+k,j,m,k,q))
   else if i+k == a.size then pure (.done (some (dn a b (o++a.extract i (i+k)) (i+k) j),o++a.extract i (i+k),i+k,j,m,k,q))
   else WB a b (o++a.extract i (i+k)) (i+k) j m k q
  else WB a b o i j m k q
 |_=>pure (.done (some (dn a b o i j),o,i,j,m,p,q))
def W2(m:Nat) (o:Array iK) (i j p q:Nat):StateT SortSt Sem (SF (Nat×Nat)):=do
 let y ←jr b j
 let x ←jr a i
 match ←lt' y x with
 |some c =>
  if c then do
   let z ←jr b j
   if j+1 == b.size then pure (.done (some (dn a b (o.push z) i (j+1)),o.push z,i,j+1,0,q+1))
   else if q+1 ≥ m then pure (.done (none,o.push z,i,j+1,0,q+1))
   else pure (.yield (none,o.push z,i,j+1,0,q+1))
  else do
   let z ←jr a i
   if i+1+1 == a.size then pure (.done (some (lA a b (o.push z) (i+1) j),o.push z,i+1,j,p+1,0))
   else if p+1 ≥ m then pure (.done (none,o.push z,i+1,j,p+1,0))
   else pure (.yield (none,o.push z,i+1,j,p+1,0))
 |_=>pure (.done (some (dn a b o i j),o,i,j,p,q))
def Xf(o:Array iK) (i j m:Nat):StateT SortSt Sem (SF Nat):=do
 let r ←forIn [0:a.size+b.size] (none,o,i,j,0,0) λ_ s=>W2 a b m s.2.1 s.2.2.1 s.2.2.2.1 s.2.2.2.2.1 s.2.2.2.2.2
 Break.runK.match_1 (λ_=>StateT SortSt Sem (SF Nat)) r.1 (λv=>pure (.done (some v,r.2.1,r.2.2.1,r.2.2.2.1,m))) λ_=>do
  rule "list.sort.gallop"
  let r ←forIn [0:a.size+b.size] (none,r.2.1,r.2.2.1,r.2.2.2.1,m+1,r.2.2.2.2.1,r.2.2.2.2.2) λ_ s=>if s.2.2.2.2.1>1 then Wf a b s.2.1 s.2.2.1 s.2.2.2.1 (s.2.2.2.2.1-1) s.2.2.2.2.2.1 s.2.2.2.2.2.2 else Wf a b s.2.1 s.2.2.1 s.2.2.2.1 s.2.2.2.2.1 s.2.2.2.2.2.1 s.2.2.2.2.2.2
  Break.runK.match_1 (λ_=>StateT SortSt Sem (SF Nat)) r.1 (λv=>pure (.done (some v,r.2.1,r.2.2.1,r.2.2.2.1,r.2.2.2.2.1))) λ_=>do
   qX (r.2.2.2.2.1+1)
   pure (.yield (none,r.2.1,r.2.2.1,r.2.2.2.1,r.2.2.2.2.1+1))
theorem FL:BM a b=(do
 rule "list.sort.merge-lo"
 let x ←jr b 0
 if 1 == b.size then pure (dn a b #[x] 0 1)
 else if 0+1 == a.size then pure (lA a b #[x] 0 1)
 else do
  let st ←get
  let r ←forIn [0:a.size+b.size] (none,#[x],0,1,ko st) λ_ s=>Xf a b s.2.1 s.2.2.1 s.2.2.2.1 s.2.2.2.2
  Break.runK.match_1 (λ_=>StateT SortSt Sem (Array iK)) r.1 (λv=>pure v) λ_=>jA "internal:list.sort.merge-bound"):=rfl
end
section
variable {prog:iT}{w:iU}{A:Around}{E:Value->Shared->Prop}{s:Shared}{κ:jl}{P:iK->Prop}{lt:iK->iK->Bool}
theorem wH{g:Nat}{st:SortSt}{Q:Unit->SortSt->Prop}(h:Q () (sg st g)):wpS (iO prog w) A E s (qX g) Q st:=by
 rw[Af];exact jN h
theorem wj{x:String}{st:SortSt}{Q:Unit->SortSt->Prop}(h:Q () st):wpS (iO prog w) A E s (liftM (rule x):StateT SortSt Sem Unit) Q st:=wpS_lift (lW ⟨rfl,h⟩)
theorem AN(C:yd prog w A s κ P lt) {a:Array iK}{i:Nat}{x:iK}(ha:∀x,x∈a->P x) (sa:xg lt a.toList) (hx:a[i]?=some x):∀y∈a.toList.drop i,lt y x=false:=by
 obtain⟨hi,e⟩:=aD.mp hx;have hi':i<a.toList.length:=by simpa using hi
 have e':a.toList[i]=x:=by simpa using e
 have sd:xg lt (a.toList.drop i):=sa.sublist (bI _ _);rw[aK hi',e']at sd ⊢;intro y hy;rcases aj.mp hy with rfl|hy
 .exact C.refl (ha _ (by rw[←e];exact aY hi))
 .exact (eh.mp sd).1 y hy
theorem uN{a:Array iK}{i:Nat}{y:iK}(h:y∈a.toList.drop i):y∈a:=by simpa using bG h
theorem zH(C:yd prog w A s κ P lt) {left:Bool}{key:iK}{arr:Array iK}{base n:Nat}(hb:base+n<=arr.size) (ha:∀x,x∈arr->P x) (hkey:P key) (so:xg lt (arr.toList.drop base)) :
  ∀i j,i<=j->j<n->wD lt left key arr base j=true->wD lt left key arr base i=true:=by
 intro i j hij hj h;have hi':base+i<arr.size:=by lia
 have hj':base+j<arr.size:=by lia
 have ei:arr.getD (base+i) key=arr[base+i]:=by simp[eR,hi']
 have ej:arr.getD (base+j) key=arr[base+j]:=by simp[eR,hj']
 have pi:=ha _ (aY hi');have pj:=ha _ (aY hj');have le:lt arr[base+j] arr[base+i]=false:=by
  rcases ef hij with q|q
  .have:=bN.mp so i j (by simp;lia) (by simp;lia) q
   simpa using this
  .subst q;exact C.refl pi
 unfold wD at h ⊢;rw[ei];rw[ej]at h;cases left with
 |true =>
  rw[oz rfl]at h ⊢;cases q:lt arr[base+i] key with
  |true=>rfl
  |false =>
   have:=C.trans key arr[base+i] arr[base+j] hkey pi pj q le;rw[h]at this;cases this
 |false =>
  rw[oB (by decide)]at h ⊢
  have h':lt key arr[base+j]=false:=by simpa using h
  have:=C.trans arr[base+i] arr[base+j] key pi pj hkey le h';simp[this]
theorem sW{left:Bool}{key x:iK}{arr:Array iK}{base i:Nat}(hx:arr[base+i]?=some x):wD lt left key arr base i=if left then lt x key else !lt key x:=by
 obtain⟨hi,e⟩:=aD.mp hx;unfold wD;have ei:arr.getD (base+i) key=x:=by simp[eR,hi,e]
 rw[ei]
theorem vL{a:Array iK}{i k:Nat}{x:iK}(h:x∈(a.toList.drop i).take k):∃j,j<k/\a[i+j]?=some x:=by
 obtain⟨j,hj,e⟩:=cL.mp h;rw[lTq]at hj;refine⟨j,by lia,?_⟩
 rw[fK,eO]at e;rw[aD];have hs:i+j<a.size:=by
  rw[aS,ao]at hj;lia
 exact⟨hs,by simpa using e⟩
theorem xA{a:Array iK}{i:Nat}{x:iK}(h:x∈a.toList.drop i):∃j,i+j<a.size/\a[i+j]?=some x:=by
 obtain⟨j,hj,e⟩:=cL.mp h;rw[aS,ao]at hj;have hs:i+j<a.size:=by lia
 refine⟨j,hs,?_⟩;rw[eO]at e;rw[aD];exact⟨hs,by simpa using e⟩
inductive Lp {ρ τ ι σ:Type}(t:ι->τ) (v:ι->σ) (J K:ι->Prop) (R:ρ->σ->Prop):ForInStep (Option ρ×τ)->σ->Prop
 |y (x):J x->Lp t v J K R (.yield (none,t x)) (v x)
 |d (x):K x->Lp t v J K R (.done (none,t x)) (v x)
 |r (a y st):R a st->Lp t v J K R (.done (some a,y)) st
theorem wA{M:kJ}{ρ τ ι σ β:Type}{n:Nat}(t:ι->τ) (v:ι->σ) (J:Nat->ι->Prop) (K:ι->Prop) (R:ρ->σ->Prop) {f:Nat->Option ρ×τ->StateT σ Sem (ForInStep (Option ρ×τ))}{k:Option ρ×τ->StateT σ Sem β}{Q:β->σ->Prop}
  (x:ι) (h:J 0 x) (step:∀i x,J i x->wpS M A E s (f i (none,t x)) (Lp t v (J (i+1)) K R) (v x)) (fin:∀x,J n x->K x) (pn:∀x,K x->wpS M A E s (k (none,t x)) Q (v x)) (ps:∀r y st,R r st->wpS M A E s (k (some r,y)) Q st) :
  wpS M A E s (forIn [0:n] (none,t x) f >>= k) Q (v x):=by
 refine iP (jn (jj (I:=λi c st=>∃x,c=(none,t x)/\st=v x/\J i x) (Q:=λc st=>Lp t v K K R (.done c) st) ?_ ?_ ⟨x,rfl,rfl,h⟩) ?_)
 .rintro i c st _ _ ⟨x,rfl,rfl,h⟩;refine jn (step i x h) λr st' hr=>?_
  cases hr with
  |y x h=>exact⟨x,rfl,rfl,h⟩
  |d x h=>exact .d x h
  |r a y st h=>exact .r a y _ h
 .rintro c st ⟨x,rfl,rfl,h⟩;rw[gT (aV n)]at h;exact .d x (fin x h)
 .rintro c st h;cases h with
  |d x h=>exact pn x h
  |r a y st h=>exact ps a y _ h
structure Ls where
 o:Array iK
 (i j m p q g:Nat)
structure ML (lt:iK->iK->Bool) (a b:Array iK) (n:Nat) (x:Ls):Prop where
 m:MI lt a b x.o x.i x.j
 p:x.i+1<a.size
 q:x.j<b.size
 r:n<=x.i+x.j
structure Lo (prog:iT) (w:iU) (A:Around) (s:Shared) (κ:jl) (P:iK->Prop) (lt:iK->iK->Bool) (a b:Array iK) (st:SortSt) (Q:Array iK->SortSt->Prop):Prop where
 C:yd prog w A s κ P lt
 ha:∀x,x∈a->P x
 hb:∀x,x∈b->P x
 hk:kindOf st=κ
 sa:xg lt a.toList
 sb:xg lt b.toList
 h:∀r g,N4 lt a b r->Q r (sg st g)
abbrev L6(x:Ls):=(x.o,x.i,x.j,x.m,x.p,x.q)
abbrev L5(x:Ls):=(x.o,x.i,x.j,x.p,x.q)
abbrev L4(x:Ls):=(x.o,x.i,x.j,x.m)
variable {a b:Array iK}{st:SortSt}{Q:Array iK->SortSt->Prop}{n:Nat}{x:Ls}
abbrev Hl(lt:iK->iK->Bool) (a b:Array iK):=∀i,i+1=a.size->∀x∈b.toList,∀y∈a.toList.drop i,lt y x=false
theorem LF(H:Lo prog w A s κ P lt a b st Q) (hl:Hl lt a b) (q:ML lt a b n x) (hi:∀z,a[x.i]?=some z->∀y∈b.toList.drop x.j,lt y z=false) :
  wpS (iO prog w) A E s (V1 a b x.o x.i x.j x.m x.p x.q) (Lp L6 (λx=>sg st x.g) (ML lt a b n) (ML lt a b n) Q) (sg st x.g):=by
 have p1:=q.p;have ea:a[x.i]?=some a[x.i]:=af (by lia)
 refine iP (oO ea ?_);have m6:=q.m.pushA H.sa ea (hi _ ea)
 by_cases d6:x.i+1+1=a.size
 .rw [oz (by simp[d6])]
  exact iQ (.r _ _ _ (H.h _ _ (m6.lastA H.sa H.sb λy hy=>hl _ d6 y (bG hy))))
 rw[oB (by simpa using d6)]
 have R:ML lt a b n ⟨_,_,_,x.m,x.p,x.q,x.g⟩:=⟨m6,by dsimp only;lia,q.q,by have:=q.r;dsimp only;lia⟩
 split
 .exact iQ (.d _ R)
 .exact iQ (.y _ R)
theorem NA(H:Lo prog w A s κ P lt a b st Q) (hl:Hl lt a b) (q:ML lt a b n x) (hi:∀z,b[x.j]?=some z->∀y∈a.toList.drop x.i,lt y z=false) :
  wpS (iO prog w) A E s (WB a b x.o x.i x.j x.m x.p x.q) (Lp L6 (λx=>sg st x.g) (ML lt a b n) (ML lt a b n) Q) (sg st x.g):=by
 have p1:=q.p;have p2:=q.q;have p3:=q.r;have eb:b[x.j]?=some b[x.j]:=af p2;refine iP (oO eb ?_);have m4:=q.m.pushB H.sb eb (hi _ eb)
 by_cases d3:x.j+1=b.size
 .rw [oz (by simp[d3])]
  exact iQ (.r _ _ _ (H.h _ _ (m4.endB H.sa d3)))
 rw[oB (by simpa using d3)]
 have ea:a[x.i]?=some a[x.i]:=af (by lia)
 have pa:=H.ha _ (aY (show x.i<a.size by lia))
 refine iP (oO ea (iP (tD H.C (base:=x.j+1) (n:=b.size-(x.j+1)) (by lia) (by lia) H.hb pa H.hk (zH H.C (by lia) H.hb pa (H.sb.sublist (bI _ _))) λl l1 l2 l3=>?_)))
 have hB:∀z,a[x.i]?=some z->∀y∈b.toList.drop (x.j+1+l),lt y z=false:=λz hz y hy=>by
  obtain⟨j',hj',ey⟩:=xA hy;have q:=l3 (l+j') (by lia) (by lia)
  rw[sW (by rw[←eY];exact ey),oz rfl]at q
  rw[ea]at hz;cases hz;exact q
 dsimp only
 by_cases cl:l>0
 .rw [oz cl];have m5:=m4.moreB H.sb (k:=l) (by lia) λx hx y hy=>by
   obtain⟨j',hj',ex⟩:=vL hx;have q:=l2 j' hj';rw[sW ex,oz rfl]at q;have px:=H.hb x (bW hx |> uN);exact H.C.trans _ _ _ px pa (H.ha _ (uN hy)) (H.C.asym _ _ px pa q) (AN H.C H.ha H.sa ea y hy)
  by_cases d5:x.j+1+l=b.size
  .rw [oz (by simp[d5])]
   exact iQ (.r _ _ _ (H.h _ _ (m5.endB H.sa d5)))
  rw[oB (by simpa using d5)]
  exact LF H hl (x:=⟨_,_,_,_,_,_,x.g⟩) ⟨m5,p1,by dsimp only;lia,by dsimp only;lia⟩ hB
 .rw [oB cl];exact LF H hl (x:=⟨_,_,_,_,_,_,x.g⟩) ⟨m4,p1,by dsimp only;lia,by dsimp only;lia⟩ (by rw[show x.j+1=x.j+1+l by lia];exact hB)
theorem M0(H:Lo prog w A s κ P lt a b st Q) (hl:Hl lt a b) (q:ML lt a b n x) :
  wpS (iO prog w) A E s (Wf a b x.o x.i x.j x.m x.p x.q) (Lp L6 (λx=>sg st x.g) (ML lt a b n) (ML lt a b n) Q) (sg st x.g):=by
 have p1:=q.p;have p2:=q.q;have p3:=q.r;have eb:b[x.j]?=some b[x.j]:=af p2;have pb:=H.hb _ (aY p2);refine iP (wH (iP (oO eb (iP (tD H.C (base:=x.i) (n:=a.size-x.i) (by lia) (by lia) H.ha pb H.hk (zH H.C (by lia) H.ha pb (H.sa.sublist (bI _ _))) λk k1 k2 k3=>?_)))))
 have hA:∀z,b[x.j]?=some z->∀y∈a.toList.drop (x.i+k),lt y z=false:=λz hz y hy=>by
  obtain⟨j',hj',ey⟩:=xA hy;have q:=k3 (k+j') (by lia) (by lia)
  rw[sW (by rw[←eY];exact ey),oB (by decide)]at q
  rw[eb]at hz;cases hz;exact H.C.asym _ _ pb (H.ha _ (uN hy)) (by simpa using q)
 dsimp only
 by_cases ck:k>0
 .rw [oz ck];have m3:=q.m.moreA H.sa (k:=k) (by lia) λx hx y hy=>by
   obtain⟨j',hj',ex⟩:=vL hx;have q:=k2 j' hj';rw[sW ex,oB (by decide)]at q
   exact H.C.trans _ _ _ (H.ha x (bW hx |> uN)) pb (H.hb _ (uN hy)) (by simpa using q) (AN H.C H.hb H.sb eb y hy)
  by_cases d1:x.i+k+1=a.size
  .rw [oz (by simp[d1])]
   exact iQ (.r _ _ _ (H.h _ x.m (m3.lastA H.sa H.sb λx hx=>hl _ d1 x (bG hx))))
  rw[oB (by simpa using d1)]
  by_cases d2:x.i+k=a.size
  .rw [oz (by simp[d2])]
   exact iQ (.r _ _ _ (H.h _ x.m (m3.endA H.sb d2)))
  rw[oB (by simpa using d2)]
  exact NA H hl (x:=⟨_,_,_,_,_,_,x.m⟩) ⟨m3,by dsimp only;lia,p2,by dsimp only;lia⟩ hA
 .rw [oB ck];exact NA H hl (x:=⟨_,_,_,_,_,_,x.m⟩) ⟨q.m,p1,p2,p3⟩ (by rw[show x.i=x.i+k by lia];exact hA)
theorem Tj(H:Lo prog w A s κ P lt a b st Q) (hl:Hl lt a b) {m j:Nat}(q:ML lt a b (n+j) x) :
  wpS (iO prog w) A E s (W2 a b m x.o x.i x.j x.p x.q) (Lp L5 (λx=>sg st x.g) (ML lt a b (n+(j+1))) (ML lt a b (n+1)) Q) (sg st x.g):=by
 have p1:=q.p;have p2:=q.q;have p3:=q.r;have ea:a[x.i]?=some a[x.i]:=af (by lia)
 have eb:b[x.j]?=some b[x.j]:=af p2;have pa:=H.ha _ (aY (show x.i<a.size by lia))
 have pb:=H.hb _ (aY p2);refine iP (oO eb (iP (oO ea (iP (H.C.cmp pb pa H.hk ?_)))));cases e:lt b[x.j] a[x.i] with
 |true =>
  dsimp only;rw[oz rfl];refine iP (oO eb ?_);have m2:=q.m.pushB H.sb eb λz hz=>H.C.trans _ _ _ pb pa (H.ha _ (uN hz)) (H.C.asym _ _ pb pa e) (AN H.C H.ha H.sa ea z hz)
  by_cases d1:x.j+1=b.size
  .rw [oz (by simp[d1])]
   exact iQ (.r _ _ _ (H.h _ _ (m2.endB H.sa d1)))
  rw[oB (by simpa using d1)]
  have R:∀n,n<=x.i+(x.j+1)->ML lt a b n ⟨_,_,_,0,0,x.q+1,x.g⟩:=λn hn=>⟨m2,p1,by dsimp only;lia,hn⟩
  split
  .exact iQ (.d _ (R _ (by lia)))
  .exact iQ (.y _ (R _ (by lia)))
 |false =>
  dsimp only;rw[oB (by decide)]
  refine iP (oO ea ?_);have m2:=q.m.pushA H.sa ea λz hz=>H.C.trans _ _ _ pa pb (H.hb _ (uN hz)) e (AN H.C H.hb H.sb eb z hz)
  by_cases d1:x.i+1+1=a.size
  .rw [oz (by simp[d1])]
   exact iQ (.r _ _ _ (H.h _ _ (m2.lastA H.sa H.sb λx hx=>hl _ d1 x (bG hx))))
  rw[oB (by simpa using d1)]
  have R:∀n,n<=x.i+1+x.j->ML lt a b n ⟨_,_,_,0,x.p+1,0,x.g⟩:=λn hn=>⟨m2,by dsimp only;lia,p2,hn⟩
  split
  .exact iQ (.d _ (R _ (by lia)))
  .exact iQ (.y _ (R _ (by lia)))
theorem Sq(H:Lo prog w A s κ P lt a b st Q) (hl:Hl lt a b) (q:ML lt a b n x) :
  wpS (iO prog w) A E s (Xf a b x.o x.i x.j x.m) (Lp L4 (λx=>sg st x.g) (ML lt a b (n+1)) (λ_=>False) Q) (sg st x.g):=by
 refine wA L5 (λx=>sg st x.g) (λj=>ML lt a b (n+j)) (ML lt a b (n+1)) Q ⟨x.o,x.i,x.j,0,0,0,x.g⟩ ⟨q.m,q.p,q.q,q.r⟩ (λj x q=>Tj H hl q) (λy h=>⟨h.m,h.p,h.q,by have:=h.r;have:=h.p;have:=h.q;lia⟩) (λy q=>?_) λr y st' hr=>iQ (.r _ _ _ hr)
 refine iP (wj ?_);refine wA L6 (λx=>sg st x.g) (λ_=>ML lt a b (n+1)) (ML lt a b (n+1)) Q ⟨y.o,y.i,y.j,x.m+1,y.p,y.q,y.g⟩ ⟨q.m,q.p,q.q,q.r⟩ (λj z q=>?_) (λ_ h=>h) (λz q=>?_) λr y st' hr=>iQ (.r _ _ _ hr)
 .dsimp only;split
  .exact M0 H hl (x:=⟨_,_,_,z.m-1,_,_,z.g⟩) ⟨q.m,q.p,q.q,q.r⟩
  .exact M0 H hl q
 .refine iP (wH (iQ ?_));exact Lp.y (t:=L4) (v:=λx=>sg st x.g) ⟨_,_,_,z.m+1,0,0,z.m+1⟩ ⟨q.m,q.p,q.q,q.r⟩
theorem Gf(C:yd prog w A s κ P lt) (ha:∀x,x∈a->P x) (hb:∀x,x∈b->P x) (hk:kindOf st=κ) (sa:xg lt a.toList) (sb:xg lt b.toList)
  (na:0<a.size) (nb:0<b.size) (h0:∀x,b[0]?=some x->∀y∈a.toList,lt y x=false) (hl:∀i,i+1=a.size->∀x∈b.toList,∀y∈a.toList.drop i,lt y x=false)
  (h:∀r g,N4 lt a b r->Q r (sg st g)):wpS (iO prog w) A E s (BM a b) Q st:=by
 rw[FL];refine iP (wj ?_);have eb0:b[0]?=some b[0]:=af nb;refine iP (oO eb0 ?_);have m0:MI lt a b #[] 0 0:=⟨aV _,aV _,by simp,by simp[xg],by simp,by simp⟩
 have m1:MI lt a b #[b[0]] 0 1:=m0.pushB sb eb0 λy hy=>h0 _ eb0 y (by simpa using hy)
 by_cases c1:1=b.size
 .rw [oz (by simp[←c1])]
  exact iQ (h _ (ko st) (m1.endB sa c1))
 rw[oB (by simpa using c1)]
 by_cases c2:0+1=a.size
 .rw [oz (by simp[←c2])]
  exact iQ (h _ (ko st) (m1.lastA sa sb λx hx=>hl 0 c2 x (bG hx)))
 rw[oB (by simpa using c2)]
 refine iP (jU ?_);exact wA L4 (λx=>sg st x.g) (λi=>ML lt a b (i+1)) (λ_=>False) Q ⟨_,0,1,_,0,0,ko st⟩ ⟨m1,by dsimp only;lia,by dsimp only;lia,by dsimp only;lia⟩ (λi x q=>Sq ⟨C,ha,hb,hk,sa,sb,h⟩ hl q) (λx h=>by have:=h.p;have:=h.q;have:=h.r;lia) (λx h=>h.elim) λr y st' hr=>iQ hr
end
structure MH (lt:iK->iK->Bool) (a b out:Array iK) (na nb:Nat):Prop where
 la:na<=a.size
 lb:nb<=b.size
 pm:((a.toList.take na++b.toList.take nb)++out.toList.reverse).Perm (a.toList++b.toList)
 so:xg lt out.toList.reverse
 ua:∀x∈a.toList.take na,∀y∈out.toList,lt y x=false
 ub:∀x∈b.toList.take nb,∀y∈out.toList,lt y x=false
section
variable {lt:iK->iK->Bool}{a b out out':Array iK}{na nb k:Nat}
theorem MH.congr(m:MH lt a b out na nb) (e:out'.toList=out.toList):MH lt a b out' na nb:=⟨m.la,m.lb,by rw[e];exact m.pm,by rw[e];exact m.so,by rw[e];exact m.ua,by rw[e];exact m.ub⟩
theorem zC(l:List iK) (k n:Nat) (h:k<=n):l.take n=l.take k++(l.take n).drop k:=by
 have e:(l.take n).take k=l.take k:=by rw[List.take_take,dz h]
 rw[←e,bA]
theorem qz(a:Array iK) (k n:Nat):(a.extract k n).toList=(a.toList.take n).drop k:=by
 rw[fg,dW,List.drop_take]
theorem zp(a:Array iK) (n:Nat):(a.extract 0 n).toList=a.toList.take n:=by
 rw[qz,eJ]
theorem MH.moreA(m:MH lt a b out na nb) (sa:xg lt a.toList) (hk:k<=na) (h:∀x∈b.toList.take nb,∀y∈(a.toList.take na).drop k,lt y x=false):MH lt a b (out++(a.extract k na).reverse) k nb:=by
 have e:(out++(a.extract k na).reverse).toList=out.toList++((a.toList.take na).drop k).reverse:=by rw[aL,cM,qz]
 have er:(out++(a.extract k na).reverse).toList.reverse=(a.toList.take na).drop k++out.toList.reverse:=by rw[e,dg,fh]
 have c:=zC a.toList k na hk;have sd:xg lt (a.toList.take na):=sa.sublist (bD _ _);have sd2:=sd;rw[c]at sd2;obtain⟨q1,q2,q3⟩:=aH.mp sd2;have sub:∀y,y∈(a.toList.take na).drop k->y∈a.toList.take na:=λy hy=>bG hy
 refine⟨bJ hk m.la,m.lb,?_,?_,?_,?_⟩
 .rw [er];refine aQ.trans ?_ m.pm;rw[←ah];refine aQ.append_right _ ?_
  conv=>rhs;rw[c]
  rw[ah,ah];exact aQ.append_left _ bj
 .rw [er];exact aH.mpr ⟨q2,m.so,λx hx y hy=>m.ua x (sub x hx) y (bM.mp hy)⟩
 .rw [e];intro x hx y hy;rcases mAq.mp hy with hy|hy
  .exact m.ua x (by rw[c];exact bp _ hx) y hy
  .exact q3 x hx y (bM.mp hy)
 .rw [e];intro x hx y hy;rcases mAq.mp hy with hy|hy
  .exact m.ub x hx y hy
  .exact h x hx y (bM.mp hy)
theorem MH.moreB(m:MH lt a b out na nb) (sb:xg lt b.toList) (hk:k<=nb) (h:∀x∈a.toList.take na,∀y∈(b.toList.take nb).drop k,lt y x=false):MH lt a b (out++(b.extract k nb).reverse) na k:=by
 have e:(out++(b.extract k nb).reverse).toList=out.toList++((b.toList.take nb).drop k).reverse:=by rw[aL,cM,qz]
 have er:(out++(b.extract k nb).reverse).toList.reverse=(b.toList.take nb).drop k++out.toList.reverse:=by rw[e,dg,fh]
 have c:=zC b.toList k nb hk;have sd:xg lt (b.toList.take nb):=sb.sublist (bD _ _);have sd2:=sd;rw[c]at sd2;obtain⟨q1,q2,q3⟩:=aH.mp sd2;have sub:∀y,y∈(b.toList.take nb).drop k->y∈b.toList.take nb:=λy hy=>bG hy
 refine⟨m.la,bJ hk m.lb,?_,?_,?_,?_⟩
 .rw [er];refine aQ.trans ?_ m.pm;rw[←ah];refine aQ.append_right _ ?_
  conv=>rhs;rw[c]
  rw[ah]
 .rw [er];exact aH.mpr ⟨q2,m.so,λx hx y hy=>m.ub x (sub x hx) y (bM.mp hy)⟩
 .rw [e];intro x hx y hy;rcases mAq.mp hy with hy|hy
  .exact m.ua x hx y hy
  .exact h x hx y (bM.mp hy)
 .rw [e];intro x hx y hy;rcases mAq.mp hy with hy|hy
  .exact m.ub x (by rw[c];exact bp _ hx) y hy
  .exact q3 x hx y (bM.mp hy)
theorem xa{l:List iK}{i:Nat}{x:iK}(h:l[i]?=some x):(l.take (i+1)).drop i=[x]:=by
 rw[bw,h,List.drop_append];have hl:(l.take i).length=i:=by
  have:=(gSq.mp h).1;rw[lTq];lia
 rw[eS (by lia),hl,bP]
 rfl
theorem MH.pushA{x:iK}(m:MH lt a b out (na+1) nb) (sa:xg lt a.toList) (hx:a[na]?=some x) (h:∀y∈b.toList.take nb,lt x y=false):MH lt a b (out.push x) na nb:=by
 have hx':a.toList[na]?=some x:=by rw[aq];exact hx
 refine(m.moreA sa (k:=na) (bH _) λz hz y hy=>?_).congr ?_
 .rw [xa hx',mSq]at hy;rw[hy];exact h z hz
 .rw [cQ,aL,cM,qz,xa hx'];rfl
theorem MH.pushB{x:iK}(m:MH lt a b out na (nb+1)) (sb:xg lt b.toList) (hx:b[nb]?=some x) (h:∀y∈a.toList.take na,lt x y=false):MH lt a b (out.push x) na nb:=by
 have hx':b.toList[nb]?=some x:=by rw[aq];exact hx
 refine(m.moreB sb (k:=nb) (bH _) λz hz y hy=>?_).congr ?_
 .rw [xa hx',mSq]at hy;rw[hy];exact h z hz
 .rw [cQ,aL,cM,qz,xa hx'];rfl
theorem MH.end(m:MH lt a b out na nb) (sa:xg lt a.toList) (sb:xg lt b.toList) (e:na=0∨nb=0):N4 lt a b (a.extract 0 na++b.extract 0 nb++out.reverse):=by
 have et:(a.extract 0 na++b.extract 0 nb++out.reverse).toList=(a.toList.take na++b.toList.take nb)++out.toList.reverse:=by
  rw[aL,aL,zp,zp,cM]
 refine⟨by rw[et];exact m.pm,?_⟩
 rw[et];refine aH.mpr ⟨?_,m.so,λx hx y hy=>?_⟩
 .rcases e with rfl|rfl
  .rw [gq,dv];exact sb.sublist (bD _ _)
  .rw [gq,aNq];exact sa.sublist (bD _ _)
 .rcases mAq.mp hx with hx|hx
  .exact m.ua x hx y (bM.mp hy)
  .exact m.ub x hx y (bM.mp hy)
theorem MH.firstB(m:MH lt a b out na nb) (sa:xg lt a.toList) (sb:xg lt b.toList) (h:∀x∈b.toList.take nb,∀y∈a.toList.take na,lt y x=false):N4 lt a b (b.extract 0 nb++a.extract 0 na++out.reverse):=by
 have et:(b.extract 0 nb++a.extract 0 na++out.reverse).toList=(b.toList.take nb++a.toList.take na)++out.toList.reverse:=by
  rw[aL,aL,zp,zp,cM]
 refine⟨?_,?_⟩
 .rw [et];exact(aQ.append_right _ bj).trans m.pm
 .rw [et];refine aH.mpr ⟨aH.mpr ⟨sb.sublist (bD _ _),sa.sublist (bD _ _),h⟩,m.so,λx hx y hy=>?_⟩
  rcases mAq.mp hx with hx|hx
  .exact m.ub x hx y (bM.mp hy)
  .exact m.ua x hx y (bM.mp hy)
end
def Bo:Array iK->Array iK->StateT SortSt Sem (Array iK):=sortPriv% PySem.Builtin.mergeHi
section
variable (a b:Array iK)
abbrev dH(o:Array iK) (i j:Nat):=a.extract 0 i++b.extract 0 j++o.reverse
abbrev fH(o:Array iK) (i j:Nat):=b.extract 0 j++a.extract 0 i++o.reverse
abbrev SH(α:Type):=ForInStep (Option (Array iK)×Nat×Nat×Array iK×α)
def Vp(o:Array iK) (i j m k l:Nat):StateT SortSt Sem (SH (Nat×Nat×Nat)):=do
 let x ←jr a (i-1)
 if i-1 == 0 then pure (.done (some (dH a b (o.push x) (i-1) j),i-1,j,o.push x,m,k,l))
 else if decide (k<7) && decide (l<7) then pure (.done (none,i-1,j,o.push x,m,k,l))
 else pure (.yield (none,i-1,j,o.push x,m,k,l))
def Vm(o:Array iK) (i j m k q:Nat):StateT SortSt Sem (SH (Nat×Nat×Nat)):=do
 let x ←jr b (j-1)
 if j-1 == 1 then pure (.done (some (fH a b (o.push x) i (j-1)),i,j-1,o.push x,m,k,q))
 else do
  let y ←jr a (i-1)
  match ←vy true y b 0 (j-1) (j-1-1) with
  |some l =>
   if j-1-l>0 then
    if l == 1 then pure (.done (some (fH a b (o.push x++(b.extract l (j-1)).reverse) i l),i,l,o.push x++(b.extract l (j-1)).reverse,m,k,j-1-l))
    else if l == 0 then pure (.done (some (dH a b (o.push x++(b.extract l (j-1)).reverse) i l),i,l,o.push x++(b.extract l (j-1)).reverse,m,k,j-1-l))
    else Vp a b (o.push x++(b.extract l (j-1)).reverse) i l m k (j-1-l)
   else Vp a b (o.push x) i (j-1) m k (j-1-l)
  |_=>pure (.done (some (dH a b (o.push x) i (j-1)),i,j-1,o.push x,m,k,q))
def Vw(o:Array iK) (i j m p q:Nat):StateT SortSt Sem (SH (Nat×Nat×Nat)):=do
 qX m
 let x ←jr b (j-1)
 match ←vy false x a 0 i (i-1) with
 |some k =>
  if i-k>0 then
   if k == 0 then pure (.done (some (dH a b (o++(a.extract k i).reverse) k j),k,j,o++(a.extract k i).reverse,m,i-k,q))
   else Vm a b (o++(a.extract k i).reverse) k j m (i-k) q
  else Vm a b o i j m (i-k) q
 |_=>pure (.done (some (dH a b o i j),i,j,o,m,p,q))
def N2(m:Nat) (o:Array iK) (i j p q:Nat):StateT SortSt Sem (SH (Nat×Nat)):=do
 let y ←jr b (j-1)
 let x ←jr a (i-1)
 match ←lt' y x with
 |some c =>
  if c then do
   let z ←jr a (i-1)
   if i-1 == 0 then pure (.done (some (dH a b (o.push z) (i-1) j),i-1,j,o.push z,p+1,0))
   else if p+1 ≥ m then pure (.done (none,i-1,j,o.push z,p+1,0))
   else pure (.yield (none,i-1,j,o.push z,p+1,0))
  else do
   let z ←jr b (j-1)
   if j-1 == 1 then pure (.done (some (fH a b (o.push z) i (j-1)),i,j-1,o.push z,0,q+1))
   else if q+1 ≥ m then pure (.done (none,i,j-1,o.push z,0,q+1))
   else pure (.yield (none,i,j-1,o.push z,0,q+1))
 |_=>pure (.done (some (dH a b o i j),i,j,o,p,q))
def Vn(o:Array iK) (i j m:Nat):StateT SortSt Sem (SH Nat):=do
 let r ←forIn [0:a.size+b.size] (none,i,j,o,0,0) λ_ s=>N2 a b m s.2.2.2.1 s.2.1 s.2.2.1 s.2.2.2.2.1 s.2.2.2.2.2
 Break.runK.match_1 (λ_=>StateT SortSt Sem (SH Nat)) r.1 (λv=>pure (.done (some v,r.2.1,r.2.2.1,r.2.2.2.1,m))) λ_=>do
  rule "list.sort.gallop"
  let r ←forIn [0:a.size+b.size] (none,r.2.1,r.2.2.1,r.2.2.2.1,m+1,r.2.2.2.2.1,r.2.2.2.2.2) λ_ s=>if s.2.2.2.2.1>1 then Vw a b s.2.2.2.1 s.2.1 s.2.2.1 (s.2.2.2.2.1-1) s.2.2.2.2.2.1 s.2.2.2.2.2.2 else Vw a b s.2.2.2.1 s.2.1 s.2.2.1 s.2.2.2.2.1 s.2.2.2.2.2.1 s.2.2.2.2.2.2
  Break.runK.match_1 (λ_=>StateT SortSt Sem (SH Nat)) r.1 (λv=>pure (.done (some v,r.2.1,r.2.2.1,r.2.2.2.1,r.2.2.2.2.1))) λ_=>do
   qX (r.2.2.2.2.1+1)
   pure (.yield (none,r.2.1,r.2.2.1,r.2.2.2.1,r.2.2.2.2.1+1))
theorem FE:Bo a b=(do
 rule "list.sort.merge-hi"
 let x ←jr a (a.size-1)
 if a.size-1 == 0 then pure (dH a b #[x] (a.size-1) b.size)
 else if b.size == 1 then pure (fH a b #[x] (a.size-1) b.size)
 else do
  let st ←get
  let r ←forIn [0:a.size+b.size] (none,a.size-1,b.size,#[x],ko st) λ_ s=>Vn a b s.2.2.2.1 s.2.1 s.2.2.1 s.2.2.2.2
  Break.runK.match_1 (λ_=>StateT SortSt Sem (Array iK)) r.1 (λv=>pure v) λ_=>jA "internal:list.sort.merge-bound"):=rfl
end
section
variable {prog:iT}{w:iU}{A:Around}{E:Value->Shared->Prop}{s:Shared}{κ:jl}{P:iK->Prop}{lt:iK->iK->Bool}
theorem AZ(C:yd prog w A s κ P lt) {a:Array iK}{i:Nat}{x:iK}(ha:∀x,x∈a->P x) (sa:xg lt a.toList) (hx:a[i]?=some x):∀y∈a.toList.take (i+1),lt x y=false:=by
 obtain⟨hi,e⟩:=aD.mp hx;have hx':a.toList[i]?=some x:=by rw[aq];exact hx
 have sd:xg lt (a.toList.take (i+1)):=sa.sublist (bD _ _);rw[bw,hx']at sd ⊢;intro y hy;rcases mAq.mp hy with hy|hy
 .exact (aH.mp sd).2.2 y hy x (by simp)
 .have:y=x:=by simpa using hy
  rw[this];exact C.refl (ha _ (by rw[←e];exact aY hi))
theorem uV{a:Array iK}{i:Nat}{y:iK}(h:y∈a.toList.take i):y∈a:=by simpa using bW h
theorem xW{a:Array iK}{n:Nat}{x:iK}(h:x∈a.toList.take n):∃j,j<n/\a[0+j]?=some x:=by
 have h':x∈(a.toList.drop 0).take n:=by rw[eJ];exact h
 exact vL h'
theorem uP{a:Array iK}{k n:Nat}{x:iK}(h:x∈(a.toList.take n).drop k):∃j,k<=j/\j<n/\a[0+j]?=some x:=by
 obtain⟨j,hj,e⟩:=cL.mp h;rw[aS,lTq,ao]at hj;refine⟨k+j,by lia,by lia,?_⟩
 rw[eO,fK]at e;rw[aD];exact⟨by lia,by simpa using e⟩
structure MG (lt:iK->iK->Bool) (a b:Array iK) (n:Nat) (x:Ls):Prop where
 m:MH lt a b x.o x.i x.j
 p:0<x.i
 q:1<x.j
 r:x.i+x.j+n<=a.size+b.size
abbrev H6(x:Ls):=(x.i,x.j,x.o,x.m,x.p,x.q)
abbrev H5(x:Ls):=(x.i,x.j,x.o,x.p,x.q)
abbrev H4(x:Ls):=(x.i,x.j,x.o,x.m)
variable {a b:Array iK}{st:SortSt}{Q:Array iK->SortSt->Prop}{n:Nat}{x:Ls}{o:Array iK}{u v i j m k l g:Nat}
abbrev Hf(lt:iK->iK->Bool) (a b:Array iK):=∀x∈b.toList.take 1,∀y∈a.toList,lt y x=false
theorem Vx(H:Lo prog w A s κ P lt a b st Q) (hf:Hf lt a b) (m:MH lt a b o i 1):Q (b.extract 0 1++a.extract 0 i++o.reverse) (sg st g):=H.h _ _ (m.firstB H.sa H.sb λx hx y hy=>hf x hx y (bW hy))
theorem NW(H:Lo prog w A s κ P lt a b st Q) (q:MG lt a b n ⟨o,u+1,j,m,k,l,g⟩) (hi:∀z,a[u]?=some z->∀y∈b.toList.take j,lt z y=false) :
  wpS (iO prog w) A E s (Vp a b o (u+1) j m k l) (Lp H6 (λx=>sg st x.g) (MG lt a b n) (MG lt a b n) Q) (sg st g):=by
 dsimp only [Vp,dX];have ea:a[u]?=some (a[u]'q.m.la):=af q.m.la;refine iP (oO ea ?_);have m6:=q.m.pushA H.sa ea (hi _ ea)
 by_cases d6:u=0
 .rw [oz (by simp[d6])]
  exact iQ (.r _ _ _ (H.h _ _ (m6.end H.sa H.sb (.inl d6))))
 rw[oB (by simpa using d6)]
 have R:MG lt a b n ⟨_,_,_,m,k,l,g⟩:=⟨m6,eA d6,q.q,by have:=q.r;dsimp only at *;lia⟩
 split
 .exact iQ (.d _ R)
 .exact iQ (.y _ R)
theorem KA(H:Lo prog w A s κ P lt a b st Q) (hf:Hf lt a b) (q:MG lt a b n ⟨o,u+1,v+1,m,k,l,g⟩) (hi:∀z,b[v]?=some z->∀y∈a.toList.take (u+1),lt z y=false) :
  wpS (iO prog w) A E s (Vm a b o (u+1) (v+1) m k l) (Lp H6 (λx=>sg st x.g) (MG lt a b n) (MG lt a b n) Q) (sg st g):=by
 dsimp only [Vm,dX];have la:u<a.size:=q.m.la;have lb:v<b.size:=q.m.lb;have p2:1<v+1:=q.q;have p3:u+1+(v+1)+n<=a.size+b.size:=q.r;have eb:b[v]?=some b[v]:=af lb;refine iP (oO eb ?_);have m4:=q.m.pushB H.sb eb (hi _ eb)
 by_cases d3:v=1
 .rw [oz (by simp[d3])]
  subst d3;exact iQ (.r _ _ _ (Vx H hf m4))
 rw[oB (by simpa using d3)]
 have ea:a[u]?=some a[u]:=af la;have pa:=H.ha _ (aY la);refine iP (oO ea (iP (tD H.C (base:=0) (n:=v) (by lia) (by lia) H.hb pa H.hk (zH H.C (by lia) H.hb pa (by rw[eJ];exact H.sb)) λl l1 l2 l3=>?_)))
 have hB:∀z,a[u]?=some z->∀y∈b.toList.take l,lt z y=false:=λz hz y hy=>by
  obtain⟨j',hj',ey⟩:=xW hy;have q:=l2 j' hj';rw[sW ey,oz rfl]at q;rw[ea]at hz;cases hz;exact H.C.asym _ _ (H.hb _ (uV hy)) pa q
 dsimp only
 by_cases cl:v-l>0
 .rw [oz cl];have m5:=m4.moreB H.sb (k:=l) l1 λx hx y hy=>by
   obtain⟨j',hj1,hj',ey⟩:=uP hy;have q:=l3 j' hj1 hj';rw[sW ey,oz rfl]at q;exact H.C.trans _ _ _ (H.ha _ (uV hx)) pa (H.hb y (bG hy |> uV)) (AZ H.C H.ha H.sa ea x hx) q
  by_cases d5:l=1
  .rw [oz (by simp[d5])]
   subst d5;exact iQ (.r _ _ _ (Vx H hf m5))
  rw[oB (by simpa using d5)]
  by_cases d6:l=0
  .rw [oz (by simp[d6])]
   exact iQ (.r _ _ _ (H.h _ _ (m5.end H.sa H.sb (.inr d6))))
  rw[oB (by simpa using d6)]
  exact NW H ⟨m5,q.p,by dsimp only;lia,by dsimp only;lia⟩ hB
 .rw [oB cl];have:l=v:=by lia
  subst this;exact NW H ⟨m4,q.p,by dsimp only;lia,by dsimp only;lia⟩ hB
theorem MM(H:Lo prog w A s κ P lt a b st Q) (hf:Hf lt a b) (q:MG lt a b n x) :
  wpS (iO prog w) A E s (Vw a b x.o x.i x.j x.m x.p x.q) (Lp H6 (λx=>sg st x.g) (MG lt a b n) (MG lt a b n) Q) (sg st x.g):=by
 obtain⟨o,i,j,m,p,q',g⟩:=x;have la:i<=a.size:=q.m.la;have p1:0<i:=q.p;have p2:1<j:=q.q;have p3:i+j+n<=a.size+b.size:=q.r;obtain⟨v,rfl⟩:∃v,j=v+1:=⟨j-1,by lia⟩
 have lb:v<b.size:=q.m.lb;dsimp only [Vw,dX];have eb:b[v]?=some b[v]:=af lb;have pb:=H.hb _ (aY lb);refine iP (wH (iP (oO eb (iP (tD H.C (base:=0) (n:=i) (by lia) (by lia) H.ha pb H.hk (zH H.C (by lia) H.ha pb (by rw[eJ];exact H.sa)) λk k1 k2 k3=>?_)))))
 have hA:∀z,b[v]?=some z->∀y∈a.toList.take k,lt z y=false:=λz hz y hy=>by
  obtain⟨j',hj',ey⟩:=xW hy;have q:=k2 j' hj';rw[sW ey,oB (by decide)]at q
  rw[eb]at hz;cases hz;simpa using q
 dsimp only
 by_cases ck:i-k>0
 .rw [oz ck];have m3:=q.m.moreA H.sa (k:=k) k1 λx hx y hy=>by
   obtain⟨j',hj1,hj',ey⟩:=uP hy;have q:=k3 j' hj1 hj';rw[sW ey,oB (by decide)]at q
   have py:=H.ha y (bG hy |> uV);exact H.C.trans _ _ _ (H.hb _ (uV hx)) pb py (AZ H.C H.hb H.sb eb x hx) (H.C.asym _ _ pb py (by simpa using q))
  by_cases d2:k=0
  .rw [oz (by simp[d2])]
   exact iQ (.r _ _ _ (H.h _ m (m3.end H.sa H.sb (.inl d2))))
  rw[oB (by simpa using d2)]
  obtain⟨u,rfl⟩:∃u,k=u+1:=⟨k-1,by lia⟩
  exact KA H hf (g:=m) ⟨m3,Nat.succ_pos _,p2,by dsimp only;lia⟩ hA
 .rw [oB ck];have:k=i:=by lia
  subst this;obtain⟨u,rfl⟩:∃u,k=u+1:=⟨k-1,by lia⟩
  exact KA H hf (g:=m) ⟨q.m,p1,p2,p3⟩ hA
theorem Sd(H:Lo prog w A s κ P lt a b st Q) (hf:Hf lt a b) (q:MG lt a b (n+j) x) :
  wpS (iO prog w) A E s (N2 a b m x.o x.i x.j x.p x.q) (Lp H5 (λx=>sg st x.g) (MG lt a b (n+(j+1))) (MG lt a b (n+1)) Q) (sg st x.g):=by
 obtain⟨o,i,k,m',p,q',g⟩:=x;have p1:0<i:=q.p;have p2:1<k:=q.q;have p3:i+k+(n+j)<=a.size+b.size:=q.r;obtain⟨u,rfl⟩:∃u,i=u+1:=⟨i-1,by lia⟩
 obtain⟨v,rfl⟩:∃v,k=v+1:=⟨k-1,by lia⟩
 have la:u<a.size:=q.m.la;have lb:v<b.size:=q.m.lb;dsimp only [N2,dX];have ea:a[u]?=some a[u]:=af la;have eb:b[v]?=some b[v]:=af lb;have pa:=H.ha _ (aY la);have pb:=H.hb _ (aY lb);refine iP (oO eb (iP (oO ea (iP (H.C.cmp pb pa H.hk ?_)))));cases e:lt b[v] a[u] with
 |true =>
  dsimp only;rw[oz rfl];refine iP (oO ea ?_);have m2:=q.m.pushA H.sa ea λy hy=>H.C.trans _ _ _ (H.hb _ (uV hy)) pb pa (AZ H.C H.hb H.sb eb y hy) (H.C.asym _ _ pb pa e)
  by_cases d1:u=0
  .rw [oz (by simp[d1])]
   exact iQ (.r _ _ _ (H.h _ _ (m2.end H.sa H.sb (.inl d1))))
  rw[oB (by simpa using d1)]
  have R:∀n,u+(v+1)+n<=a.size+b.size->MG lt a b n ⟨_,_,_,0,p+1,0,g⟩:=λn hn=>⟨m2,eA d1,p2,hn⟩
  split
  .exact iQ (.d _ (R _ (by lia)))
  .exact iQ (.y _ (R _ (by lia)))
 |false =>
  dsimp only;rw[oB (by decide)]
  refine iP (oO eb ?_);have m2:=q.m.pushB H.sb eb λy hy=>H.C.trans _ _ _ (H.ha _ (uV hy)) pa pb (AZ H.C H.ha H.sa ea y hy) e
  by_cases d1:v=1
  .rw [oz (by simp[d1])]
   subst d1;exact iQ (.r _ _ _ (Vx H hf m2))
  rw[oB (by simpa using d1)]
  have R:∀n,u+1+v+n<=a.size+b.size->MG lt a b n ⟨_,_,_,0,0,q'+1,g⟩:=λn hn=>⟨m2,p1,by dsimp only;lia,hn⟩
  split
  .exact iQ (.d _ (R _ (by lia)))
  .exact iQ (.y _ (R _ (by lia)))
theorem SX(H:Lo prog w A s κ P lt a b st Q) (hf:Hf lt a b) (q:MG lt a b n x) :
  wpS (iO prog w) A E s (Vn a b x.o x.i x.j x.m) (Lp H4 (λx=>sg st x.g) (MG lt a b (n+1)) (λ_=>False) Q) (sg st x.g):=by
 refine wA H5 (λx=>sg st x.g) (λj=>MG lt a b (n+j)) (MG lt a b (n+1)) Q ⟨x.o,x.i,x.j,0,0,0,x.g⟩ ⟨q.m,q.p,q.q,q.r⟩ (λj x q=>Sd H hf q) (λy h=>⟨h.m,h.p,h.q,by have:=h.r;have:=h.p;have:=h.q;lia⟩) (λy q=>?_) λr y st' hr=>iQ (.r _ _ _ hr)
 refine iP (wj ?_);refine wA H6 (λx=>sg st x.g) (λ_=>MG lt a b (n+1)) (MG lt a b (n+1)) Q ⟨y.o,y.i,y.j,x.m+1,y.p,y.q,y.g⟩ ⟨q.m,q.p,q.q,q.r⟩ (λj z q=>?_) (λ_ h=>h) (λz q=>?_) λr y st' hr=>iQ (.r _ _ _ hr)
 .dsimp only;split
  .exact MM H hf (x:=⟨_,_,_,z.m-1,_,_,z.g⟩) ⟨q.m,q.p,q.q,q.r⟩
  .exact MM H hf q
 .refine iP (wH (iQ ?_));exact Lp.y (t:=H4) (v:=λx=>sg st x.g) ⟨_,_,_,z.m+1,0,0,z.m+1⟩ ⟨q.m,q.p,q.q,q.r⟩
theorem Ft(C:yd prog w A s κ P lt) (ha:∀x,x∈a->P x) (hb:∀x,x∈b->P x) (hk:kindOf st=κ) (sa:xg lt a.toList) (sb:xg lt b.toList)
  (na0:0<a.size) (nb0:0<b.size) (h0:∀x∈b.toList.take 1,∀y∈a.toList,lt y x=false) (hl:∀x,a[a.size-1]?=some x->∀y∈b.toList,lt x y=false)
  (h:∀r g,N4 lt a b r->Q r (sg st g)):wpS (iO prog w) A E s (Bo a b) Q st:=by
 have H:Lo prog w A s κ P lt a b st Q:=⟨C,ha,hb,hk,sa,sb,h⟩;rw[FE];refine iP (wj ?_);have ea0:a[a.size-1]?=some (a[a.size-1]'(by lia)):=af (by lia)
 refine iP (oO ea0 ?_);have m0:MH lt a b #[] (a.size-1+1) b.size:=⟨by lia,ag _,by
  rw[show a.size-1+1=a.toList.length by simp;lia,aZ,←ao,aZ];simp,by simp[xg],by simp,by simp⟩
 have m1:MH lt a b #[a[a.size-1]'(by lia)] (a.size-1) b.size:=m0.pushA sa ea0 λy hy=>hl _ ea0 y (bW hy)
 by_cases c1:a.size-1=0
 .rw [oz (by simp[c1])]
  exact iQ (h _ (ko st) (m1.end sa sb (.inl c1)))
 rw[oB (by simpa using c1)]
 by_cases c2:b.size=1
 .rw [oz (by simp[c2])]
  have m1':=m1;rw[c2]at m1' ⊢;exact iQ (Vx H h0 (g:=ko st) m1')
 rw[oB (by simpa using c2)]
 refine iP (jU ?_);exact wA H4 (λx=>sg st x.g) (λi=>MG lt a b (i+1)) (λ_=>False) Q ⟨_,a.size-1,b.size,_,0,0,ko st⟩ ⟨m1,eA c1,show 1<b.size by lia,show a.size-1+b.size+1<=a.size+b.size by lia⟩ (λi x q=>SX H h0 q) (λx h=>by have:=h.p;have:=h.q;have:=h.r;lia) (λx h=>h.elim) λr y st' hr=>iQ hr
end
def yF(lt:iK->iK->Bool) (xs:Array iK) (i j:Nat):Prop:=∀p q x y,i<=p->p<=q->q<j->xs[p]?=some x->xs[q]?=some y->lt y x=false
def N6(lt:iK->iK->Bool) (xs:Array iK) (i j:Nat):Prop:=∀p q x y,i<=p->p<=q->q<j->xs[p]?=some x->xs[q]?=some y->lt x y=false
def UN(lt:iK->iK->Bool) (xs:Array iK) (i j:Nat):Prop:=∀p q x y,i<=p->p<j->i<=q->q<j->xs[p]?=some x->xs[q]?=some y->lt x y=false
section
variable {lt:iK->iK->Bool}{xs:Array iK}{i j lo n:Nat}
theorem Hz(hj:j<=xs.size) (h:N6 lt xs i j):yF lt (mirror xs i j ((j-i) / 2)) i j:=by
 intro p q x y h1 h2 h3 ex ey;rw[jV hj,oz ⟨h1,by lia⟩]at ex
 rw[jV hj,oz ⟨by lia,h3⟩]at ey
 exact h _ _ _ _ (by lia) (by lia) (by lia) ey ex
theorem yD(hj:j<=xs.size) (hi:lo<=i) (hn:j<=n) (e:UN lt xs i j) (h:N6 lt xs lo n):N6 lt (mirror xs i j ((j-i) / 2)) lo n:=by
 intro p q x y h1 h2 h3 ex ey;rw[jV hj]at ex ey
 by_cases cp:i<=p/\p<j
 .rw [oz cp]at ex
  by_cases cq:i<=q/\q<j
  .rw [oz cq]at ey;exact e _ _ _ _ (by lia) (by lia) (by lia) (by lia) ex ey
  .rw [oB cq]at ey;exact h _ _ _ _ (by lia) (by lia) h3 ex ey
 .rw [oB cp]at ex
  by_cases cq:i<=q/\q<j
  .rw [oz cq]at ey;exact h _ _ _ _ h1 (by lia) (by lia) ex ey
  .rw [oB cq]at ey;exact h _ _ _ _ h1 h2 h3 ex ey
end
section
variable (lo:Nat)
def VW(n:Nat):StateT SortSt Sem (ForInStep (Option (Option Nat)×Nat)):=do
 match ←ltAt' (lo+n) (lo+n-1) with
 |some c=>if c then pure (.done (none,n)) else pure (.yield (none,n+1))
 |_=>pure (.done (some none,n))
def W9(n q:Nat):StateT SortSt Sem (ForInStep (Option (Option Nat)×Nat×Nat)):=do
 match ←ltAt' (lo+n) (lo+n-1) with
 |some c =>
  if c then
   if q>0 then do
    let _ ←kj (lo+n-(q+1)) (lo+n)
    pure (.yield (none,n+1,0))
   else pure (.yield (none,n+1,0))
  else do
   match ←ltAt' (lo+n-1) (lo+n) with
   |some c=>if c then pure (.done (none,n,q)) else pure (.yield (none,n+1,q+1))
   |_=>pure (.done (some none,n,q))
 |_=>pure (.done (some none,n,q))
def VM(nrem n:Nat):StateT SortSt Sem (Option Nat):=do
 kj lo (lo+n)
 let r ←forIn [n:nrem] (none,n) λ_ s=>VW lo s.2
 Break.runK.match_1 (λ_=>StateT SortSt Sem (Option Nat)) r.1 (λv=>pure v) λ_=>pure (some r.2)
def VJ(nrem n:Nat):StateT SortSt Sem (Option Nat):=do
 rule "list.sort.descending-run"
 let r ←forIn [n+1:nrem] (none,n+1,0) λ_ s=>W9 lo s.2.1 s.2.2
 Break.runK.match_1 (λ_=>StateT SortSt Sem (Option Nat)) r.1 (λv=>pure v) λ_ =>
  if r.2.2>0 then do
   let _ ←kj (lo+r.2.1-(r.2.2+1)) (lo+r.2.1)
   VM lo nrem r.2.1
  else VM lo nrem r.2.1
theorem UW(nrem:Nat):countRun' lo nrem=(do
 let r ←forIn [1:nrem] (none,1) λ_ s=>VW lo s.2
 Break.runK.match_1 (λ_=>StateT SortSt Sem (Option Nat)) r.1 (λv=>pure v) λ_ =>
  if r.2 == nrem then pure (some r.2)
  else if r.2>1 then do
   match ←ltAt' lo (lo+r.2-1) with
   |some c =>
    if c then pure (some r.2)
    else do
     let _ ←kj lo (lo+r.2)
     VJ lo nrem r.2
   |_=>pure none
  else VJ lo nrem r.2):=countRun'_eq lo nrem
end
section
variable {prog:iT}{w:iU}{A:Around}{E:Value->Shared->Prop}{s:Shared}{κ:jl}{P:iK->Prop}{lt:iK->iK->Bool}
theorem PY(C:yd prog w A s κ P lt) {xs:Array iK}(hp:∀x,x∈xs->P x) (lo:Nat):yF lt xs lo (lo+1):=by
 intro p q x y h1 h2 h3 ex ey;have e:p=q:=by lia
 subst e;rw[ex]at ey;cases ey;exact C.refl (hp _ (aQq ex))
theorem Lu(C:yd prog w A s κ P lt) {xs:Array iK}(hp:∀x,x∈xs->P x) {lo n:Nat}(h:yF lt xs lo (lo+(n+1))) (hx:∀x y,xs[lo+(n+1)]?=some x->xs[lo+n]?=some y->lt x y=false) (hz:lo+(n+1)<xs.size):yF lt xs lo (lo+(n+2)):=by
 intro p q x y h1 h2 h3 ex ey
 by_cases c:q<lo+(n+1)
 .exact h p q x y h1 h2 c ex ey
 .have eq:q=lo+(n+1):=by lia
  subst eq
  by_cases c2:p=lo+(n+1)
  .subst c2;rw[ex]at ey;cases ey;exact C.refl (hp _ (aQq ex))
  .have em:xs[lo+n]?=some (xs[lo+n]'(by lia)):=af (by lia)
   exact C.trans _ _ _ (hp _ (aQq ex)) (hp _ (aQq em)) (hp _ (aQq ey)) (h p (lo+n) _ _ h1 (by lia) (by lia) ex em) (hx _ _ ey em)
theorem FY(C:yd prog w A s κ P lt) {xs:Array iK}(hp:∀x,x∈xs->P x) {lo n:Nat}(h:N6 lt xs lo (lo+(n+1))) (hx:∀x y,xs[lo+(n+1)]?=some x->xs[lo+n]?=some y->lt y x=false) (hz:lo+(n+1)<xs.size):N6 lt xs lo (lo+(n+2)):=by
 intro p q x y h1 h2 h3 ex ey
 by_cases c:q<lo+(n+1)
 .exact h p q x y h1 h2 c ex ey
 .have eq:q=lo+(n+1):=by lia
  subst eq
  by_cases c2:p=lo+(n+1)
  .subst c2;rw[ex]at ey;cases ey;exact C.refl (hp _ (aQq ex))
  .have em:xs[lo+n]?=some (xs[lo+n]'(by lia)):=af (by lia)
   exact C.trans _ _ _ (hp _ (aQq ey)) (hp _ (aQq em)) (hp _ (aQq ex)) (hx _ _ ey em) (h p (lo+n) _ _ h1 (by lia) (by lia) ex em)
theorem Fb(C:yd prog w A s κ P lt) {lo nrem a:Nat}{st:SortSt}(hp:∀x,x∈iV st->P x) (hk:kindOf st=κ) (ha:1<=a) (han:a<=nrem) (hz:lo+nrem<=(iV st).size) (hs:yF lt (iV st) lo (lo+a)) :
  wpS (iO prog w) A E s (forIn [a:nrem] ((none,a):Option (Option Nat)×Nat) λ_ s=>VW lo s.2)
   (λc st'=>∃n,c=(none,n)/\st'=st/\a<=n/\n<=nrem/\yF lt (iV st) lo (lo+n)/\(n=nrem∨∃x y,(iV st)[lo+n]?=some x/\(iV st)[lo+n-1]?=some y/\lt x y=true)) st:=by
 refine jj (I:=λi c st'=>c=(none,i)/\st'=st/\a<=i/\i<=nrem/\yF lt (iV st) lo (lo+i)) ?step ?fin ⟨rfl,rfl,ag _,han,hs⟩
 case step =>
  rintro i c st' h1 h2 ⟨rfl,rfl,h3,h4,h5⟩;obtain⟨k,rfl⟩:∃k,i=k+1:=⟨i-1,by lia⟩
  have ex:(iV st')[lo+(k+1)]?=some ((iV st')[lo+(k+1)]'(by lia)):=af (by lia)
  have ey:(iV st')[lo+(k+1)-1]?=some ((iV st')[lo+k]'(by lia)):=af (by lia)
  refine iP (C.at ex ey (hp _ (aQq ex)) (hp _ (aQq ey)) hk ?_);cases e:lt ((iV st')[lo+(k+1)]'(by lia)) ((iV st')[lo+k]'(by lia)) with
  |true=>exact iQ ⟨_,rfl,rfl,h3,h4,h5,.inr ⟨_,_,ex,ey,e⟩⟩
  |false =>
   refine iQ ⟨rfl,rfl,by lia,h2,Lu C hp h5 (λx y hx hy=>?_) (by lia)⟩
   have hy':(iV st')[lo+(k+1)-1]?=some y:=hy;rw[ex]at hx;rw[ey]at hy';cases hx;cases hy';exact e
 case fin =>
  rintro c st' ⟨rfl,rfl,h3,h4,h5⟩;have e:max a nrem=nrem:=gT han;rw[e]at h3 h4 h5 ⊢;exact⟨nrem,rfl,rfl,h3,ag _,h5,.inl rfl⟩
theorem AY{i j:Nat}{st:SortSt}{Q:Unit->SortSt->Prop}(h:Q () (jk st (mirror (iV st) i j ((j-i) / 2)))):wpS (iO prog w) A E s (kj i j) Q st:=by
 rw[reverseSlice'_eq];exact jN h
structure xq (xs ys:Array iK) (lo hi:Nat):Prop where
 pm:ys.Perm xs
 out:∀k,(k<lo∨hi<=k)->ys[k]?=xs[k]?
theorem xq.refl(xs:Array iK) (lo hi:Nat):xq xs xs lo hi:=⟨hW.refl _,λ_ _=>rfl⟩
theorem xq.trans{xs ys zs:Array iK}{lo hi:Nat}(a:xq xs ys lo hi) (b:xq ys zs lo hi):xq xs zs lo hi:=⟨b.pm.trans a.pm,λk h=>(b.out k h).trans (a.out k h)⟩
theorem xq.mono{xs ys:Array iK}{lo hi hi':Nat}(a:xq xs ys lo hi) (h:hi<=hi'):xq xs ys lo hi':=⟨a.pm,λk q=>a.out k (by lia)⟩
theorem xq.size{xs ys:Array iK}{lo hi:Nat}(a:xq xs ys lo hi):ys.size=xs.size:=a.pm.size_eq
theorem xq.mem{xs ys:Array iK}{lo hi:Nat}(a:xq xs ys lo hi) {P:iK->Prop}(h:∀x,x∈xs->P x):∀x,x∈ys->P x:=λx hx=>h x (a.pm.mem_iff.mp hx)
theorem xi{xs:Array iK}{lo hi i j:Nat}(hj:j<=xs.size) (h1:lo<=i) (h2:j<=hi):xq xs (mirror xs i j ((j-i) / 2)) lo hi :=
 ⟨mirror_perm _ _ _ _,λk hk=>by rw[jV hj,oB (by lia)]⟩
structure CR (lt:iK->iK->Bool) (as:Array iK) (lo i q:Nat) (ys:Array iK):Prop where
 b:xq as ys lo (lo+i)
 d:N6 lt ys lo (lo+i)
 e:UN lt ys (lo+i-(q+1)) (lo+i)
 p:q+1<=i
theorem A3(C:yd prog w A s κ P lt) {ys:Array iK}(hp:∀x,x∈ys->P x) {i j:Nat}(h:j<=i+1):UN lt ys i j:=by
 intro p q x y g1 g2 g3 g4 gx gy;have e:p=q:=by lia
 subst e;rw[gx]at gy;cases gy;exact C.refl (hp _ (aQq gx))
theorem Sh(C:yd prog w A s κ P lt) {lo nrem k neq:Nat}{st:SortSt}{ys:Array iK}(hp:∀x,x∈iV st->P x) (hk:kindOf st=κ) (hz:lo+nrem<=(iV st).size) (hi:k+1<nrem) (g:CR lt (iV st) lo (k+1) neq ys) :
  wpS (iO prog w) A E s (W9 lo (k+1) neq) (λr Bw=>∃m q zs,Bw=jk st zs/\m<=nrem/\CR lt (iV st) lo m q zs/\(r = .done (none,m,q)∨r = .yield (none,m,q)/\m=k+1+1)) (jk st ys):=by
 have g1:=g.b;have g2:=g.d;have g3:=g.e;have g4:=g.p;have hpy:=g1.mem hp;have hsz:=g1.size;have ex:ys[lo+(k+1)]?=some (ys[lo+(k+1)]'(by lia)):=af (by lia)
 have ey:ys[lo+(k+1)-1]?=some (ys[lo+k]'(by lia)):=af (by lia)
 have px:=hpy _ (aQq ex);have py:=hpy _ (aQq ey);have des:lt (ys[lo+k]'(by lia)) (ys[lo+(k+1)]'(by lia))=false->N6 lt ys lo (lo+(k+1+1)):=λe=>FY C hpy g2 (λx y hx hy=>by
  have hy':ys[lo+(k+1)-1]?=some y:=hy;rw[ex]at hx;rw[ey]at hy';cases hx;cases hy';exact e) (by lia)
 refine iP (C.at (st:=jk st ys) ex ey px py hk ?_);cases e:lt (ys[lo+(k+1)]'(by lia)) (ys[lo+k]'(by lia)) with
 |true =>
  have g2':=des (C.asym _ _ px py e);dsimp only;rw[oz rfl]
  by_cases cn:neq>0
  .rw [oz cn];refine iP (AY (iQ ?_));have bt:xq (iV st) (mirror ys (lo+(k+1)-(neq+1)) (lo+(k+1)) ((lo+(k+1)-(lo+(k+1)-(neq+1))) / 2)) lo (lo+(k+1)):=g1.trans (xi (by lia) (by lia) (ag _))
   exact⟨_,0,_,rfl,hi,⟨bt.mono (by lia),yD (by lia) (by lia) (by lia) g3 g2',A3 C (bt.mem hp) (by lia),by lia⟩,.inr ⟨rfl,rfl⟩⟩
  .rw [oB cn];exact iQ ⟨_,0,ys,rfl,hi,⟨g1.mono (by lia),g2',A3 C hpy (by lia),by lia⟩,.inr ⟨rfl,rfl⟩⟩
 |false =>
  dsimp only;rw[oB (by decide)]
  refine iP (C.at (st:=jk st ys) ey ex py px hk ?_);cases e':lt (ys[lo+k]'(by lia)) (ys[lo+(k+1)]'(by lia)) with
  |true=>exact iQ ⟨_,neq,ys,rfl,cw hi,g,.inl rfl⟩
  |false =>
   refine iQ ⟨_,neq+1,ys,rfl,hi,⟨g1.mono (by lia),des e',?_,by lia⟩,.inr ⟨rfl,rfl⟩⟩
   intro p q x y h1 h2 h3 h4 gx gy;have qx:=hpy _ (aQq gx);have qy:=hpy _ (aQq gy)
   by_cases cp:p=lo+(k+1)
   .subst cp;rw[ex]at gx;cases gx
    by_cases cq:q=lo+(k+1)
    .subst cq;rw[ex]at gy;cases gy;exact C.refl px
    .exact C.trans _ _ _ qy py px (g3 (lo+(k+1)-1) q _ _ (by lia) (by lia) (by lia) (by lia) ey gy) e
   .by_cases cq:q=lo+(k+1)
    .subst cq;rw[ex]at gy;cases gy;exact C.trans _ _ _ px py qx e' (g3 p (lo+(k+1)-1) _ _ (by lia) (by lia) (by lia) (by lia) gx ey)
    .exact g3 p q x y (by lia) (by lia) (by lia) (by lia) gx gy
abbrev TX(lt:iK->iK->Bool) (st:SortSt) (lo nrem:Nat) (Q:Option Nat->SortSt->Prop):=∀n xs,1<=n->n<=nrem->xq (iV st) xs lo (lo+n)->yF lt xs lo (lo+n)->Q (some n) (jk st xs)
theorem ND(C:yd prog w A s κ P lt) {lo nrem m:Nat}{st:SortSt}{ys:Array iK}{Q:Option Nat->SortSt->Prop}(hp:∀x,x∈iV st->P x) (hk:kindOf st=κ) (hz:lo+nrem<=(iV st).size) (h:TX lt st lo nrem Q)
  (h1:1<=m) (h2:m<=nrem) (b:xq (iV st) ys lo (lo+m)) (d:N6 lt ys lo (lo+m)):wpS (iO prog w) A E s (VM lo nrem m) Q (jk st ys):=by
 refine iP (AY ?_);have hsz:=b.size;have f1:=Hz (by lia) d
 have f2:=b.trans (xi (i:=lo) (j:=lo+m) (by lia) (ag _) (ag _))
 refine iP (jn (Fb (st:=jk st _) C (f2.mem hp) hk h1 h2 (bJ hz (dO f2.size.symm)) f1) ?_);rintro c Bw ⟨n',rfl,rfl,n1',n2',s1',_⟩;exact iQ (h n' _ (by lia) n2' (f2.mono (by lia)) s1')
theorem NB(C:yd prog w A s κ P lt) {lo nrem n:Nat}{st:SortSt}{xs:Array iK}{Q:Option Nat->SortSt->Prop}(hp:∀x,x∈iV st->P x) (hk:kindOf st=κ) (hz:lo+nrem<=(iV st).size) (h:TX lt st lo nrem Q)
  (hn:n<nrem) (b:xq (iV st) xs lo (lo+n)) (d:N6 lt xs lo (lo+(n+1))):wpS (iO prog w) A E s (VJ lo nrem n) Q (jk st xs):=by
 refine iP (wj (iP (jn (jj
  (I:=λi c Bw=>∃q ys,c=(none,i,q)/\Bw=jk st ys/\i<=nrem/\CR lt (iV st) lo i q ys)
  (Q:=λc Bw=>∃m q ys,c=(none,m,q)/\Bw=jk st ys/\m<=nrem/\CR lt (iV st) lo m q ys)
  ?_ ?_ ⟨0,xs,rfl,rfl,hn,b.mono (by lia),d,A3 C (b.mem hp) (by lia),by lia⟩) ?_)))
 .rintro i c Bw _ hi ⟨q,ys,rfl,rfl,_,g⟩;obtain⟨k,rfl⟩:∃k,i=k+1:=⟨i-1,by have:=g.p;lia⟩
  refine jn (Sh C hp hk hz hi g) λr Bw hr=>?_
  obtain⟨m,q,zs,rfl,hm,g',rfl|⟨rfl,rfl⟩⟩:=hr
  .exact ⟨m,q,zs,rfl,rfl,hm,g'⟩
  .exact ⟨q,zs,rfl,rfl,hm,g'⟩
 .rintro c Bw ⟨q,ys,rfl,rfl,hm,g⟩;exact⟨_,q,ys,rfl,rfl,hm,g⟩
 .rintro c Bw ⟨m,q,ys,rfl,rfl,hm,g⟩;have hsz:=g.b.size;have gp:=g.p;dsimp only
  by_cases cn:q>0
  .rw [oz cn];exact iP (AY (ND (st:=st) (ys:=mirror ys (lo+m-(q+1)) (lo+m) ((lo+m-(lo+m-(q+1))) / 2)) C hp hk hz h (by lia) hm (g.b.trans (xi (by lia) (by lia) (ag _))) (yD (by lia) (by lia) (ag _) g.e g.d)))
  .rw [oB cn];exact ND C hp hk hz h (by lia) hm g.b g.d
theorem D7(C:yd prog w A s κ P lt) {lo nrem:Nat}{st:SortSt}{Q:Option Nat->SortSt->Prop}(hp:∀x,x∈iV st->P x) (hk:kindOf st=κ) (h1:1<=nrem) (hz:lo+nrem<=(iV st).size)
  (h:∀n xs,1<=n->n<=nrem->xq (iV st) xs lo (lo+n)->yF lt xs lo (lo+n)->Q (some n) (jk st xs)):wpS (iO prog w) A E s (countRun' lo nrem) Q st:=by
 rw[UW];refine iP (jn (Fb C hp hk (ag 1) h1 hz (PY C hp lo)) ?_);rintro c st' ⟨n,rfl,rfl,n1,n2,sg1,brk⟩;dsimp only;have triv:Q (some n) st':=h n (iV st') n1 n2 (xq.refl _ _ _) sg1
 by_cases c1:n=nrem
 .rw [oz (by simp[c1])]
  exact iQ triv
 rw[oB (by simpa using c1)]
 obtain⟨xb,yb,exb,eyb,eb⟩:=brk.resolve_left c1;obtain⟨m,rfl⟩:∃m,n=m+1:=⟨n-1,by lia⟩
 have pxb:=hp _ (aQq exb);have pyb:=hp _ (aQq eyb);have go:UN lt (iV st') lo (lo+(m+1))->N6 lt (iV st') lo (lo+(m+1+1)):=λe1 =>
  FY C hp (λp q x y g1 g2 g3 ex ey=>e1 p q x y g1 (by lia) (by lia) g3 ex ey) (λx y hx hy=>by
   have hy':(iV st')[lo+(m+1)-1]?=some y:=hy;rw[exb]at hx;rw[eyb]at hy';cases hx;cases hy';exact C.asym _ _ pxb pyb eb) (by lia)
 by_cases c2:m+1>1
 .rw [oz c2];have ex:(iV st')[lo]?=some ((iV st')[lo]'(by lia)):=af (by lia)
  have pex:=hp _ (aQq ex);refine iP (C.at ex eyb pex pyb hk ?_);cases e:lt ((iV st')[lo]'(by lia)) yb with
  |true=>exact iQ triv
  |false =>
   dsimp only;rw[oB (by decide)]
   have eqv:UN lt (iV st') lo (lo+(m+1)):=by
    intro p q x y g1 g2 g3 g4 gx gy;have px:=hp _ (aQq gx);have py:=hp _ (aQq gy);have q1:=sg1 q (lo+(m+1)-1) _ _ g3 (by lia) (by lia) gy eyb
    have q2:=sg1 lo p _ _ (ag _) g1 g2 ex gx;exact C.trans _ _ _ py pex px (C.trans _ _ _ py pyb pex q1 e) q2
   exact iP (AY (NB C hp hk hz h (by lia) (xi (by lia) (ag _) (ag _)) (yD (by lia) (ag _) (by lia) eqv (go eqv))))
 .rw [oB c2];exact NB C hp hk hz h (by lia) (xq.refl _ _ _) (go (A3 C hp (by lia)))
end
section
variable {prog:iT}{w:iU}{A:Around}{E:Value->Shared->Prop}{s:Shared}{κ:jl}{P:iK->Prop}{lt:iK->iK->Bool}
theorem PN(C:yd prog w A s κ P lt) {xs:Array iK}(hp:∀x,x∈xs->P x) {lo k l:Nat}(hz:lo+k<xs.size) (hl:l<=k) (hs:yF lt xs lo (lo+k)) {x:iK}(hx:xs[lo+k]?=some x)
  (h1:∀j y,j<l->xs[lo+j]?=some y->lt x y=false) (h2:∀j y,l<=j->j<k->xs[lo+j]?=some y->lt x y=true):yF lt (bubble xs (lo+k) (k-l)) lo (lo+(k+1)):=by
 have px:=hp _ (aQq hx);have g:∀p,(bubble xs (lo+k) (k-l))[p]?=if p=lo+l then some x else if lo+l<p/\p<=lo+k then xs[p-1]? else xs[p]?:=λp=>by
  rw[getElem?_bubble hz (k-l) (by lia) p,show lo+k-(k-l)=lo+l by lia,hx]
 intro p q u v a1 a2 a3 eu ev;rw[g]at eu ev
 by_cases cp:p=lo+l
 .rw [oz cp]at eu;cases eu
  by_cases cq:q=lo+l
  .rw [oz cq]at ev;cases ev;exact C.refl px
  .rw [oB cq,oz ⟨by lia,by lia⟩]at ev
   have pv:=hp _ (aQq ev);exact C.asym _ _ px pv (h2 (q-1-lo) v (by lia) (by lia) (by rw[show lo+(q-1-lo)=q-1 by lia];exact ev))
 .rw [oB cp]at eu
  by_cases cp2:lo+l<p/\p<=lo+k
  .rw [oz cp2]at eu;rw[oB (by lia),oz ⟨by lia,by lia⟩]at ev
   exact hs (p-1) (q-1) _ _ (by lia) (by lia) (by lia) eu ev
  .rw [oB cp2]at eu
   by_cases cq:q=lo+l
   .rw [oz cq]at ev;cases ev;exact h1 (p-lo) u (by lia) (by rw[show lo+(p-lo)=p by lia];exact eu)
   .rw [oB cq]at ev
    by_cases cq2:lo+l<q/\q<=lo+k
    .rw [oz cq2]at ev;exact hs p (q-1) _ _ a1 (by lia) (by lia) eu ev
    .rw [oB cq2]at ev;exact hs p q _ _ a1 a2 (by lia) eu ev
theorem Hi{xs:Array iK}{lo k l n:Nat}(hz:lo+k<xs.size) (hl:l<=k) (hn:k<n):xq xs (bubble xs (lo+k) (k-l)) lo (lo+n) :=
 ⟨bubble_perm _ _ _,λp hp=>by rw[getElem?_bubble hz (k-l) (by lia) p,oB (by lia),oB (by lia)]⟩
theorem KC{src dst:Nat}{st:SortSt}{Q:Unit->SortSt->Prop}(h:Q () (jk st (bubble (iV st) src (src-dst)))):wpS (iO prog w) A E s (moveDown' src dst) Q st:=by
 rw[moveDown'_eq];exact jN h
theorem He(C:yd prog w A s κ P lt) {lo n ok:Nat}{st:SortSt}{Q:Bool->SortSt->Prop}(hp:∀x,x∈iV st->P x) (hk:kindOf st=κ) (h1:1<=ok) (h2:ok<=n) (hz:lo+n<=(iV st).size) (hs:yF lt (iV st) lo (lo+ok))
  (h:∀xs,xq (iV st) xs lo (lo+n)->yF lt xs lo (lo+n)->Q true (jk st xs)):wpS (iO prog w) A E s (binarySort' lo n ok) Q st:=by
 rw[binarySort'_eq];dsimp only;rw[Nat.max_eq_left h1];refine iP (jn (jj (I:=λk c st'=>∃ys,c=(none,())/\st'=jk st ys/\xq (iV st) ys lo (lo+n)/\yF lt ys lo (lo+k)/\k<=n)
  (Q:=λc st'=>∃ys,c=(none,())/\st'=jk st ys/\xq (iV st) ys lo (lo+n)/\yF lt ys lo (lo+n)) ?step ?fin ⟨iV st,rfl,rfl,xq.refl _ _ _,hs,h2⟩) ?post)
 case fin =>
  rintro c st' ⟨ys,rfl,rfl,b1,s1,q⟩;have e:max ok n=n:=by lia
  rw[e]at s1;exact⟨ys,rfl,rfl,b1,s1⟩
 case post =>
  rintro c st' ⟨ys,rfl,rfl,b1,s1⟩;exact iQ (h ys b1 s1)
 case step =>
  rintro k c st' hk1 hk2 ⟨ys,rfl,rfl,b1,s1,q⟩;have hpy:=b1.mem hp;have hsz:=b1.size;have ex:ys[lo+k]?=some (ys[lo+k]'(by lia)):=af (by lia)
  have px:=hpy _ (aQq ex);refine iP (jn (jj (I:=λi c st'=>∃l r,c=(none,l,r)/\st'=jk st ys/\l<=r/\r<=k/\(∀j y,j<l->ys[lo+j]?=some y->lt (ys[lo+k]'(by lia)) y=false)/\(∀j y,r<=j->j<k->ys[lo+j]?=some y->lt (ys[lo+k]'(by lia)) y=true)/\(r-l)+i<=k)
   (Q:=λc st'=>∃l r,c=(none,l,r)/\st'=jk st ys/\l=r/\r<=k/\(∀j y,j<l->ys[lo+j]?=some y->lt (ys[lo+k]'(by lia)) y=false)/\(∀j y,r<=j->j<k->ys[lo+j]?=some y->lt (ys[lo+k]'(by lia)) y=true))
   ?step1 ?fin1 ⟨0,k,rfl,rfl,aV _,ag _,λj y hj=>absurd hj (cX _),λj y g1 g2=>absurd g2 (by lia),by lia⟩) ?post1)
  case fin1 =>
   rintro c st' ⟨l,r,rfl,rfl,a1,a2,a3,a4,a5⟩;exact⟨l,r,rfl,rfl,by lia,a2,a3,a4⟩
  case step1 =>
   rintro i c st' _ hi ⟨l,r,rfl,rfl,a1,a2,a3,a4,a5⟩;dsimp only
   by_cases c1:l ≥ r
   .rw [oz c1];exact iQ ⟨l,r,rfl,rfl,by lia,a2,a3,a4⟩
   rw[oB c1];have em:ys[lo+(l+r) / 2]?=some (ys[lo+(l+r) / 2]'(by lia)):=af (by lia)
   have pm:=hpy _ (aQq em);refine iP (C.at (st:=jk st ys) ex em px pm hk ?_);cases e:lt (ys[lo+k]'(by lia)) (ys[lo+(l+r) / 2]'(by lia)) with
   |true =>
    dsimp only;rw[oz rfl];refine iQ ⟨l,_,rfl,rfl,by lia,by lia,a3,λj y g1 g2 ey=>?_,by lia⟩
    have py:=hpy _ (aQq ey);cases e':lt (ys[lo+k]'(by lia)) y with
    |true=>rfl
    |false =>
     have q1:=s1 (lo+(l+r) / 2) (lo+j) _ _ (by lia) (by lia) (by lia) em ey
     have q2:=C.trans _ _ _ pm py px q1 e';rw[e]at q2;cases q2
   |false =>
    dsimp only;rw[oB (by decide)]
    refine iQ ⟨_,r,rfl,rfl,by lia,a2,λj y g1 ey=>?_,a4,by lia⟩
    have py:=hpy _ (aQq ey);exact C.trans _ _ _ py pm px (s1 (lo+j) (lo+(l+r) / 2) _ _ (by lia) (by lia) (by lia) ey em) e
  case post1 =>
   rintro c st' ⟨l,r,rfl,rfl,rfl,a2,a3,a4⟩;dsimp only;refine iP (KC (iQ ?_));have e:lo+k-(lo+l)=k-l:=by lia
   show ∃ys',_/\jk st (bubble ys (lo+k) (lo+k-(lo+l)))=jk st ys'/\_;rw[e];exact⟨_,rfl,rfl,b1.trans (Hi (by lia) a2 hk2),PN C hpy (by lia) a2 s1 ex a3 a4,hk2⟩
end
def rE(lt:iK->iK->Bool) (xs:Array iK):Nat->List (Nat×Nat×Nat)->Nat->Prop
 |s,[],e=>s=e
 |s,p::r,e=>p.1=s/\0<p.2.1/\yF lt xs s (s+p.2.1)/\rE lt xs (s+p.2.1) r e
theorem sH{lt:iK->iK->Bool}{xs:Array iK}:∀{q r:List (Nat×Nat×Nat)}{s e:Nat},rE lt xs s (q++r) e↔∃m,rE lt xs s q m/\rE lt xs m r e
 | [],r,s,e=>by
  constructor
  .intro h;exact⟨s,rfl,h⟩
  .rintro ⟨m,rfl,h⟩;exact h
 |p::q,r,s,e=>by
  constructor
  .rintro ⟨h1,h2,h3,h4⟩;obtain⟨m,a,b⟩:=sH.mp h4;exact⟨m,⟨h1,h2,h3,a⟩,b⟩
  .rintro ⟨m,⟨h1,h2,h3,a⟩,b⟩;exact⟨h1,h2,h3,sH.mpr ⟨m,a,b⟩⟩
theorem xX{lt:iK->iK->Bool}{xs:Array iK}:∀{q:List (Nat×Nat×Nat)}{s e:Nat},rE lt xs s q e->s+q.length<=e
 | [],s,e,h=>by have:s=e:=h;simp[this]
 |p::q,s,e,hz=>by
  obtain⟨_,h2,_,h4⟩:=hz;have:=xX h4;rw[lCq];lia
theorem vm{lt:iK->iK->Bool}{xs ys:Array iK}:∀{q:List (Nat×Nat×Nat)}{s e:Nat},(∀k,s<=k->k<e->ys[k]?=xs[k]?)->rE lt xs s q e->rE lt ys s q e
 | [],s,e,_,h=>h
 |p::q,s,e,g,hz=>by
  obtain⟨h1,h2,h3,h4⟩:=hz;have l:=xX h4;refine⟨h1,h2,λa b x y a1 a2 a3 ex ey=>h3 a b x y a1 a2 a3 ?_ ?_,vm (λk k1 k2=>g k (by lia) k2) h4⟩
  .rw [←g a a1 (by lia)];exact ex
  .rw [←g b (by lia) (by lia)];exact ey
theorem zl{lt:iK->iK->Bool}{xs:Array iK}:∀{q q':List (Nat×Nat×Nat)}{s e:Nat},q'.map (λp=>(p.1,p.2.1))=q.map (λp=>(p.1,p.2.1))->rE lt xs s q e->rE lt xs s q' e
 | [],q',s,e,g,h=>by
  have:q'=[]:=by simpa using g
  subst this;exact h
 |p::q,[],s,e,g,h=>by simp at g
 |p::q,p'::q',s,e,g,hz=>by
  obtain⟨h1,h2,h3,h4⟩:=hz;simp only[aC,List.cons.injEq,Prod.mk.injEq]at g;obtain⟨⟨g1,g2⟩,g3⟩:=g;rw[←g2]at h2 h3 h4;exact⟨g1.trans h1,h2,h3,zl g3 h4⟩
theorem DE(o:Nat):∀(M:List iK) (n:Nat) (xs:Array iK),o+n+M.length<=xs.size ->
  ((M.zipIdx n).foldl (λa x=>a.setIfInBounds (o+x.2) x.1) xs).toList=xs.toList.take (o+n)++M++xs.toList.drop (o+n+M.length)
 | [],n,xs,h=>by simp
 |y::r,n,xs,h=>by
  rw[List.zipIdx_cons,cm];rw[lCq]at h;rw[DE o r (n+1) _ (by rw[Array.size_setIfInBounds];lia),fF]
  have hl:o+n<xs.toList.length:=by rw[ao];lia
  have e1:(xs.toList.set (o+n) y).take (o+(n+1))=xs.toList.take (o+n)++[y]:=by
   rw[←eY,bw,aJ hl,List.take_set_of_le (ag _)];rfl
  have e2:(xs.toList.set (o+n) y).drop (o+(n+1)+r.length)=xs.toList.drop (o+n+(r.length+1)):=by
   rw[List.drop_set_of_lt (by lia)]
   congr 1;lia
  rw[e1,e2,lCq,ah,ah,ah];rfl
section
variable {prog:iT}{w:iU}{A:Around}{E:Value->Shared->Prop}{s:Shared}{κ:jl}{P:iK->Prop}{lt:iK->iK->Bool}
theorem Ic(C:yd prog w A s κ P lt) {left:Bool}{key:iK}{arr:Array iK}{base n:Nat}(hb:base+n<=arr.size) (ha:∀x,x∈arr->P x) (hkey:P key) (so:yF lt arr base (base+n)) :
  ∀i j,i<=j->j<n->wD lt left key arr base j=true->wD lt left key arr base i=true:=by
 intro i j hij hj h;have ei:arr[base+i]?=some (arr[base+i]'(by lia)):=af (by lia)
 have ej:arr[base+j]?=some (arr[base+j]'(by lia)):=af (by lia)
 have pi:=ha _ (aQq ei);have pj:=ha _ (aQq ej);have le:=so (base+i) (base+j) _ _ (by lia) (by lia) (by lia) ei ej
 rw[sW ej]at h;rw[sW ei];cases left with
 |true =>
  rw[oz rfl]at h ⊢;cases q:lt (arr[base+i]'(by lia)) key with
  |true=>rfl
  |false =>
   have:=C.trans _ _ _ hkey pi pj q le;rw[h]at this;cases this
 |false =>
  rw[oB (by decide)]at h ⊢
  have h':lt key (arr[base+j]'(by lia))=false:=by simpa using h
  have:=C.trans _ _ _ pi pj hkey le h';simp[this]
theorem sA{a:Array iK}{i j:Nat}{x:iK}(h:x∈(a.extract i j).toList):∃k,i<=k/\k<j/\a[k]?=some x:=by
 rw[qz]at h;obtain⟨k,k1,k2,e⟩:=uP h;rw[bY]at e;exact⟨k,k1,k2,e⟩
theorem Ak{a:Array iK}{i j:Nat}(h:yF lt a i j):xg lt (a.extract i j).toList:=by
 rw[qz];refine bN.mpr λp q hp hq hpq=>?_
 rw[aS,lTq,ao]at hp hq;have e:∀k (hk:k<((a.toList.take j).drop i).length),a[i+k]?=some ((a.toList.take j).drop i)[k]:=λk hk=>by
  rw[aS,lTq,ao]at hk;rw[eO,fK,aD];exact⟨by lia,by simp⟩
 exact h (i+p) (i+q) _ _ (by lia) (by lia) (by lia) (e p _) (e q _)
theorem FI(i:Nat):mergeAt' i=(do
 let s ←get
 let (some (sa,na,power),some (sb,nb,_)):=((jH s)[i]?,(jH s)[i+1]?)|jA "internal:list.sort.pending"
 set (setPending s (((jH s).setIfInBounds i (sa,na+nb,power)).eraseIdxIfInBounds (i+1)))
 let some k ←vy false (←jr (iV s) sb) (iV s) sa na 0|return false
 let (sa,na):=(sa+k,na-k)
 if na == 0 then return true
 let some nb ←vy true (←jr (iV s) (sa+na-1)) (iV s) sb nb (nb-1)|return false
 if nb == 0 then return true
 let x:=(iV s).extract sa sb
 let y:=(iV s).extract sb (sb+nb)
 let merged ←if na<=nb then BM x y else Bo x y
 modify λs=>jk s (merged.toList.zipIdx.foldl (λa (p,j)=>a.setIfInBounds (sa+j) p) (iV s))
 return (failedOf (←get)).isNone):=rfl
theorem J2{st st':SortSt}{Q:PUnit->SortSt->Prop}(h:Q ⟨⟩ st'):wpS (iO prog w) A E s (set st':StateT SortSt Sem PUnit) Q st:=by
 unfold wpS;rw[StateT.run_set];exact iN ⟨rfl,h⟩
theorem MU(C:yd prog w A s κ P lt) {xs zs M:Array iK}{sa na nb k l:Nat}(hp:∀x,x∈xs->P x) (hz:sa+na+nb<=xs.size) (hk:k<=na) (hl:l<=nb) (h1:yF lt xs sa (sa+na)) (h2:yF lt xs (sa+na) (sa+na+nb)) {key last:iK}
  (ek:xs[sa+na]?=some key) (el:xs[sa+na-1]?=some last)
  (k2:∀j y,j<k->xs[sa+j]?=some y->lt key y=false) (l3:∀j y,l<=j->j<nb->xs[sa+na+j]?=some y->lt y last=false) (hna:0<na) (hnb:0<nb)
  (m:N4 lt (xs.extract (sa+k) (sa+na)) (xs.extract (sa+na) (sa+na+l)) M)
  (hzs:zs.toList=xs.toList.take (sa+k)++M.toList++xs.toList.drop (sa+k+M.toList.length)):xq xs zs sa (sa+na+nb)/\yF lt zs sa (sa+na+nb):=by
 have lM:M.toList.length=(na-k)+l:=by
  have:=m.pm.length_eq;simp only[lAq,ao,eB]at this ⊢;lia
 have hlx:xs.toList.length=xs.size:=ao;have gz:∀p,zs[p]?=if p<sa+k then xs[p]? else if p<sa+na+l then M[p-(sa+k)]? else xs[p]?:=λp=>by
  rw[←aq,hzs]
  by_cases c1:p<sa+k
  .rw [oz c1,ah,gZq (by rw[lTq];lia),df c1,aq]
  .rw [oB c1,ah,gYq (by rw[lTq];lia),lTq,show min (sa+k) xs.toList.length=sa+k by lia]
   by_cases c2:p<sa+na+l
   .rw [oz c2,gZq (by lia),aq]
   .rw [oB c2,gYq (by lia),cI,aq]
    congr 1;lia
 have pk:=hp _ (aQq ek);have pl:=hp _ (aQq el);have from_:∀q v,M[q]?=some v->(∃j,k<=j/\j<na/\xs[sa+j]?=some v)∨∃j,j<l/\xs[sa+na+j]?=some v:=λq v e=>by
  have hv:v∈M.toList:=by simpa using aQq e
  rcases mAq.mp (m.pm.mem_iff.mp hv) with hv|hv
  .obtain ⟨j,j1,j2,ej⟩:=sA hv;exact .inl ⟨j-sa,by lia,by lia,by rw[show sa+(j-sa)=j by lia];exact ej⟩
  .obtain ⟨j,j1,j2,ej⟩:=sA hv;exact .inr ⟨j-(sa+na),by lia,by rw[show sa+na+(j-(sa+na))=j by lia];exact ej⟩
 refine⟨⟨?_,λp hp'=>?_⟩,?_⟩
 .rw [Array.perm_iff_toList_perm,hzs];have c:xs.toList=xs.toList.take (sa+k)++((xs.extract (sa+k) (sa+na)).toList++(xs.extract (sa+na) (sa+na+l)).toList)++xs.toList.drop (sa+k+M.toList.length):=by
   rw[qz,qz,lM];have a1:=zC xs.toList (sa+k) (sa+na) (by lia)
   have a2:=zC xs.toList (sa+na) (sa+na+l) (by lia)
   have a3:sa+k+(na-k+l)=sa+na+l:=by lia
   rw[a3,←ah,←a1,←a2,bA]
  conv=>rhs;rw[c]
  exact aQ.append_right _ (aQ.append_left _ m.pm)
 .rw [gz]
  by_cases c1:p<sa+k
  .rw [oz c1]
  .rw [oB c1,oB (by lia)]
 .intro p q x y a1 a2 a3 ex ey;rw[gz]at ex ey
  by_cases p1:p<sa+k
  .rw [oz p1]at ex;have px:=hp _ (aQq ex);have lx:lt key x=false:=k2 (p-sa) x (by lia) (by rw[show sa+(p-sa)=p by lia];exact ex)
   by_cases q1:q<sa+k
   .rw [oz q1]at ey;exact h1 p q _ _ a1 a2 (by lia) ex ey
   .rw [oB q1]at ey
    by_cases q2:q<sa+na+l
    .rw [oz q2]at ey;rcases from_ _ _ ey with ⟨j,j1,j2,ej⟩|⟨j,j1,ej⟩
     .exact h1 p (sa+j) _ _ a1 (by lia) (by lia) ex ej
     .exact C.trans _ _ _ px pk (hp _ (aQq ej)) lx (h2 (sa+na) (sa+na+j) _ _ (ag _) (by lia) (by lia) ek ej)
    .rw [oB q2]at ey;exact C.trans _ _ _ px pk (hp _ (aQq ey)) lx (h2 (sa+na) q _ _ (ag _) (by lia) (by lia) ek ey)
  .rw [oB p1]at ex;rw[oB (by lia)]at ey
   by_cases p2:p<sa+na+l
   .rw [oz p2]at ex
    by_cases q2:q<sa+na+l
    .rw [oz q2]at ey;rcases ef a2 with c|c
     .have ex':M.toList[p-(sa+k)]?=some x:=by rw[aq];exact ex
      have ey':M.toList[q-(sa+k)]?=some y:=by rw[aq];exact ey
      obtain⟨hx,e1⟩:=gSq.mp ex';obtain⟨hy,e2⟩:=gSq.mp ey';have:=bN.mp m.so (p-(sa+k)) (q-(sa+k)) hx hy (by lia)
      rw[e1,e2]at this;exact this
     .subst c;rw[ex]at ey;cases ey;rcases from_ _ _ ex with ⟨j,j1,j2,ej⟩|⟨j,j1,ej⟩
      .exact C.refl (hp _ (aQq ej))
      .exact C.refl (hp _ (aQq ej))
    .rw [oB q2]at ey;have py:=hp _ (aQq ey);rcases from_ _ _ ex with ⟨j,j1,j2,ej⟩|⟨j,j1,ej⟩
     .exact C.trans _ _ _ (hp _ (aQq ej)) pl py (h1 (sa+j) (sa+na-1) _ _ (by lia) (by lia) (by lia) ej el) (l3 (q-(sa+na)) y (by lia) (by lia) (by rw[show sa+na+(q-(sa+na))=q by lia];exact ey))
     .exact h2 (sa+na+j) q _ _ (by lia) (by lia) (by lia) ej ey
   .rw [oB p2]at ex;rw[oB (by lia)]at ey
    exact h2 p q _ _ (by lia) a2 (by lia) ex ey
end
section
variable {prog:iT}{w:iU}{A:Around}{E:Value->Shared->Prop}{s:Shared}{κ:jl}{P:iK->Prop}{lt:iK->iK->Bool}
theorem K1{α:Type}{l:List α}{i:Nat}{a b:α}(h1:l[i]?=some a) (h2:l[i+1]?=some b):l=l.take i++a::b::l.drop (i+2):=by
 obtain⟨h3,e3⟩:=gSq.mp h1;obtain⟨h4,e4⟩:=gSq.mp h2
 conv=>lhs;rw[←bA i l]
 rw[aK h3,aK h4,e3,e4]
theorem Kf{α:Type}{q r:List α}{a b c:α}:((q++a::b::r).set q.length c).eraseIdx (q.length+1)=q++c::r:=by
 rw[List.set_append_right _ _ (ag _),bP,dr,List.eraseIdx_append_of_length_le (by lia),fT]
 rfl
theorem AB(C:yd prog w A s κ P lt) {i lo:Nat}{st:SortSt}{Q:Bool->SortSt->Prop}(hp:∀x,x∈iV st->P x) (hk:kindOf st=κ) (hf:failedOf st=none) (hlo:lo<=(iV st).size) (hch:rE lt (iV st) 0 (jH st).toList lo)
  (hi:i+1<(jH st).size) (h:∀xs p g,xq (iV st) xs 0 lo->p.size+1=(jH st).size->rE lt xs 0 p.toList lo->Q true (SortSt.mk' κ xs p g none)):wpS (iO prog w) A E s (mergeAt' i) Q st:=by
 obtain⟨κ',arr,pend,g0,fl⟩:=st;have hk:κ'=κ:=hk;have hf:fl=none:=hf;subst hk hf;have hp:∀x,x∈arr->P x:=hp;have hlo:lo<=arr.size:=hlo;have hch:rE lt arr 0 pend.toList lo:=hch;have hi:i+1<pend.size:=hi;have e1:pend[i]?=some (pend[i]'(by lia)):=af (by lia)
 have e2:pend[i+1]?=some (pend[i+1]'(by lia)):=af (by lia)
 generalize pend[i]'(by lia)=a at e1
 generalize pend[i+1]'(by lia)=b at e2
 obtain⟨sa,na,pa⟩:=a;obtain⟨sb,nb,pb⟩:=b;have e1':pend.toList[i]?=some (sa,na,pa):=by rw[aq];exact e1
 have e2':pend.toList[i+1]?=some (sb,nb,pb):=by rw[aq];exact e2
 have ep:=K1 e1' e2';have lq:(pend.toList.take i).length=i:=by rw[lTq,ao];lia
 generalize pend.toList.take i=q at ep lq;generalize pend.toList.drop (i+2)=r at ep;rw[ep]at hch;obtain⟨m0,c1,c2⟩:=sH.mp hch;obtain⟨x1,x2,x3,x4,x5,x6,x7⟩:=c2;have d1:sa=m0:=x1;have d2:0<na:=x2;have d3:yF lt arr m0 (m0+na):=x3;have f1:sb=m0+na:=x4;have f2:0<nb:=x5;have f3:yF lt arr (m0+na) (m0+na+nb):=x6;have f4:rE lt arr (m0+na+nb) r lo:=x7
 clear x1 x2 x3 x4 x5 x6 x7
 subst d1 f1;have hrl:sa+na+nb+r.length<=lo:=xX f4;have hql:0+q.length<=sa:=xX c1;have hz:sa+na+nb<=arr.size:=by lia
 have np:((pend.setIfInBounds i (sa,na+nb,pa)).eraseIdxIfInBounds (i+1)).toList=q++(sa,na+nb,pa)::r:=by
  rw[Array.toList_eraseIdxIfInBounds,fF,ep,←lq];exact Kf
 have ns:((pend.setIfInBounds i (sa,na+nb,pa)).eraseIdxIfInBounds (i+1)).size+1=pend.size:=by
  rw[←ao,np,←ao,ep];simp only[lAq,lCq];lia
 have fin:∀zs g,xq arr zs sa (sa+na+nb)->yF lt zs sa (sa+na+nb)->Q true (SortSt.mk' κ' zs ((pend.setIfInBounds i (sa,na+nb,pa)).eraseIdxIfInBounds (i+1)) g none):=λzs g b1 s1=>by
  refine h zs _ g ⟨b1.pm,λk hk=>b1.out k (by lia)⟩ ns ?_
  rw[np];refine sH.mpr ⟨sa,vm (λk _ k2=>b1.out k (.inl k2)) c1,rfl,by show 0<na+nb;lia,?_,?_⟩
  .show yF lt zs sa (sa+(na+nb));rw[←eY];exact s1
  .show rE lt zs (sa+(na+nb)) r lo;rw[←eY];exact vm (λk k1 _=>b1.out k (.inr k1)) f4
 rw[FI];refine iP (jU ?_);dsimp only;rw[e1,e2];dsimp only;refine iP (J2 ?_);have ek:arr[sa+na]?=some (arr[sa+na]'(by lia)):=af (by lia)
 have el:arr[sa+na-1]?=some (arr[sa+na-1]'(by lia)):=af (by lia)
 have pk:=hp _ (aQq ek);have pl:=hp _ (aQq el);refine iP (oO ek ?_);refine iP (tD C d2 (by lia) hp pk rfl (Ic C (by lia) hp pk d3) λk k1 k2 k3=>?_)
 dsimp only;have kl:∀j y,j<k->arr[sa+j]?=some y->lt (arr[sa+na]'(by lia)) y=false:=λj y hj ey=>by
  have:=k2 j hj;rw[sW ey,oB (by decide)]at this
  simpa using this
 have kh:∀j y,k<=j->j<na->arr[sa+j]?=some y->lt (arr[sa+na]'(by lia)) y=true:=λj y h1 h2 ey=>by
  have:=k3 j h1 h2;rw[sW ey,oB (by decide)]at this
  simpa using this
 by_cases c1':na-k=0
 .rw [oz (by simp[c1'])]
  refine iQ (fin arr g0 (xq.refl _ _ _) λp q x y a1 a2 a3 ex ey=>?_)
  have px:=hp _ (aQq ex);have py:=hp _ (aQq ey)
  by_cases q1:q<sa+na
  .exact d3 p q _ _ a1 a2 q1 ex ey
  .by_cases p1:p<sa+na
   .exact C.trans _ _ _ px pk py (kl (p-sa) x (by lia) (by rw[show sa+(p-sa)=p by lia];exact ex)) (f3 (sa+na) q _ _ (ag _) (by lia) a3 ek ey)
   .exact f3 p q _ _ (by lia) a2 a3 ex ey
 rw[oB (by simpa using c1')]
 have ea:sa+k+(na-k)-1=sa+na-1:=by lia
 rw[ea];refine iP (oO el ?_);refine iP (tD C (by lia) (by lia) hp pl rfl (Ic C (by lia) hp pl f3) λl l1 l2 l3=>?_)
 dsimp only;have ll:∀j y,j<l->arr[sa+na+j]?=some y->lt y (arr[sa+na-1]'(by lia))=true:=λj y hj ey=>by
  have:=l2 j hj;rw[sW ey,oz rfl]at this;exact this
 have lh:∀j y,l<=j->j<nb->arr[sa+na+j]?=some y->lt y (arr[sa+na-1]'(by lia))=false:=λj y h1 h2 ey=>by
  have:=l3 j h1 h2;rw[sW ey,oz rfl]at this;exact this
 by_cases c2':l=0
 .rw [oz (by simp[c2'])]
  refine iQ (fin arr g0 (xq.refl _ _ _) λp q x y a1 a2 a3 ex ey=>?_)
  have px:=hp _ (aQq ex);have py:=hp _ (aQq ey)
  by_cases q1:q<sa+na
  .exact d3 p q _ _ a1 a2 q1 ex ey
  .by_cases p1:p<sa+na
   .exact C.trans _ _ _ px pl py (d3 p (sa+na-1) _ _ a1 (by lia) (by lia) ex el) (lh (q-(sa+na)) y (by lia) (by lia) (by rw[show sa+na+(q-(sa+na))=q by lia];exact ey))
   .exact f3 p q _ _ (by lia) a2 a3 ex ey
 rw[oB (by simpa using c2')]
 have sx:xg lt (arr.extract (sa+k) (sa+na)).toList:=Ak λp q x y a1 a2 a3 ex ey=>d3 p q x y (by lia) a2 a3 ex ey
 have sy:xg lt (arr.extract (sa+na) (sa+na+l)).toList:=Ak λp q x y a1 a2 a3 ex ey=>f3 p q x y a1 a2 (by lia) ex ey
 have hx:∀x,x∈arr.extract (sa+k) (sa+na)->P x:=λx hx=>by
  obtain⟨j,_,_,e⟩:=sA (gu.mpr hx);exact hp _ (aQq e)
 have hy:∀x,x∈arr.extract (sa+na) (sa+na+l)->P x:=λx hx=>by
  obtain⟨j,_,_,e⟩:=sA (gu.mpr hx);exact hp _ (aQq e)
 have zx:(arr.extract (sa+k) (sa+na)).size=na-k:=by rw[eB];lia
 have zy:(arr.extract (sa+na) (sa+na+l)).size=l:=by rw[eB];lia
 have g0':(arr.extract (sa+na) (sa+na+l))[0]?=some (arr[sa+na]'(by lia)):=by
  rw[fZ,oz (by lia),gK]
  exact ek
 have gl':(arr.extract (sa+k) (sa+na))[na-k-1]?=some (arr[sa+na-1]'(by lia)):=by
  rw[fZ,oz (by lia),show sa+k+(na-k-1)=sa+na-1 by lia]
  exact el
 have low:∀y∈(arr.extract (sa+k) (sa+na)).toList,lt y (arr[sa+na]'(by lia))=false:=λy hy=>by
  obtain⟨j,j1,j2,ej⟩:=sA hy;exact C.asym _ _ pk (hp _ (aQq ej)) (kh (j-sa) y (by lia) (by lia) (by rw[show sa+(j-sa)=j by lia];exact ej))
 have high:∀x∈(arr.extract (sa+na) (sa+na+l)).toList,lt (arr[sa+na-1]'(by lia)) x=false:=λx hx=>by
  obtain⟨j,j1,j2,ej⟩:=sA hx;exact C.asym _ _ (hp _ (aQq ej)) pl (ll (j-(sa+na)) x (by lia) (by rw[show sa+na+(j-(sa+na))=j by lia];exact ej))
 have done:∀M g,N4 lt (arr.extract (sa+k) (sa+na)) (arr.extract (sa+na) (sa+na+l)) M ->
   Q true (SortSt.mk' κ' (M.toList.zipIdx.foldl (λa x=>a.setIfInBounds (sa+k+x.snd) x.fst) arr) ((pend.setIfInBounds i (sa,na+nb,pa)).eraseIdxIfInBounds (i+1)) g none):=λM g mg=>by
  have lM:M.toList.length=(na-k)+l:=by
   have:=mg.pm.length_eq;simp only[lAq,ao,eB]at this ⊢;lia
  have wb:=DE (sa+k) M.toList 0 arr (by lia)
  obtain⟨b1,s1⟩:=MU C hp hz k1 l1 d3 f3 ek el kl lh d2 f2 mg wb;exact fin _ g b1 s1
 by_cases c3:na-k<=l
 .rw [oz c3];refine iP (Gf (κ:=κ') (a:=arr.extract (sa+k) (sa+na)) (b:=arr.extract (sa+na) (sa+na+l)) C hx hy rfl sx sy (by rw[zx];lia) (by rw[zy];lia) (λx ex y hy=>?_) (λj hj x hx y hy=>?_) λM g mg=>?_)
  .rw [g0']at ex;cases ex;exact low y hy
  .have hj':j=na-k-1:=by lia
   subst hj';have:y=arr[sa+na-1]'(by lia):=by
    obtain⟨t,t1,t2⟩:=xA hy;rw[zx]at t1;have t0:t=0:=by lia
    subst t0;rw[gK,gl']at t2;exact(aU.inj t2).symm
   rw[this];exact high x hx
  .refine iP (jN ?_);refine iP (jU ?_);exact iQ (done M g mg)
 .rw [oB c3];refine iP (Ft (κ:=κ') (a:=arr.extract (sa+k) (sa+na)) (b:=arr.extract (sa+na) (sa+na+l)) C hx hy rfl sx sy (by rw[zx];lia) (by rw[zy];lia) (λx hx y hy=>?_) (λx ex y hy=>?_) λM g mg=>?_)
  .have:x=arr[sa+na]'(by lia):=by
    obtain⟨t,t1,t2⟩:=xW hx;have t0:t=0:=by lia
    subst t0;rw[bY,g0']at t2;exact(aU.inj t2).symm
   rw[this];exact low y hy
  .rw [zx,gl']at ex;cases ex;exact high y hy
  .refine iP (jN ?_);refine iP (jU ?_);exact iQ (done M g mg)
end
section
variable {prog:iT}{w:iU}{A:Around}{E:Value->Shared->Prop}{s:Shared}{κ:jl}{P:iK->Prop}{lt:iK->iK->Bool}
abbrev wF(κ:jl) (xs:Array iK) (p:Array (Nat×Nat×Nat)) (g:Nat):SortSt:=SortSt.mk' κ xs p g none
theorem B7{xs:Array iK}{p:Array (Nat×Nat×Nat)}{lo n:Nat}(h:rE lt xs 0 p.toList lo) (hn:0<n) (hs:yF lt xs lo (lo+n)):rE lt xs 0 (p.push (lo,n,0)).toList (lo+n):=by
 rw[cQ];exact sH.mpr ⟨lo,h,rfl,hn,hs,rfl⟩
theorem Cw(p:Array (Nat×Nat×Nat)) (i pw:Nat):(p.modify i λx=>(x.fst,x.2.fst,pw)).toList.map (λp=>(p.1,p.2.1))=p.toList.map (λp=>(p.1,p.2.1)):=by
 apply dG;intro k;rw[gMq,gMq,aq,aq,Array.getElem?_modify];split
 .cases p[k]? <;> rfl
 .rfl
theorem EE(C:yd prog w A s κ P lt) {arr:Array iK}{g:Nat}{Q:Unit->SortSt->Prop}(hp:∀x,x∈arr->P x) (h2:2<=arr.size)
    (h:∀xs p g',xs.Perm arr->yF lt xs 0 arr.size->Q () (wF κ xs p g')):wpS (iO prog w) A E s sortRuns' Q (wF κ arr #[] g):=by
  rw[sortRuns'_eq];refine iP (jU ?_);dsimp only;have e0:iV (wF κ arr #[] g)=arr:=rfl;rw[e0];generalize minRun' arr.size arr.size 0=mr;refine iP (jn (jj
    (I:=λi c st'=>∃lo xs p g',c=(none,lo)/\st'=wF κ xs p g'/\xs.Perm arr/\lo<=arr.size/\rE lt xs 0 p.toList lo/\i<=lo)
    (Q:=λc st'=>∃xs p g',c=(none,arr.size)/\st'=wF κ xs p g'/\xs.Perm arr/\rE lt xs 0 p.toList arr.size)
    ?step ?fin ⟨0,arr,#[],g,rfl,rfl,hW.refl _,aV _,rfl,ag _⟩) ?post)
  case fin =>
    rintro c st' ⟨lo,xs,p,g',rfl,rfl,q1,q2,q3,q4⟩;have e:lo=arr.size:=by lia
    subst e;exact⟨xs,p,g',rfl,rfl,q1,q3⟩
  case step =>
    rintro i c st' _ hi ⟨lo,xs,p,g',rfl,rfl,q1,q2,q3,q4⟩;dsimp only;have hpx:∀x,x∈xs->P x:=λx hx=>hp x (q1.mem_iff.mp hx)
    have hzx:xs.size=arr.size:=q1.size_eq
    by_cases c1:lo ≥ arr.size
    . rw[oz c1]
      have e:lo=arr.size:=by lia
      subst e;exact iQ ⟨xs,p,g',rfl,rfl,q1,q3⟩
    rw[oB c1];refine iP (D7 (st:=wF κ xs p g') C hpx rfl (by lia) (by show lo+(arr.size-lo)<=xs.size;lia) λn ys n1 n2 b1 s1=>?_)
    dsimp only;have hb:xq xs ys lo (lo+n):=b1;show wpS _ _ _ _ _ _ (wF κ ys p g')
    by_cases c2:n<mr
    all_goals
      first
        | (rw[oz c2]
           refine iP (wj ?_);refine iP (He (st:=wF κ ys p g') (n:=min (arr.size-lo) mr) C (hb.mem hpx) rfl n1 (by lia) (by show lo+min (arr.size-lo) mr<=ys.size;have:=hb.size;lia) s1 λzs b2 s2=>?_)
           rw[oB (by decide)]
           have hb2:xq xs zs lo (lo+min (arr.size-lo) mr):=(hb.mono (by lia)).trans b2
           have nn:1<=min (arr.size-lo) mr:=by lia
           have nl:lo+min (arr.size-lo) mr<=arr.size:=by lia
           show wpS _ _ _ _ _ _ (wF κ zs p g')
           clear b1 s1 hb b2
           generalize min (arr.size-lo) mr=nN at hb2 nn nl s2 ⊢)
        | (rw[oB c2]
           have hb2:=hb;have s2:=s1;have nn:=n1;have nl:lo+n<=arr.size:=by lia
           clear b1 s1 hb
           generalize hnN:n=nN at hb2 nn nl s2 ⊢;generalize hzs:ys=zs at hb2 s2 ⊢)
      have hpz:=hb2.mem hpx;have hzz:=hb2.size;have hcz:rE lt zs 0 p.toList lo:=vm (λk _ k2=>hb2.out k (.inl k2)) q3
      have pz:zs.Perm arr:=hb2.pm.trans q1;refine iP (jU ?_);have ep:jH (wF κ zs p g')=p:=rfl;rw[ep];cases eb:p.back? with
      |none =>
        dsimp only;refine iP (jN (iQ ?_));exact⟨lo+nN,zs,p.push (lo,nN,0),g',rfl,rfl,pz,nl,B7 hcz nn s2,by lia⟩
      |some t =>
        obtain⟨s1',n1',pw0⟩:=t;dsimp only;refine iP (jn (jj
          (I:=λi c st'=>∃ys q g2,c=(none,())/\st'=wF κ ys q g2/\xq zs ys 0 lo/\rE lt ys 0 q.toList lo)
          (Q:=λc st'=>∃ys q g2,c=(none,())/\st'=wF κ ys q g2/\xq zs ys 0 lo/\rE lt ys 0 q.toList lo)
          ?step1 (λc st' hh=>hh) ⟨zs,p,g',rfl,rfl,xq.refl _ _ _,hcz⟩) ?post1)
        case step1 =>
          rintro j c st' _ hj ⟨ys2,q,g2,rfl,rfl,b3,ch3⟩;refine iP (jU ?_);have eq:jH (wF κ ys2 q g2)=q:=rfl;rw[eq]
          by_cases d1:q.size>1
          . rw[oz d1]
            have eo:q[q.size-2]?=some (q[q.size-2]'(by lia)):=af (by lia)
            rw[eo];generalize q[q.size-2]'(by lia)=o
            obtain⟨o1,o2,older⟩:=o;dsimp only;split
            . exact iQ ⟨ys2,q,g2,rfl,rfl,b3,ch3⟩
            . refine iP (AB (st:=wF κ ys2 q g2) C (b3.mem hpz) rfl rfl (by show lo<=ys2.size;have:=b3.size;lia) ch3 (by show q.size-2+1<q.size;lia) λxs3 p3 g3 b4 _ ch4=>?_)
              rw[oB (by decide)]
              exact iQ ⟨xs3,p3,g3,rfl,rfl,b3.trans b4,ch4⟩
          . rw[oB d1]
            exact iQ ⟨ys2,q,g2,rfl,rfl,b3,ch3⟩
        case post1 =>
          rintro c st' ⟨ys2,q,g2,rfl,rfl,b3,ch3⟩;dsimp only;refine iP (jN (iP (jN (iQ ?_))));have s3:yF lt ys2 lo (lo+nN):=λa b x y a1 a2 a3 ex ey=>s2 a b x y a1 a2 a3 (by rw[←b3.out a (.inr a1)];exact ex) (by rw[←b3.out b (.inr (by lia))];exact ey)
          exact⟨lo+nN,ys2,_,g2,rfl,rfl,b3.pm.trans pz,nl,B7 (zl (Cw q _ _) ch3) nn s3,by lia⟩
  case post =>
    rintro c st' ⟨xs,p,g',rfl,rfl,q1,q3⟩;dsimp only;refine iP (jn (jj
      (I:=λi c st'=>∃ys q g2,c=(none,())/\st'=wF κ ys q g2/\ys.Perm arr/\rE lt ys 0 q.toList arr.size/\q.size+i<=arr.size)
      (Q:=λc st'=>∃ys q g2,c=(none,())/\st'=wF κ ys q g2/\ys.Perm arr/\rE lt ys 0 q.toList arr.size/\q.size<=1)
      ?step2 ?fin2 ⟨xs,p,g',rfl,rfl,q1,q3,by have:=xX q3;rw[ao]at this;lia⟩) ?post2)
    case fin2 =>
      rintro c st' ⟨ys,q,g2,rfl,rfl,r1,r2,r3⟩;exact⟨ys,q,g2,rfl,rfl,r1,r2,by lia⟩
    case step2 =>
      rintro j c st' _ hj ⟨ys,q,g2,rfl,rfl,r1,r2,r3⟩;refine iP (jU ?_);have eq:jH (wF κ ys q g2)=q:=rfl;rw[eq]
      by_cases d1:q.size<=1
      . rw[oz d1]
        exact iQ ⟨ys,q,g2,rfl,rfl,r1,r2,d1⟩
      rw[oB d1];have hi':∀(b:Prop) [Decidable b],(if b then q.size-2-1 else q.size-2)+1<q.size:=λb _=>by split <;> lia
      refine iP (AB (st:=wF κ ys q g2) C (λx hx=>hp x (r1.mem_iff.mp hx)) rfl rfl (by show arr.size<=ys.size;have:=r1.size_eq;lia) r2 (hi' _) λxs3 p3 g3 b4 ns ch4=>?_)
      rw[oB (by decide)]
      have ns':p3.size+1=q.size:=ns;exact iQ ⟨xs3,p3,g3,rfl,rfl,b4.pm.trans r1,ch4,by lia⟩
    case post2 =>
      rintro c st' ⟨ys,q,g2,rfl,rfl,r1,r2,r3⟩;refine iQ (h ys q g2 r1 ?_);rw[←ao]at r3;cases eq:q.toList with
      |nil =>
        rw[eq]at r2;have r2':0=arr.size:=r2;lia
      |cons a r =>
        rw[eq]at r2 r3;have er:r=[]:=by
          rw[lCq]at r3;exact bZ.mp (by lia)
        subst er;obtain⟨_,_,s3,e3⟩:=r2;have e3':0+a.2.1=arr.size:=e3;rw[e3']at s3;exact s3
end
end MrS
namespace Xe
open PySem
section
variable {M:kJ}{A:Around}{E:Value->Shared->Prop}{s:Shared}
structure DA (fs:List Addr) (e:Addr) (oe:Obj) (T:Addr) (h h':Heap):Prop where
 keep:∀b o,b≠e->b∉fs->h.get? b=some o->h'.get? b=some o
 slot:∀b o,b≠e->h.get? b=some o->∃sl,h'.get? b=some { o with slots:=sl }
 exc:h'.get? e=some (oe.mapFields (·.setIfInBounds 1 (.ref T)))
 fresh:h.get? T=none
 ent:∃oT ts,h'.get? T=some oT/\oT.data = .fields ts/\ts[3]?=some .none
theorem C9{base:Heap}{env:Env}{outer:List Env}{L e:Addr}{oe:Obj}{vs:Array Value}{head:Value}{hadNext:Bool}{Q:Unit->Shared->Prop}
  (hfr:A.frames=some (env::outer)) (hl:s.heap.FunFrames base (env::outer)) (hf:env.frame=some L)
  (he:s.heap.get? e=some oe) (hd:oe.data = .fields vs) (hsz:1<vs.size)
  (h:∀h' T,DA ((env::outer).filterMap (·.frame)) e oe T s.heap h'->Q () { s with heap:=h' }) :
  iM M A (do let a ←frameOf env;let pl ←entryPlaceOf L hadNext;let b ←EntryCells.newEntry head a .none (iX L) .none pl;mh (.ref e) 1 b) (λ_ s'=>iM M A (setFlight (.ref e) none) Q E s') E s:=by
 have hene:e∉(env::outer).filterMap (·.frame):=λhm=>by
  obtain⟨_,o,ho,hnf⟩:=hl.mem hm;rw[he]at ho;injection ho with ho;subst ho;exact hnf vs hd
 refine iJ (wpAny_frameOf_fun hfr hl hf λh₁ hs₁=>?_)
 refine iJ (wpAny_entryPlaceOf λpl hpl=>?_)
 unfold EntryCells.newEntry newFields;refine iJ (ji ?_ (hpl.sizeOk5 _ _ _ _ _));have he₁:h₁.get? e=some oe:=(hs₁.2.1 e hene).trans he;have he₂:=ae (h:=h₁) { cls:=.type "traceback", dict:=none,data:=.fields ([head,.ref L,.none,iX L,.none]++(if pl.isEmpty then aO 6 cg else pl)).toArray } he₁
 refine lB he₂ hd hsz ?_;have hTe:h₁.objs.size≠e:=cz (ai he₁);have hd₃:=Obj.data_mapFields hd (·.setIfInBounds 1 (bc h₁.objs.size));have he₃:=cC (Obj.mapFields (·.setIfInBounds 1 (bc h₁.objs.size))) he₂ (Obj.isFreed_of_fields hd₃);have hT₃:=(bf (h₁.push { cls:=.type "traceback", dict:=none,data:=.fields ([head,.ref L,.none,iX L,.none]++(if pl.isEmpty then aO 6 cg else pl)).toArray })
  (Obj.mapFields (·.setIfInBounds 1 (bc h₁.objs.size))) (Ne.symm hTe)).trans (az h₁ rfl)
 unfold setFlight;refine iJ (kY he₃ hd₃ (x:=.ref h₁.objs.size) (by simp[hsz]) ?_)
 rw[oz (show (bc h₁.objs.size != cg)=true from by simp)]
 refine lB hT₃ rfl (by simp only[ay,lAq,lCq,cW] <;> lia) (h _ h₁.objs.size ?_)
 have keep:∀b o,b≠e->h₁.get? b=some o ->
   (((h₁.push { cls:=.type "traceback", dict:=none,data:=.fields ([head,.ref L,.none,iX L,.none]++(if pl.isEmpty then aO 6 cg else pl)).toArray }).update e (Obj.mapFields (·.setIfInBounds 1 (bc h₁.objs.size)))).update h₁.objs.size
    (Obj.mapFields (·.setIfInBounds 3 ((none:Option Addr).elim cg λf=>iX f)))).get? b=some o:=λb o hbe hb=>by
  have hbT:h₁.objs.size≠b:=cz (ai hb);rw[bf _ _ hbT,bf _ _ (Ne.symm hbe)];exact ae _ hb
 refine⟨λb o hb hbf ho=>keep b o hb ((hs₁.2.1 b hbf).trans ho),λb o hb ho=>?_,?_,?_,?_⟩
 .obtain ⟨sl,e1⟩:=hs₁.2.2 b o ho;exact⟨sl,keep b _ hb e1⟩
 .rw [bf _ _ hTe];exact he₃
 .exact dP (by rw[hs₁.1];exact ag _)
 .exact ⟨_,_,cC _ hT₃ (Obj.isFreed_of_fields (Obj.data_mapFields rfl _)),Obj.data_mapFields rfl _,by first|(simp;done)|(rcases hpl with rfl|⟨_,_,_,_,_,_,_,rfl⟩ <;> simp)⟩
def CZ(h:Heap) (vs:Array Value):Prop:=vs[1]?=some .none∨∃T0 o0 ts,vs[1]?=some (.ref T0)/\h.get? T0=some o0/\o0.data = .fields ts/\ts[3]?=some .none
theorem WD{base:Heap}{env:Env}{outer:List Env}{L e:Addr}{oe:Obj}{vs:Array Value}{Q:Unit->Shared->Prop}
  (hfr:A.frames=some (env::outer)) (hl:s.heap.FunFrames base (env::outer)) (hf:env.frame=some L)
  (he:s.heap.get? e=some oe) (hd:oe.data = .fields vs) (hq:CZ s.heap vs)
  (h:∀h' T,DA ((env::outer).filterMap (·.frame)) e oe T s.heap h'->Q () { s with heap:=h' }) :
  iM M A (noteFrame (.ref e) env) (λ_ s'=>iM M A (setFlight (.ref e) none) Q E s') E s:=by
 unfold noteFrame;simp only[hf];rcases hq with h1|⟨T0,o0,ts,h1,hT,hdT,h3⟩
 .refine iJ (kY he hd h1 ?_);rw[oB (by decide)]
  exact C9 hfr hl hf he hd (aD.mp h1).1 h
 .refine iJ (kY he hd h1 ?_);rw[oz (show (bc T0 != cg)=true from by simp)]
  refine iJ (kY hT hdT h3 ?_);rw[oB (show ¬ ((cg == iX L)=true) from by simp[iX])]
  refine iJ (lB hT hdT (aD.mp h3).1 ?_);rw[Heap.update_setField_same s.heap T0 o0 ts 3 .none hT hdT h3];exact C9 hfr hl hf he hd (aD.mp h1).1 h
theorem UL{base:Heap}{env:Env}{outer:List Env}{L e:Addr}{oe:Obj}{vs:Array Value}{Q:Unit->Shared->Prop}
  (hfr:A.frames=some (env::outer)) (hl:s.heap.FunFrames base (env::outer)) (hf:env.frame=some L)
  (he:s.heap.get? e=some oe) (hd:oe.data = .fields vs) (hq:CZ s.heap vs)
  (h:∀h' T,DA ((env::outer).filterMap (·.frame)) e oe T s.heap h'->Q () { s with heap:=h' }) :
  iM M A (leaving env (.ref e)) Q E s:=by
 unfold leaving;exact iJ (WD hfr hl hf he hd hq h)
end
abbrev DN:List Value:=[.type "ValueError", .type "Exception", .type "BaseException", .type "object"]
abbrev D4(C t:Addr) (dd:Option Addr):Obj:={ cls:=.ref C,dict:=dd,data:=.fields #[.ref t,.none,.none,.none,.bool false,.none] }
abbrev Lk{α:Type}(M:kJ) (h:Heap) (x:Sem α) (r:α):Prop :=
 ∀(A:Around) (Q:α->Shared->Prop) (E:Value->Shared->Prop) (s:Shared),(∀b o,h.get? b=some o->s.heap.get? b=some o)->Q r s->iM M A x Q E s
section
variable {M:kJ}{A:Around}{E:Value->Shared->Prop}{env:Env}
variable {nm q:Str}{C N:Addr}{bs bm:List Value}{hdct:Bool}{sn:List Str}{sub:List Value}{ab:Bool}{col:Option Bool}{dd:Option Addr}{k0 k1 k2 k3 k5:Option Value}{newId:String}
theorem GO{s:Shared}{x:Sem Value}{Q:Flow->Shared->Prop}(hbase:bm.contains (.type "BaseException")=true) (hh:A.handled=none)
  (h:iM M A x (λv s₁=>∃e t dx,v = .ref e/\s₁.heap.get? C=some (lg nm q C N bs bm hdct sn sub ab col dd k0 k1 k2 k3 k5 newId) /\
   s₁.heap.get? e=some (D4 C t dx)/\E (.ref e) s₁) E s) :
  iM M A (raiseStmt env (some x) none) Q E s:=by
 have hcB:(bc C::bm).contains (.type "BaseException")=true:=by rw[fD,hbase,gL]
 unfold raiseStmt;refine iJ (jc h (λv s₁ h₁=>?_) λ_ _ x=>x)
 obtain⟨e,t,dx,rfl,hC,he,hE⟩:=h₁;obtain⟨hp,g,d,tk,os⟩:=s₁
 repeat (first|with_reducible refine jK he ?_|with_reducible refine jK hC ?_|(with_reducible refine mq hC ?_;rw[hcB])|wp_step)
 exact wpAny_raiseNew_none hh hE
end
end Xe
namespace Xe
open PySem
open Builtin Builtin.ObjectAttr
section
variable {prog:iT}{w:iU}{A:Around}{E:Value->Shared->Prop}{s:Shared}{env:Env}{e:Addr}{c0:Value}{t:Expr}{n:Str}{b₀:Stmt}{suite:List Stmt}{pos:Pos}{rest:List ExceptHandler}{Q:Flow->Shared->Prop}
abbrev Mt(M:kJ) (e:Addr) (c0:Value) (b:Bool) (s:Shared):Prop:=∀(A:Around) (Q:Bool->Shared->Prop) (E:Value->Shared->Prop),Q b s->iM M A (excMatches (.ref e) c0) Q E s
end
end Xe
namespace Mr
abbrev St:=L2.St
open PySem PySem.Spec PyProof.Rows L2
section
variable {X:Cx}{nA:List (Addr×Obj)}{σ:List (Option V)}{H H':Hp}{s:Shared}{h':Heap}
theorem EK{t':Nat}{fp:List Addr}{T:Addr}{o:HO}(I:Inv X nA σ H s) (k:∀b u,b∉fp->s.heap.get? b=some u->h'.get? b=some u)
  (hf:∀b∈fp,yN X nA H b) (hT:s.heap.objs.size<=T) (new:qr X.prog X.w (pX H T o) h' T o):Inv X nA σ (pX H T o) { s with heap:=h',toks:=t' }:=by
 have hn:H T=none:=I.hok.fresh hT;have nf:∀b u,H b=some u->b∉fp:=λb u e z=>by rw[(hf b z).1]at e;cases e
 refine I.step (g':=s.gens) (d':=s.drawn) (ch:=fp) (λb hb=>?_) (λb u _ _ hc e _=>k b u hc e) (λb u _ _ hc e _=>⟨u.slots,k b u hc e⟩)
  (λb u _ e n=>by rw[nY (aw (aF (ai e) hT))];exact n) (λb u hc e=>⟨u,k b u hc e⟩)
  (λb xs e=>by rw[nY (qh e hn)];exact e) (λb u xs e=>by rw[nY (qh e hn)];exact e) (λb ps e=>⟨#[],by rw[nY (qh e hn),e];simp⟩) (λm hm=>?_) (λb u e=>?_) I.bare
 .obtain ⟨_,f1,_,f3,f4,f5⟩:=hf b hb;exact⟨f3,f1,f4,f5⟩
 .obtain ⟨u,es,ep,ho,r⟩:=hm;exact⟨u,es,ep,k _ u (λz=>(hf _ z).2.1 rfl) ho,r⟩
 .by_cases hb:b=T
  .subst hb;rw[oh]at e;cases e;exact new
  .rw [nY hb]at e;refine(I.hok b u e).stay (λc v hc q=>k c v ?_ q) (λc q=>by rw[nY (qh q hn)];exact q) λc xs q=>by rw[nY (qh q hn)];exact q
   rcases hc with rfl|hc
   .exact nf _ u e
   .exact nf c _ hc
theorem HH{t':Nat}{fp:List Addr}(I:Inv X nA σ H s) (k:∀b u,b∉fp->s.heap.get? b=some u->h'.get? b=some u)
  (hf:∀b∈fp,yN X nA H b):Inv X nA σ H { s with heap:=h',toks:=t' }:=by
 have nf:∀b u,H b=some u->b∉fp:=λb u e z=>by rw[(hf b z).1]at e;cases e
 refine I.step (g':=s.gens) (d':=s.drawn) (ch:=fp) (λb hb=>?_) (λb u _ _ hc e _=>k b u hc e) (λb u _ _ hc e _=>⟨u.slots,k b u hc e⟩)
  (λ_ _ _ _ n=>n) (λb u hc e=>⟨u,k b u hc e⟩) (λ_ _ e=>e) (λ_ _ _ e=>e) (λb ps e=>⟨#[],by rw[e];simp⟩) (λm hm=>?_) (λb u e=>?_) I.bare
 .obtain ⟨_,f1,_,f3,f4,f5⟩:=hf b hb;exact⟨f3,f1,f4,f5⟩
 .obtain ⟨u,es,ep,ho,r⟩:=hm;exact⟨u,es,ep,k _ u (λz=>(hf _ z).2.1 rfl) ho,r⟩
 .refine (I.hok b u e).stay (λc v hc q=>k c v ?_ q) (λ_ q=>q) λ_ _ q=>q
  rcases hc with rfl|hc
  .exact nf _ u e
  .exact nf c _ hc
theorem Eg{a b:Addr}{xs:List V}(I:Inv X nA σ H s) (h:qS X.K H a xs) (f:yN X nA H b):a≠b:=by
 intro e;subst e;obtain⟨f0,_,_,f3,_⟩:=f;rcases h with (h|⟨o,h⟩)|⟨o,its,n,hk,_⟩
 .rw [f0]at h;cases h
 .rw [f0]at h;cases h
 .have hb:=I.mod.kin a o hk;rcases f3 with z|z
  .exact I.ok.noex a o hb z
  .exact absurd (aF (ai (I.ok.bs a o hb).1) z) (cA _)
end
def UP(K:W.Frag) (a:Addr):It :=
  ⟨λi H=>∃xs x,qS K H a xs/\xs[i]?=some x,
   λi H v H'=>∃T x,H T=none/\v = .ref T/\H'=pX H T (.tup [.int i,x])/\∀xs,qS K H a xs->xs[i]?=some x,
   λi H=>∃xs,qS K H a xs/\xs.length<=i⟩
theorem Jb{P:iT}{w:iU}{K:W.Frag}{elts:List Expr}{k:Nat}{pos:Pos}(a e it:Addr) (hne:e≠it) :
  Gx P w K (.Tuple elts k pos) (UP K a) [e,it] e (λi h=>(∃old,IsEnum h e it i old)/\h.IsListIter it a i) where
 mem:=by simp
 obj:=λi h st b hb=>by
  obtain⟨⟨old,he⟩,o,ho,_,d⟩:=st;rcases aj.mp hb with rfl|hb
  .exact ⟨_,he,λv z=>by
    have z':Data.fields _=Data.cell v:=z;cases z'⟩
  .have e:b=it:=by simpa using hb
   subst e;exact⟨o,ho,λv z=>by rw[d]at z;cases z⟩
 keep:=λi h h' st kp=>by
  obtain⟨⟨old,he⟩,hit⟩:=st;exact⟨⟨old,kp e (by simp) _ he⟩,hit.at λo q=>kp it (by simp) o q⟩
 item:=by
  intro X hP hw hK hc i nA s σ H E I hf st hg;subst hP hw hK;obtain⟨xs,x,hq,hx⟩:=hg;obtain⟨its,rv,p,hz⟩:=I.list hq;obtain⟨u,hu,ru⟩:=rv.get hx;obtain⟨⟨old,he⟩,hit⟩:=st;have hil:it<s.heap.objs.size:=by obtain⟨_,q,_⟩:=hit;exact ai q
  have hel:e<s.heap.objs.size:=ai he;refine wpAny_pyNext_enum_item he hit p.isList (x:=u) (by simpa using hu) hne λh1 he1 hit1 ht1 hz1 hk1=>⟨_,rfl,?_⟩
  refine wpAny_letOwnedTupleGo_enum he1 λh2 he2 hs2=>?_
  replace hs2:bK e h1 h2:=hs2;have hn:H s.heap.objs.size=none:=I.hok.fresh (ag _);refine⟨.ref s.heap.objs.size,pX H s.heap.objs.size (.tup [.int i,x]),?_,rfl,⟨_,x,hn,rfl,rfl,λys hy=>by rw[I.list_inj hy hq];exact hx⟩,⟨⟨_,by simpa using he2⟩,hit1.extBut hs2.extBut (Ne.symm hne)⟩,λb hb=>?_⟩
  .show L2.Inv X nA σ _ { s with heap:=h2,toks:=s.toks+1 }
   refine EK (s:=s) (fp:=[e,it]) I (λb o hb q=>?_) hf (ag _) ⟨by simp only[lCq,cW];rw[jb];decide,[.int i s.toks,u],.cons ⟨_,rfl⟩ (.cons ru .nil),_,hs2.extBut _ _ (cz hel) ht1,rfl,_,rfl⟩
   have b1:b≠e:=λz=>hb (by simp[z])
   exact hs2.extBut b o b1 (hk1 b o b1 (λz=>hb (by simp[z])) q)
  .have hb2:b<s.heap.objs.size:=by
    rcases aj.mp hb with rfl|hb
    .exact hel
    .have e:b=it:=by simpa using hb
     subst e;exact hil
   rw[nY (aw hb2)];exact(hf b hb).1
 done:=by
  intro X hP hw hK hc i nA s σ H E I hf st hg;subst hP hw hK;obtain⟨xs,hq,hx⟩:=hg;obtain⟨its,rv,p,hz⟩:=I.list hq;obtain⟨⟨old,he⟩,hit⟩:=st;have hl:=rv.length;exact wpAny_pyNext_enum_end (I.ok.hd hc) he hit p.isList (by simp;lia) λh1 eb=>⟨rfl,HH (t':=s.toks) (fp:=[e,it]) I (λb o hb q=>eb b o (λz=>hb (by simp[z])) q) hf⟩
 self:=λ_ _ _ _ _ st h=>by
  obtain⟨⟨old,he⟩,_⟩:=st;exact wpAny_pyIter_enum he h
def UY(K:W.Frag) (a b:Addr):It :=
  ⟨λi H=>∃xs ys x y,qS K H a xs/\qS K H b ys/\xs[i]?=some x/\ys[i]?=some y,
   λi H v H'=>∃T x y,H T=none/\v = .ref T/\H'=pX H T (.tup [x,y])/\(∀xs,qS K H a xs->xs[i]?=some x)/\∀ys,qS K H b ys->ys[i]?=some y,
   λi H=>∃xs ys,qS K H a xs/\qS K H b ys/\(xs.length<=i∨ys.length<=i)⟩
structure Z5 (z TI TO i1 i2:Addr):Prop where
 a:TI≠z
 b:TO≠z
 c:i1≠z
 d:i2≠z
 e:TI≠TO
 f:TI≠i1
 g:TI≠i2
 h:TO≠i1
 i:TO≠i2
 j:i1≠i2
theorem Ub(n:Nat):Z5 (n+4) (n+2) (n+3) n (n+1) where
 a:=λ(q:n+2=n+4)=>by lia
 b:=λ(q:n+3=n+4)=>by lia
 c:=λ(q:n=n+4)=>by lia
 d:=λ(q:n+1=n+4)=>by lia
 e:=λ(q:n+2=n+3)=>by lia
 f:=λ(q:n+2=n)=>by lia
 g:=λ(q:n+2=n+1)=>by lia
 h:=λ(q:n+3=n)=>by lia
 i:=λ(q:n+3=n+1)=>by lia
 j:=λ(q:n=n+1)=>by lia
theorem M5{P:iT}{w:iU}{K:W.Frag}{elts:List Expr}{k:Nat}{pos:Pos}(l1 l2 z TI TO i1 i2:Addr) (d:Z5 z TI TO i1 i2) :
  Gx P w K (.Tuple elts k pos) (UY K l1 l2) [z,TI,TO,i1,i2] z
   (λi h=>IsZip h z TI TO .none/\IsPair h TI (.ref i1) (.ref i2)/\(∃a b,IsPair h TO a b)/\h.IsListIter i1 l1 i/\h.IsListIter i2 l2 i) where
 mem:=by simp
 obj:=λi h st b hb=>by
  obtain⟨hz,hTI,⟨a,c,hTO⟩,⟨o1,q1,_,d1⟩,⟨o2,q2,_,d2⟩⟩:=st;simp only[aj,cD,or_false]at hb;rcases hb with rfl|rfl|rfl|rfl|rfl
  .exact ⟨_,hz,λv x=>by
    have x':Data.fields _=Data.cell v:=x;cases x'⟩
  .exact ⟨_,hTI,λv x=>by
    have x':Data.seq _ _=Data.cell v:=x;cases x'⟩
  .exact ⟨_,hTO,λv x=>by
    have x':Data.seq _ _=Data.cell v:=x;cases x'⟩
  .exact ⟨o1,q1,λv x=>by rw[d1]at x;cases x⟩
  .exact ⟨o2,q2,λv x=>by rw[d2]at x;cases x⟩
 keep:=λi h h' st kp=>by
  obtain⟨hz,hTI,⟨a,c,hTO⟩,h1,h2⟩:=st;exact⟨kp z (by simp) _ hz,kp TI (by simp) _ hTI,⟨a,c,kp TO (by simp) _ hTO⟩,h1.at λo q=>kp i1 (by simp) o q,h2.at λo q=>kp i2 (by simp) o q⟩
 item:=by
  intro X hP hw hK hc i nA s σ H E I hf st hg;subst hP hw hK;obtain⟨xs,ys,x,y,hq1,hq2,hx,hy⟩:=hg;obtain⟨its1,rv1,p1,_⟩:=I.list hq1;obtain⟨its2,rv2,p2,_⟩:=I.list hq2;obtain⟨u1,hu1,ru1⟩:=rv1.get hx;obtain⟨u2,hu2,ru2⟩:=rv2.get hy;obtain⟨hz,hTI,⟨a,c,hTO⟩,h1,h2⟩:=st;have n1:∀b∈[z,TI,TO,i1,i2],l1≠b:=λb hb=>Eg I hq1 (hf b hb)
  have n2:∀b∈[z,TI,TO,i1,i2],l2≠b:=λb hb=>Eg I hq2 (hf b hb)
  have D:ZipApart z TI TO i1 i2 l1 l2:=⟨d.a,d.b,d.c,d.d,d.e,d.f,d.g,d.h,d.i,d.j,n1 z (by simp),n1 TO (by simp),n1 i1 (by simp),n1 i2 (by simp),n2 z (by simp),n2 TO (by simp),n2 i1 (by simp),n2 i2 (by simp)⟩
  have hzl:z<s.heap.objs.size:=ai hz;refine wpAny_pyNext_zip_item D hz hTI hTO h1 h2 p1.isList p2.isList (x:=u1) (y:=u2) (by simpa using hu1) (by simpa using hu2) λg1 hz1 hTO1 g11 g12 hT1 hsz1 hk1=>⟨_,rfl,?_⟩
  refine wpAny_letOwnedTupleGo_zip hz1 λg2 hz2 hs2=>?_
  replace hs2:bK z g1 g2:=hs2;have hn:H s.heap.objs.size=none:=I.hok.fresh (ag _);refine⟨.ref s.heap.objs.size,pX H s.heap.objs.size (.tup [x,y]),?_,rfl,⟨_,x,y,hn,rfl,rfl,λws hw=>by rw[I.list_inj hw hq1];exact hx,λws hw=>by rw[I.list_inj hw hq2];exact hy⟩,
   ⟨hz2,hs2.extBut _ _ d.a (hk1 _ _ d.a d.e d.f d.g hTI),⟨_,_,hs2.extBut _ _ d.b hTO1⟩,g11.extBut hs2.extBut d.c,g12.extBut hs2.extBut d.d⟩,λb hb=>?_⟩
  .show L2.Inv X nA σ _ { s with heap:=g2,toks:=s.toks }
   refine EK (s:=s) (fp:=[z,TI,TO,i1,i2]) I (λb o hb q=>?_) hf (ag _) ⟨by simp only[lCq,cW];rw[jb];decide,[u1,u2],.cons ru1 (.cons ru2 .nil),_,hs2.extBut _ _ (cz hzl) hT1,rfl,_,rfl⟩
   have b1:b≠z:=λe=>hb (by simp[e])
   exact hs2.extBut b o b1 (hk1 b o b1 (λe=>hb (by simp[e])) (λe=>hb (by simp[e])) (λe=>hb (by simp[e])) q)
  .have hb2:b<s.heap.objs.size:=by
    have hb':=hb;simp only[aj,cD,or_false]at hb';rcases hb' with rfl|rfl|rfl|rfl|rfl
    .exact hzl
    .exact ai hTI
    .exact ai hTO
    .obtain ⟨_,q,_⟩:=h1;exact ai q
    .obtain ⟨_,q,_⟩:=h2;exact ai q
   rw[nY (aw hb2)];exact(hf b hb).1
 done:=by
  intro X hP hw hK hc i nA s σ H E I hf st hg;subst hP hw hK;obtain⟨xs,ys,hq1,hq2,hx⟩:=hg;obtain⟨its1,rv1,p1,_⟩:=I.list hq1;obtain⟨its2,rv2,p2,_⟩:=I.list hq2;obtain⟨hz,hTI,⟨a,c,hTO⟩,h1,h2⟩:=st;have n1:∀b∈[z,TI,TO,i1,i2],l1≠b:=λb hb=>Eg I hq1 (hf b hb)
  have n2:∀b∈[z,TI,TO,i1,i2],l2≠b:=λb hb=>Eg I hq2 (hf b hb)
  have D:ZipApart z TI TO i1 i2 l1 l2:=⟨d.a,d.b,d.c,d.d,d.e,d.f,d.g,d.h,d.i,d.j,n1 z (by simp),n1 TO (by simp),n1 i1 (by simp),n1 i2 (by simp),n2 z (by simp),n2 TO (by simp),n2 i1 (by simp),n2 i2 (by simp)⟩
  have e1:=rv1.length;have e2:=rv2.length;refine wpAny_pyNext_zip_end (I.ok.hd hc) D hz hTI hTO h1 h2 p1.isList p2.isList ?_ λg1 eb=>⟨rfl,HH (t':=s.toks) (fp:=[z,TI,TO,i1,i2]) I (λb o hb q=>eb b o (λe=>hb (by simp[e])) (λe=>hb (by simp[e])) (λe=>hb (by simp[e])) (λe=>hb (by simp[e])) q) hf⟩
  rcases hx with hx|hx
  .exact .inl (by simp;lia)
  .exact .inr (by simp;lia)
 self:=λ_ _ _ _ _ st h=>wpAny_pyIter_zip st.1 h
section
variable {X:Cx}{elts:List Expr}{kk:Nat}{tpos:Pos}
def Qn(K:W.Frag) (ta:TA):TI:=λσ H R=>ta σ H λvs H1=>∃a,vs=[.ref a]/\(∃xs,qS K H1 a xs)/\R (UP K a) H1
theorem DU{e:Expr}{ta:TA}{p pos:Pos}(hg:Gl X "enumerate") (hm:X.mg "enumerate" = none) (ha:PA X [e] ta) (hs:iW [e] X.env=[(false,eval e X.env)]:=by rfl) :
  PI X (.Tuple elts kk tpos) (.Call (.Name "enumerate" p) [e] [] pos) (Qn X.K ta):=by
 intro nA s σ H R I h;refine Call_ (vI I hg hm boot_enumerate (bz (thn (ha pos nA s σ H _ I h) λus s1 hz1=>?_) hs rfl))
 obtain⟨vs,H1,I1,r1,q1⟩:=hz1;obtain⟨a,e1,⟨xs,hq⟩,q⟩:=q1;subst e1;obtain⟨u,rfl,ru⟩:=xw r1;cases ru;obtain⟨its,rv,p1,hz⟩:=I1.list hq;refine call_enumerate_list p1.isList λg he hit hsz hk=>wpAny_pyIter_enum he ?_
 refine⟨s1.heap.objs.size+1,[s1.heap.objs.size+1,s1.heap.objs.size],_,_,H1,rfl,I1.kept (t':=s1.toks) hk,Jb a _ _ (Nat.succ_ne_self _),⟨⟨_,he⟩,hit⟩,λb hb=>?_,q⟩
 have hb2:s1.heap.objs.size<=b:=by
  simp only[aj,cD,or_false]at hb;rcases hb with rfl|rfl
  .exact bH _
  .exact ag _
 exact I1.fpOk hb2 (I1.hok.fresh hb2)
def Q4(K:W.Frag) (ta:TA):TI:=λσ H R=>ta σ H λvs H1=>∃a b,vs=[.ref a,.ref b]/\(∃xs,qS K H1 a xs)/\(∃ys,qS K H1 b ys)/\R (UY K a b) H1
theorem LZ{e f:Expr}{ta:TA}{p pos:Pos}(hg:Gl X "zip") (hm:X.mg "zip" = none) (ha:PA X [e,f] ta) (hs:iW [e,f] X.env=[(false,eval e X.env),(false,eval f X.env)]:=by rfl) (hs2:iW [f] X.env=[(false,eval f X.env)]:=by rfl) :
  PI X (.Tuple elts kk tpos) (.Call (.Name "zip" p) [e,f] [] pos) (Q4 X.K ta):=by
 intro nA s σ H R I h;refine Call_ (vI I hg hm boot_zip (bz (thn (ha pos nA s σ H _ I h) λus s1 ⟨vs,H1,I1,r1,q1⟩=>?_) (by rw[hs,hs2]) (by rw[hs2];rfl)))
 obtain⟨a,b,e1,⟨xs,hq1⟩,⟨ys,hq2⟩,q⟩:=q1;subst e1;obtain⟨u,v,rfl,ru,rv⟩:=L1 r1;cases ru;cases rv;obtain⟨its1,_,p1,_⟩:=I1.list hq1;obtain⟨its2,_,p2,_⟩:=I1.list hq2;refine call_zip_2 p1.isList p2.isList λg hz hTI hTO h1 h2 hsz hk=>wpAny_pyIter_zip hz ?_
 refine⟨s1.heap.objs.size+4,[s1.heap.objs.size+4,s1.heap.objs.size+2,s1.heap.objs.size+3,s1.heap.objs.size,s1.heap.objs.size+1],_,_,H1,rfl,I1.kept (t':=s1.toks) hk,
  M5 a b _ _ _ _ _ (Ub s1.heap.objs.size),⟨hz,hTI,⟨_,_,hTO⟩,h1,h2⟩,λc hc=>?_,q⟩
 have hb2:s1.heap.objs.size<=c:=by
  simp only[aj,cD,or_false]at hc;rcases hc with rfl|rfl|rfl|rfl|rfl
  .exact eZ _ _
  .exact eZ _ _
  .exact eZ _ _
  .exact ag _
  .exact eZ _ _
 exact I1.fpOk hb2 (I1.hok.fresh hb2)
end
theorem NC{K:W.Frag}{a:Addr}{xs:List V}{i1 i2:Nat}{tb:TS}{D:vX}{σ:St}{H:Hp}(Pv:Nat->St->Hp->Prop) (h0:Pv 0 σ H) (hl:∀i σ H,i<=xs.length->Pv i σ H->qS K H a xs)
  (hs:∀i x σ H T,xs[i]?=some x->Pv i σ H->H T=none->tb { D with nx:=Pv (i+1),ct:=Pv (i+1),bk:=D.nx } ((σ.set i1 (some (.int i))).set i2 (some x)) (pX H T (.tup [.int i,x]))) (hd:∀σ H,Pv xs.length σ H->D.nx σ H) :
  ∃W:Nat->Nat->St->Hp->Prop,(∃m,W 0 m σ H)/\∀i m σ H,W i m σ H ->
   ((UP K a).stop i H/\D.nx σ H)∨((UP K a).go i H/\∃N:St->Hp->Prop,(∀σ' H',N σ' H'->∃m',m'<m/\W (i+1) m' σ' H')/\∀x H',(UP K a).yld i H x H'->Ka K 2 (xy (rG i1) (xy (rG i2) Jq)) x σ H' λσ2 H2=>tb { D with nx:=N,ct:=N,bk:=D.nx } σ2 H2):=by
 refine⟨λi m σ H=>m=xs.length-i/\i<=xs.length/\Pv i σ H,⟨xs.length,by simp,aV _,h0⟩,?_⟩
 rintro i m σ H ⟨rfl,hi,p⟩;have q:=hl i σ H hi p
 by_cases hlt:i<xs.length
 .refine .inr ⟨⟨xs,xs[i],q,by simp[hlt]⟩,Pv (i+1),λσ' H' p'=>⟨xs.length-(i+1),by lia,rfl,hlt,p'⟩,λv H' y=>?_⟩
  obtain⟨T,x,hT,rfl,rfl,hx⟩:=y;exact⟨T,_,rfl,BR.of oh,rfl,_,_,rfl,_,_,rfl,rfl,hs i x σ H T (hx xs q) p hT⟩
 .have e:i=xs.length:=by lia
  subst e;exact .inl ⟨⟨xs,q,ag _⟩,hd σ H p⟩
theorem Os{K:W.Frag}{a b:Addr}{xs ys:List V}{i1 i2:Nat}{tb:TS}{D:vX}{σ:St}{H:Hp}(Pv:Nat->St->Hp->Prop) (h0:Pv 0 σ H) (hlen:xs.length=ys.length)
  (hl:∀i σ H,i<=xs.length->Pv i σ H->qS K H a xs/\qS K H b ys)
  (hs:∀i x y σ H T,xs[i]?=some x->ys[i]?=some y->Pv i σ H->H T=none->tb { D with nx:=Pv (i+1),ct:=Pv (i+1),bk:=D.nx } ((σ.set i1 (some x)).set i2 (some y)) (pX H T (.tup [x,y]))) (hd:∀σ H,Pv xs.length σ H->D.nx σ H) :
  ∃W:Nat->Nat->St->Hp->Prop,(∃m,W 0 m σ H)/\∀i m σ H,W i m σ H ->
   ((UY K a b).stop i H/\D.nx σ H)∨((UY K a b).go i H/\∃N:St->Hp->Prop,(∀σ' H',N σ' H'->∃m',m'<m/\W (i+1) m' σ' H')/\∀x H',(UY K a b).yld i H x H'->Ka K 2 (xy (rG i1) (xy (rG i2) Jq)) x σ H' λσ2 H2=>tb { D with nx:=N,ct:=N,bk:=D.nx } σ2 H2):=by
 refine⟨λi m σ H=>m=xs.length-i/\i<=xs.length/\Pv i σ H,⟨xs.length,by simp,aV _,h0⟩,?_⟩
 rintro i m σ H ⟨rfl,hi,p⟩;obtain⟨q1,q2⟩:=hl i σ H hi p
 by_cases hlt:i<xs.length
 .refine .inr ⟨⟨xs,ys,xs[i],ys[i],q1,q2,by simp[hlt],by simp[hlen ▸ hlt]⟩,Pv (i+1),λσ' H' p'=>⟨xs.length-(i+1),by lia,rfl,hlt,p'⟩,λv H' y=>?_⟩
  obtain⟨T,x,y,hT,rfl,rfl,hx,hy⟩:=y;exact⟨T,_,rfl,BR.of oh,rfl,_,_,rfl,_,_,rfl,rfl,hs i x y σ H T (hx xs q1) (hy ys q2) p hT⟩
 .have e:i=xs.length:=by lia
  subst e;exact .inl ⟨⟨xs,ys,q1,q2,.inl (ag _)⟩,hd σ H p⟩
section
variable {X:Cx}
theorem FR{nA:List (Addr×Obj)}{σ:St}{H:Hp}{s:Shared}{a:Addr}{ns:List Int}(I:Inv X nA σ H s) (h:qS X.K H a (ns.map V.int)) :
  ∃vs:List Value,s.heap.IsList a vs.toArray/\jd vs ns/\ns.length<=iR:=by
 obtain⟨its,r,p,z⟩:=I.list h;rw[lMq]at z;exact⟨its,p.isList,yS r,z⟩
theorem Jv(hc:X.calm=true):sF X (.builtin "min") (λxs H Q=>∃(a:Addr) (ns:List Int),xs=[.ref a]/\qS X.K H a (ns.map V.int)/\0<ns.length/\∀M,M∈ns->(∀x,x∈ns->M<=x)->Q (.int M) H):=by
 intro nA s σ H xs us Q I r h;obtain⟨a,ns,rfl,hS,hne,q⟩:=h;obtain⟨u,rfl,ru⟩:=xw r;cases ru;obtain⟨vs,hl,hi,_⟩:=FR I hS;obtain⟨xs,e⟩:=hi.allInts.items;have hns:ns=xs.toList.map (·.1):=by
  rw[←hi.numsOf,←nums_intItems,←e]
 have hsz:0<xs.size:=by
  have h3:=hne;rw[hns,lMq,ao]at h3;exact h3
 rw[e]at hl;refine min_intList (I.ok.hd hc) hl hsz λv h' tk hv hk=>?_
 obtain⟨t,rfl⟩:=intItems_at hv;obtain⟨h1,h2⟩:=argBest_lt (numAt xs) (xs.size-1);refine⟨.int _,H,I.kept hk,⟨t,rfl⟩,q _ ?_ λx hx=>?_⟩
 .rw [hns,numAt_eq];exact PySem.getD_mem (by rw[lMq,ao];lia)
 .rw [hns]at hx;obtain⟨j,hj,rfl⟩:=PySem.mem_getD hx;rw[lMq,ao]at hj;rw[←numAt_eq];exact h2 j (by lia)
def Nh(K:W.Frag):V->List V->Hp->VK->Prop:=λx vs H Q=>∃(a:Addr) (ns:List Int) (k:Int),x = .ref a/\vs=[.int k]/\qS K H a (ns.map V.int)/\k∈ns/\Q (.int (ns.idxOf k:Nat)) H
theorem FD:Vv X "list.index" (Nh X.K):=by
 intro nA s σ H x xs v us Q I rx r h;obtain⟨a,ns,k,rfl,rfl,hS,hk,q⟩:=h;cases rx;obtain⟨u,rfl,t,rfl⟩:=xw r;obtain⟨its,rv,⟨o,n,ho,hc,hd0,hd⟩,hz⟩:=I.list hS;have hi:=yS rv;obtain⟨cls,dd,data,sl⟩:=o;simp only at hc hd0 hd;subst hc hd0 hd;have hlen:=hi.length;have hj:ns.idxOf k<ns.length:=dZ.mpr hk;have hs:iR=16777216:=jb;rw[lMq]at hz;refine kB eG ⟨_,ho,rfl⟩ PySem.F.entry_list_index (PySem.F.args_list_index_2 _ _)
  (SeqAt.list_indexAt a its.toArray n none sl (.int k t) (isInt k) (ns.idxOf k) (by simpa [hlen] using hj) (by lia) ?_ ?_) ⟨ho,λy hy=>(eq_isInt k t hi y (by simpa using hy)).at _ _,?_⟩
 .show isInt k its[ns.idxOf k]=true;rw[isInt_at k hi _ (by lia) hj]
  simpa using fB hj
 .intro j hjs hlt;show isInt k its[j]=false;rw[isInt_at k hi j (by simpa using hjs) (by lia)]
  exact ne_of_lt_idxOf hlt _
 .exact ⟨.int _,H,I.tok _,⟨_,rfl⟩,q⟩
def SC(K:W.Frag) (x:V) (H:Hp) (T:String) (b:Bool):Prop :=
 match x with
 | .int _=>(T = "int" /\ b=true)∨(T = "bool" /\ b=false)
 | .bl _=>(T = "bool" /\ b=true)∨(T = "int" /\ b=true)
 | .str _=>T = "str" /\ b=true
 | .ref p=>(T = "list" /\ b=true/\∃xs,qS K H p xs)∨(T = "dict" /\ b=true/\∃kvs,H p=some (.dK kvs))∨(T = "tuple" /\ b=true/\∃xs,BR K H p xs)
 |_=>False
theorem xZ:sF X (.builtin "isinstance") (λxs H Q=>∃x T b,xs=[x,.ty T]/\SC X.K x H T b/\Q (.bl b) H):=by
 intro nA s σ H xs us Q I r h;obtain⟨x,T,b,rfl,e,q⟩:=h;obtain⟨u,v,rfl,rx,rT⟩:=L1 r;cases rT;cases x with
 |int i =>
  obtain⟨t,rfl⟩:=rx;rcases e with ⟨rfl,rfl⟩|⟨rfl,rfl⟩
  .exact iY (jx (Tx := "int") F.isi_meta_int F.sub_int_int) ⟨(show s.TypeIs (.int i t) "int" from rfl),⟨.bl true,H,I,rfl,q⟩⟩
  .exact iY (jM (by decide +kernel) F.isi_meta_bool F.sub_int_bool) (show EP X nA σ Q (.bool false) { s with toks:=s.toks+1 } from ⟨.bl false,H,I.tok _,rfl,q⟩)
 |bl i =>
  cases rx;rcases e with ⟨rfl,rfl⟩|⟨rfl,rfl⟩
  .exact iY (jx (Tx := "bool") F.isi_meta_bool F.sub_bool_bool) ⟨(show s.TypeIs (.bool i) "bool" from rfl),⟨.bl true,H,I,rfl,q⟩⟩
  .exact iY (jx (Tx := "bool") F.isi_meta_int F.sub_bool_int) ⟨(show s.TypeIs (.bool i) "bool" from rfl),⟨.bl true,H,I,rfl,q⟩⟩
 |str i =>
  obtain⟨t,rfl⟩:=rx;obtain⟨rfl,rfl⟩:=e;exact iY (jx (Tx := "str") F.isi_meta_str F.sub_str_str) ⟨(show s.TypeIs (.str i t) "str" from rfl),⟨.bl true,H,I,rfl,q⟩⟩
 |ref p =>
  cases rx;rcases e with ⟨rfl,rfl,xs,hS⟩|⟨rfl,rfl,kvs,hp⟩|⟨rfl,rfl,xs,hS⟩
  .obtain ⟨its,rv,pl,hz⟩:=I.list hS;exact iY (jx (Tx := "list") F.isi_meta_list (by rw[jL];kernel_rfl)) ⟨pl.isList.typeIs,⟨.bl true,H,I,rfl,q⟩⟩
  .have ty:s.TypeIs (.ref p) "dict" := (QF I (.inl ⟨kvs,.inl hp⟩)).1;exact iY (jx (Tx := "dict") F.isi_meta_dict (by rw[jL];kernel_rfl)) ⟨ty,⟨.bl true,H,I,rfl,q⟩⟩
  .obtain ⟨its,rv,⟨o,ho,hc,_⟩,hz⟩:=I.tuple hS;exact iY (jx (Tx := "tuple") F.isi_meta_tuple (by rw[jL];kernel_rfl)) ⟨⟨o,ho,hc⟩,⟨.bl true,H,I,rfl,q⟩⟩
 |_=>exact(show False from e).elim
end
end Mr
namespace Mr
open PySem L2
structure AE (K:W.Frag) (mg:Str->Option Value) (x:Str) (st:Stmt) (ps:List Str) (f:Addr) (fd:ja):Prop where
 F:P2 K x x st f fd
 m:mg x=some (.ref f)
 b:yu K fd ps []
theorem sQ{H:Hp}{p:Addr}{o:HO}(h:H p=none):ou H (pX H p o):=λb u e=>by
 rw[nY (qh e h)];exact e
end Mr
namespace Mr
open PySem PySem.Spec PyProof.Rows L2
theorem An{prog:iT}{w:iU}{A:Around}{R:Result->Shared->Prop}{s:Shared}{elt target iter:Expr}{ifs:List Expr}{scope:jI}{pos:Pos}{it acc:Value}{env:Env}(I:Nat->Shared->Prop)
  (turn:∀n s,I n s->iM (iO prog w) A (jR it) (λr s₁=>match r with
   |none=>R (.ok .next) s₁
   |some v=>iM (iO prog w) A (ku target it v) (λ_ s₂=>iM (iO prog w) A (assign target env v) (λ_ s₃ =>
     iM (iO prog w) A (forIn ifs true λc r=>if r=true then do let ok ←isTrue c env (eval c env);pure (ForInStep.yield ok) else pure (ForInStep.yield r)) (λok s₄ =>
      if ok=true then iM (iO prog w) A (eval elt env) (λx s₅ =>
       iM (iO prog w) A (call (.builtin "list.append") [acc,x]) (λ_ s₆=>∃m,m<n/\I m s₆) (λ_ _=>False) s₅) (λ_ _=>False) s₄
      else ∃m,m<n/\I m s₄) (λ_ _=>False) s₃) (λ_ _=>False) s₂) (λ_ _=>False) s₁) (λ_ _=>False) s)
  (n:Nat) (h:I n s):jF (iO prog w) A (.compLoop (.ListComp elt [⟨target,iter,ifs,0⟩] scope pos) 0 it acc env) R s:=by
 refine codeAny_loop rfl I (λn s hI=>?_) n h
 show iM _ A ((compTurn (.ListComp elt [⟨target,iter,ifs,0⟩] scope pos) 0 it acc env).onRaise (λx=>do noteFrame x env;theTreesLotGoes x)) _ _ s
 refine wpAny_noted ?_;rw[compTurn_list];refine iJ (kF (iJ (jc (turn n s hI) (λr s₁ h₁=>?_) λ_ _ z=>z.elim)))
 cases r with
 |none=>exact iN h₁
 |some v =>
  refine iJ (jc h₁ (λ_ s₂ h₂=>?_) λ_ _ z=>z.elim)
  refine iJ (jc h₂ (λ_ s₃ h₃=>?_) λ_ _ z=>z.elim)
  refine iJ (jc h₃ (λok s₄ h₄=>?_) λ_ _ z=>z.elim)
  cases ok with
  |false=>exact iN ⟨rfl,h₄⟩
  |true=>exact iJ (iJ (jc h₄ (λx s₅ h₅=>iJ (jc h₅ (λ_ s₆ h₆=>iN (iN ⟨rfl,h₆⟩)) λ_ _ z=>z.elim)) λ_ _ z=>z.elim))
abbrev pI(X:Cx) (scope:jI) (cl:List (Str×Addr)) (N:List Str) (C:Addr) (s:Shared) (H:Hp) (fp:List Addr):Cx where
 prog:=X.prog
 w:=X.w
 K:=X.K
 mg:=X.mg
 base:=X.base
 A:=X.A
 N:=N
 s₀:=s
 H₀:=H
 env:=compEnvC scope cl C X.env
 outer:=X.stack
 stack:=X.stack
 ex:=fp
 fn:=λ_=>false
 calm:=X.calm
 pn:=[]
 xe:=λ_ _=>False
def PF(X:Cx) (ifs:List Expr) (t:TT):Prop :=
 ∀(nA:List (Addr×Obj)) (s:Shared) (σ:St) (H:Hp) (Q:Bool->Hp->Prop),Inv X nA σ H s->t σ H Q ->
  iM (iO X.prog X.w) X.A (forIn ifs true λc r=>if r=true then do let ok ←isTrue c X.env (eval c X.env);pure (ForInStep.yield ok) else pure (ForInStep.yield r)) (TP X nA σ Q) X.xe s
def T8:TT:=λ_ H Q=>Q true H
theorem B9{X:Cx}:PF X [] T8:=λ_ _ _ H _ I h=>wpAny_tests_nil ⟨H,I,h⟩
theorem Rq{X:Cx}{c:Expr}{t:TT}(h:PT X c t):PF X [c] t:=λnA s σ H Q I q=>wpAny_tests_one (h nA s σ H Q I q)
structure xl (X:Cx) (scope:jI) (cl:List (Str×Addr)) (x:Str) (N:List Str) (fr:List Nat):Prop where
 names:N.Nodup
 own:N[0]?=some x
 len:N.length=fr.length+1
 sub:∀y c,cl.lookup y=some c->X.env.cells.lookup y=some c
 has:∀y,((jy scope X.env).names.lookup y=some .cell∨(jy scope X.env).names.lookup y=some .free)->∃c,cl.lookup y=some c
 get:∀(k j:Nat) (y:Str),fr[k]?=some j->N[k+1]?=some y->X.N[j]?=some y/\X.env.scope.names.lookup y=some .cell/\(jy scope X.env).names.lookup y=some .cell
theorem xl.none{X:Cx}{scope:jI}{x:Str}(h:∀p∈scope.names,p.2 ≠ .cell/\p.2 ≠ .free):xl X scope [] x [x] [] where
 names:=by simp
 own:=rfl
 len:=rfl
 sub:=λy c e=>by cases e
 has:=λy e=>by
  exfalso;have key:∀p∈(jy scope X.env).names,p.2 ≠ .cell/\p.2 ≠ .free:=by
   intro p hp;obtain⟨q,hq,rfl⟩:=mMq.mp hp;obtain⟨n,k⟩:=q;obtain⟨h1,h2⟩:=h _ hq;have hk:(k == NameKind.free)=false:=by simpa using h2
   simp only[hk,ic];exact⟨h1,h2⟩
  rcases e with e|e
  .exact (key _ (PySem.mem_of_lookup e)).1 rfl
  .exact (key _ (PySem.mem_of_lookup e)).2 rfl
 get:=λk j y e _=>by cases e
def slots(σ:St) (fr:List Nat):St:=fr.map λj=>(σ[j]?).join
def IU(wi:TI) (fr:List Nat) (tf:TT) (te:TE):TE:=λσ H Q=>wi σ H λJ H1=>∀acc,H1 acc=none->∃W:Nat->Nat->Hp->Prop,(∃m,W 0 m (pX H1 acc (.lst [])))/\∀i m H,W i m H ->
 (J.stop i H/\Q (.ref acc) H) ∨
 (J.go i H/\∃N:Hp->Prop,(∀H',N H'->∃m',m'<m/\W (i+1) m' H')/\∀x H',J.yld i H x H'->tf (some x::slots σ fr) H' λb H2 =>
  if b=true then te (some x::slots σ fr) H2 λy H3=>∃ys,H3 acc=some (.lst ys)/\ys.length<iR/\N (pX H3 acc (.lst (ys++[y]))) else N H2)
section
variable {X:Cx}{scope:jI}{cl:List (Str×Addr)}{N:List Str}{fr:List Nat}{x:Str}{px pos:Pos}{elt iter:Expr}{ifs:List Expr}{tf:TT}{te:TE}
theorem BQ{nA:List (Addr×Obj)}{σ:St}{H:Hp}{s:Shared}{E:Value->Shared->Prop}{J:It}{fp:List Addr}{it:Addr}{tn:Nat->Heap->Prop}{RR:Value->Addr->Result->Shared->Prop}{Q:VK}
  (hc:X.calm=true) (hcell:∀y∈scope.names,y.2 ≠ .cell) (hkind:scope.kind = .function) (hx:scope.names.lookup x=some .local) (hF:xl X scope cl x N fr)
  (hf:∀C s H fp,PF (pI X scope cl N C s H fp) ifs tf) (he:∀C s H fp,PE (pI X scope cl N C s H fp) elt te)
  (I:Inv X nA σ H s) (T:Gx X.prog X.w X.K (.Name x px) J fp it tn) (st:tn 0 s.heap) (fpo:∀b∈fp,yN X nA H b)
  (h:∀acc,H acc=none->∃W:Nat->Nat->Hp->Prop,(∃m,W 0 m (pX H acc (.lst [])))/\∀i m H,W i m H ->
   (J.stop i H/\Q (.ref acc) H) ∨
   (J.go i H/\∃N:Hp->Prop,(∀H',N H'->∃m',m'<m/\W (i+1) m' H')/\∀x H',J.yld i H x H'->tf (some x::slots σ fr) H' λb H2 =>
    if b=true then te (some x::slots σ fr) H2 λy H3=>∃ys,H3 acc=some (.lst ys)/\ys.length<iR/\N (pX H3 acc (.lst (ys++[y]))) else N H2))
  (fin:∀acc C s' Hf m,Inv X nA σ Hf s'->s'.heap.Ns C m->yN X nA Hf C->Q (.ref acc) Hf->RR (.ref acc) C (.ok .next) s') :
  iM (iO X.prog X.w) X.A (mE []) (λacc s₃=>iM (iO X.prog X.w) X.A (newFunctionEnv scope X.env.globals cl [] X.env.qual none .none (some X.env)) (λcenv s₄ =>
   jF (iO X.prog X.w) X.A (.compStart (.ListComp elt [⟨.Name x px,iter,ifs,0⟩] scope pos) 0 (.ref it) acc { cenv with scope:=jy scope X.env }) (RR acc cenv.locals) s₄) E s₃) E s:=by
 refine ji (lR hcell (by intro y hy;simp at hy) (λh₁ hns₁ hsb₁=>?_) hkind)
 dsimp only at hns₁ hsb₁ ⊢;generalize hG:s.heap.push { cls:=.type "list", dict:=none,data:=.seq ([]:List Value).toArray }=G at hns₁ hsb₁ ⊢;have hC:G.objs.size=s.heap.objs.size+1:=by rw[←hG,dN]
 have hCle:s.heap.objs.size<=G.objs.size:=by rw[hC];exact bH _
 have hDC:s.heap.objs.size≠G.objs.size:=by rw[hC];exact aw (cB _)
 have below:∀b,b<s.heap.objs.size->b≠G.objs.size:=λb hb=>by rw[hC];exact aw (bE hb)
 have old:∀b o,s.heap.get? b=some o->h₁.get? b=some o:=λb o e=>hsb₁.extBut b o (below b (ai e)) (ae _ (hG ▸ ae _ e))
 have hacc:h₁.get? s.heap.objs.size=some { cls:=.type "list", data:=.seq ([]:List Value).toArray }:=hsb₁.extBut _ _ hDC (ae _ (hG ▸ az _ rfl));have hn:H s.heap.objs.size=none:=I.hok.fresh (ag _);have hnC:H G.objs.size=none:=I.hok.fresh hCle;have fpl:∀b∈fp,b<s.heap.objs.size:=λb hb=>by
  obtain⟨o,q,_⟩:=T.obj 0 _ st b hb;exact ai q
 obtain⟨W,⟨m0,w0⟩,turn⟩:=h _ hn;have ok':(pI X scope cl N G.objs.size s H fp).Ok:=by
  refine⟨I.ok.mod,by show (jy scope X.env).kind = .function;exact hkind,I.ok.glob,I.ok.blt,hCle,λy z c h1 h2=>I.ok.inj y z c (hF.sub y c h1) (hF.sub z c h2),hF.has,λ_ _ z _=>(by cases z),I.ok.hd,I.ok.frames,.inl rfl,
   λb hb=>⟨below b (fpl b hb),λy c e=>(fpo b hb).2.2.2.2.1 y c (hF.sub y c e)⟩,λb o e=>⟨(I.bs b o e).1,(I.bs b o e).2⟩,bJ I.ok.bsz I.sz,λb o e hb=>?_,λb hb z=>?_,I.stack,I.stkFree⟩
  .rcases (fpo b hb).2.2.2.1 with q|q
   .exact I.ok.noex b o e q
   .exact absurd (aF (ai (I.ok.bs b o e).1) q) (cA _)
  .rcases aj.mp (I.stkSub b z) with q|q
   .exact (fpo b hb).2.1 q
   .exact (fpo b hb).2.2.1 q
 have I0:Inv (pI X scope cl N G.objs.size s H fp) [] (none::slots σ fr) (pX H s.heap.objs.size (.lst [])) { s with heap:=h₁,toks:=s.toks+([]:List (Str×Value)).length }:=by
  have hok1:xu X.prog X.w (pX H s.heap.objs.size (.lst [])) h₁:=I.hok.laid old (ag _) ⟨aV _,[],0,.nil,hacc⟩;refine⟨ok',rfl,I.bare,Un.laid old (ag _) hn,⟨_,hns₁,λk y v e1 e2 e3=>?_⟩,λy c e=>?_,?_,λy c e=>?_,λp hp=>absurd (show p∈([]:List (Addr×Obj)) from hp) (by simp),hok1,?_⟩
  .cases k with
   |zero=>cases e2
   |succ k =>
    have e2':(slots σ fr)[k]?=some (some v):=e2;unfold slots at e2';rw[gMq]at e2';cases ej:fr[k]? with
    |none=>rw[ej]at e2';cases e2'
    |some j =>
     rw[ej]at e2';have e2j:(σ[j]?).join=some v:=aU.inj e2';have e2s:σ[j]?=some (some v):=by
      cases q:σ[j]? with
      |none=>rw[q]at e2j;cases e2j
      |some z=>rw[q]at e2j;exact congrArg some e2j
     obtain⟨g1,g2,g3⟩:=hF.get k j y ej e1;obtain⟨m,_,hl⟩:=I.loc;obtain⟨u,r,l⟩:=hl j y v g1 e2s (.inr (.inl g2));refine⟨u,r,.inr ⟨.inl g3,?_⟩⟩;obtain⟨c,e⟩:=hF.has y (.inl g3);have e':=hF.sub y c e;rcases l with ⟨l1,_⟩|⟨_,c',ec,hcell'⟩
     .have l1':X.env.scope.names.lookup y=some .local:=l1;rw[g2]at l1';cases l1'
     .rw [e']at ec;cases ec;obtain⟨o,ho,hd⟩:=hcell';exact⟨c,e,o,old c o ho,hd⟩
  .obtain ⟨v,o,ho,hd⟩:=I.cell y c (hF.sub y c e);exact⟨v,o,old c o ho,hd⟩
  .show pX H s.heap.objs.size (.lst []) G.objs.size=none;rw[nY (Ne.symm hDC)];exact hnC
  .obtain ⟨v,o,ho,hd⟩:=I.cell y c (hF.sub y c e);rw[nY (aw (ai ho))];exact I.freeC y c (hF.sub y c e)
  .show (none::slots σ fr).length=N.length;rw[hF.len,lCq];unfold slots;rw[lMq]
 have Q7:tn 0 h₁:=T.keep 0 _ _ st λb _ o e=>old b o e
 have nd:N.Nodup:=hF.names;have nf0:∀b∈fp,pX H s.heap.objs.size (.lst []) b=none:=λb hb=>by
  rw[nY (aw (fpl b hb))];exact(fpo b hb).1
 have stat:∀{H':Hp},(∀b∈fp,H' b=none)->∀b∈fp,yN (pI X scope cl N G.objs.size s H fp) [] H' b:=λhn' b hb =>
  ⟨hn' b hb,below b (fpl b hb),ok'.exfs b hb,.inl hb,λy c e=>(ok'.exf b hb).2 y c e,λp hp=>absurd (show p∈([]:List (Addr×Obj)) from hp) (by simp)⟩
 have loop:∀s₃:Shared,s₃={ s with heap:=h₁,toks:=s.toks+([]:List (Str×Value)).length } ->
   jF (iO X.prog X.w) X.A (.compLoop (.ListComp elt [⟨.Name x px,iter,ifs,0⟩] scope pos) 0 (.ref it) (.ref s.heap.objs.size) (compEnvC scope cl G.objs.size X.env)) (RR (.ref s.heap.objs.size) G.objs.size) s₃:=by
  rintro s₃ rfl;refine An (λn s'=>∃i v0 H',Inv (pI X scope cl N G.objs.size s H fp) [] (v0::slots σ fr) H' s'/\tn i s'.heap/\(∀b∈fp,H' b=none)/\W i n H') ?_ m0 ⟨0,none,_,I0,Q7,nf0,w0⟩
  rintro n s4 ⟨i,v0,H4,I4,Td,nf4,w4⟩;rcases turn i n H4 w4 with ⟨stop,q⟩|⟨go,Nx,hNx,step⟩
  .refine thn (T.done (pI X scope cl N G.objs.size s H fp) rfl rfl rfl hc i [] s4 (v0::slots σ fr) H4 (λ_ _=>False) I4 (stat nf4) Td stop) λr s5 hz1=>?_
   obtain⟨hr,I5⟩:=hz1;subst hr;obtain⟨m,hm,_⟩:=I5.loc;have I6:Inv X nA σ H4 s5:=I.call' (ch:=fp) I5.os I5.base I5.hok I5.bare λb hb=>⟨(fpo b hb).2.2.2.1,(fpo b hb).2.1,(fpo b hb).2.2.2.2.1,(fpo b hb).2.2.2.2.2⟩
   exact fin _ _ s5 H4 m I6 hm (I.fpOk hCle I5.free) q
  .refine thn (T.item (pI X scope cl N G.objs.size s H fp) rfl rfl rfl hc i [] s4 (v0::slots σ fr) H4 (λ_ _=>False) I4 (stat nf4) Td go) λr s5 hz1=>?_
   obtain⟨u,hr,h5⟩:=hz1;subst hr;refine thn h5 λ_ s6 hz1=>?_
   obtain⟨y,H6,I6,r6,y6,st6,nf6⟩:=hz1;have I6':=I6.pinned (stat nf6) (T.obj _ _ st6);have pg:PG (pI X scope cl N G.objs.size s H fp) (.Name x px) (rG 0):=oH nd hF.own (.inl (jm hx)) (.inr (jm hx));refine thn (pg _ s6 (v0::slots σ fr) H6 y u (λσ2 H2=>σ2=some y::slots σ fr/\H2=H6) I6' r6 ⟨rfl,rfl⟩) λ_ s7 hz1=>?_
   obtain⟨σ7,H7,I7,e7,e8⟩:=hz1;subst e7 e8;refine thn (hf _ _ _ _ _ s7 _ _ _ I7 (step y _ y6)) λb s8 hz1=>?_
   obtain⟨H8,I8,q8⟩:=hz1;have again:∀{s9:Shared}{H9:Hp},Inv (pI X scope cl N G.objs.size s H fp) ([]++zS fp s6.heap) (some y::slots σ fr) H9 s9->Nx H9->∃m,m<n/\∃i v0 H',Inv (pI X scope cl N G.objs.size s H fp) [] (v0::slots σ fr) H' s9/\tn i s9.heap/\(∀b∈fp,H' b=none)/\W i m H':=λ{s9 H9} I9 n9=>by
    obtain⟨m',hm,w9⟩:=hNx H9 n9;refine⟨m',hm,i+1,some y,H9,I9.unpinned,T.keep _ _ _ st6 λb hb o e=>(I9.pin (b,o) (ar _ (ar _ (tE hb e)))).1,λb hb=>?_,w9⟩
    obtain⟨o,e,d⟩:=T.obj _ _ st6 b hb;exact(I9.pin (b,o) (ar _ (ar _ (tE hb e)))).2.1
   cases b with
   |false=>exact again I8 q8
   |true =>
    refine thn (he _ _ _ _ _ s8 _ _ _ I8 q8) λz s9 hz1=>?_
    obtain⟨zv,H9,I9,r9,ys,a9,l9,n9⟩:=hz1;refine thn (oK (X:=pI X scope cl N G.objs.size s H fp) _ s9 _ H9 (.ref s.heap.objs.size) [zv] (.ref s.heap.objs.size) [z] (λ_ H'=>H'=pX H9 s.heap.objs.size (.lst (ys++[zv]))) I9 rfl (.cons r9 .nil) ⟨_,ys,zv,rfl,rfl,a9,l9,rfl⟩) λ_ s10 hz1=>?_
    obtain⟨_,H10,I10,_,e10⟩:=hz1;subst e10;exact again I10 n9
 exact kW (loop _ rfl) (T.self X.A 0 _ _ _ Q7 (loop _ rfl))
theorem D0{wi:TI}(hc:X.calm=true) (hclos:closureFor scope X.env=pure cl) (hcell:∀y∈scope.names,y.2 ≠ .cell) (hkind:scope.kind = .function) (hnames:∀y∈scope.names,y.2 = .local->scope.names.lookup y.1=some .local)
  (hx:scope.names.lookup x=some .local) (hF:xl X scope cl x N fr) (hi:PI X (.Name x px) iter wi) (hf:∀C s H fp,PF (pI X scope cl N C s H fp) ifs tf) (he:∀C s H fp,PE (pI X scope cl N C s H fp) elt te)
  (hs:∀x,kf iter X.env x=pure x:=by intro _;rfl):PE X (.ListComp elt [⟨.Name x px,iter,ifs,0⟩] scope pos) (IU wi fr tf te):=by
 intro nA s σ H Q I h;rw[eval_ListComp];refine jW (use:=none) rfl hs hclos hkind hnames (thn (hi nA s σ H _ I h) λv s1 h1=>thn h1 λitv s2 h2=>?_)
 obtain⟨it,fp,tn,J,H2,e,I2,T,Bw,f2,q2⟩:=h2;subst e;refine BQ (RR:=λacc C=>compPost (iO X.prog X.w) X.A X.xe none (EP X nA σ Q) acc C) hc hcell hkind hx hF hf he I2 T Bw f2 q2 ?_
 intro acc C s' Hf m I' hm fC q;refine⟨m,hm,λh' sb=>⟨.ref acc,Hf,?_,rfl,q⟩⟩
 exact I'.turned (t':=s'.toks) (λb o hb e=>(sb.2 b hb).trans e) fC.1 fC.2.1 fC.2.2.2.1 fC.2.2.2.2.1 fC.2.2.2.2.2
theorem IE{wi:TI}{y:Str}{i:Nat}{py spos:Pos}(hc:X.calm=true) (hN:X.N.Nodup) (Vn:X.N[i]?=some y) (hy:Va X.env.scope y) (hclos:closureFor scope X.env=pure cl) (hcell:∀y∈scope.names,y.2 ≠ .cell) (hkind:scope.kind = .function)
  (hnames:∀y∈scope.names,y.2 = .local->scope.names.lookup y.1=some .local)
  (hx:scope.names.lookup x=some .local) (hF:xl X scope cl x N fr) (hi:PI X (.Name x px) iter wi) (hf:∀C s H fp,PF (pI X scope cl N C s H fp) ifs tf) (he:∀C s H fp,PE (pI X scope cl N C s H fp) elt te)
  (hsw:mC (.ListComp elt [⟨.Name x px,iter,ifs,0⟩] scope pos) (some (.Name y py)) spos.line X.env=pure true:=by rfl) (hs:∀x,kf iter X.env x=pure x:=by intro _;rfl)
  (hfn:X.fn y=true∨X.env.scope.names.lookup y=some .local:=by trivial) :
  PS X (.Assign [.Name y py] (.ListComp elt [⟨.Name x px,iter,ifs,0⟩] scope pos) spos) (E6 (IU wi fr tf te) (rG i)):=by
 intro nA s σ H D I h;rw[exec_Assign_Name_used _ _ _ _ hsw];refine iJ (kF (iJ ?_));show iM _ X.A (do let _ ←comprehension (.ListComp elt [⟨.Name x px,iter,ifs,0⟩] scope pos) scope X.env _ (mE []) false (eval iter X.env) (some (assign (.Name y py) X.env))) _ _ s
 refine iJ (jc (jW (use:=some (assign (.Name y py) X.env)) (Q:=λ_ s'=>SP X nA D .next s') rfl hs hclos hkind hnames
  (thn (hi nA s σ H _ I h) λv s1 h1=>thn h1 λitv s2 h2=>?_)) (λ_ s' hq=>iN (iN hq)) λ_ _ e=>e)
 obtain⟨it,fp,tn,J,H2,e,I2,T,Bw,f2,q2⟩:=h2;subst e;refine BQ (RR:=λacc C=>compPost (iO X.prog X.w) X.A X.xe (some (assign (.Name y py) X.env)) (λ_ s'=>SP X nA D .next s') acc C) (Q:=λv H'=>D.nx (σ.set i (some v)) H') hc hcell hkind hx hF hf he I2 T Bw f2 q2 ?_
 intro acc C s' Hf m I' hm fC q;obtain⟨o,es,ep,ho,hd,r⟩:=id hm;have I1:Inv X (nA++[(C,o)]) σ Hf s':=I'.pins_of λp hp=>(mAq.mp hp).elim (λz=>I'.pin p (ar _ z)) λz=>by
  have e:p=(C,o):=by simpa using z
  subst e;exact⟨ho,fC.1,fC.2.1,fC.2.2.1,λv z=>by rw[hd]at z;cases z⟩
 refine thn (oH (X:=X) (i:=i) (pos:=py) hN Vn hy hfn _ s' σ Hf (.ref acc) (.ref acc) _ I1 rfl q) λ_ s2 hz1=>?_
 obtain⟨σ2,H2,I2,q2⟩:=hz1;have pC:=I2.pin (C,o) (ar _ (ar _ (by simp)))
 refine⟨m,⟨o,es,ep,pC.1,hd,r⟩,λh' sb=>⟨σ2,H2,?_,q2⟩⟩
 exact I2.unpinned.turned (t':=s2.toks) (λb u hb e=>(sb.2 b hb).trans e) pC.2.1 fC.2.1 fC.2.2.2.1 fC.2.2.2.2.1 fC.2.2.2.2.2
end
end Mr
namespace MrS
open PySem PyProof.Rows
section
variable {prog:iT}{w:iU}{A:Around}{E:Value->Shared->Prop}{s:Shared}{Pk:iK->Prop}{lt:iK->iK->Bool}
abbrev rM(h:Heap) (a:Addr) (vs:List Value):Heap:=((h.update a (Obj.mapSeq λ_=>#[])).push (iZ "tuple" vs.toArray 0)).push (iZ "list" #[] 0)
theorem vC{a:Addr}{vs:List Value}{n:Nat}{P:PySem.Fin->Shared->Prop}(ho:s.heap.get? a=some (iZ "list" vs.toArray n)) (hs:vs.length<=iR)
  (hkk:2<=vs.length->∀Q:jl->Shared->Prop,Q jJ { s with heap:=rM s.heap a vs }->iM (iO prog w) A (mi vs.toArray) Q E { s with heap:=rM s.heap a vs })
  (C:yd prog w A { s with heap:=rM s.heap a vs } jJ Pk lt) (hp:∀x,x∈jC vs->Pk x)
  (h:∀xs:Array iK,xs.Perm (jC vs)->yF lt xs 0 (jC vs).size->P (.done (.ret .none)) { s with heap:=kc s.heap a vs (xs.map (·.2)) }) :
  iM (iO prog w) A (Builtin.«list.sort» ⟨[.ref a],[]⟩) P E s:=by
 rw[list_sort_plain];have ha:a<s.heap.objs.size:=ai ho;refine iJ (listItems_at ho rfl ?_);refine iJ (mn ho rfl ?_ (hsz:=by simpa using hs))
 obtain⟨e1,ho1⟩:∃e1,(s.heap.update a (Obj.mapSeq λ_=>#[])).get? a=some (iZ "list" #[] e1):=⟨_,kP ho (λ_=>#[])⟩
 refine iJ (mF ho1 rfl ?_);refine iJ (wpAny_newTuple ?_);refine iJ (jP ?_);refine jo ?_;have ho6:(rM s.heap a vs).get? a=some (iZ "list" #[] e1):=by
  rw[eP _ _ _ (by rw[size_push',dQ];exact aw (bE ha)),eP _ _ _ (by rw[dQ];exact aw ha)]
  exact ho1
 show iM (iO prog w) A _ P E { s with heap:=rM s.heap a vs }
 dsimp only;have hsz:vs.toArray.size=vs.length:=by simp
 have hs':iR=16777216:=jb
 by_cases h2:vs.toArray.size<2
 .rw [oz h2,oz h2];refine iJ (iN ?_);rw[StateT.run_pure];refine iJ (iN ?_);dsimp only;refine iJ (mF ho6 rfl ?_);refine iJ (mn ho6 rfl ?_ (hsz2:=by rw[ie];show (jC vs).size<=_;rw[kx,jb];lia))
  simp only[bne_self_eq_false,du,if_false];refine iN (h _ (hW.refl _) ?_);intro i j x y _ hij hj ex ey;have:i=j:=by rw[kx]at hj;lia
  subst this;rw[ex]at ey;cases ey;exact C.refl (hp x (aQq ex))
 .rw [oB h2,oB h2];refine iJ (hkk (by lia) _ ?_)
  refine iJ (jc (EE C (arr:=jC vs) (g:=7) (E:=E)
   (Q:=λ_ st'=>∃xs p g',st'=wF jJ xs p g'/\xs.Perm (jC vs)/\yF lt xs 0 (jC vs).size) hp (by rw[kx];lia) λxs p g' a1 a2=>⟨xs,p,g',rfl,a1,a2⟩) ?_ λ_ _ e=>e)
  rintro⟨⟨⟩,st'⟩ s' ⟨rfl,xs,p,g',rfl,hpm,hsg⟩;dsimp only;refine iJ (mF ho6 rfl ?_);refine iJ (mn ho6 rfl ?_ (hsz2:=by refine bJ (dO ((ie ..).trans (hpm.size_eq.trans (kx _)))) ?_;lia))
  simp only[bne_self_eq_false,du,if_false];exact iN (h xs hpm hsg)
theorem DQ{h:Heap}{a:Addr}{xs:Array Value}{n:Nat}(vs:List Value) (ho:h.get? a=some (iZ "list" xs n)):∃e1,(rM h a vs).get? a=some (iZ "list" #[] e1):=by
 have ha:a<h.objs.size:=ai ho;obtain⟨e1,ho1⟩:∃e1,(h.update a (Obj.mapSeq λ_=>#[])).get? a=some (iZ "list" #[] e1):=⟨_,kP ho (λ_=>#[])⟩
 refine⟨e1,?_⟩;rw[eP _ _ _ (by rw[size_push',dQ];exact aw (bE ha)),eP _ _ _ (by rw[dQ];exact aw ha)]
 exact ho1
theorem DX{h:Heap}{a:Addr}{xs:Array Value}{n:Nat}(ys:Array Value) (ho:h.get? a=some (iZ "list" xs n)):∃n1,(h.update a (Obj.mapSeq λ_=>ys)).get? a=some (iZ "list" ys n1):=⟨_,kP ho (λ_=>ys)⟩
theorem tU{vs:List Value}{x:iK}(h:x∈jC vs):x.1∈vs/\x.2=x.1:=by
 obtain⟨i,hi,e⟩:=Array.mem_iff_getElem.mp h;have hi':i<vs.length:=by rw[kx]at hi;exact hi
 have:x=(vs[i],vs[i]):=by
  rw[←e];simp[jC]
 rw[this];exact⟨gRq hi',rfl⟩
theorem xR{vs:List Value}{xs:Array iK}(hp:xs.Perm (jC vs)) (hs:yF lt xs 0 (jC vs).size) :
  (xs.map (·.2)).toList.Perm vs/\(xs.map (·.2)).toList.Pairwise (λx y=>lt (y,y) (x,x)=false):=by
 constructor
 .have:=hp.toList.map (·.2);have e:(jC vs).toList.map (·.2)=vs:=by
   have:(jC vs).toList=vs.zip vs:=by simp[jC]
   rw[this];apply List.ext_getElem
   .simp
   .intro i h1 h2;simp
  rw[e]at this;rw[Array.toList_map];exact this
 .rw [bN];intro i j hi hj hij;have hi':i<xs.size:=by simpa using hi
  have hj':j<xs.size:=by simpa using hj
  have z:=hs i j xs[i] xs[j] (aV _) (cw hij) (by rw[←hp.size_eq];exact hj') (by simp[hi']) (by simp[hj'])
  have m1:=tU (hp.mem_iff.mp (aY hi'));have m2:=tU (hp.mem_iff.mp (aY hj'));have e1:xs[i]=(xs[i].2,xs[i].2):=gZ m1.2.symm rfl;have e2:xs[j]=(xs[j].2,xs[j].2):=gZ m2.2.symm rfl;rw[e1,e2]at z;simpa using z
theorem GY{l:Addr}{vs:List Value}{Q:Value->Shared->Prop}(hl:s.heap.IsList l vs.toArray) (hs:vs.length<=iR)
  (hC:∀s':Shared,(∀b o,s.heap.get? b=some o->s'.heap.get? b=some o)->(2<=vs.length->∀Q:jl->Shared->Prop,Q jJ s'->iM (iO prog w) A.in1.in1 (mi vs.toArray) Q E s')/\yd prog w A.in1.in1 s' jJ Pk lt)
  (hp:∀v∈vs,Pk (v,v))
  (h:∀(out:List Value) (h':Heap) (n':Nat),out.Perm vs->out.Pairwise (λx y=>lt (y,y) (x,x)=false)->(∀b o,s.heap.get? b=some o->h'.get? b=some o) ->
   h'.get? (s.heap.objs.size+1)=some (iZ "list" out.toArray n')->Q (.ref (s.heap.objs.size+1)) { s with heap:=h' }) :
  iM (iO prog w) A (call (.builtin "sorted") [.ref l]) Q E s:=by
 refine Calls.call_function_entry mG mw mz (mB _) ?_;unfold Builtin.«sorted»;refine iJ (m:=checkCount "sorted" 1 1 _) (iN ?_);refine iJ (collect_list hl ?_ hs);refine iJ (jP ?_);have hsz:((s.heap.push (iZ "list" #[] 0)).update s.heap.objs.size (Obj.mapSeq (· ++ vs.toArray))).objs.size=s.heap.objs.size+1:=by
  rw[dQ,size_push']
 have hoL:(((s.heap.push (iZ "list" #[] 0)).update s.heap.objs.size (Obj.mapSeq (· ++ vs.toArray))).push (iZ "list" vs.toArray 0)).get? (s.heap.objs.size+1)=some (iZ "list" vs.toArray 0):=by
  rw[←hsz];exact az _ rfl
 show iM _ _ _ _ _ { s with heap:=((s.heap.push (iZ "list" #[] 0)).update s.heap.objs.size (Obj.mapSeq (· ++ vs.toArray))).push (iZ "list" vs.toArray 0) }
 rw[hsz];generalize hG:((s.heap.push (iZ "list" #[] 0)).update s.heap.objs.size (Obj.mapSeq (· ++ vs.toArray))).push (iZ "list" vs.toArray 0)=G at hoL ⊢;have k1:∀b o,s.heap.get? b=some o->G.get? b=some o:=λb o e=>by
  rw[←hG];refine ae _ ?_;rw[cu _ _ _ _ (aw (ai e))];exact ae _ e
 have k2:∀b o,s.heap.get? b=some o->(rM G (s.heap.objs.size+1) vs).get? b=some o:=λb o e=>by
  refine ae _ (ae _ ?_);rw[cu _ _ _ _ (aw (bE (ai e)))];exact k1 b o e
 obtain⟨q1,q2⟩:=hC { s with heap:=rM G (s.heap.objs.size+1) vs } k2
 refine iJ (jo (jg lH ⟨_,hoL,rfl⟩ kQ (vC (Pk:=Pk) (lt:=lt) hoL hs q1 q2 (λx hx=>?_) λxs a1 a2=>⟨_,rfl,?_⟩) (lJ _)))
 .obtain ⟨m1,m2⟩:=tU hx;have:x=(x.1,x.1):=gZ rfl m2;rw[this];exact hp _ m1
 .obtain ⟨v1,v2⟩:=xR a1 a2;obtain⟨e1,ho1⟩:=DQ vs hoL;obtain⟨n1,g1⟩:=DX (xs.map (·.2)) ho1;refine iN ⟨_,rfl,h _ (kc G (s.heap.objs.size+1) vs (xs.map (·.2))) n1 v1 v2 (λb o e=>?_) ?_⟩
  .unfold kc;rw[cu _ _ _ _ (aw (bE (ai e)))];exact k2 b o e
  .rw [show (xs.map (·.2)).toList.toArray=xs.map (·.2) from fi]
   exact g1
end
end MrS
namespace HT
open PySem PyProof.Rows
section
open PySem.SeqAt
open PySem.AutoSeq1 (wpAny_loadPart')
open PySem.MeetsSeq PySem.MeetsSeq2 PySem.MeetsSeq3 PySem.SeqRoads2
theorem EV{vs:List Value}{ns:List Int}(h:jd vs ns):∀{i:Nat}(hi:i<vs.length),∃(z:Int) (t:Tok),vs[i] = .int z t/\ns.drop i=z::ns.drop (i+1):=by
 induction h with
 |nil=>intro i hi;exact absurd hi (cX _)
 |cons a t _ ih =>
  intro i hi;cases i with
  |zero=>exact⟨a,t,rfl,rfl⟩
  |succ i=>exact ih (i:=i) (by simpa using hi)
theorem DT(l b:Addr) (items items2:Array Value) (n n2:Nat) (dd dd2:Option Addr) (sl sl2:Array (Option Value)) (ns ms:List Int) (hi:jd items.toList ns) (hj:jd items2.toList ms) (k:Nat) :
  ∀i:Nat,min items.size items2.size-i=k->i<=items.size->i<=items2.size->Meets (Builtin.«list.__eq__.loop» ⟨[.ref l,.ref b,iX i,iX 0],[]⟩)
   (λ_ R s=>s.heap.get? l=some { cls:=.type "list", dict:=dd,data:=.seq items n,slots:=sl }/\s.heap.get? b=some { cls:=.type "list", dict:=dd2,data:=.seq items2 n2,slots:=sl2 } /\
    R (.ok (.ret (.bool (rF (ns.drop i) (ms.drop i))))) s):=by
 have z1:ns.length=items.size:=by rw[←hi.length];simp
 have z2:ms.length=items2.size:=by rw[←hj.length];simp
 induction k with
 |zero =>
  intro i hk h1 h2 prog w A R s h;obtain⟨hp,g,d,tk,os⟩:=s;obtain⟨hl,hb,h⟩:=h
  wp_walk using wpAny_loadPart' hl,wpAny_loadPart' hb
  have fin:rF (ns.drop i) (ms.drop i)=decide (items.size<items2.size):=by
   by_cases c:i=items.size
   .have e1:ns.drop i=[]:=dA (by lia)
    rw[e1]
    by_cases c2:i<items2.size
    .rw [aK (by lia:i<ms.length),BF]
     exact(decide_eq_true (by lia)).symm
    .rw [dA (by lia:ms.length<=i),Ct]
     exact(decide_eq_false (by lia)).symm
   .have c2:i=items2.size:=by lia
    rw[aK (by lia:i<ns.length),dA (by lia:ms.length<=i),B4]
    exact(decide_eq_false (by lia)).symm
  rw[fin]at h
  by_cases c:i=items.size
  .have N2:items[((i:Nat):Int).toNat]?=none:=by simp;lia
   rw[N2]
   wp_walk using wpAny_loadPart' hl,wpAny_loadPart' hb
   exact h
  .have c2:i=items2.size:=by lia
   have N2:items[((i:Nat):Int).toNat]?=some (items[i]'(by lia)):=by simp
   have hi2:items2[((i:Nat):Int).toNat]?=none:=by simp;lia
   rw[N2,hi2]
   wp_walk using wpAny_loadPart' hl,wpAny_loadPart' hb
   exact h
 |succ k ih =>
  intro i hk h1 h2 prog w A R s h;obtain⟨hp,g,d,tk,os⟩:=s;obtain⟨hl,hb,h⟩:=h
  wp_walk using wpAny_loadPart' hl,wpAny_loadPart' hb
  have hlt:i<items.size:=by lia
  have hlt2:i<items2.size:=by lia
  obtain⟨x,t,ex,dx⟩:=EV hi (i:=i) (by simpa using hlt)
  obtain⟨y,u,ey,dy⟩:=EV hj (i:=i) (by simpa using hlt2)
  have N2:items[((i:Nat):Int).toNat]?=some (.int x t):=by
   rw[←ex];simp[hlt]
  have hi2:items2[((i:Nat):Int).toNat]?=some (.int y u):=by
   rw[←ey];simp[hlt2]
  have hc:((i:Int)+1)=((i+1:Nat):Int):=by push_cast;rfl
  rw[dx,dy,wX]at h;rw[N2,hi2];obtain⟨e,he,hiff⟩:=Mc A.in1 ⟨hp,g,d,tk,os⟩ x t y u;refine iJ (he prog w _ _ ?_);cases e with
  |true =>
   rw[oz (hiff.mp rfl)]at h
   wp_walk
   rw[hc];exact⟨jQ plain_eq_loop _,jf entry_eq_loop (by
    rw[Around.under_plainId plain_eq_loop _];exact ih (i+1) (by lia) (by lia) (by lia) prog w A R _ ⟨hl,hb,h⟩)⟩
  |false =>
   rw[oB (λq=>absurd (hiff.mpr q) aR)]at h
   have hri:=Kv A.in1 ⟨hp,g,d,tk,os⟩ x t y u prog w
   wp_walk using wpAny_loadPart' hl,wpAny_loadPart' hb
   rw[N2,hi2]
   wp_walk using hri
   exact h
theorem DS(l b:Addr) (items items2:Array Value) (n n2:Nat) (dd dd2:Option Addr) (sl sl2:Array (Option Value)) (ns ms:List Int) (hi:jd items.toList ns) (hj:jd items2.toList ms) :
  Meets (Builtin.«list.__lt__» ⟨[.ref l,.ref b],[]⟩)
   (λ_ R s=>s.heap.get? l=some { cls:=.type "list", dict:=dd,data:=.seq items n,slots:=sl }/\s.heap.get? b=some { cls:=.type "list", dict:=dd2,data:=.seq items2 n2,slots:=sl2 } /\
    R (.ok (.ret (.bool (rF ns ms)))) s):=by
 intro prog w A R s h;obtain⟨hp,g,d,tk,os⟩:=s;obtain⟨hl,hb,h⟩:=h;have f3:=AutoSeq1.sub_list_list
 wp_walk using wpAny_loadPart' hl,wpAny_loadPart' hb
 exact⟨jQ plain_eq_loop _,jf entry_eq_loop (by
  rw[Around.under_plainId plain_eq_loop _];exact DT l b items items2 n n2 dd dd2 sl sl2 ns ms hi hj _ 0 rfl (aV _) (aV _) prog w A R _ ⟨hl,hb,h⟩)⟩
end
end HT
namespace Mr
open PySem PySem.Spec PyProof.Rows L2
section
open HT
theorem Bc:∀xs ys:List Int,rF xs ys=true->rF ys xs=false
 | [],[],_=>rfl
 | [],_::_,_=>rfl
 |_::_,[],h=>by cases h
 |x::xs,y::ys,h=>by
  rw[wX]at h ⊢
  by_cases e:x=y
  .rw [oz e]at h;rw[oz e.symm];exact Bc xs ys h
  .rw [oB e]at h;rw[oB (Ne.symm e)];have h':x<y:=of_decide_eq_true h;exact decide_eq_false (by lia)
theorem zT:∀xs ys zs:List Int,rF ys xs=false->rF zs ys=false->rF zs xs=false
 | [],[],[],_,_=>rfl
 | [],[],_::_,_,h=>by exact h
 | [],_::_,[],_,h=>by cases h
 | [],_::_,_::_,_,_=>rfl
 |_::_,[],_,h,_=>by cases h
 |_::_,_::_,[],_,h=>by cases h
 |x::xs,y::ys,z::zs,h1,h2=>by
  rw[wX]at h1 h2 ⊢
  by_cases e1:y=x
  .rw [oz e1]at h1;subst e1
   by_cases e2:z=y
   .rw [oz e2]at h2 ⊢;exact zT xs ys zs h1 h2
   .rw [oB e2]at h2 ⊢;exact h2
  .rw [oB e1]at h1;have h1':¬ y<x:=of_decide_eq_false h1
   by_cases e2:z=y
   .rw [oB (by lia)]
    exact decide_eq_false (by lia)
   .rw [oB e2]at h2;have h2':¬ z<y:=of_decide_eq_false h2;rw[oB (by lia)]
    exact decide_eq_false (by lia)
theorem EM:∀xs ys:List Int,rF xs ys=false->rF ys xs=false->xs=ys
 | [],[],_,_=>rfl
 | [],_::_,h,_=>by cases h
 |_::_,[],_,h=>by cases h
 |x::xs,y::ys,h1,h2=>by
  rw[wX]at h1 h2
  by_cases e:x=y
  .rw [oz e]at h1;rw[oz e.symm]at h2;rw[e,EM xs ys h1 h2]
  .rw [oB e]at h1;rw[oB (Ne.symm e)]at h2;have h1':¬ x<y:=of_decide_eq_false h1;have h2':¬ y<x:=of_decide_eq_false h2;lia
def Pt(x y:List Int):Bool:=!HT.rF y x
theorem Ke(x y z:List Int) (h1:Pt x y=true) (h2:Pt y z=true):Pt x z=true:=by
 unfold Pt at *;simp only[gO]at *;exact zT x y z h1 h2
theorem J3(x y:List Int):(Pt x y || Pt y x)=true:=by
 unfold Pt;cases h:HT.rF y x with
 |false=>rfl
 |true=>rw[Bc y x h];rfl
def zK(rs:List (List Int)):List (List Int):=rs.mergeSort Pt
theorem tV(rs:List (List Int)):(zK rs).Perm rs:=gD _ _
theorem Ho(rs:List (List Int)):(zK rs).Pairwise (λx y=>HT.rF y x=false):=by
 refine(fU Ke J3 rs).imp λ{a b} h=>?_
 unfold Pt at h;simpa using h
theorem Cr:∀{xs ys:List (List Int)},xs.Perm ys->xs.Pairwise (λx y=>HT.rF y x=false)->ys.Pairwise (λx y=>HT.rF y x=false)->xs=ys
 |xs,ys,hp,h1,h2=>aQ.eq_of_pairwise (λa b _ _ e1 e2=>(EM b a e1 e2).symm) h1 h2 hp
theorem Rh{xs rs:List (List Int)}(hp:xs.Perm rs) (h:xs.Pairwise (λx y=>HT.rF y x=false)):xs=zK rs :=
 Cr (hp.trans (tV rs).symm) h (Ho rs)
theorem BX(rs:List (List Int)):(zK rs).length=rs.length:=(tV rs).length_eq
def rS(ns:List Int):List Int:=ns.mergeSort (λx y=>decide (x<=y))
theorem uA(ns:List Int):(rS ns).Perm ns:=gD _ _
theorem Al(ns:List Int):(rS ns).Pairwise (·<=·):=by
 refine(fU (le:=λx y=>decide (x<=y)) (λa b c h1 h2=>?_) (λa b=>?_) ns).imp λ{a b} h=>by simpa using h
 .simp only [decide_eq_true_eq]at *;lia
 .simp only [Bool.or_eq_true,decide_eq_true_eq];lia
theorem HF{xs ns:List Int}(hp:xs.Perm ns) (h:xs.Pairwise (·<=·)):xs=rS ns :=
 aQ.eq_of_pairwise (λa b _ _ e1 e2=>Int.le_antisymm e1 e2) h (Al ns) (hp.trans (uA ns).symm)
end
def qJ(H:Hp) (ps:List Addr) (rs:List (List Int)):Prop:=ps.map H=rs.map (λr=>some (HO.lst (r.map V.int)))
theorem qJ.nil{H:Hp}:qJ H [] []:=rfl
theorem qJ.length{H:Hp}{ps:List Addr}{rs:List (List Int)}(h:qJ H ps rs):ps.length=rs.length:=by
 have:=congrArg bL h;simpa using this
theorem qJ.cons_iff{H:Hp}{ps:List Addr}{rs:List (List Int)}{p:Addr}{r:List Int}:qJ H (p::ps) (r::rs)↔H p=some (.lst (r.map V.int))/\qJ H ps rs:=by
 unfold qJ;rw[aC,aC,List.cons.injEq]
theorem qJ.get{H:Hp}{ps:List Addr}{rs:List (List Int)}(h:qJ H ps rs) {i:Nat}{p:Addr}(e:ps[i]?=some p):∃r,rs[i]?=some r/\H p=some (.lst (r.map V.int)):=by
 have:=congrArg (λl=>l[i]?) h
 simp only[gMq,e,fk]at this;cases er:rs[i]? with
 |none=>rw[er]at this;cases this
 |some r=>rw[er]at this;exact⟨r,rfl,aU.inj this⟩
theorem qJ.mem{H:Hp}{ps:List Addr}{rs:List (List Int)}(h:qJ H ps rs) {p:Addr}(hp:p∈ps):∃r,r∈rs/\H p=some (.lst (r.map V.int)):=by
 obtain⟨i,hi⟩:=List.getElem?_of_mem hp;obtain⟨r,er,e⟩:=h.get hi;exact⟨r,mGq er,e⟩
theorem qJ.keep{H H':Hp}{ps:List Addr}{rs:List (List Int)}(h:qJ H ps rs) (k:∀p∈ps,H' p=H p):qJ H' ps rs:=by
 unfold qJ at *;rw[←h];exact mCq k
theorem qJ.same{H H':Hp}{ps:List Addr}{rs:List (List Int)}(h:qJ H ps rs) (s:ou H H'):qJ H' ps rs :=
 h.keep λp hp=>by
  obtain⟨r,_,e⟩:=h.mem hp;rw[s _ _ e,e]
def XG:V->Int
 | .int i=>i
 |_=>0
def yA(H:Hp) (p:Addr):List Int:=match H p with
 |some (.lst xs)=>xs.map XG
 |_=>[]
theorem FC{H:Hp}{p:Addr}{r:List Int}(h:H p=some (.lst (r.map V.int))):yA H p=r:=by
 unfold yA;rw[h];simp only[mPq];exact List.map_id'' (λ_=>rfl) r
theorem qJ.fn{H:Hp}{ps:List Addr}{rs:List (List Int)}(h:qJ H ps rs):rs=ps.map (yA H):=by
 induction rs generalizing ps with
 |nil =>
  have:=h.length;have:ps=[]:=bZ.mp this;rw[this];rfl
 |cons r rs ih =>
  cases ps with
  |nil=>have:=h.length;simp at this
  |cons p ps =>
   obtain⟨h1,h2⟩:=qJ.cons_iff.mp h;rw[aC,←ih h2,FC h1]
theorem qJ.fn_row{H:Hp}{ps:List Addr}{rs:List (List Int)}(h:qJ H ps rs) {p:Addr}(hp:p∈ps):H p=some (.lst ((yA H p).map V.int)):=by
 obtain⟨r,_,e⟩:=h.mem hp;rw[FC e];exact e
theorem qJ.of_fn{H:Hp}{ps:List Addr}(h:∀p∈ps,H p=some (.lst ((yA H p).map V.int))):qJ H ps (ps.map (yA H)):=by
 unfold qJ;rw[mPq];exact mCq h
theorem qJ.perm{H:Hp}{ps qs:List Addr}{rs:List (List Int)}(h:qJ H ps rs) (hp:qs.Perm ps):∃ts,qJ H qs ts/\ts.Perm rs/\ts=qs.map (yA H) :=
 ⟨_,qJ.of_fn λp m=>h.fn_row (hp.mem_iff.mp m),by rw[h.fn];exact hp.map _,rfl⟩
theorem CM:∀{ps:List Addr}{vs:List Value},oQ (ps.map V.ref) vs->vs=ps.map bc
 | [],vs,r=>by cases r;rfl
 |p::ps,vs,r=>by
  rw[aC]at r;cases r with
  |cons h1 h2 =>
   have e:_=bc p:=h1;rw[e,CM h2];rfl
theorem Dg:∀(ps:List Addr),oQ (ps.map V.ref) (ps.map bc)
 | []=>.nil
 |p::ps=>.cons rfl (Dg ps)
def zM:Value->Addr
 | .ref p=>p
 |_=>0
def intOf:Value->Int
 | .int i _=>i
 |_=>0
theorem HS{vs:List Value}{ns:List Int}(h:jd vs ns):ns=vs.map intOf/\∀v∈vs,∃a t,v = .int a t:=by
 induction h with
 |nil=>exact⟨rfl,λv hv=>by cases hv⟩
 |cons a t _ ih =>
  refine⟨by rw[aC,←ih.1];rfl,λv hv=>?_⟩
  rcases aj.mp hv with rfl|hv
  .exact ⟨a,t,rfl⟩
  .exact ih.2 v hv
theorem vals_ints:∀{vs:List Value},(∀v∈vs,∃a t,v = .int a t)->oQ ((vs.map intOf).map V.int) vs
 | [],_=>.nil
 |v::vs,h=>by
  obtain⟨a,t,rfl⟩:=h _ (au ..);exact .cons ⟨t,rfl⟩ (vals_ints λv hv=>h v (mCo _ hv))
theorem Ph{M:kJ}{A:Around}{E:Value->Shared->Prop}{s:Shared}{vs:List Value}{T:String}{Q:jl->Shared->Prop}(h2:2<=vs.length) (hT:∀v∈vs,W.Looks M s.heap (typeOf v) (.type T)) (hT1:(cJ T != cJ "tuple")=true) (hT2:(cJ T == cJ T)=true) (h:Q jJ s) :
  iM M A (mi vs.toArray) Q E s:=W.kas_kind h2 hT hT1 hT2 h
def VO(x y:iK):Bool:=match x.1,y.1 with
 | .int a _,.int b _=>decide (a<b)
 |_,_=>false
theorem Ui(prog:iT) (w:iU) (A:Around) (s:Shared):MrS.yd prog w A s jJ (λx=>∃a t,x.1 = .int a t) VO where
 ask:=by
  rintro⟨_,x⟩ ⟨_,y⟩ ⟨a,t,e1⟩ ⟨b,u,e2⟩ E Q q;dsimp only at e1 e2;subst e1 e2;rw[keyLt'_oneType];exact oneLt_int q
 asym:=by
  rintro⟨_,x⟩ ⟨_,y⟩ ⟨a,t,e1⟩ ⟨b,u,e2⟩ h;dsimp only at e1 e2;subst e1 e2;have h':a<b:=of_decide_eq_true h;exact decide_eq_false (by lia)
 trans:=by
  rintro⟨_,x⟩ ⟨_,y⟩ ⟨_,z⟩ ⟨a,t,e1⟩ ⟨b,u,e2⟩ ⟨c,v,e3⟩ h1 h2;dsimp only at e1 e2 e3;subst e1 e2 e3;have h1':¬ b<a:=of_decide_eq_false h1;have h2':¬ c<b:=of_decide_eq_false h2;exact decide_eq_false (by lia)
def WH(r:Addr->List Int) (x y:iK):Bool:=match x.1,y.1 with
 | .ref p,.ref q=>HT.rF (r p) (r q)
 |_,_=>false
theorem Wj{prog:iT}{w:iU}{A:Around}{s:Shared}{ps:List Addr}{r:Addr->List Int}(hu:A.units<jO)
  (h:∀p∈ps,∃vs:List Value,PlainL s.heap p vs.toArray/\jd vs (r p)):MrS.yd prog w A s jJ (λx=>∃p,x.1 = .ref p/\p∈ps) (WH r) where
 ask:=by
  rintro⟨_,x⟩ ⟨_,y⟩ ⟨p,e1,hp⟩ ⟨q,e2,hq⟩ E Q k;dsimp only at e1 e2;subst e1 e2;obtain⟨vs,⟨o,n,ho,hc,hd0,hd⟩,hi⟩:=h p hp;obtain⟨ws,⟨o2,n2,ho2,hc2,hd02,hd2⟩,hj⟩:=h q hq;obtain⟨cls,dd,data,sl⟩:=o;obtain⟨cls2,dd2,data2,sl2⟩:=o2;simp only at hc hd0 hd hc2 hd02 hd2;subst hc hd0 hd hc2 hd02 hd2;rw[keyLt'_oneType,oneLt'_eq];simp only[if_true];refine iJ (wpAny_cRoomFor hu ?_);refine iJ (wpAny_callSpecialIfBound?_slot ⟨_,ho,rfl⟩ F.slot_list_lt (kB F.slot_list_lt ⟨_,ho,rfl⟩ F.entry_list_lt (F.args_list_lt_2 _ _)
   (HT.DS p q vs.toArray ws.toArray n n2 none none sl sl2 (r p) (r q) (by simpa using hi) (by simpa using hj)) ⟨ho,ho2,?_⟩))
  exact je k
 asym:=by
  rintro⟨_,x⟩ ⟨_,y⟩ ⟨a,e1,_⟩ ⟨b,e2,_⟩ h;dsimp only at e1 e2;subst e1 e2;exact Bc _ _ h
 trans:=by
  rintro⟨_,x⟩ ⟨_,y⟩ ⟨_,z⟩ ⟨a,e1,_⟩ ⟨b,e2,_⟩ ⟨c,e3,_⟩ h1 h2;dsimp only at e1 e2 e3;subst e1 e2 e3;exact zT _ _ _ h1 h2
section
variable {X:Cx}
theorem Ey(hu:X.A.units+64<jO):sF X (.builtin "sorted") (λxs H Q=>∃(a:Addr) (ps:List Addr) (rs:List (List Int)),xs=[.ref a]/\qS X.K H a (ps.map V.ref)/\qJ H ps rs /\
  ∀p qs,H p=none->qs.Perm ps->qJ (pX H p (.lst (qs.map V.ref))) qs (zK rs)->Q (.ref p) (pX H p (.lst (qs.map V.ref)))):=by
 intro nA s σ H xs us Q I r h;obtain⟨a,ps,rs,rfl,hS,hE,q⟩:=h;obtain⟨u,rfl,ru⟩:=xw r;cases ru;obtain⟨its,rv,hl,hz⟩:=I.list hS;have ei:=CM rv;subst ei;have hrow:∀p∈ps,∃vs:List Value,PlainL s.heap p vs.toArray/\jd vs (yA H p):=λp hp=>by
  obtain⟨its,rv,pl,_⟩:=I.list (qS.of (hE.fn_row hp));exact⟨its,pl,yS rv⟩
 have keepL:∀(s':Shared),(∀b o,s.heap.get? b=some o->s'.heap.get? b=some o)->∀p∈ps,∃vs:List Value,PlainL s'.heap p vs.toArray/\jd vs (yA H p):=λs' k p hp=>by
  obtain⟨vs,⟨o,n,ho,rest⟩,hi⟩:=hrow p hp;exact⟨vs,⟨o,n,k _ _ ho,rest⟩,hi⟩
 refine MrS.GY (Pk:=λx=>∃p,x.1 = .ref p/\p∈ps) (lt:=WH (yA H)) hl.isList (by simpa using hz) (λs' k=>⟨λh2 Q q=>?_,Wj (by show X.A.units+1+1<jO;lia) (keepL s' k)⟩) (λv m=>?_) λout h' n' o1 o2 o3 o4=>?_
 .refine Ph (T := "list") h2 (λv hv=>?_) (by rfl) (by rfl) q
  obtain⟨p,hp,rfl⟩:=mMq.mp hv;obtain⟨vs,pl,_⟩:=keepL s' k p hp;intro A Q E s2 k2 q2;obtain⟨o,ho,hc,_⟩:=pl.isList;exact mv (T := "list") ⟨o,k2 _ _ ho,hc⟩ q2
 .obtain ⟨p,hp,rfl⟩:=mMq.mp m;exact⟨p,rfl,hp⟩
 .have ho:∀v∈out,∃p∈ps,v = .ref p:=λv m=>by
   obtain⟨p,hp,rfl⟩:=mMq.mp (o1.mem_iff.mp m);exact⟨p,hp,rfl⟩
  have eo:out=(out.map zM).map bc:=by
   rw[mPq];have e:=mCq (l:=out) (f:=id) (g:=bc∘zM) λv hv=>by
    obtain⟨p,_,rfl⟩:=ho v hv;rfl
   rw[←e,fG]
  have hq:(out.map zM).Perm ps:=by
   have:=o1.map zM;rw[mPq,show zM∘bc=id from rfl,fG]at this
   exact this
  have hp:H (s.heap.objs.size+1)=none:=I.hok.fresh (bH _);generalize out.map zM=qs at eo hq;obtain⟨ts,e1,e2,e3⟩:=hE.perm hq;have es:ts=zK rs:=by
   refine Rh e2 ?_;rw[e3,cf];rw[eo,cf]at o2;exact o2
  refine⟨.ref (s.heap.objs.size+1),_,I.laid (t':=s.toks) o3 (bH _) (show qr X.prog X.w _ h' _ (.lst (qs.map V.ref)) from ⟨?_,out,n',?_,o4⟩),rfl,q _ qs hp hq (by rw[←es];exact e1.same (sQ hp))⟩
  .rw [lMq,hq.length_eq];simpa using hz
  .rw [eo];exact Dg qs
def vK(r:List Int):PyData:=.list (r.map PyData.int)
def zf(rs:List (List Int)):PyData:=.list (rs.map vK)
theorem Ay:∀rs:List (List Int),PyData.canLayAll0 (rs.map vK)=true
 | []=>by simp[PyData.canLayAll0]
 |r::rs=>by simp[PyData.canLayAll0,vK,PyData.canLay0,W.canLayAll0_ints r,Ay rs]
theorem A8:∀rs:List (List Int),PyData.depthAll (rs.map vK)<=3
 | []=>by simp[PyData.depthAll]
 |r::rs=>by
  have h1:=A8 rs;have h2:=W.depthAll_ints r;simp only[aC,PyData.depthAll,vK,PyData.depth];lia
theorem Az(rs:List (List Int)):SeqAt.shaped (zf rs)=true:=by
 have h1:=A8 rs;have h2:PyData.depth (zf rs)<=64:=by simp only[zf,PyData.depth];lia
 show (PyData.canLay0 (zf rs) && decide (PyData.depth (zf rs)<=64))=true;rw[dR];exact⟨by simp only[zf,PyData.canLay0];exact Ay rs,decide_eq_true h2⟩
theorem Bu:∀rs ts:List (List Int),SeqAt.noMixAll (rs.map vK) (ts.map vK)=true
 | [],[]=>by simp[SeqAt.noMixAll]
 | [],_::_=>by simp[SeqAt.noMixAll]
 |_::_,[]=>by simp[SeqAt.noMixAll]
 |r::rs,t::ts=>by simp[SeqAt.noMixAll,vK,SeqAt.noMix,W.noMix_ints r t,Bu rs ts]
theorem C3:∀rs ts:List (List Int),PySem.Spec.sameAll (rs.map vK) (ts.map vK)=decide (rs=ts)
 | [],[]=>by simp[PySem.Spec.sameAll]
 | [],_::_=>by simp[PySem.Spec.sameAll]
 |_::_,[]=>by simp[PySem.Spec.sameAll]
 |r::rs,t::ts=>by
  simp only[aC,PySem.Spec.sameAll,vK,PySem.Spec.same,W.same_ints r t];rw[C3 rs ts]
  by_cases h:r=t <;> simp[h]
end
end Mr
namespace Mr
open PySem L2
structure Bt (mg:Str->Option Value):Prop where
 len:mg "len" = none
 min:mg "min" = none
 max:mg "max" = none
 abs:mg "abs" = none
 all:mg "all" = none
 sorted:mg "sorted" = none
 isi:mg "isinstance" = none
 list:mg "list" = none
 int:mg "int" = none
 bool:mg "bool" = none
 str:mg "str" = none
 dict:mg "dict" = none
 zip:mg "zip" = none
 enum:mg "enumerate" = none
 range:mg "range" = none
 reversed:mg "reversed" = none
structure Fn (P:iT) (w:iU) (K:W.Frag) (mg:Str->Option Value) (base:Heap) (k:Nat) (x:Str) (st:Stmt) (ps:List Str) (sp:Sp) (f:Addr) (fd:ja):Prop where
 D:AE K mg x st ps f fd
 ok:yW P w K mg base Si k f fd ps sp
theorem uu.units65{k:Nat}{A:Around}(r:uu k A):A.units+65<jO:=by have:=r.un;lia
section
variable {X:Cx}{k:Nat}{f:Addr}{fd:ja}{ps:List Str}{sp:Sp}{x:Str}{p pos:Pos}{e:Expr}{es:List Expr}{t:TA}{st:Stmt}
theorem qb(G:Fn X.prog X.w X.K X.mg X.base k x st ps sp f fd) (hr:uu k X.A) (ha:PA X (e::es) t) (hg:Gl X x:=by rfl) (hdb:(x == ("__debug__" : Str))=false:=by decide)
  (he:iW (e::es) X.env=(false,eval e X.env)::iW es X.env:=by rfl) (hpl:(jS pos (iW es X.env)).any (·.1)=false:=by rfl) :
  PE X (.Call (.Name x p) (e::es) [] pos) (Ao sp [] E0 t):=Ec G.ok hr hg G.D.m G.D.F.kp G.D.b .nil U9 ha hdb he hpl
end
section
variable (K:W.Frag)
def Iz:Sp:=λvs H Q _=>∃(a:Addr) (ns:List Int),vs=[.ref a]/\qS K H a (ns.map V.int)/\ns.length<=63/\∀H',Q (.bl true) H'
end
theorem tH{α:Type}{l:List α}{i:Nat}{x:α}(h:l[i]?=some x):l.take (i+1)=l.take i++[x]:=by
 rw[bw,h];rfl
end Mr
namespace Xe
open PySem PySem.Spec PySem.W PyProof.Rows L2 Mr
abbrev St:=L2.St
abbrev Wt(K:Frag) (C:Addr):Bool:=findIn K (.ref C) "__setattr__" == some (some (.builtin "object.__setattr__")) && findIn K (.ref C) "__getattribute__" == some (some (.builtin "BaseException.__getattribute__")) &&
 findIn K (.ref C) "__getattr__" == some none && findIn K (.ref C) "__class__" == some (some (.builtin "object.__class__"))
def AI(K:Frag) (c:Str) (C:Addr) (bm:List Value):Bool:=match K.lookup C with
 |some ⟨.type "type", _,.cls cd,sl⟩=>(match sl.toList with
  | [_,_,_,_,some (.builtin n),_]=>cd.name == c && cd.mro == .ref C::bm && n == "ValueError.__new__" && !cd.hasDel && cd.hasDict && tailIn K DN bm
  |_=>false)
 |_=>false
structure XC (K:Frag) (c:Str) (C:Addr) (bm:List Value):Prop where
 obj:∃N q bs sn sub ab col dd k0 k1 k2 k3 k5,K.lookup C=some (lg c q C N bs bm true sn sub ab col dd k0 k1 k2 k3 k5 "ValueError.__new__")
 cls:∃cd,clsIn K C=some cd/\cd.mro = .ref C::bm/\cd.name=c
 tail:∀h:Heap,K.In h->OwnTail h DN bm
theorem QA{K:Frag}{c:Str}{C:Addr}{bm:List Value}(e:AI K c C bm=true):XC K c C bm:=by
 unfold AI at e;split at e
 .rename_i dd cd sl ho;split at e
  .rename_i k0 k1 k2 k3 n k5 hs;simp only[dR,beq_iff_eq,gO]at e;obtain⟨⟨⟨⟨⟨e1,e2⟩,e3⟩,hdel⟩,hdc⟩,ht⟩:=e;have hc:clsIn K C=some cd:=by unfold clsIn;rw[ho]
   obtain⟨nm,bs,mro,ns,qn,hd,sn,sub,ab,col,del⟩:=cd;dsimp only at e1 e2 hdel hdc;subst e1 e2 e3 hdel hdc;have hsl:sl=#[k0,k1,k2,k3,some (.builtin "ValueError.__new__"),k5]:=by
    obtain⟨l⟩:=sl;simp only at hs;rw[hs]
   subst hsl;exact⟨⟨ns,qn,bs,sn,sub,ab,col,dd,k0,k1,k2,k3,k5,ho⟩,⟨_,hc,rfl,rfl⟩,λh X=>tail_of_in X ht⟩
  .cases e
 .cases e
structure Kp (K:Frag) (c:Str) (C M:Addr):Prop where
 nm:nsIn K iS c=some (some (.ref C))
 nmM:nsIn K iS "MapError" = some (some (.ref M))
 xc:AI K c C (.ref M::DN)=true
 xm:AI K "MapError" M DN=true
 lk:Wt K C=true
def Wn(K:Frag) (c:Str) (C:Addr):Prop:=nsIn K iS c=some (some (.ref C))/\((∃M,Kp K c C M)∨(c = "MapError" /\ AI K "MapError" C DN=true))
theorem Kp.one{K:Frag}{c:Str}{C M C' M':Addr}(a:Kp K c C M) (b:Kp K c C' M'):C=C'/\M=M':=by
 have e1:=a.nm.symm.trans b.nm;have e2:=a.nmM.symm.trans b.nmM;simp at e1 e2;exact⟨e1,e2⟩
def Km(e C:Addr) (od:Option Addr):HO:=.ext λh=>∃o vs,h.get? e=some o/\o.cls = .ref C/\o.dict=od/\o.data = .fields vs
def UU(e C:Addr) (od:Option Addr):HO:=.ext λh=>∃t,h.get? e=some (D4 C t od)
section
variable {P:iT}{w:iU}{H:Hp}{h:Heap}{e C:Addr}{od:Option Addr}
theorem QR{o:Obj}{vs:Array Value}(h1:h.get? e=some o) (h2:o.cls = .ref C) (h3:o.dict=od) (h4:o.data = .fields vs):qr P w H h e (Km e C od) :=
 ⟨⟨o,vs,h1,h2,h3,h4⟩,⟨o,h1⟩,λg1 g2 ⟨o',vs',a,b⟩ k=>⟨o',vs',k _ a,b⟩⟩
theorem Rj{t:Addr}(h1:h.get? e=some (D4 C t od)):qr P w H h e (UU e C od):=⟨⟨t,h1⟩,⟨_,h1⟩,λg1 g2 ⟨t',a⟩ k=>⟨t',k _ a⟩⟩
theorem OS(ok:xu P w H h) (q:H e=some (UU e C od)):∃t,h.get? e=some (D4 C t od):=(show qr P w H h e (UU e C od) from ok e _ q).1
theorem P4(ok:xu P w H h) (q:H e=some (Km e C od)):∃o vs,h.get? e=some o/\o.cls = .ref C/\o.dict=od/\o.data = .fields vs:=(show qr P w H h e (Km e C od) from ok e _ q).1
theorem Nu{o:HO}(q:H e=some o):pX H e o=H:=by
 funext b
 by_cases hb:b=e
 .subst hb;rw[oh,q]
 .rw [nY hb]
end
def Qi(P:iT) (w:iU):Ko:=λouter H s E ev s'=>∃e C od H' o vs,ev = .ref e/\s'.os=s.os/\ke s'.gens/\Un (Gz outer) [] H H' s.heap s'.heap/\xu P w H' s'.heap/\H' e=some (Km e C od) /\
 s'.heap.get? e=some o/\o.data = .fields vs/\CZ s'.heap vs/\E (.ref e) od H'
theorem QJ{P:iT}{w:iU}{X:Cx}:zL (Qi P w) X E0:=λ_ _ _ _ _ _ _ h=>by
 obtain⟨_,_,_,_,_,_,_,_,_,_,_,_,_,_,_,z⟩:=h;exact z.elim
def LX(X:Cx) (E:XK):Prop:=∀(nA:List (Addr×Obj)) (σ:St) (H:Hp) (s:Shared) (e C:Addr) (od:Option Addr) (o:Obj) (vs:Array Value) (φ:Heap->Prop),Inv X nA σ H s->H e=some (.ext φ)->s.heap.get? e=some o ->
 o.cls = .ref C->o.dict=od->o.data = .fields vs->CZ s.heap vs->E (.ref e) od (pX H e (Km e C od))->X.xe (.ref e) s
section
variable {P:iT}{w:iU}{H:Hp}{h h':Heap}{e C T:Addr}{od:Option Addr}{o:Obj}{vs:Array Value}{fs:List Addr}{φ:Heap->Prop}
theorem Ku(N:DA fs e o T h h') (hE:H e=some (.ext φ)):Un fs [] H (pX H e (Km e C od)) h h':=by
 have ne:∀b,H b=none->b≠e:=λb z q=>by rw[q,hE]at z;cases z
 have nE:∀(b:Addr) (ob:HO),H b=some ob->(∀φ,ob ≠ .ext φ)->b≠e:=λb ob z k q=>by rw[q,hE]at z;cases z;exact k _ rfl
 refine⟨λb ob z n hb _=>N.keep b ob (ne b n) hb z,λb ob z n _ _=>N.slot b ob (ne b n) z,λb ob z n _=>by rw[nY (ne b n)];exact n,λb ob z _=>?_,
  λb xs z=>by rw[nY (nE b _ z λφ w=>by cases w)];exact z,λb o' u' z=>by rw[nY (nE b _ z λφ w=>by cases w)];exact z,
  λb ps z=>⟨#[],by rw[nY (nE b _ z λφ w=>by cases w),z];simp⟩⟩
 by_cases hb:b=e
 .subst hb;exact⟨_,N.exc⟩
 .obtain ⟨sl,q⟩:=N.slot b ob hb z;exact⟨_,q⟩
theorem KS(N:DA fs e o T h h') (hE:H e=some (.ext φ)) (ok:xu P w H h) (hf:∀b∈fs,H b=none) (hc:o.cls = .ref C) (hd:o.dict=od) (hdat:o.data = .fields vs):xu P w (pX H e (Km e C od)) h':=by
 have nE:∀(b:Addr) (ob:HO),H b=some ob->(∀φ,ob ≠ .ext φ)->b≠e:=λb ob z k q=>by rw[q,hE]at z;cases z;exact k _ rfl
 have nf:∀b ob,H b=some ob->b∉fs:=λb ob z q=>by rw[hf b q]at z;cases z
 intro b u z
 by_cases hb:b=e
 .subst hb;rw[oh]at z;cases z;refine QR N.exc ?_ ?_ (Obj.data_mapFields hdat _)
  .rw [Obj.cls_mapFields];exact hc
  .obtain ⟨_,_,dt,_⟩:=o;cases dt <;> exact hd
 .rw [nY hb]at z;refine(ok b u z).stay (λc' v' hc r=>N.keep c' v' ?_ ?_ r) (λc' r=>?_) λc' xs r=>?_
  .rcases hc with rfl|hc
   .exact hb
   .exact nE c' _ hc λφ w=>by cases w
  .rcases hc with rfl|hc
   .exact nf _ _ z
   .exact nf _ _ hc
  .rw [nY (nE c' _ r λφ w=>by cases w)];exact r
  .rw [nY (nE c' _ r λφ w=>by cases w)];exact r
theorem Fd(N:DA fs e o T h h') (hdat:o.data = .fields vs) (hz:1<vs.size):∃o' vs',h'.get? e=some o'/\o'.data = .fields vs'/\vs'[1]?=some (.ref T)/\CZ h' vs':=by
 obtain⟨oT,ts,h1,h2,h3⟩:=N.ent;have q:(vs.setIfInBounds 1 (bc T))[1]?=some (.ref T):=by simp[hz]
 exact⟨_,_,N.exc,Obj.data_mapFields hdat _,q,.inr ⟨T,oT,ts,q,h1,h2,h3⟩⟩
theorem Gj(q:CZ h vs):1<vs.size:=by
 rcases q with q|⟨_,_,_,q,_⟩ <;> exact(aD.mp q).1
end
section
variable {P:iT}{w:iU}{K:Frag}{mg:Str->Option Value}{base:Heap}{N:List Str}{qual:Str}{scope:jI}{f:Addr}{cd:Value}{A:Around}{outer:List Env}{s:Shared}{H:Hp}{E:XK}
theorem Dc:LX (Ei (Qi P w) P w K mg base N qual scope f cd A outer s H E) E:=by
 intro nA σ H1 s1 e C od o vs φ I hE ho hc hd hdat hq he;show iM (iO P w) (A.deeper (jz qual scope s.heap.objs.size f cd)) (leaving (jz qual scope s.heap.objs.size f cd) (.ref e)) _ _ s1;have fr:(A.deeper (jz qual scope s.heap.objs.size f cd)).frames=some (jz qual scope s.heap.objs.size f cd::outer):=I.ok.frames;have st:s1.heap.FunFrames base (jz qual scope s.heap.objs.size f cd::outer):=I.stack;refine UL fr st rfl ho hdat hq λh' T Nt=>?_
 have free:∀b∈(jz qual scope s.heap.objs.size f cd::outer).filterMap (·.frame),H1 b=none:=I.stkFree;have un:=Ku (C:=C) (od:=od) Nt hE;have ok:=KS (P:=P) (w:=w) Nt hE I.hok free hc hd hdat;obtain⟨o',vs',g1,g2,g3,g4⟩:=Fd Nt hdat (Gj hq);have B:Un (Gz outer) [] H H1 s.heap s1.heap:=I.base;have nL:∀b ob,s.heap.get? b=some ob->b∉Gz outer->b∉(jz qual scope s.heap.objs.size f cd::outer).filterMap (·.frame):=λb ob z nb m=>by
  rcases aj.mp (show b∈s.heap.objs.size::Gz outer from m) with q|q
  .rw [q]at z;exact absurd (ai z) (cA _)
  .exact nb q
 refine⟨e,C,od,pX H1 e (Km e C od),o',vs',rfl,I.os,I.bare,⟨λb ob z n hb hx=>un.keep b ob (B.keep b ob z n hb hx) (B.free b ob z n hx) (nL b ob z hb) hx,λb ob z n hb hx=>?_,λb ob z n hx=>?_,λb ob z hx=>?_,λb xs z=>un.tups b xs (B.tups b xs z),λb o1 u1 z=>un.frzs b o1 u1 (B.frzs b o1 u1 z),λb ps z=>?_⟩,ok,oh,g1,g2,g4,he⟩
 .obtain ⟨sl,q⟩:=B.slot b ob z n hb hx;obtain⟨sl',q'⟩:=un.any q (B.free b ob z n hx) hx;exact⟨sl',q'⟩
 .obtain ⟨o1,q⟩:=B.there b ob z hx;exact un.free b o1 q (B.free b ob z n hx) hx
 .obtain ⟨o1,q⟩:=B.there b ob z hx;exact un.there b o1 q hx
 .obtain ⟨m1,e1⟩:=B.tbls b ps z;obtain⟨m2,e2⟩:=un.tbls b _ e1;exact⟨m1++m2,by rw[e2,gG]⟩
theorem JG:zL (Qi P w) (Ei (Qi P w) P w K mg base N qual scope f cd A outer s H E) E:=by
 intro nA σ H1 s1 ev s2 I h;obtain⟨e,C,od,H',o,vs,rfl,os,bare,un,hok,hA,ho,hd,hq,hE⟩:=h;have I':=I.call' os un hok bare (λb z=>nomatch z)
 obtain⟨o',vs',a1,a2,a3,a4⟩:=P4 hok hA;rw[ho]at a1;cases a1;exact Dc nA σ H' s2 e C od o vs _ I' hA ho a2 a3 hd hq (by rw[Nu hA];exact hE)
theorem okX{x:Str}{st:Stmt}{fd:ja}{ps:List Str}{k:Nat}{sp:Sp}(F:P2 K x qual st f fd) (S:oY N ps (og st)) (len:∀vs H Q E,sp vs H Q E->vs.length=ps.length)
  (hbody:∀(tj:Value) (A:Around) (outer:List Env) (s:Shared) (H:Hp) (vs:List V) (Q:VK) (E:XK),uu k (A.deeper (jz qual (og st) s.heap.objs.size f tj))->sp vs H Q E ->
   ∃t,IT (Ei (Qi P w) P w K mg base N qual (og st) f tj A outer s H E) (sL st) t/\t { nx:=λ_ H'=>Q .non H',rt:=Q } (sZ N vs) H):yW P w K mg base (Qi P w) (k+1) f fd ps sp:=by
 obtain⟨oc,od,kV,doc,pm,an,tj,ct,osl,rfl,lk,hcd⟩:=F.ex;exact Qd lk hcd S len λA outer s H vs Q E hr hsp=>hbody tj A outer s H vs Q E hr hsp
end
section
variable {X:Cx}{E:XK}{c:Str}{C M:Addr}{e:Expr}{te:TE}{pos:Pos}
def WK(E:XK) (C:Addr) (te:TE):TS:=λ_ σ H=>te σ H λv H1=>∃e od,v = .ref e/\H1 e=some (UU e C od)/\E (.ref e) od (pX H1 e (Km e C od))
theorem Nn(rf:Kp X.K c C M) (hl:LX X E) (hc:X.calm=true) (he:PE X e te):PS X (.Raise (some e) none pos) (WK E C te):=by
 intro nA s σ H D I h;obtain⟨⟨N,q',bs,sn,sub,ab,col,dd,k0,k1,k2,k3,k5,hC⟩,_,T⟩:=QA rf.xc;rw[arm_exec_Raise];simp only[evalOpt,Option.map];refine iJ (kF (GO (C:=C) (nm:=c) (q:=q') (N:=N) (bs:=bs) (bm:=.ref M::DN) (hdct:=true) (sn:=sn) (sub:=sub) (ab:=ab) (col:=col) (dd:=dd) (k0:=k0) (k1:=k1) (k2:=k2) (k3:=k3) (k5:=k5) (newId := "ValueError.__new__") (by rw[fD,show DN.contains (cJ "BaseException")=true by decide,gL]) (I.ok.hd hc)
  (iJ (jc (he nA s σ H _ I h) (λv s3 h3=>iJ (kF (iN ?_))) λ_ _ x=>x))))
 obtain⟨v',H1,I1,r,ev,od,rfl,hx,hE⟩:=h3;obtain rfl:v=bc ev:=r;obtain⟨t0,ho⟩:=OS I1.hok hx;exact⟨ev,t0,od,rfl,I1.kIn _ _ hC,ho,hl nA σ H1 s3 ev C od _ _ _ I1 hx ho rfl rfl rfl (.inl rfl) hE⟩
end
structure Tq (P:iT) (w:iU) (K:Frag) (mg:Str->Option Value) (base:Heap) (k:Nat) (x:Str) (st:Stmt) (ps:List Str) (sp:Sp) (f:Addr) (fd:ja):Prop where
 D:AE K mg x st ps f fd
 ok:yW P w K mg base (Qi P w) k f fd ps sp
abbrev XH:=Addr->Addr->Option Addr->vX->St->Hp->Prop
end Xe
namespace Xe
open PySem
section
variable {prog:iT}{w:iU}{A:Around}{E:Value->Shared->Prop}{h:Heap}{g:Array GenState}{d:Drawn}{t:Nat}{os:OsState}
variable {nm q:Str}{C N:Addr}{bs bm:List Value}{hdct:Bool}{sn:List Str}{sub:List Value}{ab:Bool}{col:Option Bool}{dd:Option Addr}{k0 k1 k2 k3 k5:Option Value}
theorem AD(T:OwnTail h DN bm) {rest:List Value}{Q:Fin->Shared->Prop}
  (hC:h.get? C=some (lg nm q C N bs bm hdct sn sub ab col dd k0 k1 k2 k3 k5 "ValueError.__new__"))
  (hi:Lk (iO prog w) h (kz (.ref C) "__init__") (some (.builtin "ValueError.__init__")))
  (hq:∀h' e,ig h h' e (.ref C) rest->h.objs.size<=e->Q (.done (.ret (.ref e))) ⟨h',g,d,t,os⟩) (hrest:rest.length<=iR) :
  iM (iO prog w) A (Builtin.«type.__call__» ⟨.ref C::rest,[]⟩) Q E ⟨h,g,d,t,os⟩:=by
 have F:=PySem.F.excBase_ValueError
 repeat (first|with_reducible refine jK hC ?_|with_reducible refine wpAny_madeBy_exc hC ?_|wp_step)
 refine codeAny_call_builtin_code (Code.quiet_builtin _ F.quiet) (wpAny_check_new_subT F T hC ?_);refine codeAny_exc_new_subT F T hC ?_ hrest;show iM _ _ _ _ _ _;have hC₁:=ae { cls:=.ref C,data:=.fields #[.ref h.objs.size,.none,.none,.none,.bool false,.none] }
  (ae { cls:=.type "tuple", data:=.seq rest.toArray } hC)
 have hget:((h.push { cls:=.type "tuple", data:=.seq rest.toArray }).push
   { cls:=.ref C,data:=.fields #[.ref h.objs.size,.none,.none,.none,.bool false,.none] }).get? (h.objs.size+1)=some
   { cls:=.ref C,data:=.fields #[.ref h.objs.size,.none,.none,.none,.bool false,.none] }:=by heap_get
 have hcC:(bc C::bm).contains (.ref C)=true:=by simp
 have kk:∀b o,h.get? b=some o->((h.push { cls:=.type "tuple", data:=.seq rest.toArray }).push { cls:=.ref C,data:=.fields #[.ref h.objs.size,.none,.none,.none,.bool false,.none] }).get? b=some o:=λb o e=>ae _ (ae _ e)
 have T₁:=T.keeps (h':=(h.push { cls:=.type "tuple", data:=.seq rest.toArray }).push { cls:=.ref C,data:=.fields #[.ref h.objs.size,.none,.none,.none,.bool false,.none] })
  λb o e=>ae _ (ae _ e)
 unfold isInstance
 repeat (first|with_reducible refine jK hget ?_|(with_reducible refine mq hC₁ ?_;rw[hcC])|wp_step)
 show iM _ _ (kz (.ref C) _) _ _ _;refine hi _ _ _ _ kk ?_;refine jo (iJ (kX (F.init.bind _) ?_));refine iJ (lY (lV F.init.plain F.initEntry (wpAny_check_init_subT F T₁ hC₁ hget rfl ?_)))
 wp_walk
 refine hq _ _ ⟨λb o hb=>?_,dP (bH _),h.objs.size+2,?_,dP (by lia),?_⟩ (bH _)
 .rw [bf _ _ (cz (bE (ai hb)))];exact ae _ (ae _ (ae _ hb))
 .rw [cC _ (ae _ hget) rfl];simp only[dN];rfl
 .rw [bf _ _ (show h.objs.size+1≠h.objs.size+2 by lia)]
  exact Heap.get?_push_at (by simp only[dN]) rfl
theorem Hu(T:OwnTail h DN bm) {rest:List Value}{Q:Value->Shared->Prop}
  (hC:h.get? C=some (lg nm q C N bs bm hdct sn sub ab col dd k0 k1 k2 k3 k5 "ValueError.__new__"))
  (hi:Lk (iO prog w) h (kz (.ref C) "__init__") (some (.builtin "ValueError.__init__")))
  (hq:∀h' e,ig h h' e (.ref C) rest->h.objs.size<=e->Q (.ref e) ⟨h',g,d,t,os⟩) (hrest:rest.length<=iR) :
  iM (iO prog w) A (call (.ref C) rest) Q E ⟨h,g,d,t,os⟩:=by
 have f1:=tc_lookup;have f2:=tc_bind (.ref C);have hT:(⟨h,g,d,t,os⟩:Shared).TypeIs (.ref C) "type" := ⟨_,hC,rfl⟩;refine lY (kR ?_);show iM _ _ (callAny (.ref C) _) _ _ _
 repeat (any_goals (first|assumption|with_reducible refine jK hC ?_|wp_step))
 refine⟨rfl,?_⟩;refine codeAny_call_builtin_at (Code.quiet_builtin _ (by decide +kernel)) entry_typeCall (wpAny_check_type_call_sub hC (AD (hrest:=hrest) T hC hi λh' e hm hs=>?_))
 exact hq h' e hm hs
end
end Xe
namespace Xe
open PySem PySem.Spec PySem.W PyProof.Rows L2 Mr
def UI(K:Frag) (c:Str):TE:=λ_ H Q=>∃C M,Kp K c C M/\∀e,H e=none->Q (.ref e) (pX H e (UU e C none))
structure T1 (K:Frag) (mg:Str->Option Value) (c:Str) (C M:Addr):Prop where
 rf:Kp K c C M
 ini:findIn K (.ref C) "__init__" = some (some (.builtin "ValueError.__init__"))
 kp:keepIn K (.ref C)=true
 m:mg c=some (.ref C)
section
variable {X:Cx}{c:Str}{C M:Addr}{p pos:Pos}
theorem Sy(G:T1 X.K X.mg c C M) (hg:Gl X c:=by rfl) (hdb:(c == ("__debug__" : Str))=false:=by decide):PE X (.Call (.Name c p) [] [] pos) (UI X.K c):=by
 intro nA s σ H Q I h;refine jv (HI I hg G.m ?_ hdb);refine W.callWith_K0 I.kIn G.kp ?_;obtain⟨C',M',rf',q⟩:=h;obtain⟨rfl,rfl⟩:=G.rf.one rf';obtain⟨⟨N,q',bs,sn,sub,ab,col,dd,k0,k1,k2,k3,k5,hC⟩,_,T⟩:=QA G.rf.xc;obtain⟨hh,g,d,tk,os⟩:=s;refine Hu (rest:=[]) (T _ I.kIn) (I.kIn _ _ hC) (looks_findIn I.kIn G.ini) (λh' e hm hs=>?_) (by rw[jb];simp)
 obtain⟨t0,hx,_,_⟩:=hm.there;exact⟨.ref e,_,I.laid (t':=tk) hm.keeps hs (Rj hx),rfl,q e (I.hok.fresh hs)⟩
end
end Xe
namespace Xe
open PySem
end Xe
namespace Xe
open PySem PySem.Spec PySem.W PyProof.Rows L2 Mr
end Xe
namespace PySem.SCG
open PySem Builtin Builtin.Str
end PySem.SCG
namespace Mr
open PySem PySem.Spec PyProof.Rows L2
end Mr
namespace Mr
open PySem PyProof.Rows L2
section
variable {X:Cx}
def Mi(_ j:Int):Prop:=0<j/\j.natAbs.log2<9000
theorem K0:CK X (jZ .FloorDiv) (rI Mi λi j=>.int (i / j)):=T5 λi j _ _ _ _ _ hc q=>by
 have h1:(0:Int)<j:=hc.1;exact floordiv_int (by lia) (by rw[fE i (by lia)];exact q) (.inl (PyProof.noPylong_of_log2 hc.2))
end
end Mr
namespace Mr
open PySem L2
end Mr
namespace Mr
open PySem PySem.Calls PySem.Spec PyProof.Rows L2
section
variable {X:Cx}
def Rl(K:W.Frag) (x:V) (H:Hp) (T:String):Prop:=match x with
 | .int _=>T = "list" ∨ T = "tuple" ∨ T = "str"
 | .str _=>T = "list" ∨ T = "tuple"
 | .non=>T = "list" ∨ T = "tuple"
 | .ref p=>(T = "tuple" /\ ∃xs,qS K H p xs)∨(T = "list" /\ ∃xs,BR K H p xs)
 |_=>False
theorem xB:sF X (.builtin "isinstance") (λxs H Q=>∃x T,xs=[x,.ty T]/\Rl X.K x H T/\Q (.bl false) H):=by
 intro nA s σ H xs us Q I r h;obtain⟨x,T,rfl,e,q⟩:=h;obtain⟨u,v,rfl,rx,rT⟩:=L1 r;cases rT;cases x with
 |int i =>
  obtain⟨t,rfl⟩:=rx;rcases e with rfl|rfl|rfl
  .exact iY (jM (by decide +kernel) F.isi_meta_list F.sub_int_list) (show EP X nA σ Q (.bool false) { s with toks:=s.toks+1 } from ⟨.bl false,H,I.tok _,rfl,q⟩)
  .exact iY (jM (by decide +kernel) F.isi_meta_tuple F.sub_int_tuple) (show EP X nA σ Q (.bool false) { s with toks:=s.toks+1 } from ⟨.bl false,H,I.tok _,rfl,q⟩)
  .exact iY (jM (by decide +kernel) F.isi_meta_str F.sub_int_str) (show EP X nA σ Q (.bool false) { s with toks:=s.toks+1 } from ⟨.bl false,H,I.tok _,rfl,q⟩)
 |str i =>
  obtain⟨t,rfl⟩:=rx;rcases e with rfl|rfl
  .exact iY (lS (by decide +kernel) F.isi_meta_list F.sub_str_list) (show EP X nA σ Q (.bool false) { s with toks:=s.toks+1 } from ⟨.bl false,H,I.tok _,rfl,q⟩)
  .exact iY (lS (by decide +kernel) F.isi_meta_tuple F.sub_str_tuple) (show EP X nA σ Q (.bool false) { s with toks:=s.toks+1 } from ⟨.bl false,H,I.tok _,rfl,q⟩)
 |non =>
  cases rx;rcases e with rfl|rfl
  .exact iY (lu (by decide +kernel) F.isi_meta_list F.sub_NoneType_list) (show EP X nA σ Q (.bool false) { s with toks:=s.toks+1 } from ⟨.bl false,H,I.tok _,rfl,q⟩)
  .exact iY (lu (by decide +kernel) F.isi_meta_tuple F.sub_NoneType_tuple) (show EP X nA σ Q (.bool false) { s with toks:=s.toks+1 } from ⟨.bl false,H,I.tok _,rfl,q⟩)
 |ref p =>
  cases rx;rcases e with ⟨rfl,xs,hS⟩|⟨rfl,xs,hS⟩
  .obtain ⟨its,rv,pl,hz⟩:=I.list hS;exact iY (isinstance_false_list (by decide +kernel) F.isi_meta_tuple F.sub_list_tuple) ⟨pl.isList.typeIs,⟨.bl false,H,I.tok _,rfl,q⟩⟩
  .obtain ⟨its,rv,⟨o,ho,hc,_⟩,hz⟩:=I.tuple hS;exact iY (isinstance_false_tuple (by decide +kernel) F.isi_meta_list F.sub_tuple_list) ⟨⟨o,ho,hc⟩,⟨.bl false,H,I.tok _,rfl,q⟩⟩
 |_=>exact(show False from e).elim
end
end Mr
namespace MrS
open PySem PySem.W PyProof.Rows
section
variable {prog:iT}{w:iU}{A:Around}{E:Value->Shared->Prop}{s:Shared}{Pk:iK->Prop}{lt:iK->iK->Bool}{T:String}{r d:Addr}{n:Nat}{P:Nat->Value->Prop}{OK:Heap->Prop}
theorem Fu{Q:List Value->Shared->Prop}(K:KdlSrc prog w T r d n P OK) (hh:A.handled=none) (hok:OK s.heap) (hn:n<=iR)
  (h:∀h' tk (acc:Array Value),(∀b o,s.heap.get? b=some o->h'.get? b=some o)->s.heap.objs.size<h'.objs.size->ItemsOf P acc n->Q acc.toList { s with heap:=h',toks:=tk }) :
  iM (iO prog w) A (collect (.ref r)) Q E s:=by
 unfold collect;refine iJ (lF (jf lU ?_));show iM _ _ (do again (.builtin "list.__iadd__" ⟨[←mE [],.ref r],[]⟩)) _ _ s
 refine iJ (jP (iN ⟨Code.quiet_builtin _ (by decide +kernel),jf entry_list_iadd' ?_⟩))
 show iM _ _ (Builtin.List.listExtendWith (.ref s.heap.objs.size) (.ref r) (.ref s.heap.objs.size)) _ _ { s with heap:=s.heap.push (iZ "list" #[] 0) }
 have hlt:=K.there _ hok;have hS0:(s.heap.push (iZ "list" #[] 0)).get? s.heap.objs.size=some (iZ "list" #[] 0):=az _ rfl;refine kdl_extend (A:=A) (R:=λr s'=>match r with
   | .ok (.ret v)=>iM (iO prog w) A (match v with
    | .ref a=>do
     let o ←load a
     match o.data with
     | .seq xs _=>pure xs.toList
     |_=>jA "internal:collect"
    |_=>jA "internal:collect") Q E s'
   | .ok _=>False
   | .error e=>E e s') (s:={ s with heap:=s.heap.push (iZ "list" #[] 0) }) K hh (K.keep _ _ hok λb _ o e=>ae _ e) s.heap.objs.size (cz hlt.1) (cz hlt.2) (.ref s.heap.objs.size) 0 hS0 (λh' tk acc c hk hS hi=>?_) hn
 show iM (iO prog w) A (do
   let o ←load s.heap.objs.size
   match o.data with
   | .seq xs _=>pure xs.toList
   |_=>jA "internal:collect") Q E { s with heap:=h',toks:=tk }
 refine iJ (wpAny_load hS ?_);exact iN (h h' tk acc (λb o e=>hk b o (aw (ai e)) (ae _ e)) (ai hS) hi)
theorem GP{Q:Value->Shared->Prop}(K:KdlSrc prog w T r d n P OK) (hh:A.handled=none) (hok:OK s.heap) (hn:n<=iR)
  (hC:∀(vs:List Value),vs.length=n->(∀j v,vs[j]?=some v->P j v)->∀s':Shared,(2<=vs.length->∀Q:jl->Shared->Prop,Q jJ s'->iM (iO prog w) A.in1.in1 (mi vs.toArray) Q E s')/\yd prog w A.in1.in1 s' jJ Pk lt/\∀v∈vs,Pk (v,v))
  (h:∀(vs out:List Value) (h':Heap) (p:Addr) (tk n':Nat),vs.length=n->(∀j v,vs[j]?=some v->P j v)->out.Perm vs->out.Pairwise (λx y=>lt (y,y) (x,x)=false)->(∀b o,s.heap.get? b=some o->h'.get? b=some o)->s.heap.objs.size<=p ->
   h'.get? p=some (iZ "list" out.toArray n')->Q (.ref p) { s with heap:=h',toks:=tk }) :
  iM (iO prog w) A (call (.builtin "sorted") [.ref r]) Q E s:=by
 refine Calls.call_function_entry mG mw mz (mB _) ?_;unfold Builtin.«sorted»;refine iJ (m:=checkCount "sorted" 1 1 _) (iN ?_);refine iJ (Fu K hh hok hn λh0 tk acc hk0 hsz0 hi=>?_)
 have hl:acc.toList.length=n:=by rw[ao];exact hi.1
 have hP:∀j v,acc.toList[j]?=some v->P j v:=λj v e=>hi.2 j v (by rw[←aq];exact e)
 have hs:acc.toList.length<=iR:=by rw[hl];exact hn
 generalize acc.toList=vs at hl hP hs;refine iJ (jP ?_ hs);have hoL:(h0.push (iZ "list" vs.toArray 0)).get? h0.objs.size=some (iZ "list" vs.toArray 0):=az _ rfl;show iM _ _ _ _ _ { s with heap:=h0.push (iZ "list" vs.toArray 0),toks:=tk }
 have hsz:s.heap.objs.size<=h0.objs.size:=cw hsz0;have k1:∀b o,s.heap.get? b=some o->(h0.push (iZ "list" vs.toArray 0)).get? b=some o:=λb o e=>ae _ (hk0 b o e)
 have hlt:∀b o,s.heap.get? b=some o->b≠h0.objs.size:=λb o e=>aw (ai (hk0 b o e))
 generalize h0.push (iZ "list" vs.toArray 0)=G at hoL k1 ⊢
 clear hsz0
 generalize h0.objs.size=p at hoL hsz hlt ⊢;have k2:∀b o,s.heap.get? b=some o->(rM G p vs).get? b=some o:=λb o e=>by
  refine ae _ (ae _ ?_);rw[cu _ _ _ _ (hlt b o e)];exact k1 b o e
 obtain⟨q1,q2,q3⟩:=hC vs hl hP { s with heap:=rM G p vs,toks:=tk }
 refine iJ (jo (jg lH ⟨_,hoL,rfl⟩ kQ (vC (s:={ s with heap:=G,toks:=tk }) (Pk:=Pk) (lt:=lt) hoL hs q1 q2 (λx hx=>?_) λxs a1 a2=>⟨_,rfl,?_⟩) (lJ _)))
 .obtain ⟨m1,m2⟩:=tU hx;have:x=(x.1,x.1):=gZ rfl m2;rw[this];exact q3 _ m1
 .obtain ⟨v1,v2⟩:=xR a1 a2;obtain⟨e1,ho1⟩:=DQ vs hoL;obtain⟨n1,g1⟩:=DX (xs.map (·.2)) ho1;refine iN ⟨_,rfl,h vs _ (kc G p vs (xs.map (·.2))) p tk n1 hl hP v1 v2 (λb o e=>?_) hsz ?_⟩
  .unfold kc;rw[cu _ _ _ _ (hlt b o e)];exact k2 b o e
  .rw [show (xs.map (·.2)).toList.toArray=xs.map (·.2) from fi]
   exact g1
end
end MrS
namespace Mr
open PySem PySem.W PySem.Spec PyProof.Rows L2
section
variable {X:Cx}
theorem A7:∀{us:List Value}{ns:List Int},us.length=ns.length->(∀(j:Nat) (v:Value) (n:Int),us[j]?=some v->ns[j]?=some n->∃t,v=eK n t)->jd us ns
 | [],[],_,_=>.nil
 | [],_::_,h,_=>by simp at h
 |_::_,[],h,_=>by simp at h
 |u::us,n::ns,h,g=>by
  obtain⟨t,rfl⟩:=g 0 u n rfl rfl;exact .cons n t (A7 (by simpa using h) λj v m e1 e2=>g (j+1) v m (by simpa using e1) (by simpa using e2))
theorem Oe:∀{kvs:List (oy×V)}{ws:List (oy×Value)},KV kvs ws->kvs.map (·.1)=ws.map (·.1):=λ{kvs ws} r=>by
 induction r with
 |nil=>rfl
 |cons a b ih=>rw[aC,aC,ih,a.1]
theorem Eo(hc:X.calm=true):sF X (.builtin "sorted") (λxs H Q=>∃(a:Addr) (kvs:List (oy×V)) (ns:List Int),xs=[.ref a]/\H a=some (.dK kvs)/\kvs.map (·.1)=ns.map aG/\∀p,H p=none->Q (.ref p) (pX H p (.lst ((rS ns).map V.int)))):=by
 intro nA s σ H xs us Q I r h;obtain⟨a,kvs,ns,rfl,ha,hk,q⟩:=h;obtain⟨u,rfl,ru⟩:=xw r;cases ru;obtain⟨hz,sa,vs,kv,d⟩:=(show qr X.prog X.w H s.heap a (.dK kvs) from I.hok a _ ha)
 obtain⟨ep,da⟩:=d.dictAt;have hl:=Paired.length kv;have hlen:ns.length=vs.length:=by
  have:=congrArg bL hk;rw[lMq,lMq]at this;rw[←this,hl]
 have hkv:vs.map (·.1)=ns.map aG:=by rw[←Oe kv,hk]
 have hI:∀us:List Value,us.length=vs.length->(∀(j:Nat) (v:Value),us[j]?=some v->∃k x,vs[j]?=some (k,x)/\(qk X.prog X.w).is k v=true)->jd us ns:=λus h1 h2=>A7 (by rw[h1,hlen]) λj v m e1 e2=>by
  obtain⟨k,x,g1,g2⟩:=h2 j v e1;have e3:(vs.map (·.1))[j]?=some k:=by rw[gMq,g1];rfl
  rw[hkv,gMq,e2]at e3;have e4:(aG m:oy)=k:=by simpa using e3
  subst e4;rcases qc (k:=aG m) (v:=v) g2 with ⟨i,t,e5,e6⟩|⟨z,t,e5,_⟩
  .cases e5;exact⟨t,e6⟩
  .cases e5
 refine MrS.GP (kdl_dict (knd:=qk X.prog X.w) (d:=a) (kvs:=vs) (ep:=ep) sa) (I.ok.hd hc) da (by rw[←hl];exact hz) (Pk:=λx:iK=>∃a t,x.1=eK a t) (lt:=VO) (λus h1 h2 s'=>⟨λh3 Q q=>?_,Ui _ _ _ _,λv m=>(HS (hI us h1 h2)).2 v m⟩) λus out h' p tk n' h1 h2 o1 o2 o3 op o4=>?_
 .have hi:=hI us h1 h2
  match us,hi,h3 with
  | [],_,h3=>simp at h3
  | [_],_,h3=>simp at h3
  |v₁::v₂::rest,hi,_ =>
   rw[keyKind_ints hi];exact iN q
 .obtain ⟨en,hv⟩:=HS (hI us h1 h2);have ho:∀v∈out,∃a t,v = .int a t:=λv m=>hv v (o1.mem_iff.mp m)
  have e:out.map intOf=rS ns:=by
   refine HF (by rw[en];exact o1.map _) ?_
   rw[cf];refine o2.imp_of_mem λ{x y} mx my h=>?_
   obtain⟨a,t,rfl⟩:=ho x mx;obtain⟨b,u,rfl⟩:=ho y my;have h':¬ b<a:=of_decide_eq_false h;show a<=b;lia
  have hp:H p=none:=I.hok.fresh op;refine⟨.ref p,_,I.laid (t':=tk) o3 op (show qr X.prog X.w _ h' _ (.lst ((rS ns).map V.int)) from ⟨?_,out,n',?_,o4⟩),rfl,q _ hp⟩
  .rw [lMq,(uA ns).length_eq,hlen,←hl];exact hz
  .rw [←e];exact vals_ints ho
end
end Mr
namespace Z
open PySem L2 Mr
abbrev St:=L2.St
inductive D where
 |non|bl (b:Bool)|int (i:Int)|str (x:Str)|ty (n:String)|list (xs:List D)|tup (xs:List D)|dict (kvs:List (oy×D))|scr (ns:List Int)|exc (c:Str) (fs:List (Str×Int))|cls (c:Str)|fd (kvs:List (oy×D))|ins (c:Str) (fs:List (Str×D))
inductive qB (K:W.Frag) (H:Hp):D->V->Prop
 |non:qB K H .non .non
 |bl {b:Bool}:qB K H (.bl b) (.bl b)
 |int {i:Int}:qB K H (.int i) (.int i)
 |str {x:Str}:qB K H (.str x) (.str x)
 |ty {n:String}:qB K H (.ty n) (.ty n)
 |list {p:Addr}{vs:List V}{ds:List D}(h:H p=some (.lst vs)) (l:ds.length=vs.length) (e:∀(i:Nat) (d:D) (v:V),ds[i]?=some d->vs[i]?=some v->qB K H d v):qB K H (.list ds) (.ref p)
 |tup {p:Addr}{vs:List V}{ds:List D}(h:H p=some (.tup vs)) (l:ds.length=vs.length) (e:∀(i:Nat) (d:D) (v:V),ds[i]?=some d->vs[i]?=some v->qB K H d v):qB K H (.tup ds) (.ref p)
 |dict {p:Addr}{kvs:List (oy×V)}{ds:List (oy×D)}(h:H p=some (.dK kvs)) (l:ds.map (·.1)=kvs.map (·.1)) (e:∀(i:Nat) (d:oy×D) (v:oy×V),ds[i]?=some d->kvs[i]?=some v->qB K H d.2 v.2):qB K H (.dict ds) (.ref p)
 |scr {p:Addr}{ns:List Int}(h:qS K H p (ns.map V.int)):qB K H (.scr ns) (.ref p)
 |exc {c:Str}{fs:List (Str×Int)}{e C M dx:Addr}(rf:Xe.Kp K c C M) (nf:∀p∈fs,W.findIn K (.ref C) p.1=some none) (h:H e=some (Xe.Km e C (some dx))) (hx:H dx=some (.xd (fs.map λp=>(p.1,V.int p.2)))):qB K H (.exc c fs) (.ref e)
 |exc0 {c:Str}{e C M:Addr}(rf:Xe.Kp K c C M) (h:H e=some (Xe.Km e C none)):qB K H (.exc c []) (.ref e)
 |cls {c:Str}{C:Addr}(h:Xe.Wn K c C):qB K H (.cls c) (.ref C)
 |fd {p:Addr}{o:Obj}{kvs:List (oy×V)}{ds:List (oy×D)}(h:H p=some (.frz o (.dK kvs))) (l:ds.map (·.1)=kvs.map (·.1)) (e:∀(i:Nat) (d:oy×D) (v:oy×V),ds[i]?=some d->kvs[i]?=some v->qB K H d.2 v.2):qB K H (.fd ds) (.ref p)
 |ins {c:Str}{a C dx:Addr}{gs:List (Str×V)}{fs:List (Str×D)}(rf:W.nsIn K iS c=some (some (.ref C))) (h:H a=some (.ins C dx gs)) (l:fs.map (·.1)=gs.map (·.1)) (e:∀(i:Nat) (d:Str×D) (v:Str×V),fs[i]?=some d->gs[i]?=some v->qB K H d.2 v.2):qB K H (.ins c fs) (.ref a)
def pE(K:W.Frag) (H:Hp) (ds:List D) (vs:List V):Prop:=ds.length=vs.length/\∀(i:Nat) (d:D) (v:V),ds[i]?=some d->vs[i]?=some v->qB K H d v
def um(K:W.Frag) (H:Hp) (ds:List (oy×D)) (kvs:List (oy×V)):Prop:=ds.map (·.1)=kvs.map (·.1)/\∀(i:Nat) (d:oy×D) (v:oy×V),ds[i]?=some d->kvs[i]?=some v->qB K H d.2 v.2
section
variable {K:W.Frag}{H H':Hp}
theorem qB.mono{d:D}{v:V}(h:qB K H d v) (s:ou H H'):qB K H' d v:=by
 induction h with
 |non=>exact .non
 |bl=>exact .bl
 |int=>exact .int
 |str=>exact .str
 |ty=>exact .ty
 |list h l _ ih=>exact .list (s _ _ h) l ih
 |tup h l _ ih=>exact .tup (s _ _ h) l ih
 |dict h l _ ih=>exact .dict (s _ _ h) l ih
 |scr h=>exact .scr (s.seq h)
 |exc rf nf h hx=>exact .exc rf nf (s _ _ h) (s _ _ hx)
 |exc0 rf h=>exact .exc0 rf (s _ _ h)
 |cls h=>exact .cls h
 |fd h l _ ih=>exact .fd (s _ _ h) l ih
 |ins rf h l _ ih=>exact .ins rf (s _ _ h) l ih
theorem pE.mono{ds:List D}{vs:List V}(h:pE K H ds vs) (s:ou H H'):pE K H' ds vs:=⟨h.1,λi d v a b=>(h.2 i d v a b).mono s⟩
theorem um.mono{ds:List (oy×D)}{vs:List (oy×V)}(h:um K H ds vs) (s:ou H H'):um K H' ds vs:=⟨h.1,λi d v a b=>(h.2 i d v a b).mono s⟩
theorem pE.nil:pE K H [] []:=⟨rfl,λi d v a=>by simp at a⟩
theorem pE.cons{d:D}{v:V}{ds:List D}{vs:List V}(h:qB K H d v) (t:pE K H ds vs):pE K H (d::ds) (v::vs):=⟨by simp[t.1],λi e w a b=>by
 cases i with
 |zero =>
  simp at a b;subst a b;exact h
 |succ i=>exact t.2 i e w (by simpa using a) (by simpa using b)⟩
theorem pE.cons_iff{d:D}{v:V}{ds:List D}{vs:List V}:pE K H (d::ds) (v::vs)↔qB K H d v/\pE K H ds vs :=
 ⟨λh=>⟨h.2 0 d v rfl rfl,by have:=h.1;simpa using this,λi e w a b=>h.2 (i+1) e w (by simpa using a) (by simpa using b)⟩,λh=>.cons h.1 h.2⟩
theorem pE.nil_inv{vs:List V}(h:pE K H [] vs):vs=[]:=by
 have:=h.1;cases vs with
 |nil=>rfl
 |cons _ _=>simp at this
theorem pE.cons_inv{d:D}{ds:List D}{vs:List V}(h:pE K H (d::ds) vs):∃v ws,vs=v::ws/\qB K H d v/\pE K H ds ws:=by
 cases vs with
 |nil=>have:=h.1;simp at this
 |cons v ws=>exact⟨v,ws,rfl,pE.cons_iff.mp h⟩
theorem pE.append:∀{ds es:List D}{vs ws:List V},pE K H ds vs->pE K H es ws->pE K H (ds++es) (vs++ws)
 | [],es,vs,ws,h,g=>by rw[h.nil_inv];exact g
 |d::ds,es,vs,ws,h,g=>by
  obtain⟨v,us,rfl,h1,h2⟩:=h.cons_inv;exact .cons h1 (pE.append h2 g)
theorem pE.take{ds:List D}{vs:List V}(h:pE K H ds vs) (n:Nat):pE K H (ds.take n) (vs.take n):=⟨by rw[lTq,lTq,h.1],λi d v a b=>by
 rw[gI]at a b;split at a
 .rename_i hi;rw[oz hi]at b;exact h.2 i d v a b
 .cases a⟩
theorem pE.drop{ds:List D}{vs:List V}(h:pE K H ds vs) (n:Nat):pE K H (ds.drop n) (vs.drop n):=⟨by rw[aS,aS,h.1],λi d v a b=>by
 rw[cI]at a b;exact h.2 _ d v a b⟩
theorem pE.get{ds:List D}{vs:List V}(h:pE K H ds vs) {i:Nat}{d:D}(e:ds[i]?=some d):∃v,vs[i]?=some v/\qB K H d v:=by
 have hi:i<ds.length:=(gSq.mp e).1;have hj:i<vs.length:=h.1 ▸ hi;exact⟨vs[i],gEg hj,h.2 i d _ e (gEg hj)⟩
theorem pE.get'{ds:List D}{vs:List V}(h:pE K H ds vs) {i:Nat}{v:V}(e:vs[i]?=some v):∃d,ds[i]?=some d/\qB K H d v:=by
 have hi:i<vs.length:=(gSq.mp e).1;have hj:i<ds.length:=h.1.symm ▸ hi;exact⟨ds[i],gEg hj,h.2 i _ v (gEg hj) e⟩
theorem qB.list_inv{ds:List D}{v:V}(h:qB K H (.list ds) v):∃p vs,v = .ref p/\H p=some (.lst vs)/\pE K H ds vs:=by
 cases h with
 |list h l e=>exact⟨_,_,rfl,h,l,e⟩
theorem qB.tup_inv{ds:List D}{v:V}(h:qB K H (.tup ds) v):∃p vs,v = .ref p/\H p=some (.tup vs)/\pE K H ds vs:=by
 cases h with
 |tup h l e=>exact⟨_,_,rfl,h,l,e⟩
theorem qB.dict_inv{ds:List (oy×D)}{v:V}(h:qB K H (.dict ds) v):∃p kvs,v = .ref p/\H p=some (.dK kvs)/\um K H ds kvs:=by
 cases h with
 |dict h l e=>exact⟨_,_,rfl,h,l,e⟩
theorem qB.mk_list{ds:List D}{p:Addr}{vs:List V}(h:H p=some (.lst vs)) (r:pE K H ds vs):qB K H (.list ds) (.ref p):=.list h r.1 r.2
theorem qB.mk_tup{ds:List D}{p:Addr}{vs:List V}(h:H p=some (.tup vs)) (r:pE K H ds vs):qB K H (.tup ds) (.ref p):=.tup h r.1 r.2
theorem qB.mk_dict{ds:List (oy×D)}{p:Addr}{vs:List (oy×V)}(h:H p=some (.dK vs)) (r:um K H ds vs):qB K H (.dict ds) (.ref p):=.dict h r.1 r.2
end
def D.scal:D->Bool
 | .non=>true
 | .bl _=>true
 | .int _=>true
 | .str _=>true
 | .ty _=>true
 |_=>false
theorem qB.scal{K:W.Frag}{H H':Hp}{d:D}{v:V}(h:qB K H d v) (s:d.scal=true):qB K H' d v:=by
 cases h with
 |non=>exact .non
 |bl=>exact .bl
 |int=>exact .int
 |str=>exact .str
 |ty=>exact .ty
 |_=>cases s
inductive AV where
 |sh (d:D)|ow (avs:List AV)|owd (kvs:List (oy×D))|owl (kvs:List (oy×List Int))
mutual
def nU:AV->D
 | .sh d=>d
 | .ow avs=>.list (Cd avs)
 | .owd kvs=>.dict kvs
 | .owl kvs=>.dict (kvs.map λx=>(x.1,.list (x.2.map .int)))
def Cd:List AV->List D
 | []=>[]
 |a::as=>nU a::Cd as
end
theorem Dt:∀avs:List AV,Cd avs=avs.map nU
 | []=>by simp[Cd]
 |a::as=>by simp[Cd,Dt as]
@[simp] theorem pH (d:D):nU (.sh d)=d:=by simp[nU]
@[simp] theorem qT (avs:List AV):nU (.ow avs) = .list (avs.map nU):=by simp[nU,Dt]
@[simp] theorem yk (kvs:List (oy×D)):nU (.owd kvs) = .dict kvs:=by simp[nU]
theorem C2(kvs:List (oy×List Int)):nU (.owl kvs) = .dict (kvs.map λx=>(x.1,.list (x.2.map .int))):=by simp[nU]
inductive oJ (K:W.Frag) (Hf H:Hp):AV->V->List Addr->Prop
 |sh {d:D}{v:V}(r:qB K Hf d v):oJ K Hf H (.sh d) v []
 |ow {p:Addr}{vs:List V}{avs:List AV}{Fs:List (List Addr)}(h:H p=some (.lst vs)) (n:Hf p=none) (l:avs.length=vs.length) (lf:avs.length=Fs.length)
   (e:∀(i:Nat) (a:AV) (v:V) (F:List Addr),avs[i]?=some a->vs[i]?=some v->Fs[i]?=some F->oJ K Hf H a v F):oJ K Hf H (.ow avs) (.ref p) (p::Fs.flatten)
 |owd {p:Addr}{kvs:List (oy×V)}{ds:List (oy×D)}(h:H p=some (.dK kvs)) (n:Hf p=none) (r:um K Hf ds kvs):oJ K Hf H (.owd ds) (.ref p) [p]
 |owl {p:Addr}{kvs:List (oy×List Int)}{qs:List Addr}(h:H p=some (.dK (iw (λx q=>(x.1,V.ref q)) kvs qs))) (n:Hf p=none) (l:kvs.length=qs.length) (e:∀(i:Nat) (q:Addr) (x:oy×List Int),qs[i]?=some q->kvs[i]?=some x->H q=some (.lst (x.2.map V.int))/\Hf q=none):oJ K Hf H (.owl kvs) (.ref p) (p::qs)
theorem IG{K:W.Frag}{H:Hp}{p:Addr}{kvs:List (oy×List Int)}{qs:List Addr}(h:H p=some (.dK (iw (λx q=>(x.1,V.ref q)) kvs qs))) (l:kvs.length=qs.length) (e:∀(i:Nat) (q:Addr) (x:oy×List Int),qs[i]?=some q->kvs[i]?=some x->H q=some (.lst (x.2.map V.int))):qB K H (.dict (kvs.map λx=>(x.1,.list (x.2.map .int)))) (.ref p):=by
 refine .dict h ?_ λi d v h1 h2=>?_
 .refine dG λi=>?_
  rw[gMq,gMq,gMq,gc]
  by_cases c:i<kvs.length
  .rw [gEg c,gEg (l ▸ c)];rfl
  .rw [bu (fQ c)];rfl
 .rw [gMq]at h1;rw[gc]at h2;cases hk:kvs[i]? with
  |none=>rw[hk]at h1;cases h1
  |some x =>
   cases hq:qs[i]? with
   |none=>rw[hk,hq]at h2;cases h2
   |some q =>
    rw[hk]at h1 h2;rw[hq]at h2;cases h1;cases h2;refine .list (e i q x hq hk) (by rw[lMq,lMq]) λj d v e1 e2=>?_
    rw[gMq]at e1 e2;cases hj:x.2[j]? with
    |none=>rw[hj]at e1;cases e1
    |some m =>
     rw[hj]at e1 e2;cases e1;cases e2;exact .int
theorem Re{kvs:List (oy×List Int)}{qs:List Addr}(l:kvs.length=qs.length) {q:Addr}(hq:q∈qs):∃(i:Nat) (x:oy×List Int),qs[i]?=some q/\kvs[i]?=some x:=by
 obtain⟨i,hi⟩:=bb.mp hq;have hl:=(gSq.mp hi).1;exact⟨i,_,hi,gEg (l ▸ hl)⟩
section
variable {K:W.Frag}{Hf Hf' H H':Hp}{av:AV}{v:V}{F:List Addr}
theorem oJ.owned(h:oJ K Hf H av v F):∀q∈F,H q≠none/\Hf q=none:=by
 induction h with
 |sh _=>intro q hq;cases hq
 | @ow p vs avs Fs h n l lf e ih =>
  intro q hq;rcases aj.mp hq with rfl|hq
  .exact ⟨by rw[h];simp,n⟩
  .obtain ⟨F,hF,hq⟩:=mFq.mp hq;obtain⟨i,hi,rfl⟩:=cL.mp hF;exact ih i avs[i] vs[i] Fs[i] (by simp) (by simp) (by simp) q hq
 |owd h n r =>
  intro q hq;have:=mSq.mp hq;subst this;exact⟨by rw[h];simp,n⟩
 |owl h n l e =>
  intro q hq;rcases aj.mp hq with z|z
  .rw [z];exact⟨by rw[h];simp,n⟩
  .obtain ⟨i,x,h1,h2⟩:=Re l z;obtain⟨e1,e2⟩:=e i q x h1 h2;exact⟨by rw[e1];simp,e2⟩
theorem oJ.keep(h:oJ K Hf H av v F) (s:ou Hf Hf') (hk:∀q∈F,H' q=H q) (hn:∀q∈F,Hf' q=none):oJ K Hf' H' av v F:=by
 induction h with
 |sh r=>exact .sh (r.mono s)
 | @ow p vs avs Fs h n l lf e ih =>
  refine .ow (by rw[hk p (by simp)];exact h) (hn p (by simp)) l lf λi a v F h1 h2 h3=>ih i a v F h1 h2 h3 (λq hq=>hk q ?_) λq hq=>hn q ?_
  all_goals exact mCo _ (mFq.mpr ⟨F,mGq h3,hq⟩)
 |owd h n r=>exact .owd (by rw[hk _ (by simp)];exact h) (hn _ (by simp)) (r.mono s)
 | @owl p kvs qs h n l e =>
  refine .owl (by rw[hk _ (au ..)];exact h) (hn _ (au ..)) l λi q x h1 h2=>?_
  have m:q∈p::qs:=mCo _ (mGq h1);exact⟨by rw[hk q m];exact(e i q x h1 h2).1,hn q m⟩
theorem oJ.rep(h:oJ K Hf H av v F) (s:ou Hf H):qB K H (nU av) v:=by
 induction h with
 |sh r=>rw[pH];exact r.mono s
 | @ow p vs avs Fs h n l lf e ih =>
  rw[qT];refine .list h (by simp[l]) λi d v h1 h2=>?_
  rw[gMq]at h1;cases ea:avs[i]? with
  |none=>rw[ea]at h1;cases h1
  |some a =>
   rw[ea]at h1;cases h1;have hi:i<Fs.length:=lf ▸ (gSq.mp ea).1;exact ih i a v Fs[i] ea h2 (gEg hi)
 |owd h n r=>rw[yk];exact .mk_dict h (r.mono s)
 |owl h n l e=>rw[C2];exact IG h l λi q x h1 h2=>(e i q x h1 h2).1
def frz(Hf H:Hp) (F:List Addr):Hp:=λb=>if b∈F then H b else Hf b
theorem zW{b:Addr}(h:b∈F):frz Hf H F b=H b:=oz h
theorem tR{b:Addr}(h:b∉F):frz Hf H F b=Hf b:=oB h
theorem rz(h:∀q∈F,Hf q=none):ou Hf (frz Hf H F):=λb o e=>by
 rw[tR λm=>by rw[h b m]at e;cases e]
 exact e
theorem OC(s:ou Hf H):ou (frz Hf H F) H:=λb o e=>by
 by_cases m:b∈F
 .rw [zW m]at e;exact e
 .rw [tR m]at e;exact s b o e
theorem oJ.frozen(h:oJ K Hf H av v F) (s:ou Hf Hf') (hk:∀q∈F,Hf' q=H q):qB K Hf' (nU av) v:=by
 induction h with
 |sh r=>rw[pH];exact r.mono s
 | @ow p vs avs Fs h n l lf e ih =>
  rw[qT];refine .list (by rw[hk p (by simp)];exact h) (by simp[l]) λi d v h1 h2=>?_
  rw[gMq]at h1;cases ea:avs[i]? with
  |none=>rw[ea]at h1;cases h1
  |some a =>
   rw[ea]at h1;cases h1;have hi:i<Fs.length:=lf ▸ (gSq.mp ea).1;exact ih i a v Fs[i] ea h2 (gEg hi) λq hq=>hk q (mCo _ (mFq.mpr ⟨Fs[i],gRq hi,hq⟩))
 |owd h n r=>rw[yk];exact .mk_dict (by rw[hk _ (by simp)];exact h) (r.mono s)
 |owl h n l e=>rw[C2];exact IG (by rw[hk _ (au ..)];exact h) l λi q x h1 h2=>by rw[hk q (mCo _ (mGq h1))];exact(e i q x h1 h2).1
end
abbrev AS:=List (Option AV)
structure oM (K:W.Frag) (H₀ Hf₀ Hf:Hp) (S:AS) (σ:St) (H:Hp) (Fs:List (List Addr)):Prop where
 len:S.length=σ.length
 lenF:Fs.length=S.length
 rep:∀(i:Nat) (av:AV),S[i]?=some (some av)->∃v F,σ[i]?=some (some v)/\Fs[i]?=some F/\oJ K Hf H av v F
 emp:∀i:Nat,S[i]?=some none->Fs[i]?=some []
 nd:Fs.flatten.Nodup
 fresh:∀p∈Fs.flatten,H₀ p=none
 sub:ou Hf H
 fr:ou H₀ H
 lim:∀b,Hf₀ b=none->H₀ b≠none->Hf b=none
 sf:ou Hf₀ Hf
structure xp (Hf H:Hp) (Fs:List (List Addr)) (Hf' H':Hp) (Fs':List (List Addr)):Prop where
 sf:ou Hf Hf'
 sh:ou H H'
 own:∀p∈Fs'.flatten,p∈Fs.flatten
 gr:∀b,Hf b=none->Hf' b≠none->H b=none∨b∈Fs.flatten
theorem xp.refl{Hf H:Hp}{Fs:List (List Addr)}:xp Hf H Fs Hf H Fs:=⟨.refl _,.refl _,λ_ h=>h,λb h g=>absurd h g⟩
theorem Ed{H H':Hp}(s:ou H H') {b:Addr}(h:H b≠none):H' b≠none:=by
 cases e:H b with
 |none=>exact absurd e h
 |some o=>rw[s b o e];simp
theorem xp.trans{Hf H Hf1 H1 Hf2 H2:Hp}{Fs Fs1 Fs2:List (List Addr)}(a:xp Hf H Fs Hf1 H1 Fs1) (b:xp Hf1 H1 Fs1 Hf2 H2 Fs2):xp Hf H Fs Hf2 H2 Fs2 :=
 ⟨a.sf.trans b.sf,a.sh.trans b.sh,λp h=>a.own p (b.own p h),λc h g=>by
  by_cases e:Hf1 c=none
  .rcases b.gr c e g with q|q
   .exact .inl (a.sh.free q)
   .exact .inr (a.own c q)
  .exact a.gr c h e⟩
section
variable {K:W.Frag}{H₀ Hf₀ Hf Hf' H H':Hp}{S:AS}{σ:St}{Fs Fs':List (List Addr)}
theorem Iu{b:Addr}(s:ou H H') (h:H b≠none):H' b=H b:=by
 cases e:H b with
 |none=>exact absurd e h
 |some o=>exact s b o e
theorem oM.mem(R:oM K H₀ Hf₀ Hf S σ H Fs) {q:Addr}(h:q∈Fs.flatten):H q≠none/\Hf q=none:=by
 obtain⟨F,hF,hq⟩:=mFq.mp h;obtain⟨i,hi,rfl⟩:=cL.mp hF;have hiS:i<S.length:=R.lenF ▸ hi;cases e:S[i] with
 |none =>
  have:=R.emp i (by rw[gEg hiS,e])
  rw[gEg hi]at this;rw[aU.inj this]at hq;cases hq
 |some av =>
  obtain⟨v,F,_,e2,r⟩:=R.rep i av (by rw[gEg hiS,e])
  rw[gEg hi]at e2;rw[aU.inj e2]at hq;exact r.owned q hq
theorem oM.more(R:oM K H₀ Hf₀ Hf S σ H Fs) (s:ou H H') (sf:ou Hf Hf') (sub:ou Hf' H') (hn:∀q∈Fs.flatten,Hf' q=none) (lim:∀b,Hf₀ b=none->H₀ b≠none->Hf' b=none):oM K H₀ Hf₀ Hf' S σ H' Fs where
 len:=R.len
 lenF:=R.lenF
 rep:=λi av e=>by
  obtain⟨v,F,e1,e2,r⟩:=R.rep i av e;refine⟨v,F,e1,e2,r.keep sf (λq hq=>Iu s (r.owned q hq).1) λq hq=>hn q (mFq.mpr ⟨F,mGq e2,hq⟩)⟩
 emp:=R.emp
 nd:=R.nd
 fresh:=R.fresh
 sub:=sub
 fr:=R.fr.trans s
 lim:=lim
 sf:=R.sf.trans sf
theorem oM.laid(R:oM K H₀ Hf₀ Hf S σ H Fs) (s:ou H H'):oM K H₀ Hf₀ Hf S σ H' Fs:=R.more s (.refl _) (R.sub.trans s) (λq h=>(R.mem h).2) R.lim
theorem qO{F:List Addr}{i:Nat}{p:Addr}(h:p∈(Fs.set i F).flatten):p∈F∨p∈Fs.flatten:=by
 obtain⟨G,hG,hp⟩:=mFq.mp h;rcases List.mem_or_eq_of_mem_set hG with q|q
 .exact .inr (mFq.mpr ⟨G,q,hp⟩)
 .subst q;exact .inl hp
theorem qH:∀{Fs:List (List Addr)}{F:List Addr}(i:Nat),Fs.flatten.Nodup->F.Nodup->(∀p∈F,p∉Fs.flatten)->(Fs.set i F).flatten.Nodup
 | [],F,i,h,_,_=>by simp
 |G::Gs,F,0,h,hF,hd=>by
  rw[dr,fCq,nAq];rw[fCq,nAq]at h;refine⟨hF,h.2.1,λa ha b hb e=>hd a ha ?_⟩
  rw[fCq];exact ar _ (e ▸ hb)
 |G::Gs,F,i+1,h,hF,hd=>by
  rw[eC,fCq,nAq];rw[fCq,nAq]at h;refine⟨h.1,qH i h.2.1 hF λp hp m=>hd p hp (by rw[fCq];exact ar _ m),λa ha b hb e=>?_⟩
  rcases qO hb with q|q
  .exact hd b q (by rw[fCq];exact bp _ (e ▸ ha))
  .exact h.2.2 a ha b q e
theorem oM.set(R:oM K H₀ Hf₀ Hf S σ H Fs) {av:AV}{v:V}{F:List Addr}(i:Nat) (r:oJ K Hf H av v F) (nd:F.Nodup) (hf:∀q∈F,H₀ q=none/\q∉Fs.flatten) :
  oM K H₀ Hf₀ Hf (S.set i (some av)) (σ.set i (some v)) H (Fs.set i F) where
 len:=by simp[R.len]
 lenF:=by simp[R.lenF]
 rep:=λj a e=>by
  rw[bx]at e
  by_cases hij:i=j
  .subst hij;rw[oz rfl]at e;split at e
   .rename_i hi;cases e;exact⟨v,F,by rw[aJ (R.len ▸ hi)],by rw[aJ (R.lenF.symm ▸ hi)],r⟩
   .cases e
  .rw [oB hij]at e;obtain⟨w,G,e1,e2,q⟩:=R.rep j a e;exact⟨w,G,by rw[aE hij];exact e1,by rw[aE hij];exact e2,q⟩
 emp:=λj e=>by
  rw[bx]at e
  by_cases hij:i=j
  .subst hij;rw[oz rfl]at e;split at e <;> cases e
  .rw [oB hij]at e;rw[aE hij];exact R.emp j e
 nd:=qH i R.nd nd λp hp=>(hf p hp).2
 fresh:=λp hp=>by
  rcases qO hp with q|q
  .exact (hf p q).1
  .exact R.fresh p q
 sub:=R.sub
 fr:=R.fr
 lim:=R.lim
 sf:=R.sf
theorem pZ{i:Nat}{p:Addr}(h:p∈(Fs.set i []).flatten):p∈Fs.flatten:=by
 rcases qO h with q|q
 .cases q
 .exact q
theorem sV:∀{Fs:List (List Addr)}{F:List Addr}{i:Nat}{p:Addr},Fs.flatten.Nodup->Fs[i]?=some F->p∈F->p∉(Fs.set i []).flatten
 | [],F,i,p,_,e,_,_=>by simp at e
 |G::Gs,F,0,p,h,e,hp,m=>by
  simp at e;subst e;rw[dr,fCq,dv]at m;rw[fCq,nAq]at h;exact h.2.2 p hp p m rfl
 |G::Gs,F,i+1,p,h,e,hp,m=>by
  rw[eC,fCq]at m;rw[fCq,nAq]at h;have e':Gs[i]?=some F:=by simpa using e
  rcases mAq.mp m with q|q
  .exact h.2.2 p q p (mFq.mpr ⟨F,mGq e',hp⟩) rfl
  .exact sV h.2.1 e' hp q
theorem oM.move(R:oM K H₀ Hf₀ Hf S σ H Fs) {i:Nat}{av:AV}(e:S[i]?=some (some av)):∃v F,σ[i]?=some (some v)/\Fs[i]?=some F/\oJ K Hf H av v F/\F.Nodup/\(∀q∈F,H₀ q=none/\q∉(Fs.set i []).flatten) /\
  oM K H₀ Hf₀ Hf (S.set i none) σ H (Fs.set i []):=by
 obtain⟨v,F,e1,e2,r⟩:=R.rep i av e;have hin:∀q∈F,q∈Fs.flatten:=λq hq=>mFq.mpr ⟨F,mGq e2,hq⟩
 refine⟨v,F,e1,e2,r,cR.sublist (bq (mGq e2)) R.nd,λq hq=>⟨R.fresh q (hin q hq),sV R.nd e2 hq⟩,?_⟩
 refine⟨by simp[R.len],by simp[R.lenF],λj a ej=>?_,λj ej=>?_,qH i R.nd aW (λp hp=>by cases hp),λp hp=>R.fresh p (pZ hp),R.sub,R.fr,R.lim,R.sf⟩
 .rw [bx]at ej
  by_cases hij:i=j
  .subst hij;rw[oz rfl]at ej;split at ej <;> cases ej
  .rw [oB hij]at ej;obtain⟨w,G,f1,f2,q⟩:=R.rep j a ej;exact⟨w,G,f1,by rw[aE hij];exact f2,q⟩
 .rw [bx]at ej
  by_cases hij:i=j
  .subst hij;rw[oz rfl]at ej;split at ej
   .rename_i hi;rw[aJ (R.lenF.symm ▸ hi)]
   .cases ej
  .rw [oB hij]at ej;rw[aE hij];exact R.emp j ej
theorem oM.frz(R:oM K H₀ Hf₀ Hf S σ H Fs) {F:List Addr}(hf:∀q∈F,H₀ q=none/\q∉Fs.flatten) (hn:∀q∈F,Hf q=none):oM K H₀ Hf₀ (frz Hf H F) S σ H Fs:=by
 refine R.more (.refl _) (rz hn) (OC R.sub) (λq hq=>?_) λb h1 h2=>?_
 .rw [tR λm=>(hf q m).2 hq]
  exact(R.mem hq).2
 .rw [tR λm=>h2 (hf b m).1]
  exact R.lim b h1 h2
end
abbrev ME:=AS->Option (D×AS)
abbrev MK:=AS->Option (AV×AS)
abbrev ML:=AS->Option (List D×AS)
abbrev MT:=AS->Option (Bool×AS)
abbrev MA:=AS->Option (List AV×AS)
def pB(K:W.Frag) (Hf H:Hp) (avs:List AV) (vs:List V) (Gs:List (List Addr)):Prop :=
 avs.length=vs.length/\avs.length=Gs.length/\∀(i:Nat) (a:AV) (v:V) (F:List Addr),avs[i]?=some a->vs[i]?=some v->Gs[i]?=some F->oJ K Hf H a v F
structure vN (H₀ H:Hp) (Fs Fs':List (List Addr)) (F:List Addr):Prop where
 nd:F.Nodup
 fr:∀q∈F,H₀ q=none
 out:∀q∈F,q∉Fs'.flatten
 new:∀q∈F,H q=none∨q∈Fs.flatten
theorem vN.nil{H₀ H:Hp}{Fs Fs':List (List Addr)}:vN H₀ H Fs Fs' []:=⟨aW,λq h=>(by cases h),λq h=>(by cases h),λq h=>(by cases h)⟩
section
variable (K:W.Frag)
def SR(te:TE) (m:ME):Prop:=∀{H₀ Hf₀ Hf:Hp}{S:AS}{σ:St}{H:Hp}{Fs:List (List Addr)}{d:D}{S':AS},oM K H₀ Hf₀ Hf S σ H Fs->m S=some (d,S')->∀Q:VK,
 (∀Hf' H' Fs' v,xp Hf H Fs Hf' H' Fs'->oM K H₀ Hf₀ Hf' S' σ H' Fs'->qB K H' d v->Q v H')->te σ H Q
def SK(te:TE) (m:MK):Prop:=∀{H₀ Hf₀ Hf:Hp}{S:AS}{σ:St}{H:Hp}{Fs:List (List Addr)}{a:AV}{S':AS},oM K H₀ Hf₀ Hf S σ H Fs->m S=some (a,S')->∀Q:VK,
 (∀Hf' H' Fs' v F,xp Hf H Fs Hf' H' Fs'->oM K H₀ Hf₀ Hf' S' σ H' Fs'->oJ K Hf' H' a v F->vN H₀ H Fs Fs' F->Q v H')->te σ H Q
def SL(te:TE) (m:ML):Prop:=∀{H₀ Hf₀ Hf:Hp}{S:AS}{σ:St}{H:Hp}{Fs:List (List Addr)}{ds:List D}{S':AS},oM K H₀ Hf₀ Hf S σ H Fs->m S=some (ds,S')->∀Q:VK,
 (∀Hf' H' Fs' p vs,xp Hf H Fs Hf' H' Fs'->oM K H₀ Hf₀ Hf' S' σ H' Fs'->H' p=some (.lst vs)->pE K Hf' ds vs->Q (.ref p) H')->te σ H Q
def Cp(tt:TT) (m:MT):Prop:=∀{H₀ Hf₀ Hf:Hp}{S:AS}{σ:St}{H:Hp}{Fs:List (List Addr)}{b:Bool}{S':AS},oM K H₀ Hf₀ Hf S σ H Fs->m S=some (b,S')->∀Q:Bool->Hp->Prop,
 (∀Hf' H' Fs',xp Hf H Fs Hf' H' Fs'->oM K H₀ Hf₀ Hf' S' σ H' Fs'->Q b H')->tt σ H Q
def SA(ta:TA) (m:MA):Prop:=∀{H₀ Hf₀ Hf:Hp}{S:AS}{σ:St}{H:Hp}{Fs:List (List Addr)}{as:List AV}{S':AS},oM K H₀ Hf₀ Hf S σ H Fs->m S=some (as,S')->∀Q:List V->Hp->Prop,
 (∀Hf' H' Fs' vs Gs,xp Hf H Fs Hf' H' Fs'->oM K H₀ Hf₀ Hf' S' σ H' Fs'->pB K Hf' H' as vs Gs->vN H₀ H Fs Fs' Gs.flatten->Q vs H')->ta σ H Q
def Pe(ta:TA) (m:ML):Prop:=∀{H₀ Hf₀ Hf:Hp}{S:AS}{σ:St}{H:Hp}{Fs:List (List Addr)}{ds:List D}{S':AS},oM K H₀ Hf₀ Hf S σ H Fs->m S=some (ds,S')->∀Q:List V->Hp->Prop,
 (∀Hf' H' Fs' vs,xp Hf H Fs Hf' H' Fs'->oM K H₀ Hf₀ Hf' S' σ H' Fs'->pE K H' ds vs->Q vs H')->ta σ H Q
end
section
variable {K:W.Frag}{H₀ Hf₀ Hf Hf' H H':Hp}{S S':AS}{σ:St}{Fs Fs':List (List Addr)}
theorem oJ.stp{av:AV}{v:V}{F:List Addr}(r:oJ K Hf H av v F) (ho:∀q∈F,q∉Fs.flatten) (t:xp Hf H Fs Hf' H' Fs'):oJ K Hf' H' av v F :=
 r.keep t.sf (λq hq=>Iu t.sh (r.owned q hq).1) λq hq=>by
  by_cases e:Hf' q=none
  .exact e
  .rcases t.gr q (r.owned q hq).2 e with z|z
   .exact absurd z (r.owned q hq).1
   .exact absurd z (ho q hq)
theorem oM.new(R:oM K H₀ Hf₀ Hf S σ H Fs) {p:Addr}{o:HO}(hp:H p=none):xp Hf H Fs Hf (pX H p o) Fs/\oM K H₀ Hf₀ Hf S σ (pX H p o) Fs/\Hf p=none/\H₀ p=none/\p∉Fs.flatten :=
 ⟨⟨.refl _,sQ hp,λ_ h=>h,λb h g=>absurd h g⟩,R.laid (sQ hp),R.sub.free hp,R.fr.free hp,λm=>(R.mem m).1 hp⟩
theorem rK(n:Nat):(aO n ([]:List Addr)).flatten=[]:=by
 induction n with
 |zero=>rfl
 |succ n ih=>rw[List.replicate_succ,fCq,ih];rfl
theorem oJ.new{p:Addr}{vs:List V}{ds:List D}(h:H p=some (.lst vs)) (n:Hf p=none) (r:pE K Hf ds vs):oJ K Hf H (.ow (ds.map .sh)) (.ref p) [p]:=by
 have e:[p]=p::(aO ds.length ([]:List Addr)).flatten:=by rw[rK]
 rw[e];refine .ow h n (by simp[r.1]) (by simp) λi a v F h1 h2 h3=>?_
 rw[gMq]at h1;cases q:ds[i]? with
 |none=>rw[q]at h1;cases h1
 |some d =>
  rw[q]at h1;cases h1;have:F=[]:=cK (mGq h3);subst this;exact .sh (r.2 i d v q h2)
theorem oJ.news{p:Addr}{vs:List V}{avs:List AV}{Gs:List (List Addr)}(h:H p=some (.lst vs)) (n:Hf p=none) (r:pB K Hf H avs vs Gs):oJ K Hf H (.ow avs) (.ref p) (p::Gs.flatten):=.ow h n r.1 r.2.1 r.2.2
theorem oJ.ow_inv{avs:List AV}{v:V}{F:List Addr}(h:oJ K Hf H (.ow avs) v F):∃p vs Gs,v = .ref p/\F=p::Gs.flatten/\H p=some (.lst vs)/\Hf p=none/\pB K Hf H avs vs Gs:=by
 cases h with
 |ow h n l lf e=>exact⟨_,_,_,rfl,rfl,h,n,l,lf,e⟩
theorem oJ.owd_inv{ds:List (oy×D)}{v:V}{F:List Addr}(h:oJ K Hf H (.owd ds) v F):∃p kvs,v = .ref p/\F=[p]/\H p=some (.dK kvs)/\Hf p=none/\um K Hf ds kvs:=by
 cases h with
 |owd h n r=>exact⟨_,_,rfl,rfl,h,n,r⟩
theorem oJ.sh_inv{d:D}{v:V}{F:List Addr}(h:oJ K Hf H (.sh d) v F):F=[]/\qB K Hf d v:=by
 cases h with
 |sh r=>exact⟨rfl,r⟩
theorem oM.give{H1:Hp}{Fs1:List (List Addr)}(R:oM K H₀ Hf₀ Hf' S σ H1 Fs1) (t:xp Hf H Fs Hf' H1 Fs1) {av:AV}{v:V}{F:List Addr}(r:oJ K Hf' H1 av v F) (o:vN H₀ H Fs Fs1 F) :
  oM K H₀ Hf₀ (Z.frz Hf' H1 F) S σ H1 Fs1/\qB K (Z.frz Hf' H1 F) (nU av) v/\xp Hf H Fs (Z.frz Hf' H1 F) H1 Fs1:=by
 have n:∀q∈F,Hf' q=none:=λq hq=>(r.owned q hq).2
 refine⟨R.frz (λq hq=>⟨o.fr q hq,o.out q hq⟩) n,r.frozen (rz n) λq hq=>zW hq,t.sf.trans (rz n),t.sh,t.own,λb h g=>?_⟩
 by_cases m:b∈F
 .exact o.new b m
 .rw [tR m]at g;exact t.gr b h g
theorem pB.nil:pB K Hf H [] [] []:=⟨rfl,rfl,λi a v F h=>by simp at h⟩
theorem pB.cons{a:AV}{v:V}{F:List Addr}{as:List AV}{vs:List V}{Gs:List (List Addr)}(h:oJ K Hf H a v F) (t:pB K Hf H as vs Gs):pB K Hf H (a::as) (v::vs) (F::Gs) :=
 ⟨by simp[t.1],by simp[t.2.1],λi b w G h1 h2 h3=>by
  cases i with
  |zero =>
   simp at h1 h2 h3;subst h1 h2 h3;exact h
  |succ i=>exact t.2.2 i b w G (by simpa using h1) (by simpa using h2) (by simpa using h3)⟩
theorem pB.frozen(h:pB K Hf H as vs Gs) (s:ou Hf Hf') (hk:∀q∈Gs.flatten,Hf' q=H q):pE K Hf' (as.map nU) vs :=
 ⟨by simp[h.1],λi d v h1 h2=>by
  rw[gMq]at h1;cases ea:as[i]? with
  |none=>rw[ea]at h1;cases h1
  |some a =>
   rw[ea]at h1;cases h1;have hi:i<Gs.length:=h.2.1 ▸ (gSq.mp ea).1;exact(h.2.2 i a v Gs[i] ea h2 (gEg hi)).frozen s λq hq=>hk q (mFq.mpr ⟨Gs[i],gRq hi,hq⟩)⟩
theorem pB.owned(h:pB K Hf H as vs Gs):∀q∈Gs.flatten,H q≠none/\Hf q=none:=λq hq=>by
 obtain⟨F,hF,hq⟩:=mFq.mp hq;obtain⟨i,hi,rfl⟩:=cL.mp hF;have h1:i<as.length:=h.2.1.symm ▸ hi;have h2:i<vs.length:=h.1 ▸ h1;exact(h.2.2 i as[i] vs[i] Gs[i] (gEg h1) (gEg h2) (gEg hi)).owned q hq
theorem oM.gives{H1:Hp}{Fs1:List (List Addr)}(R:oM K H₀ Hf₀ Hf' S σ H1 Fs1) (t:xp Hf H Fs Hf' H1 Fs1) {as:List AV}{vs:List V}{Gs:List (List Addr)}(r:pB K Hf' H1 as vs Gs) (o:vN H₀ H Fs Fs1 Gs.flatten) :
  oM K H₀ Hf₀ (Z.frz Hf' H1 Gs.flatten) S σ H1 Fs1/\pE K (Z.frz Hf' H1 Gs.flatten) (as.map nU) vs/\xp Hf H Fs (Z.frz Hf' H1 Gs.flatten) H1 Fs1:=by
 have n:∀q∈Gs.flatten,Hf' q=none:=λq hq=>(r.owned q hq).2
 refine⟨R.frz (λq hq=>⟨o.fr q hq,o.out q hq⟩) n,r.frozen (rz n) λq hq=>zW hq,t.sf.trans (rz n),t.sh,t.own,λb h g=>?_⟩
 by_cases m:b∈Gs.flatten
 .exact o.new b m
 .rw [tR m]at g;exact t.gr b h g
theorem vN.stp{Hf1 H1 Hf2 H2:Hp}{Fs1 Fs2:List (List Addr)}{F:List Addr}(o:vN H₀ H Fs Fs1 F) (t:xp Hf1 H1 Fs1 Hf2 H2 Fs2):vN H₀ H Fs Fs2 F:=⟨o.nd,o.fr,λq h m=>o.out q h (t.own q m),o.new⟩
theorem vN.back{Hf1 H1:Hp}{Fs1 Fs2:List (List Addr)}{F:List Addr}(t:xp Hf H Fs Hf1 H1 Fs1) (o:vN H₀ H1 Fs1 Fs2 F):vN H₀ H Fs Fs2 F:=⟨o.nd,o.fr,o.out,λq h=>(o.new q h).elim (λe=>.inl (t.sh.free e)) λm=>.inr (t.own q m)⟩
theorem vN.app{F G:List Addr}(a:vN H₀ H Fs Fs' F) (b:vN H₀ H Fs Fs' G) (d:∀q∈F,q∉G):vN H₀ H Fs Fs' (F++G) :=
 ⟨nAq.mpr ⟨a.nd,b.nd,λx hx y hy e=>d x hx (e ▸ hy)⟩,λq h=>(mAq.mp h).elim (a.fr q) (b.fr q),λq h=>(mAq.mp h).elim (a.out q) (b.out q),λq h=>(mAq.mp h).elim (a.new q) (b.new q)⟩
theorem vN.apart{Hf1 H1:Hp}{Fs1 Fs2:List (List Addr)}{F G:List Addr}(a:vN H₀ H Fs Fs1 F) (ha:∀q∈F,H1 q≠none) (b:vN H₀ H1 Fs1 Fs2 G):∀q∈F,q∉G:=λq h m=>by
 rcases b.new q m with e|e
 .exact ha q h e
 .exact a.out q h e
theorem vN.one(R:oM K H₀ Hf₀ Hf S σ H Fs) {p:Addr}(hp:H p=none):vN H₀ H Fs Fs [p] :=
 ⟨by simp,λq h=>by rw[mSq.mp h];exact R.fr.free hp,λq h m=>by rw[mSq.mp h]at m;exact(R.mem m).1 hp,λq h=>by rw[mSq.mp h];exact .inl hp⟩
end
def nH(i:Nat):ME:=λS=>(S[i]?.join).map λa=>(nU a,S)
def oS(i:Nat):MK:=λS=>(S[i]?.join).map λa=>(.sh (nU a),S.set i (some (.sh (nU a))))
def Cv(i:Nat):MK:=λS=>(S[i]?.join).map λa=>(a,S.set i none)
def OI(i:Nat):ML:=λS=>match S[i]?.join with
 |some (.sh (.list ds))=>some (ds,S)
 |some (.ow avs)=>some (avs.map nU,S.set i (some (.ow ((avs.map nU).map .sh))))
 |_=>none
def rOf(k:MK):ME:=λS=>(k S).map λx=>(nU x.1,x.2)
def kSc(m:ME):MK:=λS=>(m S).bind λx=>if x.1.scal then some (.sh x.1,x.2) else none
def lOf(k:MK):ML:=λS=>(k S).bind λx=>match x.1 with
 | .sh (.list ds)=>some (ds,x.2)
 | .ow avs=>some (avs.map nU,x.2)
 |_=>none
def rN(k:MK):MK:=λS=>(k S).map λx=>(.sh (nU x.1),x.2)
def rC(d:D):ME:=λS=>if d.scal then some (d,S) else none
section
variable {K:W.Frag}
theorem oX{S:AS}{i:Nat}{a:AV}(h:S[i]?.join=some a):S[i]?=some (some a):=by
 cases e:S[i]? with
 |none=>rw[e]at h;cases h
 |some z=>rw[e]at h;exact congrArg some h
theorem nD(i:Nat):SR K (xP i) (nH i):=by
 intro H₀ Hf₀ Hf S σ H Fs d S' R e Q q;obtain⟨a,ea,e⟩:=oMq.mp e;cases e;obtain⟨v,F,s1,s2,r⟩:=R.rep i a (oX ea);exact⟨v,s1,q _ _ _ v .refl R (r.rep R.sub)⟩
theorem wJ(i:Nat):SK K (xP i) (Cv i):=by
 intro H₀ Hf₀ Hf S σ H Fs a S' R e Q q;obtain⟨b,ea,e⟩:=oMq.mp e;cases e;obtain⟨v,F,s1,s2,r,nd,o,R1⟩:=R.move (oX ea);exact⟨v,s1,q _ _ _ v F ⟨.refl _,.refl _,λp hp=>pZ hp,λb h g=>absurd h g⟩ R1 r ⟨nd,λq hq=>(o q hq).1,λq hq=>(o q hq).2,λq hq=>.inr (mFq.mpr ⟨F,mGq s2,hq⟩)⟩⟩
theorem oM.again{H₀ Hf₀ Hf H:Hp}{S:AS}{σ:St}{Fs:List (List Addr)}{i:Nat}{av:AV}{v:V}{F G:List Addr}(R:oM K H₀ Hf₀ Hf (S.set i none) σ H (Fs.set i [])) (s1:σ[i]?=some (some v)) (r:oJ K Hf H av v G) (nd:G.Nodup) (hf:∀q∈G,H₀ q=none/\q∉(Fs.set i []).flatten) :
  oM K H₀ Hf₀ Hf (S.set i (some av)) σ H (Fs.set i G):=by
 have R2:=R.set i r nd hf;rw[fm,fm]at R2;have e:σ.set i (some v)=σ:=by
  obtain⟨hk,ev⟩:=gSq.mp s1;rw[←ev];exact fc hk
 rw[e]at R2;exact R2
theorem nZ(i:Nat):SK K (xP i) (oS i):=by
 intro H₀ Hf₀ Hf S σ H Fs a S' R e Q q;obtain⟨b,ea,e⟩:=oMq.mp e;cases e;obtain⟨v,F,s1,s2,r,nd,o,R1⟩:=R.move (oX ea);have n:∀q∈F,Hf q=none:=λq hq=>(r.owned q hq).2
 have R2:=R1.frz o n;have r2:=r.frozen (rz (H:=H) n) λq hq=>zW hq
 have R3:=R2.again (F:=F) (G:=[]) s1 (.sh r2) aW λq h=>(by cases h)
 refine⟨v,s1,q _ _ _ v [] ⟨rz n,.refl _,λp hp=>pZ hp,λb h g=>?_⟩ R3 (.sh r2) .nil⟩
 by_cases m:b∈F
 .exact .inr (mFq.mpr ⟨F,mGq s2,m⟩)
 .rw [tR m]at g;exact absurd h g
theorem LH(i:Nat):SL K (xP i) (OI i):=by
 intro H₀ Hf₀ Hf S σ H Fs ds S' R e Q q;unfold OI at e;split at e
 .rename_i ds' ea;cases e;obtain⟨v,F,s1,s2,r⟩:=R.rep i _ (oX ea);obtain⟨p,vs,rfl,h1,h2⟩:=r.sh_inv.2.list_inv;exact⟨_,s1,q _ _ _ p vs .refl R (R.sub _ _ h1) h2⟩
 .rename_i avs ea;cases e;obtain⟨v,F,s1,s2,r,nd,o,R1⟩:=R.move (oX ea);obtain⟨p,vs,Gs,rfl,rfl,h1,h2,h3⟩:=r.ow_inv;have n:∀q∈Gs.flatten,Hf q=none:=λq hq=>(h3.owned q hq).2
  have R2:=R1.frz (F:=Gs.flatten) (λq hq=>o q (mCo _ hq)) n
  have r2:=h3.frozen (rz (H:=H) n) λq hq=>zW hq
  have np:p∉Gs.flatten:=(ax.mp nd).1;have r3:oJ K (Z.frz Hf H Gs.flatten) H (.ow ((avs.map nU).map .sh)) (.ref p) [p]:=oJ.new h1 (by rw[tR np];exact h2) r2
  have R3:=R2.again (F:=p::Gs.flatten) (G:=[p]) s1 r3 (by simp) λq hq=>by rw[mSq.mp hq];exact o p (by simp)
  refine⟨_,s1,q _ _ _ p vs ⟨rz n,.refl _,λb hb=>?_,λb h g=>?_⟩ R3 h1 r2⟩
  .rcases qO hb with z|z
   .rw [mSq.mp z];exact mFq.mpr ⟨_,mGq s2,by simp⟩
   .exact z
  .by_cases m:b∈Gs.flatten
   .exact .inr (mFq.mpr ⟨_,mGq s2,mCo _ m⟩)
   .rw [tR m]at g;exact absurd h g
 .cases e
theorem SK.rOf{te:TE}{k:MK}(h:SK K te k):SR K te (rOf k):=by
 intro H₀ Hf₀ Hf S σ H Fs d S' R e Q q;obtain⟨x,ea,e⟩:=oMq.mp e;cases e;exact h R (a:=x.1) (S':=x.2) ea Q λHf' H' Fs' v F t R' r o=>q _ _ _ v t R' (r.rep R'.sub)
theorem SR.kSc{te:TE}{m:ME}(h:SR K te m):SK K te (kSc m):=by
 intro H₀ Hf₀ Hf S σ H Fs a S' R e Q q;obtain⟨x,ea,e⟩:=oBq.mp e;split at e
 .rename_i hs;cases e;exact h R (d:=x.1) (S':=x.2) ea Q λHf' H' Fs' v t R' r=>q _ _ _ v [] t R' (.sh (r.scal hs)) .nil
 .cases e
theorem SK.frz{te:TE}{k:MK}(h:SK K te k):SK K te (rN k):=by
 intro H₀ Hf₀ Hf S σ H Fs a S' R e Q q;obtain⟨x,ea,e⟩:=oMq.mp e;cases e;refine h R (a:=x.1) (S':=x.2) ea Q λHf' H' Fs' v F t R' r o=>?_
 obtain⟨R2,r2,t2⟩:=R'.give t r o;exact q _ _ _ v [] t2 R2 (.sh r2) .nil
theorem SK.lOf{te:TE}{k:MK}(h:SK K te k):SL K te (lOf k):=by
 intro H₀ Hf₀ Hf S σ H Fs ds S' R e Q q;obtain⟨x,ea,e⟩:=oBq.mp e;refine h R (a:=x.1) (S':=x.2) ea Q λHf' H' Fs' v F t R' r o=>?_
 split at e
 .rename_i ds' hx;cases e;rw[hx]at r;obtain⟨p,vs,rfl,h1,h2⟩:=r.sh_inv.2.list_inv;exact q _ _ _ p vs t R' (R'.sub _ _ h1) h2
 .rename_i avs hx;cases e;obtain⟨R2,r2,t2⟩:=R'.give t r o;rw[hx,qT]at r2;obtain⟨p,vs,rfl,h1,h2⟩:=r2.list_inv;exact q _ _ _ p vs t2 R2 (R2.sub _ _ h1) h2
 .cases e
theorem LC{v:V}{d:D}(h:∀H,qB K H d v):SR K (tC v) (rC d):=by
 intro H₀ Hf₀ Hf S σ H Fs d' S' R e Q q;unfold rC at e;split at e
 .cases e;exact q _ _ _ v .refl R (h _)
 .cases e
theorem nP{i:Int}:SR K (tC (.int i)) (rC (.int i)):=LC λ_=>.int
theorem zU{i:Str}:SR K (tC (.str i)) (rC (.str i)):=LC λ_=>.str
theorem vx{i:Bool}:SR K (tC (.bl i)) (rC (.bl i)):=LC λ_=>.bl
theorem Ti:SR K (tC .non) (rC .non):=LC λ_=>.non
theorem FQ{T:String}:SR K (tC (.ty T)) (rC (.ty T)):=LC λ_=>.ty
end
def uI{α:Type}(p:Prop) (x:Option α):Option α:=@ite (Option α) p (eI p) x none
theorem tO{α:Type}{p:Prop}(h:p) (x:Option α):uI p x=x:=oz h
theorem vU{α:Type}(x:Option α):uI True x=x:=oz trivial
theorem oC{α:Type}{p:Prop}{x y:Option α}(h:uI p x=y):(p/\x=y)∨none=y:=by
 by_cases c:p
 .rw [tO c]at h;exact .inl ⟨c,h⟩
 .exact .inr ((@if_neg p (eI p) c _ x none).symm.trans h)
def oV(f:D->D->Option D) (a b:ME):ME:=λS=>(a S).bind λx=>(b x.2).bind λy=>(f x.1 y.1).map λd=>(d,y.2)
def DC(f:D->Option D) (a:ME):ME:=λS=>(a S).bind λx=>(f x.1).map λd=>(d,x.2)
def CC(K:W.Frag) (r:R2) (f:D->D->Option D):Prop:=∀{x y:V}{H:Hp}{Q:VK}{dx dy d:D},qB K H dx x->qB K H dy y->f dx dy=some d->(∀v,qB K H d v->Q v H)->r x y H Q
def V9(K:W.Frag) (r:V->Hp->VK->Prop) (f:D->Option D):Prop:=∀{x:V}{H:Hp}{Q:VK}{dx d:D},qB K H dx x->f dx=some d->(∀v,qB K H d v->Q v H)->r x H Q
section
variable {K:W.Frag}{r:R2}{f:D->D->Option D}{ta tb:TE}{a b:ME}
theorem nW(hr:CC K r f) (ha:SR K ta a) (hb:SR K tb b):SR K (OH r ta tb) (oV f a b):=by
 intro H₀ Hf₀ Hf S σ H Fs d S' R e Q q;obtain⟨x,e1,e⟩:=oBq.mp e;obtain⟨y,e2,e⟩:=oBq.mp e;obtain⟨z,e3,e⟩:=oMq.mp e;cases e;refine ha R (d:=x.1) (S':=x.2) e1 _ λHf1 H1 Fs1 v1 t1 R1 r1=>hb R1 (d:=y.1) (S':=y.2) e2 _ λHf2 H2 Fs2 v2 t2 R2 r2=>?_
 exact hr (r1.mono t2.sh) r2 e3 λv rv=>q _ _ _ v (t1.trans t2) R2 rv
theorem uK{r:V->Hp->VK->Prop}{f:D->Option D}(hr:V9 K r f) (ha:SR K ta a):SR K (VQ r ta) (DC f a):=by
 intro H₀ Hf₀ Hf S σ H Fs d S' R e Q q;obtain⟨x,e1,e⟩:=oBq.mp e;obtain⟨z,e3,e⟩:=oMq.mp e;cases e;exact ha R (d:=x.1) (S':=x.2) e1 _ λHf1 H1 Fs1 v1 t1 R1 r1=>hr r1 e3 λv rv=>q _ _ _ v t1 R1 rv
end
def GU(c:Int->Int->Prop) (g:Int->Int->D):D->D->Option D
 | .int i,.int j=>uI (c i j) (some (g i j))
 |_,_=>none
def W1(g:Int->D):D->Option D
 | .int i=>some (g i)
 |_=>none
abbrev vR:=GU (λ_ _=>True) λi j=>.int (i+j)
abbrev Eh:=GU (λ_ _=>True) λi j=>.int (i-j)
abbrev zX:=GU Mq λi j=>.int (i*j)
abbrev tK:=GU (λ_ j=>0<j) λi j=>.int (i % j)
abbrev AJ:=GU Rz λi j=>.int (i / j)
abbrev E9:=GU QM λi j=>.int (i ^ j.toNat)
abbrev Il:=GU (λ_ _=>True) λi j=>.bl (decide (i<j))
abbrev Ya:=GU (λ_ _=>True) λi j=>.bl (decide (i<=j))
abbrev Qs:=GU (λ_ _=>True) λi j=>.bl (decide (j<i))
abbrev Yb:=GU (λ_ _=>True) λi j=>.bl (decide (j<=i))
abbrev vg:=W1 λi=>.int (-i)
def Kn(b:Bool):Option D:=some (.bl b)
def C7(x y:D):Option D:=match x with
 | .int i=>(match y with|.int j=>Kn (decide (i=j))|.non=>Kn false|.str _=>Kn false|_=>none)
 | .str i=>(match y with|.str j=>Kn (decide (i=j))|.non=>Kn false|.int _=>Kn false|_=>none)
 | .bl i=>(match y with|.bl j=>Kn (decide (i=j))|.non=>Kn false|_=>none)
 | .non=>(match y with|.non=>Kn true|.int _=>Kn false|.str _=>Kn false|.bl _=>Kn false|_=>none)
 |_=>none
def Jp:D->Option D
 | .bl b=>some (.bl (!b))
 |_=>none
def S6(x y:D):Option D:=(C7 x y).bind Jp
section
variable {K:W.Frag}
theorem EO{C:Int->Int->Prop}{g:Int->Int->V}{g':Int->Int->D}(hg:∀H i j,qB K H (g' i j) (g i j)):CC K (rI C g) (GU C g'):=by
 intro x y H Q dx dy d rx ry e q;unfold GU at e;split at e
 .rename_i i j;cases rx;cases ry;rcases oC e with ⟨h,e⟩|e
  .cases e;exact⟨i,j,rfl,rfl,h,q _ (hg H i j)⟩
  .cases e
 .cases e
theorem DO{g:Int->Int->V}{g':Int->Int->D}(hg:∀H i j,qB K H (g' i j) (g i j)):CC K (Mw g) (GU (λ_ _=>True) g'):=by
 intro x y H Q dx dy d rx ry e q;unfold GU at e;split at e
 .rename_i i j;cases rx;cases ry;rw[vU]at e;cases e;exact⟨i,j,rfl,rfl,q _ (hg H i j)⟩
 .cases e
theorem uf:CC K (Mw λi j=>.int (i+j)) vR:=DO λ_ _ _=>.int
theorem BW:CC K (Mw λi j=>.int (i-j)) Eh:=DO λ_ _ _=>.int
theorem EC:CC K (rI Mq λi j=>.int (i*j)) zX:=EO λ_ _ _=>.int
theorem rD:CC K (rI (λ_ j=>0<j) λi j=>.int (i % j)) tK:=EO λ_ _ _=>.int
theorem yU:CC K (rI Rz λi j=>.int (i / j)) AJ:=EO λ_ _ _=>.int
theorem G8:CC K (rI QM λi j=>.int (i ^ j.toNat)) E9:=EO λ_ _ _=>.int
theorem Dz:CC K (Mw λi j=>.bl (decide (i<j))) Il:=DO λ_ _ _=>.bl
theorem Kq:CC K (Mw λi j=>.bl (decide (j<i))) Qs:=DO λ_ _ _=>.bl
theorem rp:V9 K (rU λi=>.int (-i)) vg:=by
 intro x H Q dx d rx e q;cases rx <;> simp only[W1]at e
 all_goals first|(exfalso;simp at e;done)|skip
 rename_i i;cases e;exact⟨i,rfl,q _ .int⟩
theorem yy:CC K WS C7:=by
 intro x y H Q dx dy d rx ry e q;unfold C7 at e;cases rx <;> first|(cases e;done)|(cases ry <;> first|(cases e;done)|skip)
 all_goals (cases e;refine⟨rfl,q _ ?_⟩;simp only[reduceCtorEq,decide_false,decide_true,V.int.injEq,V.str.injEq,V.bl.injEq];exact .bl)
theorem Ir:CC K WU S6:=by
 intro x y H Q dx dy d rx ry e q;obtain⟨b,e1,e2⟩:=oBq.mp e;obtain⟨h1,h2⟩:=yy rx ry e1 (Q:=λv _=>qB K H b v) λv h=>h
 cases h2;cases e2;exact⟨h1,q _ .bl⟩
end
def D9(a b:ME):ME:=λS=>(a S).bind λx=>match x.1 with
 | .bl true=>b x.2
 | .bl false=>some (.bl false,x.2)
 |_=>none
def Yf(a b:ME):ME:=λS=>(a S).bind λx=>match x.1 with
 | .bl true=>some (.bl true,x.2)
 | .bl false=>b x.2
 |_=>none
def Q3(a:ME):ME:=DC Jp a
def uE(a:ME):MT:=λS=>(a S).bind λx=>match x.1 with
 | .bl b=>some (b,x.2)
 |_=>none
def Bj(a b:MT):MT:=λS=>(a S).bind λx=>if x.1=true then b x.2 else some (false,x.2)
def FZ(a b:MT):MT:=λS=>(a S).bind λx=>if x.1=true then some (true,x.2) else b x.2
def yx(a:MT):MT:=λS=>(a S).map λx=>(!x.1,x.2)
def X9(c:MT) (a b:ME):ME:=λS=>(c S).bind λx=>if x.1=true then a x.2 else b x.2
def Yh(c:MT) (a b:MK):MK:=λS=>(c S).bind λx=>if x.1=true then a x.2 else b x.2
section
variable {K:W.Frag}{ta tb:TE}{a b:ME}{ca cb:TT}{ma mb:MT}
theorem Ce(ha:SR K ta a) (hb:SR K tb b):SR K (QB ta tb) (D9 a b):=by
 intro H₀ Hf₀ Hf S σ H Fs d S' R e Q q;obtain⟨x,e1,e⟩:=oBq.mp e;refine ha R (d:=x.1) (S':=x.2) e1 _ λHf1 H1 Fs1 v1 t1 R1 r1=>?_
 split at e
 .rename_i hx;rw[hx]at r1;cases r1;exact⟨true,rfl,Bh (hb R1 e Q λHf2 H2 Fs2 v2 t2 R2 r2=>q _ _ _ v2 (t1.trans t2) R2 r2)⟩
 .rename_i hx;rw[hx]at r1;cases r1;cases e;exact⟨false,rfl,Bs (q _ _ _ _ t1 R1 .bl)⟩
 .cases e
theorem R9(ha:SR K ta a):SR K (Qh ta) (Q3 a):=by
 intro H₀ Hf₀ Hf S σ H Fs d S' R e Q q;obtain⟨x,e1,e⟩:=oBq.mp e;obtain⟨z,e3,e⟩:=oMq.mp e;cases e;refine ha R (d:=x.1) (S':=x.2) e1 _ λHf1 H1 Fs1 v1 t1 R1 r1=>?_
 cases hx:x.1 <;> rw[hx]at e3 r1 <;> simp only[Jp]at e3
 all_goals first|(exfalso;simp at e3;done)|skip
 cases r1;cases e3;exact⟨_,rfl,q _ _ _ _ t1 R1 .bl⟩
theorem uX(ha:SR K ta a):Cp K (tB ta) (uE a):=by
 intro H₀ Hf₀ Hf S σ H Fs d S' R e Q q;obtain⟨x,e1,e⟩:=oBq.mp e;refine ha R (d:=x.1) (S':=x.2) e1 _ λHf1 H1 Fs1 v1 t1 R1 r1=>?_
 split at e
 .rename_i b hx;rw[hx]at r1;cases r1;cases e;exact⟨_,rfl,q _ _ _ t1 R1⟩
 .cases e
theorem qA(ha:SR K ta a):Cp K (Lj ta) (uE a):=uX ha
theorem GH(ha:Cp K ca ma) (hb:Cp K cb mb):Cp K (T6 ca cb) (Bj ma mb):=by
 intro H₀ Hf₀ Hf S σ H Fs d S' R e Q q;obtain⟨x,e1,e⟩:=oBq.mp e;refine ha R (b:=x.1) (S':=x.2) e1 _ λHf1 H1 Fs1 t1 R1=>?_
 split at e
 .rename_i hx;rw[hx];exact Bh (hb R1 e Q λHf2 H2 Fs2 t2 R2=>q _ _ _ (t1.trans t2) R2)
 .rename_i hx;cases e;rw[cE]at hx;rw[hx];exact Bs (q _ _ _ t1 R1)
theorem EY(ha:Cp K ca ma) (hb:Cp K cb mb):Cp K (W8 ca cb) (FZ ma mb):=by
 intro H₀ Hf₀ Hf S σ H Fs d S' R e Q q;obtain⟨x,e1,e⟩:=oBq.mp e;refine ha R (b:=x.1) (S':=x.2) e1 _ λHf1 H1 Fs1 t1 R1=>?_
 split at e
 .rename_i hx;cases e;rw[hx];exact Bh (q _ _ _ t1 R1)
 .rename_i hx;rw[cE]at hx;rw[hx];exact Bs (hb R1 e Q λHf2 H2 Fs2 t2 R2=>q _ _ _ (t1.trans t2) R2)
theorem zP(ha:Cp K ca ma):Cp K (UV ca) (yx ma):=by
 intro H₀ Hf₀ Hf S σ H Fs d S' R e Q q;obtain⟨x,e1,e⟩:=oMq.mp e;cases e;exact ha R (b:=x.1) (S':=x.2) e1 _ λHf1 H1 Fs1 t1 R1=>q _ _ _ t1 R1
end
abbrev qF:Nat:=16777216
theorem sU:iR=qF:=jb
def SQ(K:W.Frag) (te:TE) (m:ML):Prop:=∀{H₀ Hf₀ Hf:Hp}{S:AS}{σ:St}{H:Hp}{Fs:List (List Addr)}{ds:List D}{S':AS},oM K H₀ Hf₀ Hf S σ H Fs->m S=some (ds,S')->∀Q:VK,
 (∀Hf' H' Fs' p vs,xp Hf H Fs Hf' H' Fs'->oM K H₀ Hf₀ Hf' S' σ H' Fs'->qS K H' p vs->pE K Hf' ds vs->Q (.ref p) H')->te σ H Q
theorem SL.q{K:W.Frag}{te:TE}{m:ML}(h:SL K te m):SQ K te m:=by
 intro H₀ Hf₀ Hf S σ H Fs ds S' R e Q q;exact h R e Q λHf' H' Fs' p vs t R' hp r=>q _ _ _ p vs t R' (qS.of hp) r
def vh(i:Nat):ML:=λS=>match S[i]?.join with
 |some (.sh (.scr ns))=>some (ns.map .int,S)
 |some (.sh (.list ds))=>some (ds,S)
 |some (.ow avs)=>some (avs.map nU,S.set i (some (.ow ((avs.map nU).map .sh))))
 |_=>none
theorem tM{K:W.Frag}{H:Hp}:∀ns:List Int,pE K H (ns.map .int) (ns.map V.int)
 | []=>.nil
 |n::ns=>.cons .int (tM ns)
theorem ug{K:W.Frag}(i:Nat):SQ K (xP i) (vh i):=by
 intro H₀ Hf₀ Hf S σ H Fs ds S' R e Q q;unfold vh at e;split at e
 .rename_i ns ea;cases e;obtain⟨v,F,s1,s2,r⟩:=R.rep i _ (oX ea);cases r.sh_inv.2 with
  |scr h=>exact⟨_,s1,q _ _ _ _ _ .refl R (R.sub.seq h) (tM ns)⟩
 .rename_i ds' ea;cases e;refine LH i R (ds:=ds) (S':=S) ?_ Q λHf' H' Fs' p vs t R' hp r=>q _ _ _ p vs t R' (qS.of hp) r
  unfold OI;rw[ea]
 .rename_i avs ea;refine LH i R (ds:=ds) (S':=S') ?_ Q λHf' H' Fs' p vs t R' hp r=>q _ _ _ p vs t R' (qS.of hp) r
  unfold OI;rw[ea];exact e
 .cases e
section
variable {K:W.Frag}{H₀ Hf₀ Hf Hf' H H':Hp}{S S':AS}{σ:St}{Fs Fs':List (List Addr)}
theorem pB.stp{as:List AV}{vs:List V}{Gs:List (List Addr)}(r:pB K Hf H as vs Gs) (ho:∀q∈Gs.flatten,q∉Fs.flatten) (t:xp Hf H Fs Hf' H' Fs'):pB K Hf' H' as vs Gs :=
 ⟨r.1,r.2.1,λi a v F h1 h2 h3=>(r.2.2 i a v F h1 h2 h3).stp (λq hq=>ho q (mFq.mpr ⟨F,mGq h3,hq⟩)) t⟩
theorem oM.layF(R:oM K H₀ Hf₀ Hf S σ H Fs) {p:Addr}{o:HO}(hp:H p=none):xp Hf H Fs (pX Hf p o) (pX H p o) Fs/\oM K H₀ Hf₀ (pX Hf p o) S σ (pX H p o) Fs:=by
 have hf:Hf p=none:=R.sub.free hp;refine⟨⟨sQ hf,sQ hp,λ_ h=>h,λb h g=>?_⟩,R.more (sQ hp) (sQ hf) (λb u e=>?_) (λq hq=>?_) λb h1 h2=>?_⟩
 .by_cases m:b=p
  .subst m;exact .inl hp
  .rw [nY m]at g;exact absurd h g
 .by_cases m:b=p
  .subst m;rw[oh]at e ⊢;exact e
  .rw [nY m]at e ⊢;exact R.sub b u e
 .rw [nY λe=>(R.mem hq).1 (by rw[e];exact hp)]
  exact(R.mem hq).2
 .rw [nY λe=>h2 (by rw[e];exact R.fr.free hp)]
  exact R.lim b h1 h2
end
def pQ:MA:=λS=>some ([],S)
def oA(k:MK) (r:MA):MA:=λS=>(k S).bind λx=>(r x.2).map λy=>(x.1::y.1,y.2)
def oj:ML:=λS=>some ([],S)
def nO(k:ME) (r:ML):ML:=λS=>(k S).bind λx=>(r x.2).map λy=>(x.1::y.1,y.2)
section
variable {K:W.Frag}{te ta tb:TE}{tr:TA}
theorem ot:SA K xr pQ:=by
 intro H₀ Hf₀ Hf S σ H Fs as S' R e Q q;cases e;exact q _ _ _ [] [] .refl R .nil .nil
theorem oi{k:MK}{r:MA}(hk:SK K te k) (hr:SA K tr r):SA K (sY te tr) (oA k r):=by
 intro H₀ Hf₀ Hf S σ H Fs as S' R e Q q;obtain⟨x,e1,e⟩:=oBq.mp e;obtain⟨y,e2,e⟩:=oMq.mp e;cases e;refine hk R (a:=x.1) (S':=x.2) e1 _ λHf1 H1 Fs1 v F t1 R1 r1 o1=>hr R1 (as:=y.1) (S':=y.2) e2 _ λHf2 H2 Fs2 vs Gs t2 R2 r2 o2=>?_
 refine q _ _ _ (v::vs) (F::Gs) (t1.trans t2) R2 (.cons (r1.stp o1.out t2) r2) ?_;rw[fCq];exact(o1.stp t2).app (o2.back t1) (o1.apart (Hf1:=Hf1) (λq hq=>(r1.owned q hq).1) o2)
theorem nX:Pe K xr oj:=by
 intro H₀ Hf₀ Hf S σ H Fs as S' R e Q q;cases e;exact q _ _ _ [] .refl R .nil
theorem nJ{k:ME}{r:ML}(hk:SR K te k) (hr:Pe K tr r):Pe K (sY te tr) (nO k r):=by
 intro H₀ Hf₀ Hf S σ H Fs as S' R e Q q;obtain⟨x,e1,e⟩:=oBq.mp e;obtain⟨y,e2,e⟩:=oMq.mp e;cases e;refine hk R (d:=x.1) (S':=x.2) e1 _ λHf1 H1 Fs1 v t1 R1 r1=>hr R1 (ds:=y.1) (S':=y.2) e2 _ λHf2 H2 Fs2 vs t2 R2 r2=>?_
 exact q _ _ _ (v::vs) (t1.trans t2) R2 (.cons (r1.mono t2.sh) r2)
end
def tI(a:MA):MK:=λS=>(a S).bind λx=>uI (x.1.length<=qF) (some (.ow x.1,x.2))
def MY(a:MA):MK:=λS=>(a S).bind λx=>uI (x.1.length<=qF) (some (.sh (.tup (x.1.map nU)),x.2))
section
variable {K:W.Frag}{ta:TA}{a:MA}
theorem qv(ha:SA K ta a):SK K (Vb ta) (tI a):=by
 intro H₀ Hf₀ Hf S σ H Fs av S' R e Q q;obtain⟨x,e1,e⟩:=oBq.mp e;rcases oC e with ⟨hl,e⟩|e
 .skip
  cases e;refine ha R (as:=x.1) (S':=x.2) e1 _ λHf1 H1 Fs1 vs Gs t1 R1 r1 o1=>⟨by rw[sU,←r1.1];exact hl,λp hp=>?_⟩
  obtain⟨t2,R2,n1,n2,n3⟩:=R1.new (o:=.lst vs) hp;refine q _ _ _ (.ref p) (p::Gs.flatten) (t1.trans t2) R2 (oJ.news oh n1 (r1.stp o1.out t2)) ?_;have o2:=(vN.one R1 hp).back t1;refine(show vN _ _ _ _ ([p]++Gs.flatten) from o2.app o1 λq hq m=>?_)
  rw[mSq.mp hq]at m;exact(r1.owned p m).1 hp
 .cases e
theorem Gu(ha:SA K ta a):SK K (Uy ta) (MY a):=by
 intro H₀ Hf₀ Hf S σ H Fs av S' R e Q q;obtain⟨x,e1,e⟩:=oBq.mp e;rcases oC e with ⟨hl,e⟩|e
 .skip
  cases e;refine ha R (as:=x.1) (S':=x.2) e1 _ λHf1 H1 Fs1 vs Gs t1 R1 r1 o1=>⟨by rw[sU,←r1.1];exact hl,λp hp=>?_⟩
  obtain⟨R2,r2,t2⟩:=R1.gives t1 r1 o1;obtain⟨t3,R3⟩:=R2.layF (o:=.tup vs) hp;exact q _ _ _ (.ref p) [] (t2.trans t3) R3 (.sh (.mk_tup oh (r2.mono t3.sf))) .nil
 .cases e
end
def ON(a b:ML):MK:=λS=>(a S).bind λx=>(b x.2).bind λy=>uI (x.1.length+y.1.length<=qF) (some (.ow ((x.1++y.1).map .sh),y.2))
section
variable {K:W.Frag}{ta tb:TE}{a b:ML}
theorem Np(ha:SL K ta a) (hb:SL K tb b):SK K (OH UA ta tb) (ON a b):=by
 intro H₀ Hf₀ Hf S σ H Fs av S' R e Q q;obtain⟨x,e1,e⟩:=oBq.mp e;obtain⟨y,e2,e⟩:=oBq.mp e;rcases oC e with ⟨hl,e⟩|e
 .skip
  cases e;refine ha R (ds:=x.1) (S':=x.2) e1 _ λHf1 H1 Fs1 p1 vs1 t1 R1 h1 r1=>hb R1 (ds:=y.1) (S':=y.2) e2 _ λHf2 H2 Fs2 p2 vs2 t2 R2 h2 r2=>?_
  refine⟨p1,p2,vs1,vs2,rfl,rfl,t2.sh _ _ h1,h2,by rw[sU,←r1.1,←r2.1];exact hl,λp hp=>?_⟩
  obtain⟨t3,R3,n1,n2,n3⟩:=R2.new (o:=.lst (vs1++vs2)) hp;exact q _ _ _ (.ref p) [p] ((t1.trans t2).trans t3) R3 (oJ.new oh n1 ((r1.mono t2.sf).append r2)) ((vN.one R2 hp).back (t1.trans t2))
 .cases e
end
abbrev MO:=AS->Option (Option Int×AS)
def SO(K:W.Frag) (to:TO) (m:MO):Prop:=∀{H₀ Hf₀ Hf:Hp}{S:AS}{σ:St}{H:Hp}{Fs:List (List Addr)}{o:Option Int}{S':AS},oM K H₀ Hf₀ Hf S σ H Fs->m S=some (o,S')->∀Q:Option Int->Hp->Prop,
 (∀Hf' H' Fs',xp Hf H Fs Hf' H' Fs'->oM K H₀ Hf₀ Hf' S' σ H' Fs'->Q o H')->to σ H Q
def Dj:MO:=λS=>some (none,S)
def yz(m:ME):MO:=λS=>(m S).bind λx=>match x.1 with
 | .int i=>some (some i,x.2)
 |_=>none
def yr{α:Type}(xs:List α) (lo hi:Option Int):List α:=(xs.drop (HT.Di xs.length 0 lo)).take (HT.Di xs.length xs.length hi-HT.Di xs.length 0 lo)
def Qb(l:ML) (lo hi:MO):MK:=λS=>(l S).bind λx=>(lo x.2).bind λy=>(hi y.2).map λz=>(.ow ((yr x.1 y.1 z.1).map .sh),z.2)
section
variable {K:W.Frag}{te:TE}{tl th:TO}{l:ML}{lo hi:MO}{m:ME}
theorem AM:SO K Ii Dj:=by
 intro H₀ Hf₀ Hf S σ H Fs o S' R e Q q;cases e;exact q _ _ _ .refl R
theorem ya(h:SR K te m):SO K (Qq te) (yz m):=by
 intro H₀ Hf₀ Hf S σ H Fs o S' R e Q q;obtain⟨x,e1,e⟩:=oBq.mp e;refine h R (d:=x.1) (S':=x.2) e1 _ λHf1 H1 Fs1 v t1 R1 r1=>?_
 split at e
 .rename_i i hx;rw[hx]at r1;cases r1;cases e;exact⟨i,rfl,q _ _ _ t1 R1⟩
 .cases e
theorem pE.cut{H:Hp}{ds:List D}{vs:List V}(r:pE K H ds vs) (lo hi:Option Int):pE K H (yr ds lo hi) (Gr vs lo hi):=by
 unfold yr Gr;rw[r.1];exact(r.drop _).take _
theorem Ge(hl:SQ K te l) (hlo:SO K tl lo) (hhi:SO K th hi):SK K (WQ (TC K) te tl th) (Qb l lo hi):=by
 intro H₀ Hf₀ Hf S σ H Fs av S' R e Q q;obtain⟨x,e1,e⟩:=oBq.mp e;obtain⟨y,e2,e⟩:=oBq.mp e;obtain⟨z,e3,e⟩:=oMq.mp e;cases e;refine hl R (ds:=x.1) (S':=x.2) e1 _ λHf1 H1 Fs1 p1 vs1 t1 R1 h1 r1=>hlo R1 (o:=y.1) (S':=y.2) e2 _ λHf2 H2 Fs2 t2 R2=>hhi R2 (o:=z.1) (S':=z.2) e3 _ λHf3 H3 Fs3 t3 R3=>?_
 refine⟨p1,vs1,rfl,(t2.sh.trans t3.sh).seq h1,λp hp=>?_⟩
 obtain⟨t4,R4,n1,n2,n3⟩:=R3.new (o:=.lst (Gr vs1 y.1 z.1)) hp;exact q _ _ _ (.ref p) [p] (((t1.trans t2).trans t3).trans t4) R4 (oJ.new oh n1 ((r1.mono (t2.sf.trans t3.sf)).cut _ _)) ((vN.one R3 hp).back ((t1.trans t2).trans t3))
end
def Cc:D->D->Option D
 | .list ds,.int i=>atI ds i
 | .scr ns,.int i=>(atI ns i).map .int
 |_,_=>none
def Hj:D->D->Option D
 | .tup ds,.int i=>atI ds i
 |_,_=>none
def Qx(l:ML) (b:ME):MK:=λS=>(l S).bind λx=>(b x.2).bind λy=>match y.1 with
 | .int i=>(atI x.1 i).map λd=>(.sh d,y.2)
 |_=>none
section
variable {K:W.Frag}{ta tb:TE}
theorem pE.atI{H:Hp}{ds:List D}{vs:List V}{i:Int}{d:D}(r:pE K H ds vs) (h:L2.atI ds i=some d):∃v,L2.atI vs i=some v/\qB K H d v:=by
 unfold L2.atI at h ⊢;rw[r.1]at h;obtain⟨j,h1,h2⟩:=oBq.mp h;rw[h1];exact r.get h2
theorem uc:CC K (KU K) Cc:=by
 intro x y H Q dx dy d rx ry e q;unfold Cc at e;split at e
 .rename_i ds i;cases ry;obtain⟨p,vs,rfl,h,r⟩:=rx.list_inv;obtain⟨l,e'⟩:=r;obtain⟨v,h1,h2⟩:=pE.atI (K:=K) (H:=H) (ds:=ds) (vs:=vs) ⟨l,e'⟩ e;exact⟨p,vs,i,v,rfl,rfl,qS.of h,h1,q v h2⟩
 .rename_i ns i;cases ry;cases rx;rename_i p h;obtain⟨n,h1,h2⟩:=oMq.mp e;subst h2;obtain⟨v,h3,h4⟩:=pE.atI (K:=K) (H:=H) (tM ns) (i:=i) (d:=.int n) (by
   unfold L2.atI at h1 ⊢;rw[lMq];obtain⟨j,g1,g2⟩:=oBq.mp h1;rw[g1];show (ns.map D.int)[j]?=_;rw[gMq,g2];rfl)
  exact⟨p,_,i,v,rfl,rfl,h,h3,q v h4⟩
 .cases e
theorem HC:CC K (QL K) Hj:=by
 intro x y H Q dx dy d rx ry e q;unfold Hj at e;split at e
 .rename_i ds i;cases ry;obtain⟨p,vs,rfl,h,r⟩:=rx.tup_inv;obtain⟨v,h1,h2⟩:=pE.atI (K:=K) (H:=H) (ds:=ds) (vs:=vs) r e;exact⟨p,vs,i,v,rfl,rfl,BR.of h,h1,q v h2⟩
 .cases e
theorem LV{l:ML}{b:ME}(hl:SQ K ta l) (hb:SR K tb b):SK K (OH (KU K) ta tb) (Qx l b):=by
 intro H₀ Hf₀ Hf S σ H Fs av S' R e Q q;obtain⟨x,e1,e⟩:=oBq.mp e;obtain⟨y,e2,e⟩:=oBq.mp e;refine hl R (ds:=x.1) (S':=x.2) e1 _ λHf1 H1 Fs1 p1 vs1 t1 R1 h1 r1=>hb R1 (d:=y.1) (S':=y.2) e2 _ λHf2 H2 Fs2 v2 t2 R2 r2=>?_
 split at e
 .rename_i i hy;rw[hy]at r2;cases r2;obtain⟨d,e3,e⟩:=oMq.mp e;cases e;obtain⟨v,g1,g2⟩:=(r1.mono t2.sf).atI e3;exact⟨p1,vs1,i,v,rfl,rfl,t2.sh.seq h1,g1,q _ _ _ v [] (t1.trans t2) R2 (.sh g2) .nil⟩
 .cases e
end
def Ql(K:W.Frag) (r:List V->Hp->VK->Prop) (f:List D->Option D):Prop:=∀{vs:List V}{H:Hp}{Q:VK}{ds:List D}{d:D},pE K H ds vs->f ds=some d->(∀v,qB K H d v->Q v H)->r vs H Q
def vO(f:List D->Option D) (a:ML):ME:=λS=>(a S).bind λx=>(f x.1).map λd=>(d,x.2)
theorem qw{K:W.Frag}{r:List V->Hp->VK->Prop}{f:List D->Option D}{ta:TA}{a:ML}(hr:Ql K r f) (ha:Pe K ta a):SR K (N3 r ta) (vO f a):=by
 intro H₀ Hf₀ Hf S σ H Fs d S' R e Q q;obtain⟨x,e1,e⟩:=oBq.mp e;obtain⟨z,e3,e⟩:=oMq.mp e;cases e;exact ha R (ds:=x.1) (S':=x.2) e1 _ λHf1 H1 Fs1 vs t1 R1 r1=>hr r1 e3 λv rv=>q _ _ _ v t1 R1 rv
def sm:List D->Option D
 | [.list ds]=>some (.int ds.length)
 | [.tup ds]=>some (.int ds.length)
 | [.scr ns]=>some (.int ns.length)
 | [.str x]=>uI (x.length<=qF) (some (.int x.length))
 |_=>none
def Am:List D->Option D
 | [.dict ds]=>some (.int ds.length)
 |_=>none
def X4:List D->Option D
 | [.int i]=>some (.int (if i<0 then -i else i))
 |_=>none
def W5:List D->Option D
 | [.int i,.int j]=>some (.int (if j>i then j else i))
 |_=>none
def WM:List D->Option D
 | [.int i,.int j]=>some (.int (if j<i then j else i))
 |_=>none
def WZ:List D->Option D
 | [.int i]=>some (.int i)
 | [.bl k]=>some (.int (if k then 1 else 0))
 |_=>none
def Sv:D->String->Option D
 | .int _,T=>if T = "int" then some (.bl true) else if T = "bool" then some (.bl false) else none
 | .bl _,T=>if T = "bool" ∨ T = "int" then some (.bl true) else none
 | .str _,T=>if T = "str" then some (.bl true) else none
 | .list _,T=>if T = "list" then some (.bl true) else none
 | .tup _,T=>if T = "tuple" then some (.bl true) else none
 | .dict _,T=>if T = "dict" then some (.bl true) else none
 |_,_=>none
def Fe:List D->Option D
 | [x,.ty T]=>Sv x T
 |_=>none
def rR:List D->Option (List Int)
 | []=>some []
 | .int i::ds=>(rR ds).map (i :: ·)
 |_=>none
theorem wg:∀{ds:List D}{ns:List Int},rR ds=some ns->ds=ns.map .int
 | [],ns,h=>by cases h;rfl
 |d::ds,ns,h=>by
  cases d with
  |int i =>
   obtain⟨ms,h1,h2⟩:=oMq.mp (show (rR ds).map (i :: ·)=some ns from h)
   subst h2;rw[wg h1];rfl
  |_=>cases h
@[simp] theorem uY (ns:List Int):rR (ns.map .int)=some ns:=by
 induction ns with
 |nil=>rfl
 |cons n ns ih=>show (rR (ns.map .int)).map (n :: ·)=_;rw[ih];rfl
theorem rW{K:W.Frag}{H:Hp}:∀{ns:List Int}{vs:List V},pE K H (ns.map .int) vs->vs=ns.map V.int
 | [],vs,h=>h.nil_inv
 |n::ns,vs,h=>by
  obtain⟨v,ws,rfl,h1,h2⟩:=pE.cons_inv (d:=.int n) (ds:=ns.map .int) h;cases h1;rw[rW h2];rfl
def IS:List Int->Option Int
 | []=>none
 |n::ns=>some (ns.foldl min n)
theorem vD:∀(ns:List Int) (n:Int),ns.foldl min n∈n::ns
 | [],n=>by simp
 |m::ns,n=>by
  have h:=vD ns (min n m);rw[cm];rcases aj.mp h with e|e
  .rw [e]
   by_cases c:n<=m
   .rw [Int.min_eq_left c];simp
   .rw [Int.min_eq_right (by lia)];simp
  .exact mCo _ (mCo _ e)
theorem uz:∀(ns:List Int) (n:Int),(ns.foldl min n<=n)/\∀x∈ns,ns.foldl min n<=x
 | [],n=>⟨gS _,λx h=>by cases h⟩
 |m::ns,n=>by
  obtain⟨h1,h2⟩:=uz ns (min n m);rw[cm];refine⟨by lia,λx hx=>?_⟩
  rcases aj.mp hx with e|e
  .subst e;lia
  .exact h2 x e
def PZ:List D->Option D
 | [.list ds]=>(rR ds).bind λns=>(IS ns).map .int
 |_=>none
section
variable {K:W.Frag}
theorem rh:Ql K (λxs H Q=>∃x n,xs=[x]/\Um K x H n/\Q (.int n) H) sm:=by
 intro vs H Q ds d r e q;unfold sm at e;split at e
 .obtain ⟨v,ws,rfl,h1,h2⟩:=r.cons_inv;rw[h2.nil_inv];obtain⟨p,us,rfl,h3,h4⟩:=h1.list_inv;cases e;exact⟨_,_,rfl,.inl ⟨us,qS.of h3,h4.1⟩,q _ .int⟩
 .obtain ⟨v,ws,rfl,h1,h2⟩:=r.cons_inv;rw[h2.nil_inv];obtain⟨p,us,rfl,h3,h4⟩:=h1.tup_inv;cases e;exact⟨_,_,rfl,.inr ⟨us,BR.of h3,h4.1⟩,q _ .int⟩
 .obtain ⟨v,ws,rfl,h1,h2⟩:=r.cons_inv;rw[h2.nil_inv];cases e;cases h1 with
  |scr h=>exact⟨_,_,rfl,.inl ⟨_,h,(lMq _).symm⟩,q _ .int⟩
 .rcases oC e with ⟨hl,e⟩|e
  .skip
   obtain⟨v,ws,rfl,h1,h2⟩:=r.cons_inv;rw[h2.nil_inv];cases e;cases h1;exact⟨_,_,rfl,⟨by rw[sU];exact hl,rfl⟩,q _ .int⟩
  .cases e
 .cases e
theorem A5:Ql K (λxs H Q=>∃a kvs,xs=[V.ref a]/\H a=some (.dK kvs)/\Q (.int kvs.length) H) Am:=by
 intro vs H Q ds d r e q;unfold Am at e;split at e
 .obtain ⟨v,ws,rfl,h1,h2⟩:=r.cons_inv;rw[h2.nil_inv];obtain⟨p,us,rfl,h3,h4⟩:=h1.dict_inv;cases e;have hl:=congrArg bL h4.1;rw[lMq,lMq]at hl;rw[hl]at q;exact⟨_,_,rfl,h3,q _ .int⟩
 .cases e
theorem SG:Ql K (λxs H Q=>∃(a:Addr) (ns:List Int),xs=[.ref a]/\qS K H a (ns.map V.int)/\0<ns.length/\∀M,M∈ns->(∀x,x∈ns->M<=x)->Q (.int M) H) PZ:=by
 intro vs H Q ds d r e q;unfold PZ at e;split at e
 .obtain ⟨v,ws,rfl,h1,h2⟩:=r.cons_inv;rw[h2.nil_inv];obtain⟨ns,e1,e⟩:=oBq.mp e;obtain⟨m,e2,e⟩:=oMq.mp e;cases e;rw[wg e1]at h1;obtain⟨p,us,rfl,h3,h4⟩:=h1.list_inv;rw[rW h4]at h3;cases ns with
  |nil=>cases e2
  |cons n ns =>
   cases e2;refine⟨p,_,rfl,qS.of h3,by simp,λM hM hm=>?_⟩
   have e3:M=ns.foldl min n:=by
    have a1:=hm _ (vD ns n);have a2:=uz ns n;have a3:ns.foldl min n<=M:=by
     rcases aj.mp hM with z|z
     .subst z;exact a2.1
     .exact a2.2 M z
    lia
   rw[e3];exact q _ .int
 .cases e
theorem Sa:Ql K (λxs H Q=>∃x T b,xs=[x,.ty T]/\SC K x H T b/\Q (.bl b) H) Fe:=by
 intro vs H Q ds d r e q;unfold Fe at e;split at e
 rotate_left
 .cases e
 rename_i x T;obtain⟨v,ws,rfl,h1,h2⟩:=r.cons_inv;obtain⟨u,zs,rfl,h3,h4⟩:=h2.cons_inv;rw[h4.nil_inv];cases h3;unfold Sv at e;cases x <;> first|(cases e;done)|dsimp only at e
 case int =>
  cases h1;split at e
  .rename_i hT;cases e;exact⟨_,_,_,rfl,.inl ⟨hT,rfl⟩,q _ .bl⟩
  .split at e
   .rename_i hT;cases e;exact⟨_,_,_,rfl,.inr ⟨hT,rfl⟩,q _ .bl⟩
   .cases e
 case bl =>
  cases h1;split at e
  .rename_i hT;cases e;rcases hT with hT|hT
   .exact ⟨_,_,_,rfl,.inl ⟨hT,rfl⟩,q _ .bl⟩
   .exact ⟨_,_,_,rfl,.inr ⟨hT,rfl⟩,q _ .bl⟩
  .cases e
 case str =>
  cases h1;split at e
  .rename_i hT;cases e;exact⟨_,_,_,rfl,⟨hT,rfl⟩,q _ .bl⟩
  .cases e
 case list =>
  obtain⟨p,us,rfl,g3,g4⟩:=h1.list_inv;split at e
  .rename_i hT;cases e;exact⟨_,_,_,rfl,.inl ⟨hT,rfl,us,qS.of g3⟩,q _ .bl⟩
  .cases e
 case tup =>
  obtain⟨p,us,rfl,g3,g4⟩:=h1.tup_inv;split at e
  .rename_i hT;cases e;exact⟨_,_,_,rfl,.inr (.inr ⟨hT,rfl,us,BR.of g3⟩),q _ .bl⟩
  .cases e
 case dict =>
  obtain⟨p,us,rfl,g3,g4⟩:=h1.dict_inv;split at e
  .rename_i hT;cases e;exact⟨_,_,_,rfl,.inr (.inl ⟨hT,rfl,us,g3⟩),q _ .bl⟩
  .cases e
end
abbrev MF:=List D->Option AV
def qe(K:W.Frag) (f:MF):Sp:=λvs H Q _=>∃(Hf:Hp) (ds:List D) (a:AV),ou Hf H/\pE K Hf ds vs/\f ds=some a /\
 ∀Hf' H' v F,ou Hf Hf'->ou H H'->ou Hf' H'->(∀b,Hf b=none->H b≠none->Hf' b=none)->oJ K Hf' H' a v F->F.Nodup->(∀q∈F,H q=none)->Q v H'
def qL(f:MF) (a:MA):MK:=λS=>(a S).bind λx=>(f (x.1.map nU)).map λr=>(r,x.2)
theorem ql{K:W.Frag}{f:MF}{ta:TA}{a:MA}(ha:SA K ta a):SK K (Ao (qe K f) [] E0 ta) (qL f a):=by
 intro H₀ Hf₀ Hf S σ H Fs av S' R e Q q;obtain⟨x,e1,e⟩:=oBq.mp e;obtain⟨z,e3,e⟩:=oMq.mp e;cases e;refine ha R (as:=x.1) (S':=x.2) e1 _ λHf1 H1 Fs1 vs Gs t1 R1 r1 o1=>?_
 obtain⟨R2,r2,t2⟩:=R1.gives t1 r1 o1;rw[aNq];refine⟨_,_,av,R2.sub,r2,e3,λHf' H' v F s1 s2 s3 l r nd fr=>?_⟩
 have t3:xp (Z.frz Hf1 H1 Gs.flatten) H1 Fs1 Hf' H' Fs1:=⟨s1,s2,λ_ h=>h,λb h g=>.inl (by
  by_cases e:H1 b=none
  .exact e
  .exact absurd (l b h e) g)⟩
 have hn:∀q∈Fs1.flatten,Hf' q=none:=λq hq=>l q (R2.mem hq).2 (R2.mem hq).1
 have R3:oM K H₀ Hf₀ Hf' x.2 σ H' Fs1:=R2.more s2 s1 s3 hn λb h1 h2=>l b (R2.lim b h1 h2) (Ed R2.fr h2)
 refine q _ _ _ v F (t2.trans t3) R3 r ⟨nd,λq hq=>R2.fr.free (fr q hq),λq hq m=>(R2.mem m).1 (fr q hq),λq hq=>.inl (t1.sh.free (fr q hq))⟩
inductive DG where
 |nx (S:AS)|rt (a:AV)|bk (S:AS)|ct (S:AS)
abbrev MS:=AS->Option DG
def Ai(K:W.Frag) (H₀ Hf₀ Hf:Hp) (D:vX):DG->Prop
 | .nx S=>∀Hf' σ' H' Fs',ou Hf Hf'->oM K H₀ Hf₀ Hf' S σ' H' Fs'->D.nx σ' H'
 | .bk S=>∀Hf' σ' H' Fs',ou Hf Hf'->oM K H₀ Hf₀ Hf' S σ' H' Fs'->D.bk σ' H'
 | .ct S=>∀Hf' σ' H' Fs',ou Hf Hf'->oM K H₀ Hf₀ Hf' S σ' H' Fs'->D.ct σ' H'
 | .rt a=>∀Hf' H' v F,ou Hf₀ Hf'->ou H₀ H'->ou Hf' H'->(∀b,Hf₀ b=none->H₀ b≠none->Hf' b=none)->oJ K Hf' H' a v F->F.Nodup->(∀q∈F,H₀ q=none)->D.rt v H'
def SS(K:W.Frag) (t:TS) (m:MS):Prop:=∀{H₀ Hf₀ Hf:Hp}{S:AS}{σ:St}{H:Hp}{Fs:List (List Addr)}{o:DG},oM K H₀ Hf₀ Hf S σ H Fs->m S=some o->∀D:vX,Ai K H₀ Hf₀ Hf D o->t D σ H
theorem Ai.mono{K:W.Frag}{H₀ Hf₀ Hf Hf':Hp}{D:vX}{o:DG}(s:ou Hf Hf') (h:Ai K H₀ Hf₀ Hf D o):Ai K H₀ Hf₀ Hf' D o:=by
 cases o with
 |nx S=>exact λHf2 σ' H' Fs' s2 R=>h Hf2 σ' H' Fs' (s.trans s2) R
 |bk S=>exact λHf2 σ' H' Fs' s2 R=>h Hf2 σ' H' Fs' (s.trans s2) R
 |ct S=>exact λHf2 σ' H' Fs' s2 R=>h Hf2 σ' H' Fs' (s.trans s2) R
 |rt a=>exact h
def qM:MS:=λS=>some (.nx S)
def Wz:MS:=λS=>some (.bk S)
def W7:MS:=λS=>some (.ct S)
def VF:MS:=λ_=>none
def oa(a b:MS):MS:=λS=>(a S).bind λo=>match o with
 | .nx S'=>b S'
 |o=>some o
def ox(i:Nat) (k:MK):MS:=λS=>(k S).map λx=>.nx (x.2.set i (some x.1))
def Xa(k:MK):MS:=λS=>(k S).map λx=>.nx x.2
def su(k:MK):MS:=λS=>(k S).map λx=>.rt x.1
def zJ(c:MT) (a b:MS):MS:=λS=>(c S).bind λx=>if x.1=true then a x.2 else b x.2
section
variable {K:W.Frag}{t u:TS}{a b:MS}{te:TE}{k:MK}
theorem qp:SS K P6 qM:=by
 intro H₀ Hf₀ Hf S σ H Fs o R e D h;cases e;exact h _ _ _ _ (.refl _) R
theorem nK(ha:SS K t a) (hb:SS K u b):SS K (Kb t u) (oa a b):=by
 intro H₀ Hf₀ Hf S σ H Fs o R e D h;obtain⟨x,e1,e⟩:=oBq.mp e;refine ha R e1 _ ?_;cases x with
 |nx S'=>exact λHf' σ' H' Fs' s R'=>hb R' e D (h.mono s)
 |rt a=>cases e;exact h
 |bk a=>cases e;exact h
 |ct a=>cases e;exact h
theorem nT{i:Nat}(hk:SK K te k):SS K (E6 te (rG i)) (ox i k):=by
 intro H₀ Hf₀ Hf S σ H Fs o R e D h;obtain⟨x,e1,e⟩:=oMq.mp e;cases e;refine hk R (a:=x.1) (S':=x.2) e1 _ λHf1 H1 Fs1 v F t1 R1 r1 o1=>?_
 exact h _ _ _ _ t1.sf (R1.set i r1 o1.nd λq hq=>⟨o1.fr q hq,o1.out q hq⟩)
theorem pR(hk:SK K te k):SS K (T4 te) (su k):=by
 intro H₀ Hf₀ Hf S σ H Fs o R e D h;obtain⟨x,e1,e⟩:=oMq.mp e;cases e;exact hk R (a:=x.1) (S':=x.2) e1 _ λHf1 H1 Fs1 v F t1 R1 r1 o1=>h _ _ v F R1.sf R1.fr R1.sub R1.lim r1 o1.nd o1.fr
theorem sv{c:TT}{m:MT}(hc:Cp K c m) (ha:SS K t a) (hb:SS K u b):SS K (Nl c t u) (zJ m a b):=by
 intro H₀ Hf₀ Hf S σ H Fs o R e D h;obtain⟨x,e1,e⟩:=oBq.mp e;refine hc R (b:=x.1) (S':=x.2) e1 _ λHf1 H1 Fs1 t1 R1=>?_
 split at e
 .rename_i hx;rw[hx];exact Bh (ha R1 e D (h.mono t1.sf))
 .rename_i hx;rw[cE]at hx;rw[hx];exact Bs (hb R1 e D (h.mono t1.sf))
end
def qf(S:AS) (i:Nat):Option (List AV):=match S[i]?.join with
 |some (.ow avs)=>some avs
 |_=>none
def xo(S:AS) (i:Nat):Option (List (oy×D)):=match S[i]?.join with
 |some (.owd kvs)=>some kvs
 |_=>none
def wR(i:Nat) (k:MK):MS:=λS=>(qf S i).bind λ_=>(k S).bind λx=>(qf x.2 i).bind λavs =>
 uI (avs.length<qF) (some (.nx (x.2.set i (some (.ow (avs++[x.1]))))))
def SV(i:Nat) (l:ML):MS:=λS=>(qf S i).bind λ_=>(l S).bind λx=>(qf x.2 i).bind λavs =>
 uI (avs.length+x.1.length<=qF) (some (.nx (x.2.set i (some (.ow (avs++x.1.map .sh))))))
def intOf:D->Option Int
 | .int i=>some i
 |_=>none
def Xv(i:Nat) (b:ME) (k:MK):MS:=λS=>(rN k S).bind λx=>(qf x.2 i).bind λ_=>(b x.2).bind λy=>(qf y.2 i).bind λavs=>(intOf y.1).bind λj=>(E1 avs.length j).map λn =>
 .nx (y.2.set i (some (.ow (((avs.map nU).set n (nU x.1)).map .sh))))
def uk:D->Option oy
 | .int i=>some (.inl i)
 | .str x=>some (.inr x)
 |_=>none
def xf(kvs:List (oy×D)) (k:oy) (d:D):List (oy×D):=if kvs.any (λkv=>decide (kv.1=k)) then kvs.map (λkv=>if kv.1=k then (kv.1,d) else kv) else kvs++[(k,d)]
def getD(kvs:List (oy×D)) (k:oy):Option D:=(kvs.find? λkv=>decide (kv.1=k)).map (·.2)
def xD(i:Nat) (b:ME) (k:MK):MS:=λS=>(rN k S).bind λx=>(xo x.2 i).bind λ_=>(b x.2).bind λy=>(xo y.2 i).bind λkvs=>(uk y.1).bind λkey =>
 uI (kvs.length<qF) (some (.nx (y.2.set i (some (.owd (xf kvs key (nU x.1)))))))
section
variable {K:W.Frag}{H₀ Hf₀ Hf H:Hp}{S:AS}{σ:St}{Fs:List (List Addr)}
theorem oM.turn(R:oM K H₀ Hf₀ Hf S σ H Fs) {i:Nat}{av:AV}{p:Addr}{o:HO}{F F':List Addr}(s1:σ[i]?=some (some (.ref p))) (s2:Fs[i]?=some F) (hp:p∈F) (r:oJ K Hf (pX H p o) av (.ref p) F') (nd:F'.Nodup)
  (hf:∀q∈F',H₀ q=none/\q∉(Fs.set i []).flatten):oM K H₀ Hf₀ Hf (S.set i (some av)) σ (pX H p o) (Fs.set i F'):=by
 have hin:p∈Fs.flatten:=mFq.mpr ⟨F,mGq s2,hp⟩;have pn:Hf p=none:=(R.mem hin).2;have p0:H₀ p=none:=R.fresh p hin;have out:=sV R.nd s2 hp;have R1:oM K H₀ Hf₀ Hf (S.set i none) σ (pX H p o) (Fs.set i []):=by
  refine⟨by simp[R.len],by simp[R.lenF],λj a ej=>?_,λj ej=>?_,qH i R.nd aW (λp hp=>by cases hp),λp hp=>R.fresh p (pZ hp),λb u e=>?_,λb u e=>?_,R.lim,R.sf⟩
  .rw [bx]at ej
   by_cases hij:i=j
   .subst hij;rw[oz rfl]at ej;split at ej <;> cases ej
   .rw [oB hij]at ej;obtain⟨w,G,f1,f2,q⟩:=R.rep j a ej;refine⟨w,G,f1,by rw[aE hij];exact f2,q.keep (.refl _) (λc hc=>nY λe=>out ?_) λc hc=>(q.owned c hc).2⟩
    subst e;exact mFq.mpr ⟨G,mGq (i:=j) (by rw[aE hij];exact f2),hc⟩
  .rw [bx]at ej
   by_cases hij:i=j
   .subst hij;rw[oz rfl]at ej;split at ej
    .rename_i hi;rw[aJ (R.lenF.symm ▸ hi)]
    .cases ej
   .rw [oB hij]at ej;rw[aE hij];exact R.emp j ej
  .rw [nY λz=>by rw[z,pn]at e;cases e]
   exact R.sub b u e
  .rw [nY λz=>by rw[z,p0]at e;cases e]
   exact R.fr b u e
 exact R1.again (F:=F) s1 r nd hf
theorem oN{i:Nat}{F:List Addr}{q:Addr}(s2:Fs[i]?=some F) (h:q∈F):q∈Fs.flatten:=mFq.mpr ⟨F,mGq s2,h⟩
theorem pB.snoc{as:List AV}{vs:List V}{Gs:List (List Addr)}{a:AV}{v:V}{F:List Addr}(r:pB K Hf H as vs Gs) (s:oJ K Hf H a v F):pB K Hf H (as++[a]) (vs++[v]) (Gs++[F]):=by
 obtain⟨h1,h2,h3⟩:=r;refine⟨by simp[h1],by simp[h2],λi b w G e1 e2 e3=>?_⟩
 by_cases hi:i<as.length
 .rw [gZq hi]at e1;rw[gZq (h1 ▸ hi)]at e2;rw[gZq (h2 ▸ hi)]at e3;exact h3 i b w G e1 e2 e3
 .have hi':i=as.length:=by
   have:=(gSq.mp e1).1;rw[lAq,lSq]at this;lia
  subst hi';rw[gYq (ag _),bP]at e1;rw[h1,gYq (ag _),bP]at e2;rw[h2,gYq (ag _),bP]at e3;cases e1;cases e2;cases e3;exact s
theorem pB.keepUpd{as:List AV}{vs:List V}{Gs:List (List Addr)}{p:Addr}{o:HO}(r:pB K Hf H as vs Gs) (hp:p∉Gs.flatten):pB K Hf (pX H p o) as vs Gs :=
 ⟨r.1,r.2.1,λi a v F h1 h2 h3=>by
  have q:=r.2.2 i a v F h1 h2 h3;refine q.keep (.refl _) (λc hc=>nY λe=>hp ?_) λc hc=>(q.owned c hc).2
  subst e;exact mFq.mpr ⟨F,mGq h3,hc⟩⟩
theorem oJ.keepUpd{a:AV}{v:V}{F:List Addr}{p:Addr}{o:HO}(q:oJ K Hf H a v F) (hp:p∉F):oJ K Hf (pX H p o) a v F :=
 q.keep (.refl _) (λc hc=>nY λe=>hp (e ▸ hc)) λc hc=>(q.owned c hc).2
theorem Oa{ds:List D}{vs:List V}(r:pE K Hf ds vs):pB K Hf H (ds.map .sh) vs (aO ds.length []) :=
 ⟨by simp[r.1],by simp,λi a v F h1 h2 h3=>by
  rw[gMq]at h1;cases q:ds[i]? with
  |none=>rw[q]at h1;cases h1
  |some d =>
   rw[q]at h1;cases h1;have:F=[]:=cK (mGq h3);subst this;exact .sh (r.2 i d v q h2)⟩
theorem pB.append{as bs:List AV}{vs ws:List V}{Gs Es:List (List Addr)}(r:pB K Hf H as vs Gs) (s:pB K Hf H bs ws Es):pB K Hf H (as++bs) (vs++ws) (Gs++Es):=by
 obtain⟨h1,h2,h3⟩:=r;refine⟨by simp[h1,s.1],by simp[h2,s.2.1],λi b w G e1 e2 e3=>?_⟩
 by_cases hi:i<as.length
 .rw [gZq hi]at e1;rw[gZq (h1 ▸ hi)]at e2;rw[gZq (h2 ▸ hi)]at e3;exact h3 i b w G e1 e2 e3
 .rw [gYq (by lia)]at e1
  rw[gYq (by lia),←h1]at e2
  rw[gYq (by lia),←h2]at e3
  exact s.2.2 _ b w G e1 e2 e3
end
section
variable {K:W.Frag}{te ta tb:TE}{k:MK}{b:ME}{l:ML}
theorem oW{S:AS}{i:Nat}{avs:List AV}(h:qf S i=some avs):S[i]?=some (some (.ow avs)):=by
 unfold qf at h;split at h
 .rename_i z e;cases h;exact oX e
 .cases h
theorem Bm{S:AS}{i:Nat}{kvs:List (oy×D)}(h:xo S i=some kvs):S[i]?=some (some (.owd kvs)):=by
 unfold xo at h;split at h
 .rename_i z e;cases h;exact oX e
 .cases h
theorem oM.ow{H₀ Hf₀ Hf H:Hp}{S:AS}{σ:St}{Fs:List (List Addr)}(R:oM K H₀ Hf₀ Hf S σ H Fs) {i:Nat}{avs:List AV}(h:S[i]?=some (some (.ow avs))):∃p vs Gs,σ[i]?=some (some (.ref p))/\Fs[i]?=some (p::Gs.flatten)/\H p=some (.lst vs)/\Hf p=none/\pB K Hf H avs vs Gs /\
  p∉Gs.flatten/\Gs.flatten.Nodup/\∀q∈p::Gs.flatten,H₀ q=none/\q∉(Fs.set i []).flatten:=by
 obtain⟨v,F,s1,s2,r,nd,o,_⟩:=R.move h;obtain⟨p,vs,Gs,rfl,rfl,h1,h2,h3⟩:=r.ow_inv;exact⟨p,vs,Gs,s1,s2,h1,h2,h3,(ax.mp nd).1,(ax.mp nd).2,o⟩
theorem sJ{i:Nat}(hk:SK K te k):SS K (zm (N1 K "list" yn (xP i) (sY te xr))) (wR i k):=by
 intro H₀ Hf₀ Hf S σ H Fs o R e D h;obtain⟨a0,e0,e⟩:=oBq.mp e;obtain⟨x,e1,e⟩:=oBq.mp e;obtain⟨avs,e2,e⟩:=oBq.mp e;rcases oC e with ⟨hl,e⟩|e
 .skip
  cases e;obtain⟨p,vs,Gs,s1,_,h1,_⟩:=R.ow (oW e0);refine⟨.ref p,s1,.inl ⟨rfl,vs,qS.of h1⟩,hk R (a:=x.1) (S':=x.2) e1 _ λHf1 H1 Fs1 v F t1 R1 r1 o1=>?_⟩
  obtain⟨p',vs',Gs',s1',s2',h1',h2',h3',h4',h5',h6'⟩:=R1.ow (oW e2);rw[s1]at s1';cases s1';have pF:p∉F:=λm=>o1.out p m (oN s2' (by simp))
  refine⟨p,vs',v,rfl,rfl,h1',by rw[sU,←h3'.1];exact hl,h _ _ _ _ t1.sf (R1.turn s1 s2' (by simp) (F':=p::(Gs'++[F]).flatten) (oJ.news oh h2' ((h3'.keepUpd h4').snoc (r1.keepUpd pF))) ?_ λq hq=>?_)⟩
  .rw [fAq,bg];refine ax.mpr ⟨λm=>(mAq.mp m).elim h4' pF,nAq.mpr ⟨h5',o1.nd,λa ha b hb e=>o1.out b hb (oN s2' (mCo _ (e ▸ ha)))⟩⟩
  .rw [fAq,bg]at hq;rcases aj.mp hq with z|z
   .exact h6' q (by rw[z];simp)
   .rcases mAq.mp z with z|z
    .exact h6' q (mCo _ z)
    .exact ⟨o1.fr q z,λm=>o1.out q z (pZ m)⟩
 .cases e
theorem QO{i:Nat}(hl:SL K te l):SS K (zm (N1 K "list" Ik (xP i) (sY te xr))) (SV i l):=by
 intro H₀ Hf₀ Hf S σ H Fs o R e D h;obtain⟨a0,e0,e⟩:=oBq.mp e;obtain⟨x,e1,e⟩:=oBq.mp e;obtain⟨avs,e2,e⟩:=oBq.mp e;rcases oC e with ⟨hle,e⟩|e
 .skip
  cases e;obtain⟨p,vs,Gs,s1,_,h1,_⟩:=R.ow (oW e0);refine⟨.ref p,s1,.inl ⟨rfl,vs,qS.of h1⟩,hl R (ds:=x.1) (S':=x.2) e1 _ λHf1 H1 Fs1 b ws t1 R1 hb r1=>?_⟩
  obtain⟨p',vs',Gs',s1',s2',h1',h2',h3',h4',h5',h6'⟩:=R1.ow (oW e2);rw[s1]at s1';cases s1';refine⟨p,b,vs',ws,rfl,rfl,h1',hb,by rw[sU,←h3'.1,←r1.1];exact hle,h _ _ _ _ t1.sf (R1.turn s1 s2' (by simp) (F':=p::(Gs'++aO x.1.length []).flatten) (oJ.news oh h2' ((h3'.keepUpd h4').append (Oa r1))) ?_ λq hq=>?_)⟩
  .rw [fAq,rK,aNq];exact ax.mpr ⟨h4',h5'⟩
  .rw [fAq,rK,aNq]at hq;exact h6' q hq
 .cases e
theorem B6{H:Hp}:∀{ds:List (oy×D)}{kvs:List (oy×V)}{key:oy},um K H ds kvs->match getD ds key with
  |some d=>∃v,yX kvs key=some v/\qB K H d v
  |none=>yX kvs key=none
 | [],kvs,key,h=>by
  have:kvs=[]:=by
   have:=congrArg bL h.1;simpa using this.symm
  subst this;rfl
 |d::ds,[],key,h=>by
  have:=congrArg bL h.1;simp at this
 |d::ds,v::kvs,key,h=>by
  have h1:d.1=v.1/\ds.map (·.1)=kvs.map (·.1):=by
   have:=h.1;simpa using this
  have h2:qB K H d.2 v.2:=h.2 0 d v rfl rfl;have ht:um K H ds kvs:=⟨h1.2,λi a b e1 e2=>h.2 (i+1) a b (by simpa using e1) (by simpa using e2)⟩
  unfold getD yX
  by_cases c:d.1=key
  .rw [dC (by simp[c]),dC (by simp[←h1.1,c])]
   exact⟨v.2,rfl,h2⟩
  .rw [cT (by simp[c]),cT (by simp[←h1.1,c])]
   exact B6 ht
theorem vQ{H:Hp}{d:D}{v:V}{key:oy}(h:uk d=some key) (r:qB K H d v):v=kV key:=by
 cases r <;> simp only[uk]at h
 all_goals first|(exfalso;simp at h;done)|skip
 all_goals (cases h;rfl)
theorem um.key{H:Hp}{ds:List (oy×D)}{kvs:List (oy×V)}(h:um K H ds kvs) {i:Nat}{d:oy×D}{v:oy×V}(e1:ds[i]?=some d) (e2:kvs[i]?=some v):d.1=v.1:=by
 have:=congrArg (λl=>l[i]?) h.1
 simp only[gMq,e1,e2,fk]at this;exact aU.inj this
theorem um.len{H:Hp}{ds:List (oy×D)}{kvs:List (oy×V)}(h:um K H ds kvs):ds.length=kvs.length:=by
 have:=congrArg bL h.1;simpa using this
theorem Nq{H:Hp}{ds:List (oy×D)}{kvs:List (oy×V)}{key:oy}{d:D}{v:V}(h:um K H ds kvs) (r:qB K H d v):um K H (xf ds key d) (xF kvs key v):=by
 have ha:(ds.any λkv=>decide (kv.1=key))=kvs.any λkv=>decide (kv.1=key):=by
  have e1:(ds.any λkv=>decide (kv.1=key))=(ds.map (·.1)).any λk=>decide (k=key):=by rw[ix];rfl
  have e2:(kvs.any λkv=>decide (kv.1=key))=(kvs.map (·.1)).any λk=>decide (k=key):=by rw[ix];rfl
  rw[e1,e2,h.1]
 unfold xf xF;rw[ha];split
 .refine ⟨?_,λi a b e1 e2=>?_⟩
  .rw [mPq,mPq];have e1:((λkv:oy×D=>kv.1)∘λkv:oy×D=>if kv.1=key then (kv.1,d) else kv)=λkv=>kv.1:=by
    funext kv;show (if kv.1=key then (kv.1,d) else kv).1=kv.1
    split <;> rfl
   have e2:((λkv:oy×V=>kv.1)∘λkv:oy×V=>if kv.1=key then (kv.1,v) else kv)=λkv=>kv.1:=by
    funext kv;show (if kv.1=key then (kv.1,v) else kv).1=kv.1
    split <;> rfl
   rw[e1,e2];exact h.1
  .rw [gMq]at e1 e2;obtain⟨a',f1,rfl⟩:=oMq.mp e1;obtain⟨b',f2,rfl⟩:=oMq.mp e2;have hk:=h.key f1 f2
   by_cases c:a'.1=key
   .rw [oz c,oz (hk ▸ c)];exact r
   .rw [oB c,oB (hk ▸ c)];exact h.2 i a' b' f1 f2
 .refine ⟨by rw[mBq,mBq,h.1];rfl,λi a b e1 e2=>?_⟩
  by_cases hi:i<ds.length
  .rw [gZq hi]at e1;rw[gZq (h.len ▸ hi)]at e2;exact h.2 i a b e1 e2
  .have hi':i=ds.length:=by
    have:=(gSq.mp e1).1;rw[lAq,lSq]at this;lia
   subst hi';rw[gYq (ag _),bP]at e1;rw[h.len,gYq (ag _),bP]at e2;cases e1;cases e2;exact r
def Ar:MK:=λS=>some (.owd [],S)
theorem wW:SK K Nc Ar:=by
 intro H₀ Hf₀ Hf S σ H Fs av S' R e Q q;cases e;intro p hp;obtain⟨t,R2,n1,n2,n3⟩:=R.new (o:=.dK []) hp;exact q _ _ _ (.ref p) [p] t R2 (.owd oh n1 ⟨rfl,λi d v h=>by simp at h⟩) (vN.one R hp)
theorem oM.owd{H₀ Hf₀ Hf H:Hp}{S:AS}{σ:St}{Fs:List (List Addr)}(R:oM K H₀ Hf₀ Hf S σ H Fs) {i:Nat}{ds:List (oy×D)}(h:S[i]?=some (some (.owd ds))):∃p kvs,σ[i]?=some (some (.ref p))/\Fs[i]?=some [p]/\H p=some (.dK kvs)/\Hf p=none/\um K Hf ds kvs /\
  H₀ p=none/\p∉(Fs.set i []).flatten:=by
 obtain⟨v,F,s1,s2,r,nd,o,_⟩:=R.move h;obtain⟨p,kvs,rfl,rfl,h1,h2,h3⟩:=r.owd_inv;exact⟨p,kvs,s1,s2,h1,h2,h3,(o p (by simp)).1,(o p (by simp)).2⟩
theorem tP{i:Nat}(hk:SK K te k) (hb:SR K tb b):SS K (Qa (xP i) tb te) (xD i b k):=by
 intro H₀ Hf₀ Hf S σ H Fs o R e D h;obtain⟨x,e1,e⟩:=oBq.mp e;obtain⟨a0,e0,e⟩:=oBq.mp e;obtain⟨y,e2,e⟩:=oBq.mp e;obtain⟨kvs,e3,e⟩:=oBq.mp e;obtain⟨key,e4,e⟩:=oBq.mp e;rcases oC e with ⟨hl,e⟩|e
 .skip
  cases e;have hk':SK K te (rN k):=SK.frz hk;refine hk' R (a:=x.1) (S':=x.2) e1 _ λHf1 H1 Fs1 v F t1 R1 r1 o1=>?_
  obtain⟨p',_,s1,_⟩:=R1.owd (Bm e0);refine⟨_,s1,hb R1 (d:=y.1) (S':=y.2) e2 _ λHf2 H2 Fs2 w t2 R2 r2=>?_⟩
  obtain⟨q',kv,s1',s2',h1',h2',h3',h4',h5'⟩:=R2.owd (Bm e3);rw[s1]at s1';cases s1';obtain⟨x1,hx1⟩:∃d,x.1 = .sh d:=by
   obtain⟨w,_,e⟩:=oMq.mp e1;rw[←e];exact⟨_,rfl⟩
  rw[hx1]at r1;have rv:=(r1.sh_inv.2).mono t2.sf;have hw:=vQ e4 r2;subst hw;refine⟨p',_,rfl,LK.k h1' (by rw[sU,←h3'.len];exact hl),h _ _ _ _ (t1.sf.trans t2.sf) (R2.turn s1 s2' (by simp) (F':=[p']) (.owd oh h2' ?_) (by simp) λq hq=>by rw[mSq.mp hq];exact⟨h4',h5'⟩)⟩
  rw[hx1,pH];exact Nq h3' rv
 .cases e
def SN(a b:ME):ME:=λS=>(a S).bind λx=>(b x.2).bind λy=>match y.1 with
 | .dict kvs=>(uk x.1).map λkey=>(.bl (getD kvs key).isSome,y.2)
 |_=>none
def tN(a b:ME):ME:=λS=>(a S).bind λx=>(b x.2).bind λy=>match y.1 with
 | .dict kvs=>(uk x.1).map λkey=>(.bl (!(getD kvs key).isSome),y.2)
 |_=>none
def uj(a b:ME):ME:=λS=>(a S).bind λx=>(b x.2).bind λy=>match x.1 with
 | .dict kvs=>(uk y.1).bind λkey=>(getD kvs key).map λd=>(d,y.2)
 |_=>none
theorem J1{H:Hp}{kvs:List (oy×D)}{x:V}{key:oy}{d:D}(r:qB K H (.dict kvs) x) (e:getD kvs key=some d):∃a v,x = .ref a/\Ac H a (kV key) (some v)/\qB K H d v:=by
 obtain⟨p,vs,rfl,h1,h2⟩:=r.dict_inv;have g:=B6 (key:=key) h2;rw[e]at g;obtain⟨v,g1,g2⟩:=g;exact⟨p,v,rfl,by rw[←g1];exact Ac.k h1,g2⟩
theorem Fw{H:Hp}{kvs:List (oy×D)}{x:V}{key:oy}(r:qB K H (.dict kvs) x):∃a o,x = .ref a/\Ac H a (kV key) o/\o.isSome=(getD kvs key).isSome:=by
 obtain⟨p,vs,rfl,h1,h2⟩:=r.dict_inv;have g:=B6 (key:=key) h2;refine⟨p,_,rfl,Ac.k h1,?_⟩;cases e:getD kvs key with
 |none=>rw[e]at g;rw[g];rfl
 |some d=>rw[e]at g;obtain⟨v,g1,_⟩:=g;rw[g1];rfl
theorem QE{a:ME}(ha:SR K ta a) (hb:SR K tb b):SR K (Uo ta tb) (SN a b):=by
 intro H₀ Hf₀ Hf S σ H Fs d S' R e Q q;obtain⟨x,e1,e⟩:=oBq.mp e;obtain⟨y,e2,e⟩:=oBq.mp e;refine ha R (d:=x.1) (S':=x.2) e1 _ λHf1 H1 Fs1 v1 t1 R1 r1=>hb R1 (d:=y.1) (S':=y.2) e2 _ λHf2 H2 Fs2 v2 t2 R2 r2=>?_
 split at e
 .rename_i kvs hy;rw[hy]at r2;obtain⟨key,e3,e⟩:=oMq.mp e;cases e;obtain⟨p,o,rfl,g1,g2⟩:=Fw (key:=key) r2;refine⟨p,o,rfl,by rw[vQ e3 r1];exact g1,?_⟩
  rw[g2];exact q _ _ _ _ (t1.trans t2) R2 .bl
 .cases e
theorem uB{a:ME}(ha:SR K ta a) (hb:SR K tb b):SR K (IC ta tb) (tN a b):=by
 intro H₀ Hf₀ Hf S σ H Fs d S' R e Q q;obtain⟨x,e1,e⟩:=oBq.mp e;obtain⟨y,e2,e⟩:=oBq.mp e;refine ha R (d:=x.1) (S':=x.2) e1 _ λHf1 H1 Fs1 v1 t1 R1 r1=>hb R1 (d:=y.1) (S':=y.2) e2 _ λHf2 H2 Fs2 v2 t2 R2 r2=>?_
 split at e
 .rename_i kvs hy;rw[hy]at r2;obtain⟨key,e3,e⟩:=oMq.mp e;cases e;obtain⟨p,o,rfl,g1,g2⟩:=Fw (key:=key) r2;refine⟨p,o,rfl,by rw[vQ e3 r1];exact g1,?_⟩
  rw[g2];exact q _ _ _ _ (t1.trans t2) R2 .bl
 .cases e
theorem rn{a:ME}(ha:SR K ta a) (hb:SR K tb b):SR K (Qw ta tb) (uj a b):=by
 intro H₀ Hf₀ Hf S σ H Fs d S' R e Q q;obtain⟨x,e1,e⟩:=oBq.mp e;obtain⟨y,e2,e⟩:=oBq.mp e;refine ha R (d:=x.1) (S':=x.2) e1 _ λHf1 H1 Fs1 v1 t1 R1 r1=>hb R1 (d:=y.1) (S':=y.2) e2 _ λHf2 H2 Fs2 v2 t2 R2 r2=>?_
 split at e
 .rename_i kvs hy;rw[hy]at r1;obtain⟨key,e3,e⟩:=oBq.mp e;obtain⟨d',e4,e⟩:=oMq.mp e;cases e;obtain⟨p,v,rfl,g1,g2⟩:=J1 (r1.mono t2.sh) e4;exact⟨p,v,rfl,by rw[vQ e3 r2];exact g1,q _ _ _ _ (t1.trans t2) R2 g2⟩
 .cases e
end
def rQ(x:Nat) (body:MS):List D->AS->Option DG
 | [],S=>some (.nx S)
 |d::ds,S=>(body (S.set x (some (.sh d)))).bind λo=>match o with
  | .nx S'=>rQ x body ds S'
  | .ct S'=>rQ x body ds S'
  | .bk S'=>some (.nx S')
  | .rt a=>some (.rt a)
def qm:D->Option (List D)
 | .list ds=>some ds
 | .scr ns=>some (ns.map .int)
 |_=>none
def yq(x:Nat) (k:MK) (body:MS):MS:=λS=>(rN k S).bind λy=>(qm (nU y.1)).bind λds=>rQ x body ds y.2
def oU(lo:Int) (n:Nat):List D:=(aN n).map λi:Nat=>.int (lo+i)
def AK:List D->Option (List D)
 | [.int j]=>uI (-(2 ^ 62)<=j/\j<2 ^ 62) (some (oU 0 j.toNat))
 |_=>none
def Wk:List D->Option (List D)
 | [.int i,.int j]=>uI (-(2 ^ 62)<=i/\i<2 ^ 62/\-(2 ^ 62)<=j/\j<2 ^ 62) (some (oU i (j-i).toNat))
 |_=>none
def A9(x:Nat) (a:ML) (body:MS):MS:=λS=>(a S).bind λy=>(AK y.1).bind λds=>rQ x body ds y.2
def VT(x:Nat) (a:ML) (body:MS):MS:=λS=>(a S).bind λy=>(Wk y.1).bind λds=>rQ x body ds y.2
def zY(x y:Nat) (body:MS):Nat->List D->AS->Option DG
 |_,[],S=>some (.nx S)
 |i,d::ds,S=>(body ((S.set x (some (.sh (.int i)))).set y (some (.sh d)))).bind λo=>match o with
  | .nx S'=>zY x y body (i+1) ds S'
  | .ct S'=>zY x y body (i+1) ds S'
  | .bk S'=>some (.nx S')
  | .rt a=>some (.rt a)
def Iq(x y:Nat) (k:MK) (body:MS):MS:=λS=>(rN k S).bind λz=>(qm (nU z.1)).bind λds=>zY x y body 0 ds z.2
def yE(x y:Nat) (body:MS):List D->List D->AS->Option DG
 |d::ds,e::es,S=>(body ((S.set x (some (.sh d))).set y (some (.sh e)))).bind λo=>match o with
  | .nx S'=>yE x y body ds es S'
  | .ct S'=>yE x y body ds es S'
  | .bk S'=>some (.nx S')
  | .rt a=>some (.rt a)
 |_,_,S=>some (.nx S)
def Mz(x y:Nat) (k l:MK) (body:MS):MS:=λS=>(rN k S).bind λz=>(rN l z.2).bind λw=>(qm (nU z.1)).bind λds=>(qm (nU w.1)).bind λes =>
 if ds.length=es.length then yE x y body ds es w.2 else none
def rV(c:MT) (body:MS):Nat->MS
 |0,_=>none
 |n+1,S=>(c S).bind λx=>if x.1=true then (body x.2).bind λo=>match o with
   | .nx S'=>rV c body n S'
   | .ct S'=>rV c body n S'
   | .bk S'=>some (.nx S')
   | .rt a=>some (.rt a)
  else some (.nx x.2)
section
variable {K:W.Frag}{te tf:TE}{k l:MK}{tb:TS}{body:MS}{x y:Nat}
theorem tG{H:Hp}{d:D}{ds:List D}{v:V}(e:qm d=some ds) (r:qB K H d v):∃a vs,v = .ref a/\qS K H a vs/\pE K H ds vs:=by
 cases d with
 |list es =>
  cases e;obtain⟨p,vs,rfl,h1,h2⟩:=r.list_inv;exact⟨p,vs,rfl,qS.of h1,h2⟩
 |scr ns =>
  cases e;cases r with
  |scr h=>exact⟨_,_,rfl,h,tM ns⟩
 |_=>cases e
theorem uU{te:TE}{S:AS}{z:AV×AS}(e:rN k S=some z):∃d,z.1 = .sh d:=by
 obtain⟨w,_,e⟩:=oMq.mp e;rw[←e];exact⟨_,rfl⟩
theorem oM.setD{H₀ Hf₀ Hf H:Hp}{S:AS}{σ:St}{Fs:List (List Addr)}{d:D}{v:V}(R:oM K H₀ Hf₀ Hf S σ H Fs) (i:Nat) (r:qB K Hf d v):oM K H₀ Hf₀ Hf (S.set i (some (.sh d))) (σ.set i (some v)) H (Fs.set i []) :=
 R.set i (.sh r) aW λq h=>(by cases h)
theorem sr(hk:SK K te k) (hb:SS K tb body):SS K (Ny (Me K te) (rG x) tb) (yq x k body):=by
 intro H₀ Hf₀ Hf S σ H Fs o R e D h;obtain⟨z,e1,e⟩:=oBq.mp e;obtain⟨ds,e2,e⟩:=oBq.mp e;have hk':SK K te (rN k):=SK.frz hk;refine hk' R (a:=z.1) (S':=z.2) e1 _ λHf1 H1 Fs1 v F t1 R1 r1 o1=>?_
 obtain⟨d,hd⟩:=uU (te:=te) e1;rw[hd]at r1;rw[hd,pH]at e2;obtain⟨a,vs,rfl,g1,g2⟩:=tG e2 r1.sh_inv.2;refine⟨a,rfl,⟨vs,R1.sub.seq g1⟩,NK (xs:=vs) (λi σ' H'=>∃Hf' S' Fs',oM K H₀ Hf₀ Hf' S' σ' H' Fs'/\ou Hf1 Hf'/\rQ x body (ds.drop i) S'=some o) ⟨Hf1,z.2,Fs1,R1,.refl _,e⟩
  (λi σ' H' _ ⟨Hf',S',Fs',R',s',_⟩=>R'.sub.seq (s'.seq g1)) ?_ ?_⟩
 .rintro i w σ' H' hw ⟨Hf',S',Fs',R',s',e'⟩;obtain⟨di,hdi,rw'⟩:=g2.get' hw;have hlt:i<ds.length:=(gSq.mp hdi).1;rw[aK hlt]at e';have hdi':ds[i]=di:=(gSq.mp hdi).2;rw[hdi']at e';obtain⟨ob,e3,e4⟩:=oBq.mp e';refine hb (R'.setD x (rw'.mono s')) e3 _ ?_;cases ob with
  |nx S2=>exact λHf2 σ2 H2 Fs2 s2 R2=>⟨Hf2,S2,Fs2,R2,s'.trans s2,e4⟩
  |ct S2=>exact λHf2 σ2 H2 Fs2 s2 R2=>⟨Hf2,S2,Fs2,R2,s'.trans s2,e4⟩
  |bk S2=>cases e4;exact λHf2 σ2 H2 Fs2 s2 R2=>h _ _ _ _ ((t1.sf.trans s').trans s2) R2
  |rt a=>cases e4;exact h
 .rintro σ' H' ⟨Hf',S',Fs',R',s',e'⟩;rw[←g2.1,cS]at e';cases e';exact h _ _ _ _ (t1.sf.trans s') R'
theorem J6{H₀ Hf₀ Hf1 H1:Hp}{S1:AS}{σ:St}{Fs1:List (List Addr)}{o:DG}{D:vX}{lo:Int}{n:Nat}(hb:SS K tb body) (R1:oM K H₀ Hf₀ Hf1 S1 σ H1 Fs1) (e:rQ x body (oU lo n) S1=some o) (h:Ai K H₀ Hf₀ Hf1 D o) :
  ∃W:Nat->Nat->St->Hp->Prop,(∃m,W 0 m σ H1)/\∀i m σ H,W i m σ H ->
   ((Oy lo n).stop i H/\D.nx σ H)∨((Oy lo n).go i H/\∃N:St->Hp->Prop,(∀σ' H',N σ' H'->∃m',m'<m/\W (i+1) m' σ' H')/\∀v H',(Oy lo n).yld i H v H'->rG x v σ H' λσ2 H2=>tb { D with nx:=N,ct:=N,bk:=D.nx } σ2 H2):=by
 refine JP (λi σ' H'=>∃Hf' S' Fs',oM K H₀ Hf₀ Hf' S' σ' H' Fs'/\ou Hf1 Hf'/\rQ x body ((oU lo n).drop i) S'=some o) ⟨Hf1,S1,Fs1,R1,.refl _,e⟩ ?_ ?_
 .rintro i σ' H' hi ⟨Hf',S',Fs',R',s',e'⟩;have hlt:i<(oU lo n).length:=by unfold oU;rw[lMq,aT];exact hi
  rw[aK hlt]at e';have hdi:(oU lo n)[i] = .int (lo+i):=by simp[oU]
  rw[hdi]at e';obtain⟨ob,e3,e4⟩:=oBq.mp e';refine hb (R'.setD x .int) e3 _ ?_;cases ob with
  |nx S2=>exact λHf2 σ2 H2 Fs2 s2 R2=>⟨Hf2,S2,Fs2,R2,s'.trans s2,e4⟩
  |ct S2=>exact λHf2 σ2 H2 Fs2 s2 R2=>⟨Hf2,S2,Fs2,R2,s'.trans s2,e4⟩
  |bk S2=>cases e4;exact λHf2 σ2 H2 Fs2 s2 R2=>h _ _ _ _ (s'.trans s2) R2
  |rt a=>cases e4;exact h
 .rintro σ' H' ⟨Hf',S',Fs',R',s',e'⟩;have hl:(oU lo n).length=n:=by unfold oU;rw[lMq,aT]
  rw[dA (dO hl)]at e';cases e';exact h _ _ _ _ s' R'
theorem BJ{ta:TA}{a:ML}(ha:Pe K ta a) (hb:SS K tb body):SS K (Ny (NO ta) (rG x) tb) (A9 x a body):=by
 intro H₀ Hf₀ Hf S σ H Fs o R e D h;obtain⟨z,e1,e⟩:=oBq.mp e;obtain⟨ds,e2,e⟩:=oBq.mp e;refine ha R (ds:=z.1) (S':=z.2) e1 _ λHf1 H1 Fs1 vs t1 R1 r1=>?_
 unfold AK at e2;split at e2
 .rename_i j hz;rcases oC e2 with ⟨hj,e2⟩|e2
  .skip
   cases e2;rw[hz]at r1;obtain⟨v,ws,rfl,h1,h2⟩:=r1.cons_inv;rw[h2.nil_inv];cases h1;exact⟨j,rfl,hj.1,hj.2,J6 hb R1 e (h.mono t1.sf)⟩
  .cases e2
 .cases e2
theorem D2(hk:SK K te k) (hb:SS K tb body):SS K (Ny (Qn K (sY te xr)) (Ka K 2 (xy (rG x) (xy (rG y) Jq))) tb) (Iq x y k body):=by
 intro H₀ Hf₀ Hf S σ H Fs o R e D h;obtain⟨z,e1,e⟩:=oBq.mp e;obtain⟨ds,e2,e⟩:=oBq.mp e;have hk':SK K te (rN k):=SK.frz hk;refine hk' R (a:=z.1) (S':=z.2) e1 _ λHf1 H1 Fs1 v F t1 R1 r1 o1=>?_
 obtain⟨d,hd⟩:=uU (te:=te) e1;rw[hd]at r1;rw[hd,pH]at e2;obtain⟨a,vs,rfl,g1,g2⟩:=tG e2 r1.sh_inv.2;refine⟨a,rfl,⟨vs,R1.sub.seq g1⟩,NC (xs:=vs) (λi σ' H'=>∃Hf' S' Fs',oM K H₀ Hf₀ Hf' S' σ' H' Fs'/\ou Hf1 Hf'/\zY x y body i (ds.drop i) S'=some o) ⟨Hf1,z.2,Fs1,R1,.refl _,e⟩
  (λi σ' H' _ ⟨Hf',S',Fs',R',s',_⟩=>R'.sub.seq (s'.seq g1)) ?_ ?_⟩
 .rintro i w σ' H' T hw ⟨Hf',S',Fs',R',s',e'⟩ hT;obtain⟨di,hdi,rw'⟩:=g2.get' hw;have hlt:i<ds.length:=(gSq.mp hdi).1;rw[aK hlt]at e';have hdi':ds[i]=di:=(gSq.mp hdi).2;rw[hdi']at e';obtain⟨ob,e3,e4⟩:=oBq.mp e';have R2:=(R'.new (o:=.tup [.int i,w]) hT).2.1;refine hb ((R2.setD x .int).setD y (rw'.mono s')) e3 _ ?_;cases ob with
  |nx S2=>exact λHf2 σ2 H2 Fs2 s2 R2=>⟨Hf2,S2,Fs2,R2,s'.trans s2,e4⟩
  |ct S2=>exact λHf2 σ2 H2 Fs2 s2 R2=>⟨Hf2,S2,Fs2,R2,s'.trans s2,e4⟩
  |bk S2=>cases e4;exact λHf2 σ2 H2 Fs2 s2 R2=>h _ _ _ _ ((t1.sf.trans s').trans s2) R2
  |rt a=>cases e4;exact h
 .rintro σ' H' ⟨Hf',S',Fs',R',s',e'⟩;rw[←g2.1,cS]at e';cases e';exact h _ _ _ _ (t1.sf.trans s') R'
theorem PQ(hk:SK K te k) (hl:SK K tf l) (hb:SS K tb body):SS K (Ny (Q4 K (sY te (sY tf xr))) (Ka K 2 (xy (rG x) (xy (rG y) Jq))) tb) (Mz x y k l body):=by
 intro H₀ Hf₀ Hf S σ H Fs o R e D h;obtain⟨z,e1,e⟩:=oBq.mp e;obtain⟨w,e1',e⟩:=oBq.mp e;obtain⟨ds,e2,e⟩:=oBq.mp e;obtain⟨es,e2',e⟩:=oBq.mp e;split at e
 .rename_i hlen;have hk':SK K te (rN k):=SK.frz hk;have hl':SK K tf (rN l):=SK.frz hl;refine hk' R (a:=z.1) (S':=z.2) e1 _ λHf1 H1 Fs1 v F t1 R1 r1 o1=>hl' R1 (a:=w.1) (S':=w.2) e1' _ λHf2 H2 Fs2 v2 F2 t2 R2 r2 o2=>?_
  obtain⟨d,hd⟩:=uU (te:=te) e1;obtain⟨d2,hd2⟩:=uU (te:=te) e1';rw[hd]at r1;rw[hd,pH]at e2;rw[hd2]at r2;rw[hd2,pH]at e2';obtain⟨a,vs,rfl,g1,g2⟩:=tG e2 (r1.sh_inv.2.mono t2.sf);obtain⟨b,ws,rfl,g3,g4⟩:=tG e2' r2.sh_inv.2;refine⟨a,b,rfl,⟨vs,R2.sub.seq g1⟩,⟨ws,R2.sub.seq g3⟩,Os (xs:=vs) (ys:=ws) (λi σ' H'=>∃Hf' S' Fs',oM K H₀ Hf₀ Hf' S' σ' H' Fs'/\ou Hf2 Hf'/\yE x y body (ds.drop i) (es.drop i) S'=some o) ⟨Hf2,w.2,Fs2,R2,.refl _,e⟩ (by rw[←g2.1,←g4.1,hlen])
   (λi σ' H' _ ⟨Hf',S',Fs',R',s',_⟩=>⟨R'.sub.seq (s'.seq g1),R'.sub.seq (s'.seq g3)⟩) ?_ ?_⟩
  .rintro i u u' σ' H' T hu hu' ⟨Hf',S',Fs',R',s',e'⟩ hT;obtain⟨di,hdi,rw'⟩:=g2.get' hu;obtain⟨ei,hei,rw2⟩:=g4.get' hu';have hlt:i<ds.length:=(gSq.mp hdi).1;have hlt2:i<es.length:=(gSq.mp hei).1;rw[aK hlt,aK hlt2,(gSq.mp hdi).2,(gSq.mp hei).2]at e';obtain⟨ob,e3,e4⟩:=oBq.mp e';have R3:=(R'.new (o:=.tup [u,u']) hT).2.1;refine hb ((R3.setD x (rw'.mono s')).setD y (rw2.mono s')) e3 _ ?_;cases ob with
   |nx S2=>exact λHf2 σ2 H2 Fs2 s2 R2=>⟨Hf2,S2,Fs2,R2,s'.trans s2,e4⟩
   |ct S2=>exact λHf2 σ2 H2 Fs2 s2 R2=>⟨Hf2,S2,Fs2,R2,s'.trans s2,e4⟩
   |bk S2=>cases e4;exact λHf2 σ2 H2 Fs2 s2 R2=>h _ _ _ _ (((t1.sf.trans t2.sf).trans s').trans s2) R2
   |rt a=>cases e4;exact h
  .rintro σ' H' ⟨Hf',S',Fs',R',s',e'⟩;have e0:ds.drop vs.length=[]:=by rw[←g2.1,cS]
   rw[e0]at e';have e0':yE x y body [] (es.drop vs.length) S'=some (.nx S'):=by
    cases es.drop vs.length <;> rfl
   rw[e0']at e';cases e';exact h _ _ _ _ ((t1.sf.trans t2.sf).trans s') R'
 .cases e
theorem zt{c:TT}{m:MT}(n:Nat) (hc:Cp K c m) (hb:SS K tb body):SS K (NF c tb) (rV m body n):=by
 intro H₀ Hf₀ Hf S σ H Fs o R e D h;refine⟨λn σ' H'=>∃Hf' S' Fs',oM K H₀ Hf₀ Hf' S' σ' H' Fs'/\ou Hf Hf'/\rV m body n S'=some o,⟨n,Hf,S,Fs,R,.refl _,e⟩,?_⟩
 rintro n σ' H' ⟨Hf',S',Fs',R',s',e'⟩;cases n with
 |zero=>cases e'
 |succ n =>
  obtain⟨z,e1,e2⟩:=oBq.mp e';refine hc R' (b:=z.1) (S':=z.2) e1 _ λHf1 H1 Fs1 t1 R1=>?_
  split at e2
  .rename_i hz;rw[hz];refine Bh ⟨λσ2 H2=>∃Hf' S' Fs',oM K H₀ Hf₀ Hf' S' σ2 H2 Fs'/\ou Hf Hf'/\rV m body n S'=some o,λσ2 H2 w=>⟨n,cB n,w⟩,?_⟩
   obtain⟨ob,e3,e4⟩:=oBq.mp e2;refine hb R1 e3 _ ?_;cases ob with
   |nx S2=>exact λHf2 σ2 H2 Fs2 s2 R2=>⟨Hf2,S2,Fs2,R2,(s'.trans t1.sf).trans s2,e4⟩
   |ct S2=>exact λHf2 σ2 H2 Fs2 s2 R2=>⟨Hf2,S2,Fs2,R2,(s'.trans t1.sf).trans s2,e4⟩
   |bk S2=>cases e4;exact λHf2 σ2 H2 Fs2 s2 R2=>h _ _ _ _ ((s'.trans t1.sf).trans s2) R2
   |rt a=>cases e4;exact h
  .rename_i hz;rw[cE]at hz;rw[hz];cases e2;exact Bs (h _ _ _ _ (s'.trans t1.sf) R1)
end
def vi(np n:Nat) (m:MS):MF:=λds=>if ds.length=np then (m (ds.map (λd=>some (.sh d))++aO (n-ds.length) none)).bind λo=>match o with
  | .rt a=>some a
  | .nx _=>some (.sh .non)
  |_=>none
 else none
theorem DB{K:W.Frag}{Hf H:Hp}{ds:List D}{vs:List V}(N:List Str) (s:ou Hf H) (r:pE K Hf ds vs) :
  oM K H Hf Hf (ds.map (λd=>some (.sh d))++aO (N.length-ds.length) none) (L2.sZ N vs) H (aO (ds.length+(N.length-ds.length)) []):=by
 have fl:=rK (ds.length+(N.length-ds.length));refine⟨by simp[L2.sZ,r.1],by simp,λi av e=>?_,λi e=>?_,by rw[fl];exact aW,λp hp=>(by rw[fl]at hp;cases hp),s,ou.refl _,λb h _=>h,ou.refl _⟩
 .by_cases hi:i<ds.length
  .rw [gZq (by simpa using hi),gMq]at e
   obtain⟨d,e1,e2⟩:=oMq.mp e;cases e2;obtain⟨v,e3,rv⟩:=r.get e1;refine⟨v,[],?_,?_,.sh rv⟩
   .unfold L2.sZ;rw[gZq (by simpa [←r.1] using hi),gMq,e3]
    rfl
   .rw [bC,oz (by lia)]
  .rw [gYq (by simpa using hi)]at e
   have:=mGq e;rw[cK this]at e;have h2:=cK this;cases h2
 .rw [bC];have hi:=(gSq.mp e).1;rw[lAq,lMq,dF]at hi;rw[oz hi]
theorem pV{K:W.Frag}{t:TS}{m:MS}{np:Nat}(N:List Str) (h:SS K t m) {vs:List V}{H:Hp}{Q:VK}{E:XK}(hs:qe K (vi np N.length m) vs H Q E):t { nx:=λ_ H'=>Q .non H',rt:=Q } (L2.sZ N vs) H:=by
 obtain⟨Hf,ds,a,s,r,e,q⟩:=hs;unfold vi at e;split at e
 .obtain ⟨o,e1,e2⟩:=oBq.mp e;refine h (DB N s r) e1 _ ?_;cases o with
  |rt a' =>
   cases e2;exact λHf' H' v F s1 s2 s3 l r nd fr=>q Hf' H' v F s1 s2 s3 l r nd fr
  |nx S' =>
   cases e2;exact λHf' σ' H' Fs' s1 R=>q Hf' H' .non [] R.sf R.fr R.sub R.lim (.sh .non) aW λq h=>(by cases h)
  |bk S'=>cases e2
  |ct S'=>cases e2
 .cases e
theorem qY{K:W.Frag}{m:MS}{np n:Nat}{vs:List V}{H:Hp}{Q:VK}{E:XK}(hs:qe K (vi np n m) vs H Q E):vs.length=np:=by
 obtain⟨Hf,ds,a,s,r,e,q⟩:=hs;unfold vi at e;split at e
 .rename_i h;rw[←r.1,h]
 .cases e
def fzAll:List Nat->AS->Option AS
 | [],S=>some S
 |j::js,S=>(S[j]?.join).bind λa=>fzAll js (S.set j (some (.sh (nU a))))
def Se:Option AV->Option AV
 |some (.sh d)=>some (.sh d)
 |_=>none
def Ad(S:AS):List Nat->Option AS
 | []=>some []
 |j::js=>(Se S[j]?.join).bind λa=>(Ad S js).map (some a :: ·)
def uh(tf:MT) (te:MK) (cap:AS):List D->Option (List AV)
 | []=>some []
 |d::ds=>(tf (some (.sh d)::cap)).bind λb=>if b.1=true then (te b.2).bind λa=>(uh tf te cap ds).map (a.1 :: ·) else uh tf te cap ds
abbrev MI:=AS->Option (List D×AS)
def NV(k:MK):MI:=λS=>(rN k S).bind λy=>(qm (nU y.1)).map λds=>(ds,y.2)
def Vr(a:ML):MI:=λS=>(a S).bind λy=>(AK y.1).map λds=>(ds,y.2)
def AA(src:MI) (fr:List Nat) (tf:MT) (te:MK):MK:=λS=>(src S).bind λy=>(fzAll fr y.2).bind λS2=>(Ad S2 fr).bind λcap=>uI (y.1.length<=qF) ((uh tf te cap y.1).map λavs=>(.ow avs,S2))
def xn:MT:=λS=>some (true,S)
section
variable {K:W.Frag}{H₀ Hf₀ Hf Hf' H H':Hp}{S S':AS}{σ:St}{Fs Fs':List (List Addr)}
theorem oM.fz(R:oM K H₀ Hf₀ Hf S σ H Fs) {j:Nat}{a:AV}(e:S[j]?.join=some a):∃Hf' Fs',xp Hf H Fs Hf' H Fs'/\oM K H₀ Hf₀ Hf' (S.set j (some (.sh (nU a)))) σ H Fs':=by
 obtain⟨v,F,s1,s2,r,nd,o,R1⟩:=R.move (oX e);have n:∀q∈F,Hf q=none:=λq hq=>(r.owned q hq).2
 have R2:=R1.frz o n;have r2:=r.frozen (rz (H:=H) n) λq hq=>zW hq
 have R3:=R2.again (F:=F) (G:=[]) s1 (.sh r2) aW λq h=>(by cases h)
 refine⟨_,_,⟨rz n,.refl _,λp hp=>pZ hp,λb h g=>?_⟩,R3⟩
 by_cases m:b∈F
 .exact .inr (mFq.mpr ⟨F,mGq s2,m⟩)
 .rw [tR m]at g;exact absurd h g
theorem oM.fzAll:∀{fr:List Nat}{Hf:Hp}{S S':AS}{Fs:List (List Addr)},oM K H₀ Hf₀ Hf S σ H Fs->fzAll fr S=some S'->∃Hf' Fs',xp Hf H Fs Hf' H Fs'/\oM K H₀ Hf₀ Hf' S' σ H Fs'
 | [],Hf,S,S',Fs,R,e=>by
  cases e;exact⟨Hf,Fs,.refl,R⟩
 |j::js,Hf,S,S',Fs,R,e=>by
  obtain⟨a,e1,e2⟩:=oBq.mp e;obtain⟨Hf1,Fs1,t1,R1⟩:=R.fz e1;obtain⟨Hf2,Fs2,t2,R2⟩:=oM.fzAll R1 e2;exact⟨Hf2,Fs2,t1.trans t2,R2⟩
theorem Bf(R:oM K H₀ Hf₀ Hf S σ H Fs):∀{fr:List Nat}{cap:AS},Ad S fr=some cap->cap.length=fr.length/\∀(k:Nat) (a:AV),cap[k]?=some (some a)->∃d v,a = .sh d/\(slots σ fr)[k]?=some (some v)/\qB K Hf d v
 | [],cap,e=>by
  cases e;exact⟨rfl,λk a h=>by simp at h⟩
 |j::js,cap,e=>by
  obtain⟨a,e1,e2⟩:=oBq.mp e;obtain⟨cap',e3,e4⟩:=oMq.mp e2;subst e4;obtain⟨h1,h2⟩:=Bf R e3;refine⟨by simp[h1],λk b hk=>?_⟩
  cases k with
  |zero =>
   cases hk;cases ej:S[j]?.join with
   |none=>rw[ej]at e1;cases e1
   |some c =>
    rw[ej]at e1;cases c with
    |sh d =>
     cases e1;obtain⟨v,F,s1,s2,r⟩:=R.rep j _ (oX ej);refine⟨d,v,rfl,?_,r.sh_inv.2⟩;show some ((σ[j]?).join)=_;rw[s1];rfl
    |_=>cases e1
  |succ k=>exact h2 k b (by simpa using hk)
theorem J9(R:oM K H₀ Hf₀ Hf S σ H Fs) {fr:List Nat}{cap:AS}(e:Ad S fr=some cap) {d:D}{x:V}(rx:qB K Hf d x) :
  oM K H₀ Hf₀ Hf (some (.sh d)::cap) (some x::slots σ fr) H (aO (cap.length+1) []):=by
 obtain⟨h1,h2⟩:=Bf R e;have fl:=rK (cap.length+1);refine⟨by simp[slots,h1],by simp,λi av ei=>?_,λi ei=>?_,by rw[fl];exact aW,λp hp=>(by rw[fl]at hp;cases hp),R.sub,R.fr,R.lim,R.sf⟩
 .cases i with
  |zero =>
   cases ei;exact⟨x,[],rfl,by simp,.sh rx⟩
  |succ k =>
   have hk:k<cap.length:=(gSq.mp (by simpa using ei)).1
   obtain⟨d',v,rfl,s1,r⟩:=h2 k av (by simpa using ei)
   exact⟨v,[],by simpa using s1,by rw[bC,oz (by lia)],.sh r⟩
 .rw [bC];have hi:=(gSq.mp ei).1;rw[oz (by simpa using hi)]
theorem oM.updOut(R:oM K H₀ Hf₀ Hf S σ H Fs) {p:Addr}{o:HO}(h1:p∉Fs.flatten) (h2:Hf p=none) (h3:H₀ p=none):oM K H₀ Hf₀ Hf S σ (pX H p o) Fs where
 len:=R.len
 lenF:=R.lenF
 rep:=λi av e=>by
  obtain⟨v,F,s1,s2,r⟩:=R.rep i av e;exact⟨v,F,s1,s2,r.keepUpd λm=>h1 (oN s2 m)⟩
 emp:=R.emp
 nd:=R.nd
 fresh:=R.fresh
 sub:=λb u e=>by
  rw[nY λz=>by rw[z,h2]at e;cases e]
  exact R.sub b u e
 fr:=λb u e=>by
  rw[nY λz=>by rw[z,h3]at e;cases e]
  exact R.fr b u e
 lim:=R.lim
 sf:=R.sf
theorem oM.outer{σ2:St}{Fs2 Fs3:List (List Addr)}{Hf3 H3:Hp}{S3:AS}(R:oM K H₀ Hf₀ Hf S σ H Fs) (R3:oM K H₀ Hf₀ Hf3 S3 σ2 H3 Fs3) (t:xp Hf H Fs2 Hf3 H3 Fs3) (h0:Fs2.flatten=[]):xp Hf H Fs Hf3 H3 Fs/\oM K H₀ Hf₀ Hf3 S σ H3 Fs:=by
 have g:∀b,Hf b=none->H b≠none->Hf3 b=none:=λb h1 h2=>by
  by_cases e:Hf3 b=none
  .exact e
  .rcases t.gr b h1 e with z|z
   .exact absurd z h2
   .rw [h0]at z;cases z
 exact⟨⟨t.sf,t.sh,λ_ h=>h,λb h1 h2=>.inl (by
  by_cases e:H b=none
  .exact e
  .exact absurd (g b h1 e) h2)⟩,R.more t.sh t.sf R3.sub (λq hq=>g q (R.mem hq).2 (R.mem hq).1) R3.lim⟩
end
section
variable {K:W.Frag}{tf:TT}{te:TE}{mf:MT}{me:MK}{fr:List Nat}
theorem Dh{H₀ Hf₀ Hf1 H1:Hp}{S1:AS}{σ:St}{Fs1:List (List Addr)}{cap:AS}{ds:List D}{avs:List AV}{J:It}{Q:VK}(hf:Cp K tf mf) (he:SK K te me)
  (R1:oM K H₀ Hf₀ Hf1 S1 σ H1 Fs1) (ec:Ad S1 fr=some cap) (hl:ds.length<=qF) (e:uh mf me cap ds=some avs)
  (hgo:∀i H,ou Hf1 H->i<ds.length->J.go i H) (hst:∀H,ou Hf1 H->J.stop ds.length H) (hy:∀i H x H',ou Hf1 H->i<ds.length->J.yld i H x H'->H'=H/\∃d,ds[i]?=some d/\qB K Hf1 d x)
  (q:∀Hf' H' v F,xp Hf1 H1 Fs1 Hf' H' Fs1->oM K H₀ Hf₀ Hf' S1 σ H' Fs1->oJ K Hf' H' (.ow avs) v F->vN H₀ H1 Fs1 Fs1 F->Q v H') :
  ∀acc,H1 acc=none->∃W:Nat->Nat->Hp->Prop,(∃m,W 0 m (pX H1 acc (.lst [])))/\∀i m H,W i m H ->
   (J.stop i H/\Q (.ref acc) H) ∨
   (J.go i H/\∃N:Hp->Prop,(∀H',N H'->∃m',m'<m/\W (i+1) m' H')/\∀x H',J.yld i H x H'->tf (some x::slots σ fr) H' λb H2 =>
    if b=true then te (some x::slots σ fr) H2 λy H3=>∃ys,H3 acc=some (.lst ys)/\ys.length<iR/\N (pX H3 acc (.lst (ys++[y]))) else N H2):=by
 intro acc hacc;obtain⟨t0,R0,n1,n2,n3⟩:=R1.new (o:=.lst []) hacc
 let P:Nat->Hp->Prop:=λi H=>∃Hf as vs Gs rest,oM K H₀ Hf₀ Hf S1 σ H Fs1/\xp Hf1 H1 Fs1 Hf H Fs1/\H acc=some (.lst vs)/\Hf acc=none/\pB K Hf H as vs Gs/\vN H₀ H1 Fs1 Fs1 (acc::Gs.flatten)/\as.length<=i /\
  uh mf me cap (ds.drop i)=some rest/\avs=as++rest
 refine⟨λi m H=>m=ds.length-i/\i<=ds.length/\P i H,⟨ds.length,by simp,aV _,Hf1,[],[],[],avs,R0,t0,oh,n1,.nil,vN.one R1 hacc,aV _,e,rfl⟩,?_⟩
 rintro i m H ⟨rfl,hi,Hf,as,vs,Gs,rest,R,t,ha,hfa,ra,ow,la,er,ea⟩;have hs:ou Hf1 H:=t.sf.trans R.sub
 by_cases hlt:i<ds.length
 .refine .inr ⟨hgo i H hs hlt,P (i+1),λH' p=>⟨ds.length-(i+1),by lia,rfl,hlt,p⟩,λx H' y=>?_⟩
  obtain⟨rfl,d,hd,rx⟩:=hy i H x H' hs hlt y;rw[aK hlt,(gSq.mp hd).2]at er;obtain⟨b,e1,e2⟩:=oBq.mp er;have fl:=rK (cap.length+1);refine hf (J9 R ec (rx.mono t.sf)) (b:=b.1) (S':=b.2) e1 _ λHf2 H2 Fs2 t2 R2=>?_
  obtain⟨t2',R2'⟩:=R.outer R2 t2 fl;have ha2:H2 acc=some (.lst vs):=t2.sh _ _ ha;have hfa2:Hf2 acc=none:=by
   by_cases z:Hf2 acc=none
   .exact z
   .rcases t2.gr acc hfa z with z|z
    .rw [ha]at z;cases z
    .rw [fl]at z;cases z
  have ra2:=ra.stp (λq hq=>ow.out q (mCo _ hq)) t2'
  split at e2
  .rename_i hb;rw[hb];refine Bh ?_;obtain⟨a,e3,e4⟩:=oBq.mp e2;obtain⟨rest',e5,e6⟩:=oMq.mp e4;subst e6;refine he R2 (a:=a.1) (S':=a.2) e3 _ λHf3 H3 Fs3 v F t3 R3 r3 o3=>?_
   have fl2:Fs2.flatten=[]:=by
    cases hz:Fs2.flatten with
    |nil=>rfl
    |cons z zs =>
     have:=t2.own z (by rw[hz];simp)
     rw[fl]at this;cases this
   obtain⟨t3',R3'⟩:=R2'.outer R3 t3 fl2;have ha3:H3 acc=some (.lst vs):=t3.sh _ _ ha2;have hfa3:Hf3 acc=none:=by
    by_cases z:Hf3 acc=none
    .exact z
    .rcases t3.gr acc hfa2 z with z|z
     .rw [ha2]at z;cases z
     .rw [fl2]at z;cases z
   have ra3:=ra2.stp (λq hq=>ow.out q (mCo _ hq)) t3'
   have newF:∀q∈F,H2 q=none:=λq hq=>(o3.new q hq).elim id λz=>by rw[fl2]at z;cases z
   have accF:acc∉F:=λm=>by rw[newF acc m]at ha2;cases ha2
   have accG:acc∉Gs.flatten:=(ax.mp ow.nd).1;have tt:=(t.trans t2').trans t3';refine⟨vs,ha3,?_,?_⟩
   .rw [sU,←ra.1];lia
   .refine ⟨Hf3,as++[a.1],vs++[v],Gs++[F],rest',R3'.updOut n3 hfa3 n2,⟨tt.sf,λb o eb=>?_,λ_ h=>h,tt.gr⟩,oh,hfa3,(ra3.keepUpd accG).snoc (r3.keepUpd accF),?_,by rw[lAq,lSq];lia,e5,by rw[ea];simp⟩
    .rw [nY λz=>by rw[z,hacc]at eb;cases eb]
     exact tt.sh b o eb
    .rw [fAq,bg];have oF:vN H₀ H1 Fs1 Fs1 F:=⟨o3.nd,o3.fr,λq hq m=>(R2'.mem m).1 (newF q hq),λq hq=>.inl ((t.trans t2').sh.free (newF q hq))⟩
     refine(show vN H₀ H1 Fs1 Fs1 ((acc::Gs.flatten)++F) from ow.app oF λq hq m=>?_)
     rcases aj.mp hq with z|z
     .rw [z]at m;exact accF m
     .exact (ra2.owned q z).1 (newF q m)
  .rename_i hb;rw[cE]at hb;rw[hb];exact Bs ⟨Hf2,as,vs,Gs,rest,R2',t.trans t2',ha2,hfa2,ra2,ow,by lia,e2,ea⟩
 .have e0:i=ds.length:=by lia
  subst e0;rw[cS]at er;cases er;rw[aNq]at ea;subst ea;exact .inl ⟨hst H hs,q Hf H (.ref acc) _ t R (oJ.news ha hfa ra) ow⟩
theorem Bi{tl:TE}{k:MK}(hk:SK K tl k) (hf:Cp K tf mf) (he:SK K te me):SK K (IU (Me K tl) fr tf te) (AA (NV k) fr mf me):=by
 intro H₀ Hf₀ Hf S σ H Fs av S' R e Q q;obtain⟨y,e1,e⟩:=oBq.mp e;obtain⟨z,e0,e1⟩:=oBq.mp e1;obtain⟨ds,e2,e1⟩:=oMq.mp e1;subst e1;obtain⟨S2,e3,e⟩:=oBq.mp e;obtain⟨cap,e4,e⟩:=oBq.mp e;rcases oC e with ⟨hl,e⟩|e
 .obtain ⟨avs,e5,e⟩:=oMq.mp e;cases e;have hk':SK K tl (rN k):=SK.frz hk;refine hk' R (a:=z.1) (S':=z.2) e0 _ λHf1 H1 Fs1 v F t1 R1 r1 o1=>?_
  obtain⟨d,hd⟩:=uU (te:=tl) e0;rw[hd]at r1;rw[hd,pH]at e2;obtain⟨Hf2,Fs2,t2,R2⟩:=R1.fzAll e3;obtain⟨a,vs,rfl,g1,g2⟩:=tG e2 (r1.sh_inv.2.mono t2.sf);refine⟨a,rfl,⟨vs,R2.sub.seq g1⟩,Dh (K:=K) hf he R2 e4 hl e5 (λi H s hi=>⟨vs,vs[i]'(g2.1 ▸ hi),s.seq g1,gEg (g2.1 ▸ hi)⟩) (λH s=>⟨vs,s.seq g1,dO g2.1.symm⟩) (λi H x H' s hi y=>?_) λHf' H' v F t R' r o=>q _ _ _ v F ((t1.trans t2).trans t) R' r (o.back (t1.trans t2))⟩
  obtain⟨y1,y2⟩:=y;obtain⟨di,h1,h2⟩:=g2.get' (y2 vs (s.seq g1));exact⟨y1,di,h1,h2⟩
 .cases e
theorem wN{lo:Int}{n i:Nat}(h:i<n):(oU lo n)[i]?=some (.int (lo+i)):=by
 unfold oU;rw[gMq,dh h];rfl
theorem oI(lo:Int) (n:Nat):(oU lo n).length=n:=by unfold oU;rw[lMq,aT]
theorem CQ{ta:TA}{a:ML}(ha:Pe K ta a) (hf:Cp K tf mf) (he:SK K te me):SK K (IU (NO ta) fr tf te) (AA (Vr a) fr mf me):=by
 intro H₀ Hf₀ Hf S σ H Fs av S' R e Q q;obtain⟨y,e1,e⟩:=oBq.mp e;obtain⟨z,e0,e1⟩:=oBq.mp e1;obtain⟨ds,e2,e1⟩:=oMq.mp e1;subst e1;obtain⟨S2,e3,e⟩:=oBq.mp e;obtain⟨cap,e4,e⟩:=oBq.mp e;rcases oC e with ⟨hl,e⟩|e
 .obtain ⟨avs,e5,e⟩:=oMq.mp e;cases e;refine ha R (ds:=z.1) (S':=z.2) e0 _ λHf1 H1 Fs1 vs t1 R1 r1=>?_
  unfold AK at e2;split at e2
  .rename_i j hz;rcases oC e2 with ⟨hj,e2⟩|e2
   .skip
    cases e2;rw[hz]at r1;obtain⟨v,ws,rfl,h1,h2⟩:=r1.cons_inv;rw[h2.nil_inv];cases h1;obtain⟨Hf2,Fs2,t2,R2⟩:=R1.fzAll e3;refine⟨j,rfl,hj.1,hj.2,Dh (K:=K) hf he R2 e4 hl e5 (λi H s hi=>(by rw[oI]at hi;exact hi)) (λH s=>(by rw[oI];exact ag _)) (λi H x H' s hi y=>?_) λHf' H' v F t R' r o=>q _ _ _ v F ((t1.trans t2).trans t) R' r (o.back (t1.trans t2))⟩
    obtain⟨y1,y2⟩:=y;rw[oI]at hi;exact⟨y1,_,wN hi,by rw[y2];exact .int⟩
   .cases e2
  .cases e2
 .cases e
theorem BI:Cp K T8 xn:=by
 intro H₀ Hf₀ Hf S σ H Fs b S' R e Q q;cases e;exact q _ _ _ .refl R
end
mutual
def py:D->Option PyData
 | .non=>some .none
 | .bl b=>some (.bool b)
 | .int i=>some (.int i)
 | .str x=>some (.str x)
 | .list ds=>(Gh ds).map .list
 | .tup ds=>(Gh ds).map .tuple
 |_=>none
def Gh:List D->Option (List PyData)
 | []=>some []
 |d::ds=>(py d).bind λx=>(Gh ds).map (x :: ·)
end
section
variable {X:Cx}
theorem xO{h:Heap}:∀{ds:List D}{vs:List V}{its:List Value}{xs:List PyData},(∀(i:Nat) (d:D) (v:V),ds[i]?=some d->vs[i]?=some v->∀u x,pY v u->py d=some x->∃as,Reads h u x as)->ds.length=vs.length->oQ vs its->Gh ds=some xs->∃as,ReadsAll h its xs as
 | [],vs,its,xs,_,hl,hv,e=>by
  have:vs=[]:=bZ.mp hl.symm;subst this;cases hv;simp only[Gh]at e;cases e;exact⟨_,.nil⟩
 |d::ds,vs,its,xs,ih,hl,hv,e=>by
  cases vs with
  |nil=>simp at hl
  |cons v vs =>
   cases hv with
   |cons r t =>
    simp only[Gh]at e;obtain⟨x,e1,e2⟩:=oBq.mp e;obtain⟨ys,e3,e4⟩:=oMq.mp e2;subst e4;obtain⟨as,h1⟩:=ih 0 d v rfl rfl _ x r e1;obtain⟨bs,h2⟩:=xO (λi d' v' q1 q2=>ih (i+1) d' v' (by simpa using q1) (by simpa using q2)) (by simpa using hl) t e3
    exact⟨_,.cons h1 h2⟩
theorem EX{nA:List (Addr×Obj)}{σ:St}{H:Hp}{s:Shared}(I:Inv X nA σ H s) {d:D}{v:V}(r:qB X.K H d v):∀(u:Value) (x:PyData),pY v u->py d=some x->∃as,Reads s.heap u x as:=by
 induction r with
 |non=>intro u x ru e;cases ru;simp only[py]at e;cases e;exact⟨_,.none⟩
 |bl=>intro u x ru e;cases ru;simp only[py]at e;cases e;exact⟨_,.bool _⟩
 |int=>intro u x ru e;obtain⟨t,rfl⟩:=ru;simp only[py]at e;cases e;exact⟨_,.int _ _⟩
 |str=>intro u x ru e;obtain⟨t,rfl⟩:=ru;simp only[py]at e;cases e;exact⟨_,.str _ _⟩
 |ty=>intro u x ru e;simp only[py]at e;cases e
 |list h l _ ih =>
  intro u x ru e;cases ru;simp only[py]at e;obtain⟨xs,e1,rfl⟩:=oMq.mp e;obtain⟨its,rv,hl,hz⟩:=I.list (qS.of h);obtain⟨o,ho,hc,n,hd⟩:=hl.isList;obtain⟨as,e2⟩:=xO ih l rv e1;exact⟨_,Reads.list ho hc hd (by simpa using e2)⟩
 |tup h l _ ih =>
  intro u x ru e;cases ru;simp only[py]at e;obtain⟨xs,e1,rfl⟩:=oMq.mp e;obtain⟨its,rv,⟨o,ho,hc,n,hd⟩,hz⟩:=I.tuple (BR.of h);obtain⟨as,e2⟩:=xO ih l rv e1;exact⟨_,Reads.tuple ho hc hd (by simpa using e2)⟩
 |dict h l _ ih=>intro u x ru e;simp only[py]at e;cases e
 |fd h l _ ih=>intro u x ru e;simp only[py]at e;cases e
 |scr h=>intro u x ru e;simp only[py]at e;cases e
 |exc rf nf h hx=>intro u x ru e;simp only[py]at e;cases e
 |exc0 rf h=>intro u x ru e;simp only[py]at e;cases e
 |cls h=>intro u x ru e;simp only[py]at e;cases e
 |ins rf h l _ ih=>intro u x ru e;simp only[py]at e;cases e
def T9(K:W.Frag) (neg:Bool):R2:=λx y H Q=>∃(d e:D) (a b:PyData),qB K H d x/\qB K H e y/\py d=some a/\py e=some b/\SeqAt.shaped a=true/\SeqAt.shaped b=true/\SeqAt.noMix a b=true /\
 Q (.bl (if neg then !(PySem.Spec.same a b) else PySem.Spec.same a b)) H
theorem G9(hu:X.A.units+64<jO):CK X (jq .Eq) (T9 X.K false):=by
 intro nA s σ H x y v u Q I rx ry h;obtain⟨d,e,a,b,h1,h2,p1,p2,s1,s2,nm,q⟩:=h;obtain⟨as,r1⟩:=EX I h1 _ _ rx p1;obtain⟨bs,r2⟩:=EX I h2 _ _ ry p2;exact ij r1 r2 s1 s2 hu nm (pD I q rfl)
end
def yL(d e:D):Option D:=(py d).bind λa=>(py e).bind λb=>if SeqAt.shaped a=true/\SeqAt.shaped b=true/\SeqAt.noMix a b=true then some (.bl (PySem.Spec.same a b)) else none
def Xx(d e:D):Option D:=(yL d e).bind Jp
section
variable {K:W.Frag}
theorem GD:CC K (T9 K false) yL:=by
 intro x y H Q dx dy d rx ry e q;obtain⟨a,e1,e⟩:=oBq.mp e;obtain⟨b,e2,e⟩:=oBq.mp e;split at e
 .rename_i h;cases e;exact⟨dx,dy,a,b,rx,ry,e1,e2,h.1,h.2.1,h.2.2,q _ .bl⟩
 .cases e
end
abbrev dI(ns:List Int):D:=.list (ns.map .int)
abbrev dM(rs:List (List Int)):D:=.list (rs.map dI)
theorem KI(ns:List Int):Gh (ns.map .int)=some (ns.map PyData.int):=by
 induction ns with
 |nil=>simp[Gh]
 |cons n ns ih=>simp[Gh,py,ih]
theorem RD(ns:List Int):py (dI ns)=some (vK ns):=by
 show py (.list _)=_;simp only[py,KI];rfl
theorem Le(rs:List (List Int)):Gh (rs.map dI)=some (rs.map vK):=by
 induction rs with
 |nil=>simp[Gh]
 |cons r rs ih =>
  show Gh (dI r::rs.map dI)=_;simp only[Gh,RD,ih];rfl
theorem Vf(rs:List (List Int)):py (dM rs)=some (zf rs):=by
 show py (.list _)=_;simp only[py,Le];rfl
theorem Bg(r:List Int):SeqAt.shaped (vK r)=true:=by
 have h2:=W.depthAll_ints r;have h3:PyData.depth (vK r)<=64:=by simp only[vK,PyData.depth];lia
 show (PyData.canLay0 (vK r) && decide (PyData.depth (vK r)<=64))=true;rw[dR];exact⟨by simp only[vK,PyData.canLay0];exact W.canLayAll0_ints r,decide_eq_true h3⟩
@[simp] theorem Vy (ns ms:List Int):yL (dI ns) (dI ms)=some (.bl (decide (ns=ms))):=by
 unfold yL;rw[RD,RD];show (if _ then _ else _)=_
 rw[oz ⟨Bg ns,Bg ms,by simp only[vK,SeqAt.noMix];exact W.noMix_ints ns ms⟩]
 simp only[vK,PySem.Spec.same,W.same_ints]
@[simp] theorem RK (rs ts:List (List Int)):yL (dM rs) (dM ts)=some (.bl (decide (rs=ts))):=by
 unfold yL;rw[Vf,Vf];show (if _ then _ else _)=_
 rw[oz ⟨Az rs,Az ts,by simp only[zf,SeqAt.noMix];exact Bu rs ts⟩]
 simp only[zf,PySem.Spec.same,C3]
def zG(l:ML):MK:=λS=>(l S).map λx=>(.ow (x.1.map .sh),x.2)
def Wp(l:ML):MK:=λS=>(l S).bind λx=>(rR x.1).map λns=>(.ow ((rS ns).map λn=>.sh (.int n)),x.2)
def xN:List D->Option (List (List Int))
 | []=>some []
 | .list ds::es=>(rR ds).bind λr=>(xN es).map (r :: ·)
 |_=>none
theorem Dd:∀{ds:List D}{rs:List (List Int)},xN ds=some rs->ds=rs.map dI
 | [],rs,h=>by cases h;rfl
 |d::ds,rs,h=>by
  cases d with
  |list es =>
   obtain⟨r,h1,h⟩:=oBq.mp (show (rR es).bind (λr=>(xN ds).map (r :: ·))=some rs from h)
   obtain⟨ts,h2,h3⟩:=oMq.mp h;subst h3;rw[Dd h2,wg h1];rfl
  |_=>cases h
@[simp] theorem Hv (rs:List (List Int)):xN (rs.map dI)=some rs:=by
 induction rs with
 |nil=>rfl
 |cons r rs ih =>
  show (rR (r.map .int)).bind (λr=>(xN (rs.map dI)).map (r :: ·))=_
  rw[uY,ih];rfl
def GS(l:ML):MK:=λS=>(l S).bind λx=>(xN x.1).map λrs=>(.ow ((zK rs).map λr=>.sh (dI r)),x.2)
section
variable {K:W.Frag}{te:TE}{l:ML}
theorem Er(hl:SQ K te l):SK K (N3 (λxs H Q=>∃p ys,xs=[.ref p]/\(qS K H p ys∨BR K H p ys)/\∀l,H l=none->Q (.ref l) (pX H l (.lst ys))) (sY te xr)) (zG l):=by
 intro H₀ Hf₀ Hf S σ H Fs av S' R e Q q;obtain⟨x,e1,e⟩:=oMq.mp e;cases e;refine hl R (ds:=x.1) (S':=x.2) e1 _ λHf1 H1 Fs1 p1 vs1 t1 R1 h1 r1=>⟨p1,vs1,rfl,.inl h1,λp hp=>?_⟩
 obtain⟨t4,R4,n1,n2,n3⟩:=R1.new (o:=.lst vs1) hp;exact q _ _ _ (.ref p) [p] (t1.trans t4) R4 (oJ.new oh n1 r1) ((vN.one R1 hp).back t1)
theorem As(ns:List Int):(ns.map λn=>AV.sh (.int n))=(ns.map D.int).map .sh:=by rw[mPq];rfl
theorem EU(rs:List (List Int)):(rs.map λr=>AV.sh (dI r))=(rs.map dI).map .sh:=by rw[mPq];rfl
theorem yw{H:Hp}:∀{rs:List (List Int)}{vs:List V},pE K H (rs.map dI) vs->∃ps,vs=ps.map V.ref/\qJ H ps rs
 | [],vs,h=>⟨[],h.nil_inv,.nil⟩
 |r::rs,vs,h=>by
  obtain⟨v,ws,rfl,h1,h2⟩:=pE.cons_inv (d:=dI r) (ds:=rs.map dI) h;obtain⟨p,us,rfl,h3,h4⟩:=h1.list_inv;rw[rW h4]at h3;obtain⟨ps,rfl,h5⟩:=yw h2;exact⟨p::ps,rfl,qJ.cons_iff.mpr ⟨h3,h5⟩⟩
theorem CN{H:Hp}:∀{rs:List (List Int)}{ps:List Addr},qJ H ps rs->pE K H (rs.map dI) (ps.map V.ref)
 | [],[],_=>.nil
 | [],_::_,h=>by have:=h.length;simp at this
 |_::_,[],h=>by have:=h.length;simp at this
 |r::rs,p::ps,h=>by
  obtain⟨h1,h2⟩:=qJ.cons_iff.mp h;exact .cons (.mk_list h1 (tM r)) (CN h2)
theorem Ll(hl:SQ K te l):SK K (N3 (λxs H Q=>∃(a:Addr) (ps:List Addr) (rs:List (List Int)),xs=[.ref a]/\qS K H a (ps.map V.ref)/\qJ H ps rs /\
  ∀p qs,H p=none->qs.Perm ps->qJ (pX H p (.lst (qs.map V.ref))) qs (zK rs)->Q (.ref p) (pX H p (.lst (qs.map V.ref)))) (sY te xr)) (GS l):=by
 intro H₀ Hf₀ Hf S σ H Fs av S' R e Q q;obtain⟨x,e1,e⟩:=oBq.mp e;obtain⟨rs,e2,e⟩:=oMq.mp e;cases e;refine hl R (ds:=x.1) (S':=x.2) e1 _ λHf1 H1 Fs1 p1 vs1 t1 R1 h1 r1=>?_
 rw[Dd e2]at r1;obtain⟨ps,rfl,hE⟩:=yw r1;refine⟨p1,ps,rs,rfl,h1,hE.same R1.sub,λp qs hp hq hE2=>?_⟩
 obtain⟨t4,R4,n1,n2,n3⟩:=R1.new (o:=.lst (qs.map V.ref)) hp;have hE3:qJ Hf1 qs (zK rs):=hE2.keep λb hb=>by
  obtain⟨r,_,hr⟩:=hE.mem (hq.mem_iff.mp hb);rw[hr,R4.sub b _ hr]
 rw[EU]at q;exact q _ _ _ (.ref p) [p] (t1.trans t4) R4 (oJ.new oh n1 (CN hE3)) ((vN.one R1 hp).back t1)
end
def TF:String->D->Bool
 |T,.list _=>T == "list"
 |T,.scr _=>T == "list"
 |T,.str _=>T == "str"
 |_,_=>false
def Vl(T:String) (f:D->List D->Option D) (a:ME) (as:ML):ME:=λS=>(a S).bind λx=>if TF T x.1=true then (as x.2).bind λy=>(f x.1 y.1).map λd=>(d,y.2) else none
def W3(K:W.Frag) (r:V->List V->Hp->VK->Prop) (f:D->List D->Option D):Prop:=∀{x:V}{vs:List V}{H:Hp}{Q:VK}{dx:D}{ds:List D}{d:D},qB K H dx x->pE K H ds vs->f dx ds=some d->(∀v,qB K H d v->Q v H)->r x vs H Q
section
variable {K:W.Frag}{te:TE}{ta:TA}{a:ME}{as:ML}{r:V->List V->Hp->VK->Prop}{f:D->List D->Option D}{T:String}
theorem RV{H:Hp}{d:D}{v:V}(h:TF T d=true) (rv:qB K H d v):Vt K T v H:=by
 cases rv <;> simp only[TF]at h
 all_goals first|(exfalso;simp at h;done)|skip
 .exact eq_of_beq h
 .rename_i p vs ds h1 l e;exact .inl ⟨eq_of_beq h,vs,qS.of h1⟩
 .rename_i p ns h1;exact .inl ⟨eq_of_beq h,_,h1⟩
theorem Qv(hr:W3 K r f) (ha:SR K te a) (hs:Pe K ta as):SR K (N1 K T r te ta) (Vl T f a as):=by
 intro H₀ Hf₀ Hf S σ H Fs d S' R e Q q;obtain⟨x,e1,e⟩:=oBq.mp e;split at e
 .rename_i hT;obtain⟨y,e2,e⟩:=oBq.mp e;obtain⟨z,e3,e⟩:=oMq.mp e;cases e;refine ha R (d:=x.1) (S':=x.2) e1 _ λHf1 H1 Fs1 v t1 R1 r1=>⟨RV hT r1,hs R1 (ds:=y.1) (S':=y.2) e2 _ λHf2 H2 Fs2 vs t2 R2 r2=>?_⟩
  exact hr (r1.mono t2.sh) r2 e3 λv rv=>q _ _ _ v (t1.trans t2) R2 rv
 .cases e
def zN:D->List D->Option D
 | .list ds,[.int k]=>(rR ds).bind λns=>if k∈ns then some (.int (ns.idxOf k:Nat)) else none
 |_,_=>none
theorem Fv:W3 K (Nh K) zN:=by
 intro x vs H Q dx ds d rx rs e q;unfold zN at e;split at e
 .rename_i es k;obtain⟨ns,e1,e⟩:=oBq.mp e;split at e
  .rename_i hk;cases e;obtain⟨v,ws,rfl,h1,h2⟩:=rs.cons_inv;rw[h2.nil_inv];cases h1;rw[wg e1]at rx;obtain⟨p,us,rfl,h3,h4⟩:=rx.list_inv;rw[rW h4]at h3;exact⟨p,ns,k,rfl,rfl,qS.of h3,hk,q _ .int⟩
  .cases e
 .cases e
def WJ(a:ME):ME:=λS=>(a S).bind λx=>match x.1 with
 | .list ds=>(xN ds).map λrs=>(.int (rs.countP (·=([]:List Int)):Nat),x.2)
 |_=>none
def wL:D->Option Bool
 | .non=>some false
 | .bl b=>some b
 | .int i=>some (i != 0)
 | .list ds=>some (!ds.isEmpty)
 | .tup ds=>some (!ds.isEmpty)
 | .dict ds=>some (!ds.isEmpty)
 |_=>none
def yM(a:ME):MT:=λS=>(a S).bind λx=>(wL x.1).map λb=>(b,x.2)
theorem vA{α β:Type}{xs:List α}{ys:List β}(h:xs.length=ys.length):(!xs.isEmpty) = !ys.isEmpty:=by
 cases xs <;> cases ys <;> simp at h ⊢
theorem xT(ha:SR K te a):Cp K (λσ H Q=>te σ H λx H'=>∃k,MB K x H' k/\Q k H') (yM a):=by
 intro H₀ Hf₀ Hf S σ H Fs b S' R e Q q;obtain⟨x,e1,e⟩:=oBq.mp e;obtain⟨c,e2,e⟩:=oMq.mp e;cases e;refine ha R (d:=x.1) (S':=x.2) e1 _ λHf1 H1 Fs1 v t1 R1 r1=>⟨_,?_,q _ _ _ t1 R1⟩
 cases hx:x.1 <;> rw[hx]at e2 r1 <;> simp only[wL]at e2
 all_goals first|(exfalso;simp at e2;done)|skip
 .cases r1;cases e2;rfl
 .cases r1;cases e2;rfl
 .cases r1;cases e2;rfl
 .obtain ⟨p,us,rfl,h3,h4⟩:=r1.list_inv;cases e2;exact .inl ⟨us,qS.of h3,vA h4.1⟩
 .obtain ⟨p,us,rfl,h3,h4⟩:=r1.tup_inv;cases e2;exact .inr (.inl ⟨us,BR.of h3,vA h4.1⟩)
 .obtain ⟨p,us,rfl,h3,h4⟩:=r1.dict_inv;cases e2;exact .inr (.inr ⟨us,h3,vA h4.len⟩)
end
def pO:AV->List Nat->Option (List AV)
 | .ow avs,[]=>some avs
 | .ow avs,j::js=>(avs[j]?).bind λa=>pO a js
 |_,_=>none
def putAt:AV->List Nat->List AV->AV
 | .ow _,[],as=>.ow as
 | .ow avs,j::js,as=>match avs[j]? with
  |some a=>.ow (avs.set j (putAt a js as))
  |none=>.ow avs
 |a,_,_=>a
def EA(H:Hp):V->List Nat->V->Prop
 |v,[],w=>v=w
 |v,j::js,w=>∃p vs u,v = .ref p/\H p=some (.lst vs)/\vs[j]?=some u/\EA H u js w
section
variable {K:W.Frag}{H₀ Hf₀ Hf Hf' H H':Hp}{S S':AS}{σ:St}{Fs Fs':List (List Addr)}
theorem xk:∀{Fs:List (List Addr)}{F G:List Addr}(i:Nat),Fs.flatten.Nodup->Fs[i]?=some G->F.Nodup->(∀p∈F,p∈G∨p∉Fs.flatten)->(Fs.set i F).flatten.Nodup
 | [],F,G,i,h,e,_,_=>by simp at e
 |E::Gs,F,G,0,h,e,hF,hd=>by
  simp at e;subst e;rw[dr,fCq,nAq];rw[fCq,nAq]at h;refine⟨hF,h.2.1,λa ha b hb e=>?_⟩
  subst e;rcases hd a ha with z|z
  .exact h.2.2 a z a hb rfl
  .exact z (by rw[fCq];exact ar _ hb)
 |E::Gs,F,G,i+1,h,e,hF,hd=>by
  rw[eC,fCq,nAq];rw[fCq,nAq]at h;have e':Gs[i]?=some G:=by simpa using e
  refine⟨h.1,xk i h.2.1 e' hF λp hp=>(hd p hp).imp id λz m=>z (by rw[fCq];exact ar _ m),λa ha b hb e=>?_⟩
  subst e;rcases qO hb with q|q
  .rcases hd a q with z|z
   .exact h.2.2 a ha a (mFq.mpr ⟨G,mGq e',z⟩) rfl
   .exact z (by rw[fCq];exact bp _ ha)
  .exact h.2.2 a ha a q rfl
theorem Ba:∀{Fs:List (List Addr)}{F G:List Addr}{i j:Nat}{p:Addr},Fs.flatten.Nodup->Fs[i]?=some F->Fs[j]?=some G->i≠j->p∈F->p∉G
 | [],F,G,i,j,p,_,e,_,_,_,_=>by simp at e
 |E::Es,F,G,0,0,p,h,e,f,n,_,_=>n rfl
 |E::Es,F,G,0,j+1,p,h,e,f,n,hp,m=>by
  simp at e;subst e;rw[fCq,nAq]at h;exact h.2.2 p hp p (mFq.mpr ⟨G,mGq (i:=j) (by simpa using f),m⟩) rfl
 |E::Es,F,G,i+1,0,p,h,e,f,n,hp,m=>by
  simp at f;subst f;rw[fCq,nAq]at h;exact h.2.2 p m p (mFq.mpr ⟨F,mGq (i:=i) (by simpa using e),hp⟩) rfl
 |E::Es,F,G,i+1,j+1,p,h,e,f,n,hp,m=>by
  rw[fCq,nAq]at h;exact Ba h.2.1 (i:=i) (j:=j) (by simpa using e) (by simpa using f) (λz=>n (by rw[z])) hp m
theorem oJ.path:∀{path:List Nat}{av:AV}{v:V}{F:List Addr}{as:List AV},oJ K Hf H av v F->F.Nodup->pO av path=some as->∃p vs Gs,EA H v path (.ref p)/\H p=some (.lst vs)/\Hf p=none/\pB K Hf H as vs Gs/\p∈F/\p∉Gs.flatten/\Gs.flatten.Nodup/\(∀q∈Gs.flatten,q∈F) /\
  ∀as' vs' Gs',pB K Hf (pX H p (.lst vs')) as' vs' Gs'->(p::Gs'.flatten).Nodup->(∀q∈Gs'.flatten,q∈Gs.flatten∨q∉F)->∃F',oJ K Hf (pX H p (.lst vs')) (putAt av path as') v F'/\F'.Nodup/\∀q∈F',q∈F∨q∈Gs'.flatten
 | [],av,v,F,as,r,nd,e=>by
  cases av with
  |ow avs =>
   cases e;obtain⟨p,vs,Gs,rfl,rfl,h1,h2,h3⟩:=r.ow_inv;have n:=ax.mp nd;refine⟨p,vs,Gs,rfl,h1,h2,h3,by simp,n.1,n.2,λq hq=>mCo _ hq,λas' vs' Gs' r' nd' _=>⟨p::Gs'.flatten,oJ.news oh h2 r',nd',λq hq=>?_⟩⟩
   rcases aj.mp hq with z|z
   .exact .inl (by rw[z];simp)
   .exact .inr z
  |_=>cases e
 |j::js,av,v,F,as,r,nd,e=>by
  cases av with
  |ow avs =>
   obtain⟨a,e1,e2⟩:=oBq.mp (show (avs[j]?).bind (λa=>pO a js)=some as from e)
   obtain⟨p0,vs0,Gs0,rfl,rfl,h1,h2,h3⟩:=r.ow_inv;have n:=ax.mp nd;have hj:j<avs.length:=(gSq.mp e1).1;have hv:vs0[j]?=some (vs0[j]'(h3.1 ▸ hj)):=gEg _;have hg:Gs0[j]?=some (Gs0[j]'(h3.2.1 ▸ hj)):=gEg _;generalize vs0[j]'(h3.1 ▸ hj)=vj at hv;generalize Gs0[j]'(h3.2.1 ▸ hj)=Fj at hg;have rj:=h3.2.2 j a vj Fj e1 hv hg;have ndj:Fj.Nodup:=cR.sublist (bq (mGq hg)) n.2;have sub:∀q∈Fj,q∈Gs0.flatten:=λq hq=>oN hg hq
   obtain⟨p,vs,Gs,g1,g2,g3,g4,g5,g6,g6',g7,g8⟩:=oJ.path rj ndj e2;have pne:p0≠p:=λz=>n.1 (z ▸ sub p g5)
   refine⟨p,vs,Gs,⟨p0,vs0,vj,rfl,h1,hv,g1⟩,g2,g3,g4,mCo _ (sub p g5),g6,g6',λq hq=>mCo _ (sub q (g7 q hq)),λas' vs' Gs' r' nd' hd=>?_⟩
   obtain⟨F',k1,k2,k3⟩:=g8 as' vs' Gs' r' nd' λq hq=>(hd q hq).imp id λz m=>z (mCo _ (sub q m))
   have hF':∀q∈F',q∈Fj∨q∉Gs0.flatten:=λq hq=>by
    rcases k3 q hq with z|z
    .exact .inl z
    .rcases hd q z with y|y
     .exact .inl (g7 q y)
     .exact .inr λm=>y (mCo _ m)
   refine⟨p0::(Gs0.set j F').flatten,?_,ax.mpr ⟨λm=>?_,xk j n.2 hg k2 hF'⟩,λq hq=>?_⟩
   .show oJ K Hf (pX H p (.lst vs')) (match avs[j]? with|some a=>.ow (avs.set j (putAt a js as'))|none=>.ow avs) (.ref p0) _
    rw[e1];refine .ow (vs:=vs0) (by rw[nY pne];exact h1) h2 (by rw[lZq];exact h3.1) (by rw[lZq,lZq];exact h3.2.1) λi b w G q1 q2 q3=>?_
    rw[bx]at q1 q3
    by_cases hij:j=i
    .subst hij;rw[oz rfl,oz hj]at q1;rw[oz rfl,oz (h3.2.1 ▸ hj)]at q3;rw[hv]at q2;cases q1;cases q2;cases q3;exact k1
    .rw [oB hij]at q1 q3;exact(h3.2.2 i b w G q1 q2 q3).keepUpd λm=>Ba n.2 hg q3 hij g5 m
   .rcases qO m with z|z
    .rcases k3 p0 z with y|y
     .exact n.1 (sub p0 y)
     .rcases hd p0 y with x|x
      .exact n.1 (sub p0 (g7 p0 x))
      .exact x (by simp)
    .exact n.1 z
   .rcases aj.mp hq with z|z
    .exact .inl (by rw[z];simp)
    .rcases qO z with z|z
     .exact (k3 q z).imp (λy=>mCo _ (sub q y)) id
     .exact .inl (mCo _ z)
  |_=>cases e
theorem oM.turnAny(R:oM K H₀ Hf₀ Hf S σ H Fs) {i:Nat}{av:AV}{p:Addr}{o:HO}{v:V}{F F':List Addr}(s1:σ[i]?=some (some v)) (s2:Fs[i]?=some F) (hp:p∈F) (r:oJ K Hf (pX H p o) av v F') (nd:F'.Nodup)
  (hf:∀q∈F',H₀ q=none/\q∉(Fs.set i []).flatten):oM K H₀ Hf₀ Hf (S.set i (some av)) σ (pX H p o) (Fs.set i F'):=by
 have hin:p∈Fs.flatten:=mFq.mpr ⟨F,mGq s2,hp⟩;have pn:Hf p=none:=(R.mem hin).2;have p0:H₀ p=none:=R.fresh p hin;have out:=sV R.nd s2 hp;have R1:oM K H₀ Hf₀ Hf (S.set i none) σ (pX H p o) (Fs.set i []):=by
  refine⟨by simp[R.len],by simp[R.lenF],λj a ej=>?_,λj ej=>?_,qH i R.nd aW (λp hp=>by cases hp),λp hp=>R.fresh p (pZ hp),λb u e=>?_,λb u e=>?_,R.lim,R.sf⟩
  .rw [bx]at ej
   by_cases hij:i=j
   .subst hij;rw[oz rfl]at ej;split at ej <;> cases ej
   .rw [oB hij]at ej;obtain⟨w,G,f1,f2,q⟩:=R.rep j a ej;refine⟨w,G,f1,by rw[aE hij];exact f2,q.keep (.refl _) (λc hc=>nY λe=>out ?_) λc hc=>(q.owned c hc).2⟩
    subst e;exact mFq.mpr ⟨G,mGq (i:=j) (by rw[aE hij];exact f2),hc⟩
  .rw [bx]at ej
   by_cases hij:i=j
   .subst hij;rw[oz rfl]at ej;split at ej
    .rename_i hi;rw[aJ (R.lenF.symm ▸ hi)]
    .cases ej
   .rw [oB hij]at ej;rw[aE hij];exact R.emp j ej
  .rw [nY λz=>by rw[z,pn]at e;cases e]
   exact R.sub b u e
  .rw [nY λz=>by rw[z,p0]at e;cases e]
   exact R.fr b u e
 exact R1.again (F:=F) s1 r nd hf
theorem oM.kill(R:oM K H₀ Hf₀ Hf S σ H Fs) (x:Nat):oM K H₀ Hf₀ Hf (S.set x none) σ H (Fs.set x []):=by
 refine⟨by simp[R.len],by simp[R.lenF],λj a ej=>?_,λj ej=>?_,qH x R.nd aW (λp hp=>by cases hp),λp hp=>R.fresh p (pZ hp),R.sub,R.fr,R.lim,R.sf⟩
 .rw [bx]at ej
  by_cases hij:x=j
  .subst hij;rw[oz rfl]at ej;split at ej <;> cases ej
  .rw [oB hij]at ej;obtain⟨w,G,f1,f2,q⟩:=R.rep j a ej;exact⟨w,G,f1,by rw[aE hij];exact f2,q⟩
 .rw [bx]at ej
  by_cases hij:x=j
  .subst hij;rw[oz rfl]at ej;split at ej
   .rename_i hi;rw[aJ (R.lenF.symm ▸ hi)]
   .cases ej
  .rw [oB hij]at ej;rw[aE hij];exact R.emp j ej
theorem oM.any(R:oM K H₀ Hf₀ Hf (S.set x none) σ H Fs) (v:V):oM K H₀ Hf₀ Hf (S.set x none) (σ.set x (some v)) H Fs where
 len:=by rw[R.len,lZq]
 lenF:=R.lenF
 rep:=λi av e=>by
  by_cases hij:x=i
  .subst hij;rw[bx]at e;rw[oz rfl]at e;split at e <;> cases e
  .obtain ⟨w,G,f1,f2,q⟩:=R.rep i av e;exact⟨w,G,by rw[aE hij];exact f1,f2,q⟩
 emp:=R.emp
 nd:=R.nd
 fresh:=R.fresh
 sub:=R.sub
 fr:=R.fr
 lim:=R.lim
 sf:=R.sf
end
abbrev aI(ns:List Int):AV:=.ow (ns.map λn=>.sh (.int n))
def Ij:List AV->Option (List Int)
 | []=>some []
 | .sh (.int i)::r=>(Ij r).map (i :: ·)
 |_=>none
def P7:List AV->Option (List (List Int))
 | []=>some []
 | .ow as::r=>(Ij as).bind λns=>(P7 r).map (ns :: ·)
 |_=>none
@[simp] theorem Tt (ns:List Int):Ij (ns.map λn=>.sh (.int n))=some ns:=by
 induction ns with
 |nil=>rfl
 |cons n ns ih=>show (Ij (ns.map λn=>.sh (.int n))).map (n :: ·)=_;rw[ih];rfl
def Vj(k:MK):MK:=λS=>(k S).bind λx=>match x.1 with
 | .ow avs=>(P7 avs).map λrs=>(.ow ((zK rs).map aI),x.2)
 |_=>none
section
variable {K:W.Frag}{Hf H:Hp}
def La:AV->Option D
 | .sh d=>if d.scal=true then some d else none
 |_=>none
def rP(f:MF) (a:ML):ME:=λS=>(a S).bind λx=>(f x.1).bind λr=>(La r).map λd=>(d,x.2)
theorem qN{f:MF}{ta:TA}{a:ML}(ha:Pe K ta a):SR K (Ao (qe K f) [] E0 ta) (rP f a):=by
 intro H₀ Hf₀ Hf S σ H Fs d S' R e Q q;obtain⟨x,e1,e⟩:=oBq.mp e;obtain⟨r,e2,e⟩:=oBq.mp e;obtain⟨z,e3,e⟩:=oMq.mp e;cases e;refine ha R (ds:=x.1) (S':=x.2) e1 _ λHf1 H1 Fs1 vs t1 R1 r1=>?_
 rw[aNq];refine⟨H1,x.1,r,.refl _,r1,e2,λHf' H' v F s1 s2 s3 l rv nd fr=>?_⟩
 have t2:xp Hf1 H1 Fs1 Hf1 H' Fs1:=⟨.refl _,s2,λ_ h=>h,λb h g=>absurd h g⟩
 cases r with
 |sh d' =>
  simp only[La]at e3;split at e3
  .rename_i hs;cases e3;exact q _ _ _ v (t1.trans t2) (R1.laid s2) (rv.sh_inv.2.scal hs)
  .cases e3
 |_=>cases e3
end
section
variable (S:AS)
@[simp] theorem U2 (i:Nat):nH i S=(S[i]?.join).map λa=>(nU a,S):=rfl
@[simp] theorem TN (i:Nat):oS i S=(S[i]?.join).map λa=>(.sh (nU a),S.set i (some (.sh (nU a)))):=rfl
@[simp] theorem Tu (i:Nat):Cv i S=(S[i]?.join).map λa=>(a,S.set i none):=rfl
@[simp] theorem VS (k:MK):rOf k S=(k S).map λx=>(nU x.1,x.2):=rfl
@[simp] theorem V5 (m:ME):kSc m S=(m S).bind λx=>if x.1.scal then some (.sh x.1,x.2) else none:=rfl
@[simp] theorem UB (k:MK):rN k S=(k S).map λx=>(.sh (nU x.1),x.2):=rfl
@[simp] theorem X0 (d:D):rC d S=if d.scal then some (d,S) else none:=rfl
@[simp] theorem V6 (f:D->D->Option D) (a b:ME):oV f a b S=(a S).bind λx=>(b x.2).bind λy=>(f x.1 y.1).map λd=>(d,y.2):=rfl
@[simp] theorem VB (f:D->Option D) (a:ME):DC f a S=(a S).bind λx=>(f x.1).map λd=>(d,x.2):=rfl
@[simp] theorem T3 (a:ME):Q3 a S=(a S).bind λx=>(Jp x.1).map λd=>(d,x.2):=rfl
@[simp] theorem Sm (a b:MT):Bj a b S=(a S).bind λx=>if x.1=true then b x.2 else some (false,x.2):=rfl
@[simp] theorem U4 (a b:MT):FZ a b S=(a S).bind λx=>if x.1=true then some (true,x.2) else b x.2:=rfl
@[simp] theorem S4 (a:MT):yx a S=(a S).map λx=>(!x.1,x.2):=rfl
def Sb:D->Option Bool
 | .bl b=>some b
 |_=>none
@[simp] theorem VX (a:ME):uE a S=(a S).bind λx=>(Sb x.1).map λb=>(b,x.2):=by
 show (a S).bind _=_;congr 1;funext x;obtain⟨d,S'⟩:=x;cases d <;> rfl
@[simp] theorem TJ (a b:ME):D9 a b S=(a S).bind λx=>(Sb x.1).bind λc=>if c=true then b x.2 else some (.bl false,x.2):=by
 show (a S).bind _=_;congr 1;funext x;obtain⟨d,S'⟩:=x;cases d <;> try rfl
 rename_i c;cases c <;> rfl
@[simp] theorem Pb (b:Bool):Sb (.bl b)=some b:=rfl
@[simp] theorem Vd:pQ S=some ([],S):=rfl
@[simp] theorem S5 (k:MK) (r:MA):oA k r S=(k S).bind λx=>(r x.2).map λy=>(x.1::y.1,y.2):=rfl
@[simp] theorem Sz:oj S=some ([],S):=rfl
@[simp] theorem Oq (k:ME) (r:ML):nO k r S=(k S).bind λx=>(r x.2).map λy=>(x.1::y.1,y.2):=rfl
@[simp] theorem UH (a:MA):tI a S=(a S).bind λx=>uI (x.1.length<=qF) (some (.ow x.1,x.2)):=rfl
@[simp] theorem US (a:MA):MY a S=(a S).bind λx=>uI (x.1.length<=qF) (some (.sh (.tup (x.1.map nU)),x.2)):=rfl
@[simp] theorem Ve (a b:ML):ON a b S=(a S).bind λx=>(b x.2).bind λy=>uI (x.1.length+y.1.length<=qF) (some (.ow ((x.1++y.1).map .sh),y.2)):=rfl
@[simp] theorem Q8:Dj S=some (none,S):=rfl
@[simp] theorem RH (m:ME):yz m S=(m S).bind λx=>(intOf x.1).map λi=>(some i,x.2):=by
 show (m S).bind _=_;congr 1;funext x;obtain⟨d,S'⟩:=x;cases d <;> rfl
@[simp] theorem IX (i:Int):intOf (.int i)=some i:=rfl
@[simp] theorem VU (l:ML) (lo hi:MO):Qb l lo hi S=(l S).bind λx=>(lo x.2).bind λy=>(hi y.2).map λz=>(.ow ((yr x.1 y.1 z.1).map .sh),z.2):=rfl
@[simp] theorem Wv (l:ML) (b:ME):Qx l b S=(l S).bind λx=>(b x.2).bind λy=>(intOf y.1).bind λi=>(atI x.1 i).map λd=>(.sh d,y.2):=by
 show (l S).bind _=_;congr 1;funext x;show (b x.2).bind _=_;congr 1;funext y;obtain⟨d,S'⟩:=y;cases d <;> rfl
@[simp] theorem VG (f:List D->Option D) (a:ML):vO f a S=(a S).bind λx=>(f x.1).map λd=>(d,x.2):=rfl
@[simp] theorem QZ (f:MF) (a:MA):qL f a S=(a S).bind λx=>(f (x.1.map nU)).map λr=>(r,x.2):=rfl
@[simp] theorem QW (f:MF) (a:ML):rP f a S=(a S).bind λx=>(f x.1).bind λr=>(La r).map λd=>(d,x.2):=rfl
@[simp] theorem RP:qM S=some (.nx S):=rfl
def Kz(o:Option DG) (b:MS):Option DG:=o.bind λo=>match o with
 | .nx S'=>b S'
 |o=>some o
@[simp] theorem KP (b:MS):Kz (some (.nx S)) b=b S:=rfl
@[simp] theorem LJ (a:AV) (b:MS):Kz (some (.rt a)) b=some (.rt a):=rfl
@[simp] theorem Ut (a b:MS):oa a b S=Kz (a S) b:=rfl
@[simp] theorem TV (i:Nat) (k:MK):ox i k S=(k S).map λx=>.nx (x.2.set i (some x.1)):=rfl
@[simp] theorem UD (k:MK):su k S=(k S).map λx=>.rt x.1:=rfl
@[simp] theorem VD (c:MT) (a b:MS):zJ c a b S=(c S).bind λx=>if x.1=true then a x.2 else b x.2:=rfl
@[simp] theorem Ue (i:Nat) (k:MK):wR i k S=(qf S i).bind λ_=>(k S).bind λx=>(qf x.2 i).bind λavs=>uI (avs.length<qF) (some (.nx (x.2.set i (some (.ow (avs++[x.1])))))):=rfl
@[simp] theorem Uc (i:Nat) (l:ML):SV i l S=(qf S i).bind λ_=>(l S).bind λx=>(qf x.2 i).bind λavs=>uI (avs.length+x.1.length<=qF) (some (.nx (x.2.set i (some (.ow (avs++x.1.map .sh)))))):=rfl
@[simp] theorem QY (i:Nat) (b:ME) (k:MK):xD i b k S=(rN k S).bind λx=>(xo x.2 i).bind λ_=>(b x.2).bind λy=>(xo y.2 i).bind λkvs=>(uk y.1).bind λkey =>
 uI (kvs.length<qF) (some (.nx (y.2.set i (some (.owd (xf kvs key (nU x.1))))))):=rfl
def zV:D->Option (List (oy×D))
 | .dict kvs=>some kvs
 |_=>none
@[simp] theorem EW (kvs:List (oy×D)):zV (.dict kvs)=some kvs:=rfl
@[simp] theorem JQ (i:Int):uk (.int i)=some (.inl i):=rfl
@[simp] theorem UM (a b:ME):SN a b S=(a S).bind λx=>(b x.2).bind λy=>(zV y.1).bind λkvs=>(uk x.1).map λkey=>(.bl (getD kvs key).isSome,y.2):=by
 show (a S).bind _=_;congr 1;funext x;show (b x.2).bind _=_;congr 1;funext y;obtain⟨d,S'⟩:=y;cases d <;> rfl
@[simp] theorem M8 (a b:ME):tN a b S=(a S).bind λx=>(b x.2).bind λy=>(zV y.1).bind λkvs=>(uk x.1).map λkey=>(.bl (!(getD kvs key).isSome),y.2):=by
 show (a S).bind _=_;congr 1;funext x;show (b x.2).bind _=_;congr 1;funext y;obtain⟨d,S'⟩:=y;cases d <;> rfl
@[simp] theorem Sn (a b:ME):uj a b S=(a S).bind λx=>(b x.2).bind λy=>(zV x.1).bind λkvs=>(uk y.1).bind λkey=>(getD kvs key).map λd=>(d,y.2):=by
 show (a S).bind _=_;congr 1;funext x;show (b x.2).bind _=_;congr 1;funext y;obtain⟨d,S'⟩:=x;cases d <;> rfl
@[simp] theorem Sr:Ar S=some (.owd [],S):=rfl
@[simp] theorem U8 (x:Nat) (k:MK) (body:MS):yq x k body S=(rN k S).bind λy=>(qm (nU y.1)).bind λds=>rQ x body ds y.2:=rfl
@[simp] theorem Pf (x:Nat) (a:ML) (body:MS):A9 x a body S=(a S).bind λy=>(AK y.1).bind λds=>rQ x body ds y.2:=rfl
@[simp] theorem RN (x y:Nat) (k:MK) (body:MS):Iq x y k body S=(rN k S).bind λz=>(qm (nU z.1)).bind λds=>zY x y body 0 ds z.2:=rfl
@[simp] theorem Sg (x y:Nat) (k l:MK) (body:MS):Mz x y k l body S=(rN k S).bind λz=>(rN l z.2).bind λw=>(qm (nU z.1)).bind λds=>(qm (nU w.1)).bind λes =>
 if ds.length=es.length then yE x y body ds es w.2 else none:=rfl
@[simp] theorem R5 (src:MI) (fr:List Nat) (tf:MT) (te:MK):AA src fr tf te S=(src S).bind λy=>(fzAll fr y.2).bind λS2=>(Ad S2 fr).bind λcap=>uI (y.1.length<=qF) ((uh tf te cap y.1).map λavs=>(.ow avs,S2)):=rfl
@[simp] theorem Ud (k:MK):NV k S=(rN k S).bind λy=>(qm (nU y.1)).map λds=>(ds,y.2):=rfl
@[simp] theorem VZ (a:ML):Vr a S=(a S).bind λy=>(AK y.1).map λds=>(ds,y.2):=rfl
@[simp] theorem Jj:fzAll [] S=some S:=rfl
@[simp] theorem Hb (j:Nat) (js:List Nat):fzAll (j::js) S=(S[j]?.join).bind λa=>fzAll js (S.set j (some (.sh (nU a)))):=rfl
@[simp] theorem LQ:Ad S []=some []:=rfl
@[simp] theorem J0 (j:Nat) (js:List Nat):Ad S (j::js)=(Se S[j]?.join).bind λa=>(Ad S js).map (some a :: ·):=rfl
@[simp] theorem Rk (l:ML):zG l S=(l S).map λx=>(.ow (x.1.map .sh),x.2):=rfl
@[simp] theorem Oz (l:ML):GS l S=(l S).bind λx=>(xN x.1).map λrs=>(.ow ((zK rs).map λr=>.sh (dI r)),x.2):=rfl
def UK:AV->Option (List AV)
 | .ow avs=>some avs
 |_=>none
@[simp] theorem Ob (avs:List AV):UK (.ow avs)=some avs:=rfl
@[simp] theorem VL (T:String) (f:D->List D->Option D) (a:ME) (as:ML):Vl T f a as S=(a S).bind λx=>if TF T x.1=true then (as x.2).bind λy=>(f x.1 y.1).map λd=>(d,y.2) else none:=rfl
def Xb:D->Option (List D)
 | .list ds=>some ds
 |_=>none
@[simp] theorem Vc (a:ME):yM a S=(a S).bind λx=>(wL x.1).map λb=>(b,x.2):=rfl
def Vs:AV->Option (List D)
 | .sh (.list ds)=>some ds
 | .ow avs=>some (avs.map nU)
 |_=>none
@[simp] theorem S8 (ds:List D):Vs (.sh (.list ds))=some ds:=rfl
@[simp] theorem SZ (avs:List AV):Vs (.ow avs)=some (avs.map nU):=rfl
@[simp] theorem WG (k:MK):lOf k S=(k S).bind λx=>(Vs x.1).map λds=>(ds,x.2):=by
 show (k S).bind _=_;congr 1;funext x;obtain⟨a,S'⟩:=x;cases a with
 |sh d=>cases d <;> rfl
 |_=>rfl
end
@[simp] theorem K8 (ds:List D):(ds.map AV.sh).map nU=ds:=by
 rw[mPq];have:nU∘AV.sh=id:=by funext d;simp
 rw[this,fG]
def Vu:AV->AV
 | .ow avs=>.ow ((avs.map nU).map .sh)
 |a=>a
@[simp] theorem Ro (d:D):Vu (.sh d) = .sh d:=rfl
@[simp] theorem M3 (avs:List AV):Vu (.ow avs) = .ow ((avs.map nU).map .sh):=rfl
theorem EI{S:AS}{i:Nat}{a:AV}(h:S[i]?=some (some a)):S.set i (some a)=S:=by
 obtain⟨hk,ev⟩:=gSq.mp h;rw[←ev];exact fc hk
def UZ:AV->Option (List D)
 | .sh (.scr ns)=>some (ns.map .int)
 |a=>Vs a
@[simp] theorem PR (ns:List Int):UZ (.sh (.scr ns))=some (ns.map .int):=rfl
@[simp] theorem SY (ds:List D):UZ (.sh (.list ds))=some ds:=rfl
@[simp] theorem Ml (avs:List AV):UZ (.ow avs)=some (avs.map nU):=rfl
@[simp] theorem TU (S:AS) (i:Nat):vh i S=(S[i]?.join).bind λa=>(UZ a).map λds=>(ds,S.set i (some (Vu a))):=by
 unfold vh;cases e:S[i]?.join with
 |none=>rfl
 |some a =>
  cases a with
  |sh d =>
   cases d with
   |list ds =>
    show some (ds,S)=some (ds,S.set i (some (.sh (.list ds))));rw[EI (oX e)]
   |scr ns =>
    show some (ns.map D.int,S)=some (ns.map D.int,S.set i (some (.sh (.scr ns))));rw[EI (oX e)]
   |_=>rfl
  |ow avs=>rfl
  |owd kvs=>rfl
  |owl kvs=>rfl
@[simp] theorem NI (i:Int):(D.int i).scal=true:=rfl
@[simp] theorem OB (i:Bool):(D.bl i).scal=true:=rfl
@[simp] theorem Mb (i:Str):(D.str i).scal=true:=rfl
@[simp] theorem Lf:D.non.scal=true:=rfl
@[simp] theorem OF (i:String):(D.ty i).scal=true:=rfl
@[simp] theorem NG (i:Int):La (.sh (.int i))=some (.int i):=rfl
@[simp] theorem OY (i:Bool):La (.sh (.bl i))=some (.bl i):=rfl
@[simp] theorem Io (i j:Int):C7 (.int i) (.int j)=some (.bl (decide (i=j))):=rfl
@[simp] theorem Og (b:Bool):Jp (.bl b)=some (.bl (!b)):=rfl
@[simp] theorem Pr (i j:Int):S6 (.int i) (.int j)=some (.bl (!decide (i=j))):=rfl
@[simp] theorem PM (i j:Str):S6 (.str i) (.str j)=some (.bl (!decide (i=j))):=rfl
@[simp] theorem JZ (ds:List D):sm [.list ds]=some (.int ds.length):=rfl
@[simp] theorem Ma (ns:List Int):sm [.scr ns]=some (.int ns.length):=rfl
@[simp] theorem KY (ds:List D):sm [.tup ds]=some (.int ds.length):=rfl
@[simp] theorem D3 (ds:List D):qm (.list ds)=some ds:=rfl
@[simp] theorem NX (ds:List D) (i:Int):Cc (.list ds) (.int i)=atI ds i:=rfl
@[simp] theorem Ow (ns:List Int) (i:Int):Cc (.scr ns) (.int i)=(atI ns i).map .int:=rfl
@[simp] theorem Pz (d:D):Se (some (.sh d))=some (.sh d):=rfl
@[simp] theorem Lx (ds:List D):TF "list" (.list ds)=true:=rfl
theorem PP(S:AS) (i:Nat):qf S i=(S[i]?.join).bind UK:=by
 unfold qf;cases S[i]?.join with
 |none=>rfl
 |some a=>cases a <;> rfl
def MJ:AV->Option (List (oy×D))
 | .owd kvs=>some kvs
 |_=>none
@[simp] theorem Jh (kvs:List (oy×D)):MJ (.owd kvs)=some kvs:=rfl
theorem Mj(S:AS) (i:Nat):xo S i=(S[i]?.join).bind MJ:=by
 unfold xo;cases S[i]?.join with
 |none=>rfl
 |some a=>cases a <;> rfl
theorem FV{x:Nat}{body:MS}(P:Nat->AS->Prop):∀{ds:List D}{S:AS}{k:Nat},P k S->(∀i d S,ds[i]?=some d->P (k+i) S->∃S',(body (S.set x (some (.sh d)))=some (.nx S')∨body (S.set x (some (.sh d)))=some (.ct S'))/\P (k+i+1) S')->∃S',rQ x body ds S=some (.nx S')/\P (k+ds.length) S'
 | [],S,k,h0,_=>⟨S,rfl,h0⟩
 |d::ds,S,k,h0,hs=>by
  obtain⟨S',e,h1⟩:=hs 0 d S rfl h0;have hs':∀i d S,ds[i]?=some d->P (k+1+i) S->∃S',(body (S.set x (some (.sh d)))=some (.nx S')∨body (S.set x (some (.sh d)))=some (.ct S'))/\P (k+1+i+1) S':=λi d S h p=>by
   have:=hs (i+1) d S (by simpa using h) (by rw[show k+(i+1)=k+1+i by lia];exact p)
   rw[show k+(i+1)=k+1+i by lia]at this
   exact this
  obtain⟨S2,e2,h2⟩:=FV P (k:=k+1) h1 hs';refine⟨S2,?_,by rw[lCq,show k+(ds.length+1)=k+1+ds.length by lia];exact h2⟩
  show (body _).bind _=_;rcases e with e|e <;> (rw[e];exact e2)
theorem tX{x:Nat}{body:MS}(P:Nat->AS->Prop) {ds:List D}{S:AS}(h0:P 0 S) (hs:∀i d S,ds[i]?=some d->P i S->∃S',body (S.set x (some (.sh d)))=some (.nx S')/\P (i+1) S'):∃S',rQ x body ds S=some (.nx S')/\P ds.length S':=by
 have:=FV (x:=x) (body:=body) P (ds:=ds) (k:=0) h0 λi d S h p=>by
  rw[bY]at p ⊢;obtain⟨S',e,q⟩:=hs i d S h p;exact⟨S',.inl e,q⟩
 rw[bY]at this;exact this
theorem LG{x y:Nat}{body:MS}(P:Nat->AS->Prop):∀{ds:List D}{S:AS}{k:Nat},P k S->(∀i d S,ds[i]?=some d->P (k+i) S->∃S',body ((S.set x (some (.sh (.int (k+i:Nat))))).set y (some (.sh d)))=some (.nx S')/\P (k+i+1) S')->∃S',zY x y body k ds S=some (.nx S')/\P (k+ds.length) S'
 | [],S,k,h0,_=>⟨S,rfl,h0⟩
 |d::ds,S,k,h0,hs=>by
  obtain⟨S',e,h1⟩:=hs 0 d S rfl h0;have hs':∀i d S,ds[i]?=some d->P (k+1+i) S->∃S',body ((S.set x (some (.sh (.int (k+1+i:Nat))))).set y (some (.sh d)))=some (.nx S')/\P (k+1+i+1) S':=λi d S h p=>by
   have:=hs (i+1) d S (by simpa using h) (by rw[show k+(i+1)=k+1+i by lia];exact p)
   rw[show k+(i+1)=k+1+i by lia]at this
   exact this
  obtain⟨S2,e2,h2⟩:=LG P (k:=k+1) h1 hs';refine⟨S2,?_,by rw[lCq,show k+(ds.length+1)=k+1+ds.length by lia];exact h2⟩
  show (body ((S.set x (some (.sh (.int (k:Nat))))).set y (some (.sh d)))).bind _=_;rw[gK]at e;rw[e];exact e2
theorem Qc{x y:Nat}{body:MS}(P:Nat->AS->Prop):∀{ds es:List D}{S:AS}{k:Nat},ds.length=es.length->P k S->(∀i d e S,ds[i]?=some d->es[i]?=some e->P (k+i) S->∃S',body ((S.set x (some (.sh d))).set y (some (.sh e)))=some (.nx S')/\P (k+i+1) S')->∃S',yE x y body ds es S=some (.nx S')/\P (k+ds.length) S'
 | [],[],S,k,_,h0,_=>⟨S,rfl,h0⟩
 | [],_::_,S,k,hl,_,_=>by simp at hl
 |_::_,[],S,k,hl,_,_=>by simp at hl
 |d::ds,b::es,S,k,hl,h0,hs=>by
  obtain⟨S',e,h1⟩:=hs 0 d b S rfl rfl h0;have hs':∀i d e S,ds[i]?=some d->es[i]?=some e->P (k+1+i) S->∃S',body ((S.set x (some (.sh d))).set y (some (.sh e)))=some (.nx S')/\P (k+1+i+1) S':=λi d e S h h' p=>by
   have:=hs (i+1) d e S (by simpa using h) (by simpa using h') (by rw[show k+(i+1)=k+1+i by lia];exact p)
   rw[show k+(i+1)=k+1+i by lia]at this
   exact this
  obtain⟨S2,e2,h2⟩:=Qc P (k:=k+1) (by simpa using hl) h1 hs'
  refine⟨S2,?_,by rw[lCq,show k+(ds.length+1)=k+1+ds.length by lia];exact h2⟩
  show (body _).bind _=_;rw[e];exact e2
theorem vW{te:MK}{cap:AS}(g:D->AV):∀{ds:List D},(∀d∈ds,∃S',te (some (.sh d)::cap)=some (g d,S'))->uh xn te cap ds=some (ds.map g)
 | [],_=>rfl
 |d::ds,h=>by
  obtain⟨S',e⟩:=h d (by simp)
  show (te (some (.sh d)::cap)).bind (λa=>(uh xn te cap ds).map (a.1 :: ·))=_
  rw[e,vW g λx hx=>h x (mCo _ hx)]
  rfl
theorem xG{α β:Type}(f:α->β) (xs:List α) (lo hi:Option Int):yr (xs.map f) lo hi=(yr xs lo hi).map f:=by
 unfold yr;rw[lMq,gE,List.map_drop]
theorem Dk{α:Type}(xs:List α) (i:Nat) (h:i<=xs.length):yr xs (some (i:Int)) none=xs.drop i:=by
 unfold yr;rw[HT.A0,HT.EZ,dz h,cj (by rw[aS];exact ag _)]
theorem HU{α:Type}(xs:List α) (i:Nat) (h:i<=xs.length):yr xs none (some (i:Int))=xs.take i:=by
 unfold yr;rw[HT.A0,HT.EZ,dz h,eJ,Nat.sub_zero]
theorem NQ{α:Type}(xs:List α) (i j:Nat):yr xs (some (i:Int)) (some (j:Int))=(xs.drop i).take (j-i):=by
 unfold yr;rw[HT.A0,HT.A0]
 by_cases h:i<=xs.length
 .rw [dz h]
  by_cases h2:j<=xs.length
  .rw [dz h2]
  .rw [gU (by lia),cj (by rw[aS];exact ag _),cj (by rw[aS];lia)]
 .have e:min i xs.length=xs.length:=gU (by lia)
  rw[e,eS (ag xs.length),eS (show xs.length<=i by lia)]
  simp
theorem IQ{α:Type}{xs:List α}{i:Int}(h0:0<=i):atI xs i=xs[i.toNat]?:=by
 unfold atI E1;rw[oz h0]
 by_cases h:i<xs.length
 .rw [oz h];rfl
 .rw [oB h,bu (by lia)]
  rfl
theorem OE{α β:Type}(f:α->β) (xs:List α) (i:Int):atI (xs.map f) i=(atI xs i).map f:=by
 unfold atI;rw[lMq];cases E1 xs.length i with
 |none=>rfl
 |some j=>show (xs.map f)[j]?=_;rw[gMq];rfl
theorem HY{n:Nat}{i:Nat}(h:i<n):E1 n (i:Int)=some i:=by
 unfold E1;rw[oz (by lia),oz (by lia)]
 simp
theorem H0(ns:List Int):(ns.map D.int).map AV.sh=ns.map λn=>AV.sh (.int n):=by rw[mPq];rfl
theorem Ex(ns:List Int):(ns.map λn=>AV.sh (.int n)).map nU=ns.map D.int:=by rw[mPq];exact mCq λn _=>by simp
theorem P1(rs:List (List Int)):(rs.map aI).map nU=rs.map dI:=by
 rw[mPq];refine mCq λr _=>?_
 show nU (.ow (r.map λn=>AV.sh (.int n)))=_
 rw[qT,Ex]
theorem O3(rs:List (List Int)):(rs.map dI).map AV.sh=rs.map λr=>AV.sh (dI r):=by rw[mPq];rfl
theorem oR(ns:List Int):nU (aI ns)=dI ns:=by
 show nU (.ow (ns.map λn=>AV.sh (.int n)))=_
 rw[qT,Ex]
theorem Ox(i j:Int):vR (.int i) (.int j)=some (.int (i+j)):=vU _
theorem Oo(i j:Int):Eh (.int i) (.int j)=some (.int (i-j)):=vU _
theorem SB(i j:Int):Il (.int i) (.int j)=some (.bl (decide (i<j))):=vU _
theorem RG(i j:Int):Qs (.int i) (.int j)=some (.bl (decide (j<i))):=vU _
theorem RS(i:Int):vg (.int i)=some (.int (-i)):=rfl
theorem Xy:E9 (.int 10) (.int 60)=some (.int (10 ^ 60)):=tO ⟨by decide,by decide,by decide⟩ _
theorem Xg:E9 (.int 10) (.int 59)=some (.int (10 ^ 59)):=tO ⟨by decide,by decide,by decide⟩ _
theorem W6:E9 (.int 10) (.int 57)=some (.int (10 ^ 57)):=tO ⟨by decide,by decide,by decide⟩ _
theorem Qg{i j:Int}(h1:-(2 ^ 64)<i) (h2:i<2 ^ 64):zX (.int i) (.int j)=some (.int (i*j)):=tO (.inl ⟨h1,h2⟩) _
theorem P5{i j:Int}(h1:-(2 ^ 64)<j) (h2:j<2 ^ 64):zX (.int i) (.int j)=some (.int (i*j)):=tO (.inr ⟨h1,h2⟩) _
theorem rA{i j:Int}(h:0<j):tK (.int i) (.int j)=some (.int (i % j)):=tO h _
theorem yP{i j:Int}(h:0<j) (h2:j<1073741824):AJ (.int i) (.int j)=some (.int (i / j)):=tO ⟨h,h2⟩ _
theorem Uk:(0:Nat)<=qF:=by decide
theorem U7:(1:Nat)<=qF:=by decide
theorem Uw:(2:Nat)<=qF:=by decide
theorem vF{n:Nat}(h:n<=16777216):n<=qF:=h
theorem M1{n:Nat}(h:n<16777216):n<qF:=h
theorem yc{n:Nat}(h:n<1000000):AK [.int (n:Int)]=some (oU 0 n):=by
 have e:AK [.int (n:Int)]=some (oU 0 (n:Int).toNat):=tO ⟨by lia,by lia⟩ _
 rw[e,aX]
theorem xK(n:Nat):oU 0 n=(aN n).map λi:Nat=>D.int i:=by
 unfold oU;exact mCq λi _=>by rw[fV]
theorem T7(np n:Nat) (m:MS) (ds:List D):vi np n m ds=if ds.length=np then (m (ds.map (λd=>some (.sh d))++aO (n-ds.length) none)).bind λo=>match o with
  | .rt a=>some a
  | .nx _=>some (.sh .non)
  |_=>none
 else none:=rfl
theorem X8{α:Type}{a b:α}{l:List α}:(a::b::l)[1]?=some b:=rfl
theorem Q7{α:Type}{a b v:α}{l:List α}:(a::b::l).set 1 v=a::v::l:=rfl
theorem Xm{α:Type}{a b c:α}{l:List α}:(a::b::c::l)[2]?=some c:=rfl
theorem Bw{α:Type}{a b c v:α}{l:List α}:(a::b::c::l).set 2 v=a::b::v::l:=rfl
theorem Xp{α:Type}{a b c d:α}{l:List α}:(a::b::c::d::l)[3]?=some d:=rfl
theorem Vi{α:Type}{a b c d v:α}{l:List α}:(a::b::c::d::l).set 3 v=a::b::c::v::l:=rfl
theorem XU{α:Type}{a b c d:α}{l:List α}{n:Nat}:(a::b::c::d::l)[n+4]?=l[n]?:=rfl
theorem Td{α:Type}{a b c d v:α}{l:List α}{n:Nat}:(a::b::c::d::l).set (n+4) v=a::b::c::d::l.set n v:=rfl
def zq:=aa @Z.vU (aa @Z.Uk (aa @Z.U7 (aa @Z.Uw (aa @Z.U2 (aa @Z.TN (aa @Z.Tu (aa @Z.VS (aa @Z.V5 (aa @Z.UB (aa @Z.X0 (aa @Z.V6 (aa @Z.VB (aa @Z.T3 (aa @Z.Sm (aa @Z.U4 (aa @Z.S4 (aa @Z.VX (aa @Z.TJ (aa @Z.Pb (aa @Z.Vd (aa @Z.S5 (aa @Z.Sz (aa @Z.Oq (aa @Z.UH (aa @Z.US (aa @Z.Ve (aa @Z.Q8 (aa @Z.RH (aa @Z.IX (aa @Z.VU (aa @Z.Wv (aa @Z.VG (aa @Z.QZ (aa @Z.QW (aa @Z.RP (aa @Z.KP (aa @Z.LJ (aa @Z.Ut (aa @Z.TV (aa @Z.UD (aa @Z.VD (aa @Z.Ue (aa @Z.Uc (aa @Z.QY (aa @Z.EW (aa @Z.JQ (aa @Z.UM (aa @Z.M8 (aa @Z.Sn (aa @Z.Sr (aa @Z.U8 (aa @Z.Pf (aa @Z.RN (aa @Z.Sg (aa @Z.R5 (aa @Z.Ud (aa @Z.VZ (aa @Z.Jj (aa @Z.Hb (aa @Z.LQ (aa @Z.J0 (aa @Z.Rk (aa @Z.Oz (aa @Z.Ob (aa @Z.VL (aa @Z.Vc (aa @Z.S8 (aa @Z.SZ (aa @Z.WG (aa @Z.K8 (aa @Z.Ro (aa @Z.M3 (aa @Z.PR (aa @Z.SY (aa @Z.Ml (aa @Z.TU (aa @Z.NI (aa @Z.OB (aa @Z.Mb (aa @Z.Lf (aa @Z.OF (aa @Z.NG (aa @Z.OY (aa @Z.Ox (aa @Z.Oo (aa @Z.SB (aa @Z.RG (aa @Z.RS (aa @Z.W6 (aa @Z.Xg (aa @Z.Xy (aa @Z.H0 (aa @Z.Ex (aa @Z.P1 (aa @Z.O3 (aa @Z.Io (aa @Z.Og (aa @Z.Pr (aa @Z.PM (aa @Z.JZ (aa @Z.Ma (aa @Z.KY (aa @Z.D3 (aa @Z.NX (aa @Z.Ow (aa @Z.Pz (aa @Z.Lx (aa @Z.PP (aa @Z.Mj (aa @Z.Jh (aa @Z.pH (aa @Z.qT (aa @Z.yk (aa @Z.T7 (aa @Z.uY (aa @Z.Hv (aa @List.getElem?_cons_zero.{0} (aa @Z.X8 (aa @Z.Xm (aa @Z.Xp (aa @Z.XU (aa @List.set_cons_zero.{0} (aa @Z.Q7 (aa @Z.Bw (aa @Z.Vi (aa @Z.Td (aa @Option.join_some.{0} (aa @Option.map_some.{0, 0} (aa @Option.bind_some.{0, 0} (aa @List.length_cons.{0} (aa @List.length_nil.{0} (aa @List.map_cons.{0, 0} (aa @List.map_nil.{0, 0} (aa @List.nil_append.{0} (aa @List.cons_append.{0} (aa @List.length_map.{0, 0} (aa @Bool.not_true (aa @Bool.not_false (aa @Bool.false_eq_true (aa @decide_true (aa @decide_false (aa @Nat.zero_add (aa @List.replicate_zero.{0} @List.append_nil.{0})))))))))))))))))))))))))))))))))))))))))))))))))))))))))))))))))))))))))))))))))))))))))))))))))))))))))))))))))))))))))))))))))))))))))))))))
theorem PD{K:W.Frag}{f:MF}(h:∀ns:List Int,ns.length<=63->f [.scr ns]=some (.sh (.bl true))):∀vs H Q E,Iz K vs H Q E->qe K f vs H Q E:=by
 rintro vs H Q E ⟨a,ns,rfl,hS,hl,q⟩;refine⟨H,[.scr ns],_,.refl _,.cons (.scr hS) .nil,h ns hl,λHf' H' v F _ _ _ _ r _ _=>?_⟩
 cases r.sh_inv.2;exact q H'
end Z
namespace Mr
open PySem PySem.Spec PyProof.Rows L2
section
variable {X:Cx}{tg:Expr}
def CF{α:Type}(P:α->Prop):List α->Prop
 | []=>True
 |a::l=>P a/\CF P l
theorem CF.mem{α:Type}{P:α->Prop}:∀{l:List α},CF P l->∀a∈l,P a
 | [],_,a,h=>by cases h
 |b::l,hp,a,h=>(aj.mp h).elim (λe=>e ▸ hp.1) (CF.mem hp.2 a)
theorem xl.of{scope:jI}{cl:List (Str×Addr)}{x:Str}{N:List Str}{fr:List Nat}(h1:N.Nodup) (h2:N[0]?=some x) (h3:N.length=fr.length+1)
  (h4:CF (λp=>X.env.cells.lookup p.1=some p.2) cl) (h5:CF (λp=>(p.2 = .cell∨p.2 = .free)->∃c,cl.lookup p.1=some c) (jy scope X.env).names)
  (h6:CF (λp=>X.N[p.1]?=some p.2/\X.env.scope.names.lookup p.2=some .cell/\(jy scope X.env).names.lookup p.2=some .cell) (fr.zip (N.drop 1))):xl X scope cl x N fr where
 names:=h1
 own:=h2
 len:=h3
 sub:=λy c e=>h4.mem (y,c) (PySem.mem_of_lookup e)
 has:=λy e=>by
  rcases e with e|e
  .exact h5.mem _ (PySem.mem_of_lookup e) (.inl rfl)
  .exact h5.mem _ (PySem.mem_of_lookup e) (.inr rfl)
 get:=λk j y e1 e2=>by
  have hm:(j,y)∈fr.zip (N.drop 1):=by
   refine mGq (i:=k) ?_;rw[cY];exact⟨e1,by rw[cI,gM];exact e2⟩
  exact h6.mem _ hm
end
end Mr
namespace Z
open PySem L2 Mr
def Ye(k:MK):MI:=λS=>(rN k S).bind λy=>(qm (nU y.1)).map λds=>(ds.reverse,y.2)
section
variable {K:W.Frag}{tf:TT}{te:TE}{mf:MT}{me:MK}{fr:List Nat}
def V2(a b:ME):ME:=λS=>(a S).bind λx=>(b x.2).bind λy=>(zV x.1).bind λkvs=>(uk y.1).map λkey=>((getD kvs key).getD .non,y.2)
end
theorem Ra(ds:List (oy×D)):Am [.dict ds]=some (.int ds.length):=rfl
def Xr:=@Ra
end Z
namespace Mr
open PySem PySem.W PySem.Spec PyProof.Rows L2
structure B5 (X:Cx) (scope:jI) (cl:List (Str×Addr)) (x x2:Str) (N:List Str) (fr:List Nat):Prop where
 names:N.Nodup
 own:N[0]?=some x
 own2:N[1]?=some x2
 len:N.length=fr.length+2
 sub:∀y c,cl.lookup y=some c->X.env.cells.lookup y=some c
 has:∀y,((jy scope X.env).names.lookup y=some .cell∨(jy scope X.env).names.lookup y=some .free)->∃c,cl.lookup y=some c
 get:∀(k j:Nat) (y:Str),fr[k]?=some j->N[k+2]?=some y->X.N[j]?=some y/\X.env.scope.names.lookup y=some .cell/\(jy scope X.env).names.lookup y=some .cell
theorem B5.of{X:Cx}{scope:jI}{cl:List (Str×Addr)}{x x2:Str}{N:List Str}{fr:List Nat}(h1:N.Nodup) (h2:N[0]?=some x) (h2':N[1]?=some x2) (h3:N.length=fr.length+2)
  (h4:CF (λp=>X.env.cells.lookup p.1=some p.2) cl) (h5:CF (λp=>(p.2 = .cell∨p.2 = .free)->∃c,cl.lookup p.1=some c) (jy scope X.env).names)
  (h6:CF (λp=>X.N[p.1]?=some p.2/\X.env.scope.names.lookup p.2=some .cell/\(jy scope X.env).names.lookup p.2=some .cell) (fr.zip (N.drop 2))):B5 X scope cl x x2 N fr where
 names:=h1
 own:=h2
 own2:=h2'
 len:=h3
 sub:=λy c e=>h4.mem (y,c) (PySem.mem_of_lookup e)
 has:=λy e=>by
  rcases e with e|e
  .exact h5.mem _ (PySem.mem_of_lookup e) (.inl rfl)
  .exact h5.mem _ (PySem.mem_of_lookup e) (.inr rfl)
 get:=λk j y e1 e2=>by
  have hm:(j,y)∈fr.zip (N.drop 2):=by
   refine mGq (i:=k) ?_;rw[cY];exact⟨e1,by rw[cI,gM];exact e2⟩
  exact h6.mem _ hm
abbrev g2(K:W.Frag):TG:=Ka K 2 (xy (rG 0) (xy (rG 1) Jq))
def Nb(K:W.Frag) (wi:TI) (fr:List Nat) (tf:TT) (te:TE):TE:=λσ H Q=>wi σ H λJ H1=>∀acc,H1 acc=none->∃W:Nat->Nat->Hp->Prop,(∃m,W 0 m (pX H1 acc (.lst [])))/\∀i m H,W i m H ->
 (J.stop i H/\Q (.ref acc) H) ∨
 (J.go i H/\∃N:Hp->Prop,(∀H',N H'->∃m',m'<m/\W (i+1) m' H')/\∀x H',J.yld i H x H'->∀v0 v1,g2 K x (v0::v1::slots σ fr) H' λσ2 H1=>(∃a b,σ2=a::b::slots σ fr)/\tf σ2 H1 λb H2 =>
  if b=true then te σ2 H2 λy H3=>∃ys,H3 acc=some (.lst ys)/\ys.length<iR/\N (pX H3 acc (.lst (ys++[y]))) else N H2)
section
variable {X:Cx}{scope:jI}{cl:List (Str×Addr)}{N:List Str}{fr:List Nat}{x x2:Str}{px px2 pos tp:Pos}{tk:Nat}{elt iter:Expr}{ifs:List Expr}{tf:TT}{te:TE}
theorem E4{nA:List (Addr×Obj)}{σ:St}{H:Hp}{s:Shared}{E:Value->Shared->Prop}{J:It}{fp:List Addr}{it:Addr}{tn:Nat->Heap->Prop}{RR:Value->Addr->Result->Shared->Prop}{Q:VK}
  (hc:X.calm=true) (hcell:∀y∈scope.names,y.2 ≠ .cell) (hkind:scope.kind = .function) (hx:scope.names.lookup x=some .local) (hy:scope.names.lookup x2=some .local) (hF:B5 X scope cl x x2 N fr)
  (hf:∀C s H fp,PF (pI X scope cl N C s H fp) ifs tf) (he:∀C s H fp,PE (pI X scope cl N C s H fp) elt te)
  (I:Inv X nA σ H s) (T:Gx X.prog X.w X.K (.Tuple [.Name x px,.Name x2 px2] tk tp) J fp it tn) (st:tn 0 s.heap) (fpo:∀b∈fp,yN X nA H b)
  (h:∀acc,H acc=none->∃W:Nat->Nat->Hp->Prop,(∃m,W 0 m (pX H acc (.lst [])))/\∀i m H,W i m H ->
   (J.stop i H/\Q (.ref acc) H) ∨
   (J.go i H/\∃N:Hp->Prop,(∀H',N H'->∃m',m'<m/\W (i+1) m' H')/\∀x H',J.yld i H x H'->∀v0 v1,g2 X.K x (v0::v1::slots σ fr) H' λσ2 H1=>(∃a b,σ2=a::b::slots σ fr)/\tf σ2 H1 λb H2 =>
    if b=true then te σ2 H2 λy H3=>∃ys,H3 acc=some (.lst ys)/\ys.length<iR/\N (pX H3 acc (.lst (ys++[y]))) else N H2))
  (fin:∀acc C s' Hf m,Inv X nA σ Hf s'->s'.heap.Ns C m->yN X nA Hf C->Q (.ref acc) Hf->RR (.ref acc) C (.ok .next) s') :
  iM (iO X.prog X.w) X.A (mE []) (λacc s₃=>iM (iO X.prog X.w) X.A (newFunctionEnv scope X.env.globals cl [] X.env.qual none .none (some X.env)) (λcenv s₄ =>
   jF (iO X.prog X.w) X.A (.compStart (.ListComp elt [⟨.Tuple [.Name x px,.Name x2 px2] tk tp,iter,ifs,0⟩] scope pos) 0 (.ref it) acc { cenv with scope:=jy scope X.env }) (RR acc cenv.locals) s₄) E s₃) E s:=by
 refine ji (lR hcell (by intro y hy;simp at hy) (λh₁ hns₁ hsb₁=>?_) hkind)
 dsimp only at hns₁ hsb₁ ⊢;generalize hG:s.heap.push { cls:=.type "list", dict:=none,data:=.seq ([]:List Value).toArray }=G at hns₁ hsb₁ ⊢;have hC:G.objs.size=s.heap.objs.size+1:=by rw[←hG,dN]
 have hCle:s.heap.objs.size<=G.objs.size:=by rw[hC];exact bH _
 have hDC:s.heap.objs.size≠G.objs.size:=by rw[hC];exact aw (cB _)
 have below:∀b,b<s.heap.objs.size->b≠G.objs.size:=λb hb=>by rw[hC];exact aw (bE hb)
 have old:∀b o,s.heap.get? b=some o->h₁.get? b=some o:=λb o e=>hsb₁.extBut b o (below b (ai e)) (ae _ (hG ▸ ae _ e))
 have hacc:h₁.get? s.heap.objs.size=some { cls:=.type "list", data:=.seq ([]:List Value).toArray }:=hsb₁.extBut _ _ hDC (ae _ (hG ▸ az _ rfl));have hn:H s.heap.objs.size=none:=I.hok.fresh (ag _);have hnC:H G.objs.size=none:=I.hok.fresh hCle;have fpl:∀b∈fp,b<s.heap.objs.size:=λb hb=>by
  obtain⟨o,q,_⟩:=T.obj 0 _ st b hb;exact ai q
 obtain⟨W,⟨m0,w0⟩,turn⟩:=h _ hn;have ok':(pI X scope cl N G.objs.size s H fp).Ok:=by
  refine⟨I.ok.mod,by show (jy scope X.env).kind = .function;exact hkind,I.ok.glob,I.ok.blt,hCle,λy z c h1 h2=>I.ok.inj y z c (hF.sub y c h1) (hF.sub z c h2),hF.has,λ_ _ z _=>(by cases z),I.ok.hd,I.ok.frames,.inl rfl,
   λb hb=>⟨below b (fpl b hb),λy c e=>(fpo b hb).2.2.2.2.1 y c (hF.sub y c e)⟩,λb o e=>⟨(I.bs b o e).1,(I.bs b o e).2⟩,bJ I.ok.bsz I.sz,λb o e hb=>?_,λb hb z=>?_,I.stack,I.stkFree⟩
  .rcases (fpo b hb).2.2.2.1 with q|q
   .exact I.ok.noex b o e q
   .exact absurd (aF (ai (I.ok.bs b o e).1) q) (cA _)
  .rcases aj.mp (I.stkSub b z) with q|q
   .exact (fpo b hb).2.1 q
   .exact (fpo b hb).2.2.1 q
 have I0:Inv (pI X scope cl N G.objs.size s H fp) [] (none::none::slots σ fr) (pX H s.heap.objs.size (.lst [])) { s with heap:=h₁,toks:=s.toks+([]:List (Str×Value)).length }:=by
  have hok1:xu X.prog X.w (pX H s.heap.objs.size (.lst [])) h₁:=I.hok.laid old (ag _) ⟨aV _,[],0,.nil,hacc⟩;refine⟨ok',rfl,I.bare,Un.laid old (ag _) hn,⟨_,hns₁,λk y v e1 e2 e3=>?_⟩,λy c e=>?_,?_,λy c e=>?_,λp hp=>absurd (show p∈([]:List (Addr×Obj)) from hp) (by simp),hok1,?_⟩
  .match k,e1,e2 with
   |0,e1,e2=>cases e2
   |1,e1,e2=>cases e2
   |k+2,e1,e2 =>
    have e2':(slots σ fr)[k]?=some (some v):=e2;unfold slots at e2';rw[gMq]at e2';cases ej:fr[k]? with
    |none=>rw[ej]at e2';cases e2'
    |some j =>
     rw[ej]at e2';have e2j:(σ[j]?).join=some v:=aU.inj e2';have e2s:σ[j]?=some (some v):=by
      cases q:σ[j]? with
      |none=>rw[q]at e2j;cases e2j
      |some z=>rw[q]at e2j;exact congrArg some e2j
     obtain⟨g1,g2,g3⟩:=hF.get k j y ej e1;obtain⟨m,_,hl⟩:=I.loc;obtain⟨u,r,l⟩:=hl j y v g1 e2s (.inr (.inl g2));refine⟨u,r,.inr ⟨.inl g3,?_⟩⟩;obtain⟨c,e⟩:=hF.has y (.inl g3);have e':=hF.sub y c e;rcases l with ⟨l1,_⟩|⟨_,c',ec,hcell'⟩
     .have l1':X.env.scope.names.lookup y=some .local:=l1;rw[g2]at l1';cases l1'
     .rw [e']at ec;cases ec;obtain⟨o,ho,hd⟩:=hcell';exact⟨c,e,o,old c o ho,hd⟩
  .obtain ⟨v,o,ho,hd⟩:=I.cell y c (hF.sub y c e);exact⟨v,o,old c o ho,hd⟩
  .show pX H s.heap.objs.size (.lst []) G.objs.size=none;rw[nY (Ne.symm hDC)];exact hnC
  .obtain ⟨v,o,ho,hd⟩:=I.cell y c (hF.sub y c e);rw[nY (aw (ai ho))];exact I.freeC y c (hF.sub y c e)
  .show (none::none::slots σ fr).length=N.length;rw[hF.len,lCq,lCq];unfold slots;rw[lMq]
 have Q7:tn 0 h₁:=T.keep 0 _ _ st λb _ o e=>old b o e
 have nd:N.Nodup:=hF.names;have nf0:∀b∈fp,pX H s.heap.objs.size (.lst []) b=none:=λb hb=>by
  rw[nY (aw (fpl b hb))];exact(fpo b hb).1
 have stat:∀{H':Hp},(∀b∈fp,H' b=none)->∀b∈fp,yN (pI X scope cl N G.objs.size s H fp) [] H' b:=λhn' b hb =>
  ⟨hn' b hb,below b (fpl b hb),ok'.exfs b hb,.inl hb,λy c e=>(ok'.exf b hb).2 y c e,λp hp=>absurd (show p∈([]:List (Addr×Obj)) from hp) (by simp)⟩
 have loop:∀s₃:Shared,s₃={ s with heap:=h₁,toks:=s.toks+([]:List (Str×Value)).length } ->
   jF (iO X.prog X.w) X.A (.compLoop (.ListComp elt [⟨.Tuple [.Name x px,.Name x2 px2] tk tp,iter,ifs,0⟩] scope pos) 0 (.ref it) (.ref s.heap.objs.size) (compEnvC scope cl G.objs.size X.env)) (RR (.ref s.heap.objs.size) G.objs.size) s₃:=by
  rintro s₃ rfl;refine An (λn s'=>∃i v0 v1 H',Inv (pI X scope cl N G.objs.size s H fp) [] (v0::v1::slots σ fr) H' s'/\tn i s'.heap/\(∀b∈fp,H' b=none)/\W i n H') ?_ m0 ⟨0,none,none,_,I0,Q7,nf0,w0⟩
  rintro n s4 ⟨i,v0,v1,H4,I4,Td,nf4,w4⟩;rcases turn i n H4 w4 with ⟨stop,q⟩|⟨go,Nx,hNx,step⟩
  .refine thn (T.done (pI X scope cl N G.objs.size s H fp) rfl rfl rfl hc i [] s4 (v0::v1::slots σ fr) H4 (λ_ _=>False) I4 (stat nf4) Td stop) λr s5 hz1=>?_
   obtain⟨hr,I5⟩:=hz1;subst hr;obtain⟨m,hm,_⟩:=I5.loc;have I6:Inv X nA σ H4 s5:=I.call' (ch:=fp) I5.os I5.base I5.hok I5.bare λb hb=>⟨(fpo b hb).2.2.2.1,(fpo b hb).2.1,(fpo b hb).2.2.2.2.1,(fpo b hb).2.2.2.2.2⟩
   exact fin _ _ s5 H4 m I6 hm (I.fpOk hCle I5.free) q
  .refine thn (T.item (pI X scope cl N G.objs.size s H fp) rfl rfl rfl hc i [] s4 (v0::v1::slots σ fr) H4 (λ_ _=>False) I4 (stat nf4) Td go) λr s5 hz1=>?_
   obtain⟨u,hr,h5⟩:=hz1;subst hr;refine thn h5 λ_ s6 hz1=>?_
   obtain⟨y,H6,I6,r6,y6,st6,nf6⟩:=hz1;have I6':=I6.pinned (stat nf6) (T.obj _ _ st6);have pg:PG (pI X scope cl N G.objs.size s H fp) (.Tuple [.Name x px,.Name x2 px2] tk tp) (g2 X.K):=BD hc (rY (oH nd hF.own (.inl (jm hx)) (.inr (jm hx))) (rY (oH nd hF.own2 (.inl (jm hy)) (.inr (jm hy))) zB));refine thn (pg _ s6 (v0::v1::slots σ fr) H6 y u _ I6' r6 (step y _ y6 v0 v1)) λ_ s7 hz1=>?_
   obtain⟨σ7,H7,I7,⟨a7,b7,e7⟩,q7⟩:=hz1;subst e7;refine thn (hf _ _ _ _ _ s7 _ _ _ I7 q7) λb s8 hz1=>?_
   obtain⟨H8,I8,q8⟩:=hz1;have again:∀{s9:Shared}{H9:Hp},Inv (pI X scope cl N G.objs.size s H fp) ([]++zS fp s6.heap) (a7::b7::slots σ fr) H9 s9->Nx H9->∃m,m<n/\∃i v0 v1 H',Inv (pI X scope cl N G.objs.size s H fp) [] (v0::v1::slots σ fr) H' s9/\tn i s9.heap/\(∀b∈fp,H' b=none)/\W i m H':=λ{s9 H9} I9 n9=>by
    obtain⟨m',hm,w9⟩:=hNx H9 n9;refine⟨m',hm,i+1,a7,b7,H9,I9.unpinned,T.keep _ _ _ st6 λb hb o e=>(I9.pin (b,o) (ar _ (ar _ (tE hb e)))).1,λb hb=>?_,w9⟩
    obtain⟨o,e,d⟩:=T.obj _ _ st6 b hb;exact(I9.pin (b,o) (ar _ (ar _ (tE hb e)))).2.1
   cases b with
   |false=>exact again I8 q8
   |true =>
    refine thn (he _ _ _ _ _ s8 _ _ _ I8 q8) λz s9 hz1=>?_
    obtain⟨zv,H9,I9,r9,ys,a9,l9,n9⟩:=hz1;refine thn (oK (X:=pI X scope cl N G.objs.size s H fp) _ s9 _ H9 (.ref s.heap.objs.size) [zv] (.ref s.heap.objs.size) [z] (λ_ H'=>H'=pX H9 s.heap.objs.size (.lst (ys++[zv]))) I9 rfl (.cons r9 .nil) ⟨_,ys,zv,rfl,rfl,a9,l9,rfl⟩) λ_ s10 hz1=>?_
    obtain⟨_,H10,I10,_,e10⟩:=hz1;subst e10;exact again I10 n9
 exact kW (loop _ rfl) (T.self X.A 0 _ _ _ Q7 (loop _ rfl))
theorem KH{wi:TI}(hc:X.calm=true) (hclos:closureFor scope X.env=pure cl) (hcell:∀y∈scope.names,y.2 ≠ .cell) (hkind:scope.kind = .function) (hnames:∀y∈scope.names,y.2 = .local->scope.names.lookup y.1=some .local)
  (hx:scope.names.lookup x=some .local) (hy:scope.names.lookup x2=some .local) (hF:B5 X scope cl x x2 N fr) (hi:PI X (.Tuple [.Name x px,.Name x2 px2] tk tp) iter wi) (hf:∀C s H fp,PF (pI X scope cl N C s H fp) ifs tf) (he:∀C s H fp,PE (pI X scope cl N C s H fp) elt te)
  (hs:∀x,kf iter X.env x=pure x:=by intro _;rfl):PE X (.ListComp elt [⟨.Tuple [.Name x px,.Name x2 px2] tk tp,iter,ifs,0⟩] scope pos) (Nb X.K wi fr tf te):=by
 intro nA s σ H Q I h;rw[eval_ListComp];refine jW (use:=none) rfl hs hclos hkind hnames (thn (hi nA s σ H _ I h) λv s1 h1=>thn h1 λitv s2 h2=>?_)
 obtain⟨it,fp,tn,J,H2,e,I2,T,Bw,f2,q2⟩:=h2;subst e;refine E4 (RR:=λacc C=>compPost (iO X.prog X.w) X.A X.xe none (EP X nA σ Q) acc C) hc hcell hkind hx hy hF hf he I2 T Bw f2 q2 ?_
 intro acc C s' Hf m I' hm fC q;refine⟨m,hm,λh' sb=>⟨.ref acc,Hf,?_,rfl,q⟩⟩
 exact I'.turned (t':=s'.toks) (λb o hb e=>(sb.2 b hb).trans e) fC.1 fC.2.1 fC.2.2.2.1 fC.2.2.2.2.1 fC.2.2.2.2.2
end
end Mr
namespace Mr
open PySem L2
end Mr
namespace Xe
open PySem PySem.Spec PySem.W PyProof.Rows L2 Mr
end Xe
namespace Mr
open PySem PySem.Spec PyProof.Rows L2
end Mr
namespace Z
open PySem L2 Mr
theorem OP(c:MT) (body:MS) (n:Nat) (S:AS):rV c body (n+1) S=(c S).bind λx=>if x.1=true then (body x.2).bind λo=>match o with
   | .nx S'=>rV c body n S'
   | .ct S'=>rV c body n S'
   | .bk S'=>some (.nx S')
   | .rt a=>some (.rt a)
  else some (.nx x.2):=rfl
end Z
namespace Z
open PySem L2 Mr Xe
inductive Ol where
 |ok (a:AV)|ex (c:Str) (fs:List (Str×Int))
abbrev Fo:=List D->Option Ol
def Qz(K:W.Frag) (Hf H:Hp) (Q:VK) (E:XK):Ol->Prop
 | .ok a=>∀Hf' H' v F,ou Hf Hf'->ou H H'->ou Hf' H'->(∀b,Hf b=none->H b≠none->Hf' b=none)->oJ K Hf' H' a v F->F.Nodup->(∀q∈F,H q=none)->Q v H'
 | .ex c fs=>∀Hf' H' e od,ou Hf Hf'->ou H H'->ou Hf' H'->(∀b,Hf b=none->H b≠none->Hf' b=none)->qB K Hf' (.exc c fs) (.ref e)->E (.ref e) od H'
def Ld(K:W.Frag) (f:Fo):Sp:=λvs H Q E=>∃(Hf:Hp) (ds:List D) (r:Ol),ou Hf H/\pE K Hf ds vs/\f ds=some r/\Qz K Hf H Q E r
def WC:Ol->Option AV
 | .ok a=>some a
 |_=>none
def okX(f:Fo):MF:=λds=>(f ds).bind WC
theorem Tc{K:W.Frag}{f:Fo}{vs:List V}{H:Hp}{Q:VK}{E:XK}(h:qe K (okX f) vs H Q E):Ld K f vs H Q E:=by
 obtain⟨Hf,ds,a,s,r,e,q⟩:=h;obtain⟨z,e1,e2⟩:=oBq.mp e;cases z with
 |ok b=>cases e2;exact⟨Hf,ds,_,s,r,e1,q⟩
 |ex c fs=>cases e2
inductive zj where
 |ok (o:DG)|ex (c:Str) (fs:List (Str×Int))
abbrev MX:=AS->Option zj
def B8(K:W.Frag) (H₀ Hf₀ Hf:Hp) (D:vX) (E:XK):zj->Prop
 | .ok o=>Ai K H₀ Hf₀ Hf D o
 | .ex c fs=>∀Hf' H' e od,ou Hf₀ Hf'->ou H₀ H'->ou Hf' H'->(∀b,Hf₀ b=none->H₀ b≠none->Hf' b=none)->qB K Hf' (.exc c fs) (.ref e)->E (.ref e) od H'
theorem B8.mono{K:W.Frag}{H₀ Hf₀ Hf Hf':Hp}{D:vX}{E:XK}{o:zj}(s:ou Hf Hf') (h:B8 K H₀ Hf₀ Hf D E o):B8 K H₀ Hf₀ Hf' D E o:=by
 cases o with
 |ok o=>exact Ai.mono s h
 |ex c fs=>exact h
def N5(K:W.Frag) (E:XK) (t:TS) (m:MX):Prop:=∀{H₀ Hf₀ Hf:Hp}{S:AS}{σ:St}{H:Hp}{Fs:List (List Addr)}{o:zj},oM K H₀ Hf₀ Hf S σ H Fs->m S=some o->∀D:vX,B8 K H₀ Hf₀ Hf D E o->t D σ H
def Mg(m:MS):MX:=λS=>(m S).map .ok
def CA(a b:MX):MX:=λS=>(a S).bind λo=>match o with
 | .ok (.nx S')=>b S'
 |o=>some o
def Wb(c:MT) (a b:MX):MX:=λS=>(c S).bind λx=>if x.1=true then a x.2 else b x.2
def Wc(c fld:Str) (a:ML):MX:=λS=>(a S).bind λx=>match x.1 with
 | [.int n]=>some (.ex c [(fld,n)])
 |_=>none
section
variable {K:W.Frag}{E:XK}{t u:TS}{m n:MS}{a b:MX}{tt:TT}{c:MT}{ta:TA}
theorem wU(h:SS K t m):N5 K E t (Mg m):=by
 intro H₀ Hf₀ Hf S σ H Fs o R e D q;obtain⟨z,e1,e2⟩:=oMq.mp e;subst e2;exact h R e1 D q
theorem vk(ha:N5 K E t a) (hb:N5 K E u b):N5 K E (Kb t u) (CA a b):=by
 intro H₀ Hf₀ Hf S σ H Fs o R e D q;obtain⟨z,e1,e2⟩:=oBq.mp e;refine ha R e1 { D with nx:=u D } ?_
 cases z with
 |ok z =>
  cases z with
  |nx S'=>exact λHf' σ' H' Fs' s R'=>hb R' e2 D (q.mono s)
  |bk S'=>cases e2;exact q
  |ct S'=>cases e2;exact q
  |rt a=>cases e2;exact q
 |ex c fs=>cases e2;exact q
theorem Th(hc:Cp K tt c) (ha:N5 K E t a) (hb:N5 K E u b):N5 K E (Nl tt t u) (Wb c a b):=by
 intro H₀ Hf₀ Hf S σ H Fs o R e D q;obtain⟨x,e1,e2⟩:=oBq.mp e;refine hc R (b:=x.1) (S':=x.2) e1 _ λHf1 H1 Fs1 t1 R1=>?_
 split at e2
 .rename_i hx;rw[oz hx];exact ha R1 e2 D (q.mono t1.sf)
 .rename_i hx;rw[oB hx];exact hb R1 e2 D (q.mono t1.sf)
end
def GV(np n:Nat) (m:MX):Fo:=λds=>if ds.length=np then (m (ds.map (λd=>some (.sh d))++aO (n-ds.length) none)).bind λo=>match o with
  | .ok (.rt a)=>some (.ok a)
  | .ok (.nx _)=>some (.ok (.sh .non))
  | .ex c fs=>some (.ex c fs)
  |_=>none
 else none
theorem CV{K:W.Frag}{t:TS}{m:MX}{np:Nat}(N:List Str) {E:XK}(h:N5 K E t m) {vs:List V}{H:Hp}{Q:VK}(hs:Ld K (GV np N.length m) vs H Q E):t { nx:=λ_ H'=>Q .non H',rt:=Q } (L2.sZ N vs) H:=by
 obtain⟨Hf,ds,r,s,rr,e,q⟩:=hs;unfold GV at e;split at e
 .obtain ⟨o,e1,e2⟩:=oBq.mp e;refine h (DB N s rr) e1 _ ?_;cases o with
  |ok o =>
   cases o with
   |rt a'=>cases e2;exact λHf' H' v F s1 s2 s3 l r nd fr=>q Hf' H' v F s1 s2 s3 l r nd fr
   |nx S'=>cases e2;exact λHf' σ' H' Fs' s1 R=>q Hf' H' .non [] R.sf R.fr R.sub R.lim (.sh .non) aW λq h=>(by cases h)
   |bk S'=>cases e2
   |ct S'=>cases e2
  |ex c fs=>cases e2;exact q
 .cases e
theorem HQ{K:W.Frag}{m:MX}{np n:Nat}{vs:List V}{H:Hp}{Q:VK}{E:XK}(hs:Ld K (GV np n m) vs H Q E):vs.length=np:=by
 obtain⟨Hf,ds,a,s,r,e,q⟩:=hs;unfold GV at e;split at e
 .rename_i h;rw[←r.1,h]
 .cases e
abbrev MH:=Str->List (Str×Int)->MS
def Ks(c c':Str):Bool:=decide (c'=c∨c' = "MapError")
def Xs(i:Nat):DG->DG
 | .nx S=>.nx (S.set i none)
 | .bk S=>.bk (S.set i none)
 | .ct S=>.ct (S.set i none)
 | .rt a=>.rt a
def Yc(c':Str) (i:Nat) (mb:MS) (rest:MH):MH:=λc fs S=>if Ks c c'=true then (mb (S.set i (some (.sh (.exc c fs))))).map (Xs i) else rest c fs S
def Yd(c':Str) (mb:MS) (rest:MH):MH:=λc fs S=>if Ks c c'=true then mb S else rest c fs S
def W4(f:Fo) (a:MA) (hm:MH):MS:=λS=>(a S).bind λx=>(f (x.1.map nU)).bind λr=>match r with
 | .ok _=>some (.nx x.2)
 | .ex c fs=>hm c fs x.2
def WL(i:Nat) (f:Fo) (a:MA) (hm:MH):MS:=λS=>(a S).bind λx=>(f (x.1.map nU)).bind λr=>match r with
 | .ok r=>some (.nx (x.2.set i (some r)))
 | .ex c fs=>hm c fs x.2
section
variable {K:W.Frag}{ta:TA}{a:MA}{f:Fo}{th:XH}{hm:MH}{i:Nat}
theorem De{H₀ Hf₀ Hf1 H1 Hf' H':Hp}{S:AS}{σ:St}{Fs1:List (List Addr)}(R2:oM K H₀ Hf₀ Hf1 S σ H1 Fs1) (s1:ou Hf1 Hf') (s2:ou H1 H') (s3:ou Hf' H') (l:∀b,Hf1 b=none->H1 b≠none->Hf' b=none):oM K H₀ Hf₀ Hf' S σ H' Fs1 :=
 R2.more s2 s1 s3 (λq hq=>l q (R2.mem hq).2 (R2.mem hq).1) λb h1 h2=>l b (R2.lim b h1 h2) (Ed R2.fr h2)
end
def WR(f:Str):D->Option D
 | .exc _ fs=>(fs.lookup f).map .int
 |_=>none
section
variable {K:W.Frag}{te:TE}{m:ME}{f:Str}
def XS(c:Str):ME:=λS=>some (.cls c,S)
def M7(c:Str):D->Option Bool
 | .cls c'=>some (Ks c c')
 | .ty T=>if T = "ValueError" then some true else none
 |_=>none
def Fp(c:Str):List D->Option Bool
 | []=>some false
 |d::ds=>(M7 c d).bind λb=>(Fp c ds).map λb2=>b || b2
def XD:List D->Option D
 | [.exc c _,.tup ds]=>(Fp c ds).map .bl
 | [.exc c _,d]=>(M7 c d).map .bl
 |_=>none
end
def kD:oy->D
 | .inl i=>.int i
 | .inr x=>.str x
def Ha(x y:Nat) (body:MS):List (oy×D)->AS->Option DG
 | [],S=>some (.nx S)
 |p::ps,S=>(body ((S.set x (some (.sh (kD p.1)))).set y (some (.sh p.2)))).bind λo=>match o with
  | .nx S'=>Ha x y body ps S'
  | .ct S'=>Ha x y body ps S'
  | .bk S'=>some (.nx S')
  | .rt a=>some (.rt a)
def Xc(x y:Nat) (k:MK) (body:MS):MS:=λS=>(k S).bind λz=>(MJ z.1).bind λkvs=>Ha x y body kvs z.2
section
variable {K:W.Frag}{te tf:TE}{k:MK}{tb:TS}{body:MS}{x y:Nat}
def VY(a:ME):MK:=λS=>(a S).bind λx=>(zV x.1).map λkvs=>(.ow (kvs.map λp=>.sh (kD p.1)),x.2)
end
structure Wx (K:W.Frag) (mg:Str->Option Value) (cn:Str) (C:Addr) (bm:List Value):Prop where
 c:Wn K cn C
 xc:AI K cn C bm=true
 base:bm.contains (.type "BaseException")=true
 mgc:mg cn=some (.ref C)
theorem RM(M:Addr):(bc M::DN).contains (.type "BaseException")=true:=by rw[fD,show DN.contains (cJ "BaseException")=true by decide,gL]
section
variable {K:W.Frag}{h:Heap}{mg:Str->Option Value}{c:Str}{C M:Addr}
theorem Tf(a:W.nsIn K iS c=some (some (.ref C))) (aM:W.nsIn K iS "MapError" = some (some (.ref M))) (x:AI K c C (.ref M::DN)=true) (xM:AI K "MapError" M DN=true) (l:Wt K C=true):Kp K c C M:=⟨a,aM,x,xM,l⟩
theorem OR(X:K.In h) (G:h.Ns iS mg) (aM:W.nsIn K iS "MapError" = some (some (.ref M))) (xM:AI K "MapError" M DN=true):Wx K mg "MapError" M DN:=⟨⟨aM,.inr ⟨rfl,xM⟩⟩,xM,by decide,W.mg_of X G aM⟩
end
theorem NM{X:Cx}{k:Nat}{f:Addr}{fd:ja}{ps:List Str}{x:Str}{p pos:Pos}{e:Expr}{es:List Expr}{t:TA}{st:Stmt}{g:Fo}(G:Tq X.prog X.w X.K X.mg X.base k x st ps (Ld X.K g) f fd) (hr:uu k X.A) (ha:PA X (e::es) t) (hg:Gl X x:=by rfl) (hdb:(x == ("__debug__" : Str))=false:=by decide)
  (he:iW (e::es) X.env=(false,eval e X.env)::iW es X.env:=by rfl) (hpl:(jS pos (iW es X.env)).any (·.1)=false:=by rfl) :
  PE X (.Call (.Name x p) (e::es) [] pos) (Ao (qe X.K (okX g)) [] E0 t):=Ec (G.ok.imp λ_ _ _ _ h=>Tc h) hr hg G.D.m G.D.F.kp G.D.b .nil QJ ha hdb he hpl
def X3(c:Str):MK:=λS=>some (.sh (.cls c),S)
def Mk:Option zj->MX->Option zj
 |none,_=>none
 |some (.ok (.nx S)),b=>b S
 |some o,_=>some o
def Vh(c fld:Str):List D->Option zj
 | [.int n]=>some (.ex c [(fld,n)])
 |_=>none
def HK:zj->Option Ol
 | .ok (.rt a)=>some (.ok a)
 | .ok (.nx _)=>some (.ok (.sh .non))
 | .ex c fs=>some (.ex c fs)
 |_=>none
def XF(hm:MH) (S:AS):Ol->Option DG
 | .ok _=>some (.nx S)
 | .ex c fs=>hm c fs S
def X2(i:Nat) (hm:MH) (S:AS):Ol->Option DG
 | .ok r=>some (.nx (S.set i (some r)))
 | .ex c fs=>hm c fs S
variable (S:AS)
theorem WA(m:MS):Mg m S=(m S).map .ok:=rfl
theorem Lb(b:MX):Mk (some (.ok (.nx S))) b=b S:=rfl
theorem Mm(a:AV) (b:MX):Mk (some (.ok (.rt a))) b=some (.ok (.rt a)):=rfl
theorem UF(a b:MX):CA a b S=Mk (a S) b:=by
 show (a S).bind _=_;cases a S with
 |none=>rfl
 |some o =>
  cases o with
  |ok o=>cases o <;> rfl
  |ex c fs=>rfl
theorem Wa(c:MT) (a b:MX):Wb c a b S=(c S).bind λx=>if x.1=true then a x.2 else b x.2:=rfl
theorem L9(a:AV):HK (.ok (.rt a))=some (.ok a):=rfl
theorem LB:HK (.ok (.nx S))=some (.ok (.sh .non)):=rfl
theorem KF(c:Str) (fs:List (Str×Int)):HK (.ex c fs)=some (.ex c fs):=rfl
theorem Uq(np n:Nat) (m:MX) (ds:List D):GV np n m ds=if ds.length=np then (m (ds.map (λd=>some (.sh d))++aO (n-ds.length) none)).bind HK else none:=by
 show (if ds.length=np then (m _).bind _ else none)=_
 first|rfl|(congr 2;funext o;cases o with
 |ok o=>cases o <;> rfl
 |ex c fs=>rfl)
theorem UE(f:Fo) (ds:List D):okX f ds=(f ds).bind WC:=rfl
def XQ:=aa @WA (aa @Lb (aa @Mm (aa @UF (aa @Wa (aa @L9 (aa @LB (aa @KF (aa @Uq @UE))))))))
def NR(x:Nat) (body:MX):List D->AS->Option zj
 | [],S=>some (.ok (.nx S))
 |d::ds,S=>(body (S.set x (some (.sh d)))).bind λo=>match o with
  | .ok (.nx S')=>NR x body ds S'
  | .ok (.ct S')=>NR x body ds S'
  | .ok (.bk S')=>some (.ok (.nx S'))
  | .ok (.rt a)=>some (.ok (.rt a))
  | .ex c fs=>some (.ex c fs)
def XM(x:Nat) (k:MK) (body:MX):MX:=λS=>(rN k S).bind λy=>(qm (nU y.1)).bind λds=>NR x body ds y.2
def C5(f:AV->Option zj):Ol->Option zj
 | .ok r=>f r
 | .ex c fs=>some (.ex c fs)
def LS(f:Fo) (a:MA):MX:=λS=>(a S).bind λx=>(f (x.1.map nU)).bind (C5 λ_=>some (.ok (.nx x.2)))
def XX(i:Nat) (f:Fo) (a:MA):MX:=λS=>(a S).bind λx=>(f (x.1.map nU)).bind (C5 λr=>some (.ok (.nx (x.2.set i (some r)))))
def Ek(c:Str):MX:=λ_=>some (.ex c [])
section
variable {K:W.Frag}{E:XK}{te:TE}{tb:TS}{k:MK}{body:MX}{x:Nat}{ta:TA}{a:MA}{f:Fo}
theorem Pw{H₀ Hf₀ Hf:Hp}{S':AS}{σ:St}{o:zj}{D:vX}{Hf1 H1:Hp}{Fs1:List (List Addr)}{r:Ol}{g:AV->Option zj}{Q:VK}(R2:oM K H₀ Hf₀ Hf1 S' σ H1 Fs1) (e:C5 g r=some o) (s0:ou Hf Hf1)
  (q:B8 K H₀ Hf₀ Hf D E o) (hg:∀av,g av=some o->∀Hf' H' v F,ou Hf1 Hf'->oM K H₀ Hf₀ Hf' S' σ H' Fs1->oJ K Hf' H' av v F->F.Nodup->(∀p∈F,H1 p=none)->Q v H'):Qz K Hf1 H1 Q E r:=by
 cases r with
 |ok av=>exact λHf' H' v F s1 s2 s3 l ra nd fr=>hg av e Hf' H' v F s1 (De R2 s1 s2 s3 l) ra nd fr
 |ex c fs =>
  cases e;intro Hf' H' ex od s1 s2 s3 l rx;have R3:=De R2 s1 s2 s3 l;exact q Hf' H' ex od R3.sf R3.fr R3.sub R3.lim rx
theorem Lw(ha:SA K ta a):N5 K E (zm (Ao (Ld K f) [] E ta)) (LS f a):=by
 intro H₀ Hf₀ Hf S σ H Fs o R e D q;obtain⟨x,e1,e⟩:=oBq.mp e;obtain⟨r,e2,e⟩:=oBq.mp e;refine ha R (as:=x.1) (S':=x.2) e1 _ λHf1 H1 Fs1 vs Gs t1 R1 r1 o1=>?_
 obtain⟨R2,r2,t2⟩:=R1.gives t1 r1 o1;rw[aNq];exact⟨_,_,r,R2.sub,r2,e2,Pw R2 e t2.sf q λav z Hf' H' v F s1 R' ra nd fr=>by cases z;exact q _ _ _ _ (t2.sf.trans s1) R'⟩
theorem Ht{cn:Str}{C M:Addr}(rf:Kp K cn C M):N5 K E (WK E C (UI K cn)) (Ek cn):=by
 intro H₀ Hf₀ Hf S σ H Fs o R e D q;cases e;refine⟨C,M,rf,λex n1=>⟨ex,none,rfl,oh,?_⟩⟩
 rw[OL];have nf1:Hf ex=none:=R.sub.free n1;refine q (pX Hf ex (Km ex C none)) _ ex none (R.sf.trans (sQ nf1)) (R.fr.trans (sQ n1)) (λb o' z=>?_) (λb z1 z2=>?_) (.exc0 rf oh)
 .by_cases hb:b=ex
  .subst hb;rw[oh]at z ⊢;exact z
  .rw [nY hb]at z ⊢;exact R.sub b o' z
 .have h1:b≠ex:=λz=>z2 (by rw[z];exact R.fr.free n1)
  rw[nY h1];exact R.lim b z1 z2
def VH(c fld:Str) (S:AS):List D->Option (D×AS)
 | [.int n]=>some (.exc c [(fld,n)],S)
 |_=>none
def Yg(c fld:Str) (a:ML):ME:=λS=>(a S).bind λx=>VH c fld x.2 x.1
def Wu(c f1 f2:Str) (S:AS):List D->Option (D×AS)
 | [.int n,.int m]=>some (.exc c [(f1,n),(f2,m)],S)
 |_=>none
def X1(c f1 f2:Str) (a:ML):ME:=λS=>(a S).bind λx=>Wu c f1 f2 x.2 x.1
def Xz:D->D->Option D
 | .tup [.str u,.int i],.tup [.str v,.int j]=>some (.bl (decide (u=v/\i=j)))
 |_,_=>none
def XZ:D->D->Option D
 | .tup [.str u,.int i],.tup [.str v,.int j]=>some (.bl (!decide (u=v/\i=j)))
 |_,_=>none
end
theorem QV{X:Cx}{E:XK}{k:Nat}{f:Addr}{fd:ja}{ps:List Str}{x:Str}{p pos:Pos}{e:Expr}{es:List Expr}{t:TA}{st:Stmt}{g:Fo}(G:Tq X.prog X.w X.K X.mg X.base k x st ps (Ld X.K g) f fd) (hr:uu k X.A) (hx:zL (Qi X.prog X.w) X E) (ha:PA X (e::es) t) (hg:Gl X x:=by rfl) (hdb:(x == ("__debug__" : Str))=false:=by decide)
  (he:iW (e::es) X.env=(false,eval e X.env)::iW es X.env:=by rfl) (hpl:(jS pos (iW es X.env)).any (·.1)=false:=by rfl) :
  PE X (.Call (.Name x p) (e::es) [] pos) (Ao (Ld X.K g) [] E t):=Ec G.ok hr hg G.D.m G.D.F.kp G.D.b .nil hx ha hdb he hpl
structure Qk (K:W.Frag) (mg:Str->Option Value) (cn:Str) (C M:Addr):Prop where
 c:Wn K cn C
 xc:AI K cn C (.ref M::DN)=true
 base:(bc M::DN).contains (.type "BaseException")=true
 mgc:mg cn=some (.ref C)
 i:T1 K mg cn C M
theorem Pq{K:W.Frag}{h:Heap}{mg:Str->Option Value}{c:Str}{C M:Addr}(X:K.In h) (G:h.Ns iS mg) (r:Kp K c C M) (ini:W.findIn K (.ref C) "__init__" = some (some (.builtin "ValueError.__init__"))) (kp:W.keepIn K (.ref C)=true):Qk K mg c C M :=
 ⟨⟨r.nm,.inl ⟨M,r⟩⟩,r.xc,RM M,W.mg_of X G r.nm,⟨r,ini,kp,W.mg_of X G r.nm⟩⟩
theorem My(g:AV->Option zj) (r:AV):C5 g (.ok r)=g r:=rfl
theorem QS(S:AS) (f:Fo) (a:MA):LS f a S=(a S).bind λx=>(f (x.1.map nU)).bind (C5 λ_=>some (.ok (.nx x.2))):=rfl
theorem Kr(S:AS) (c:Str):Ek c S=some (.ex c []):=rfl
def XA:=aa @My (aa @QS @Kr)
abbrev M4:=GU Mi λi j=>.int (i / j)
def SM(K:W.Frag) (te:TE) (m:ME):Prop:=∀{H₀ Hf₀ Hf:Hp}{S:AS}{σ:St}{H:Hp}{Fs:List (List Addr)}{d:D}{S':AS},oM K H₀ Hf₀ Hf S σ H Fs->m S=some (d,S')->∀Q:VK,
 (∀Hf' H' Fs' v,ou Hf Hf'->oM K H₀ Hf₀ Hf' S' σ H' Fs'->qB K Hf' d v->Q v H')->te σ H Q
def P8:AV->Option D
 | .sh d=>some d
 |_=>none
theorem KL{a:AV}{d:D}(h:P8 a=some d):a = .sh d:=by
 unfold P8 at h;split at h <;> cases h
 rfl
def zb(i:Nat) (b:ME):ME:=λS=>(qf S i).bind λ_=>(b S).bind λy=>(intOf y.1).bind λz=>(qf y.2 i).bind λavs=>uI (0<=z/\z<avs.length/\avs.length<=qF) ((avs[z.toNat]?.bind P8).map λd=>(d,y.2.set i (some (.ow (avs.eraseIdx z.toNat)))))
def yv(i:Nat):ME:=λS=>(qf S i).bind λavs=>(avs[avs.length-1]?.bind P8).map λd=>(d,S.set i (some (.ow avs.dropLast)))
def Tz(kvs:List (oy×D)) (k:oy):List (oy×D):=kvs.filter λkv=>decide (kv.1≠k)
def WW(i:Nat) (b:ME):ME:=λS=>(xo S i).bind λ_=>(b S).bind λy=>(uk y.1).bind λkey=>(xo y.2 i).bind λkvs=>(getD kvs key).map λd=>(d,y.2.set i (some (.owd (Tz kvs key))))
section
variable {K:W.Frag}
theorem PV:CC K (rI Mi λi j=>.int (i / j)) M4:=EO λ_ _ _=>.int
theorem pB.erase{Hf H:Hp}{as:List AV}{vs:List V}{Gs:List (List Addr)}(r:pB K Hf H as vs Gs) (k:Nat):pB K Hf H (as.eraseIdx k) (vs.eraseIdx k) (Gs.eraseIdx k):=by
 obtain⟨h1,h2,h3⟩:=r;refine⟨by rw[cO,cO,h1],by rw[cO,cO,h2],λi b w G e1 e2 e3=>?_⟩
 rw[List.getElem?_eraseIdx]at e1 e2 e3;split at e1
 .rename_i q;rw[oz q]at e2 e3;exact h3 i b w G e1 e2 e3
 .rename_i q;rw[oB q]at e2 e3;exact h3 (i+1) b w G e1 e2 e3
theorem HB{Gs:List (List Addr)}{k:Nat}(h:Gs[k]?=some []):(Gs.eraseIdx k).flatten=Gs.flatten:=by
 induction Gs generalizing k with
 |nil=>cases h
 |cons g r ih =>
  cases k with
  |zero =>
   simp at h;subst h;rfl
  |succ k =>
   rw[bX,fCq,fCq,ih (by simpa using h)]
theorem oM.lose{H₀ Hf₀ Hf H:Hp}{S:AS}{σ:St}{Fs:List (List Addr)}(R:oM K H₀ Hf₀ Hf S σ H Fs) {i k:Nat}{avs:List AV}{d:D}(h:S[i]?=some (some (.ow avs))) (hk:avs[k]?=some (.sh d)) :
  ∃p vs y F',σ[i]?=some (some (.ref p))/\H p=some (.lst vs)/\avs.length=vs.length/\vs[k]?=some y/\qB K Hf d y/\oM K H₀ Hf₀ Hf (S.set i (some (.ow (avs.eraseIdx k)))) σ (pX H p (.lst (vs.eraseIdx k))) (Fs.set i F'):=by
 obtain⟨p,vs,Gs,s1,s2,h1,h2,h3,h4,h5,h6⟩:=R.ow h;have lk:k<avs.length:=(gSq.mp hk).1;obtain⟨y,hy⟩:∃y,vs[k]?=some y:=⟨_,gEg (by rw[←h3.1];exact lk)⟩
 obtain⟨G,hG⟩:∃G,Gs[k]?=some G:=⟨_,gEg (by rw[←h3.2.1];exact lk)⟩
 obtain⟨hG0,ry⟩:=(h3.2.2 k _ _ _ hk hy hG).sh_inv;subst hG0;have hf:=HB hG;refine⟨p,vs,y,p::(Gs.eraseIdx k).flatten,s1,h1,h3.1,hy,ry,R.turn s1 s2 (by simp) (oJ.news oh h2 ((h3.keepUpd h4).erase k)) ?_ ?_⟩
 .rw [hf];exact ax.mpr ⟨h4,h5⟩
 .rw [hf];exact h6
theorem Fy{i:Nat}{tb:TE}{b:ME}(hb:SR K tb b):SM K (N1 K "list" Mh (xP i) (sY tb xr)) (zb i b):=by
 intro H₀ Hf₀ Hf S σ H Fs d S' R e Q q;obtain⟨a0,e0,e⟩:=oBq.mp e;obtain⟨y,e1,e⟩:=oBq.mp e;obtain⟨z,e2,e⟩:=oBq.mp e;obtain⟨avs,e3,e⟩:=oBq.mp e;rcases oC e with ⟨⟨z0,z1,z2⟩,e⟩|e
 .obtain ⟨d',e4,e⟩:=oMq.mp e;cases e;obtain⟨a,e4,e5⟩:=oBq.mp e4;have e5:=KL e5;subst e5;obtain⟨p,vs,Gs,s1,_,h1,_⟩:=R.ow (oW e0);refine⟨.ref p,s1,.inl ⟨rfl,vs,qS.of h1⟩,hb R (d:=y.1) (S':=y.2) e1 _ λHf1 H1 Fs1 v t1 R1 r1=>?_⟩
  obtain⟨p',vs',w,F',s1',hp,hl,hw,rw',R2⟩:=R1.lose (oW e3) e4;rw[s1]at s1';cases s1';have hv:v = .int z:=by
   have:y.1 = .int z:=by
    revert e2
    unfold intOf;split <;> intro e2 <;> cases e2
    assumption
   rw[this]at r1;cases r1;rfl
  subst hv;have hz:(avs.length:Int)<=16777216:=by
   have:avs.length<=16777216:=z2;lia
  refine⟨p,vs',z,z.toNat,w,rfl,rfl,hp,by lia,by lia,?_,hw,q _ _ _ _ t1.sf R2 rw'⟩
  rw[←hl];unfold mD;have n1:¬ z<0:=by lia
  have n2:(decide (0<=z) && decide (z<(avs.length:Int)))=true:=by
   rw[decide_eq_true z0,decide_eq_true z1];rfl
  simp only[n1,if_false];exact oz n2
 .cases e
theorem RU{i:Nat}:SM K (N1 K "list" S9 (xP i) xr) (yv i):=by
 intro H₀ Hf₀ Hf S σ H Fs d S' R e Q q;obtain⟨avs,e0,e⟩:=oBq.mp e;obtain⟨d',e4,e⟩:=oMq.mp e;cases e;obtain⟨a,e4,e5⟩:=oBq.mp e4;have e5:=KL e5;subst e5;obtain⟨p,vs,w,F',s1,hp,hl,hw,rw',R2⟩:=R.lose (oW e0) e4;refine⟨.ref p,s1,.inl ⟨rfl,vs,qS.of hp⟩,p,vs,w,rfl,rfl,hp,by rw[←hl];exact hw,?_⟩
 rw[yQ,hl,yQ]at R2;exact q _ _ _ _ (.refl _) R2 rw'
def C6(i:Nat) (m:ME):MS:=λS=>(m S).map λx=>.nx (x.2.set i (some (.sh x.1)))
theorem Ov{i:Nat}{te:TE}{m:ME}(h:SM K te m):SS K (E6 te (rG i)) (C6 i m):=by
 intro H₀ Hf₀ Hf S σ H Fs o R e D hd;obtain⟨x,e1,e⟩:=oMq.mp e;cases e;refine h R (d:=x.1) (S':=x.2) e1 _ λHf1 H1 Fs1 v t1 R1 r1=>?_
 exact hd _ _ _ _ t1 (R1.setD i r1)
def Kt(i:Nat) (m:ME):MS:=λS=>(qf S i).bind λ_=>(m S).bind λx=>(qf x.2 i).bind λavs=>uI (avs.length<qF) (some (.nx (x.2.set i (some (.ow (avs++[.sh x.1]))))))
theorem OT{i:Nat}{te:TE}{m:ME}(hk:SM K te m):SS K (zm (N1 K "list" yn (xP i) (sY te xr))) (Kt i m):=by
 intro H₀ Hf₀ Hf S σ H Fs o R e D h;obtain⟨a0,e0,e⟩:=oBq.mp e;obtain⟨x,e1,e⟩:=oBq.mp e;obtain⟨avs,e2,e⟩:=oBq.mp e;rcases oC e with ⟨hl,e⟩|e
 .cases e;obtain⟨p,vs,Gs,s1,_,h1,_⟩:=R.ow (oW e0);refine⟨.ref p,s1,.inl ⟨rfl,vs,qS.of h1⟩,hk R (d:=x.1) (S':=x.2) e1 _ λHf1 H1 Fs1 v t1 R1 r1=>?_⟩
  obtain⟨p',vs',Gs',s1',s2',h1',h2',h3',h4',h5',h6'⟩:=R1.ow (oW e2);rw[s1]at s1';cases s1';refine⟨p,vs',v,rfl,rfl,h1',by rw[sU,←h3'.1];exact hl,h _ _ _ _ t1 (R1.turn s1 s2' (by simp) (F':=p::(Gs'++[[]]).flatten) (oJ.news oh h2' ((h3'.keepUpd h4').snoc (.sh r1))) ?_ λq hq=>?_)⟩
  .rw [fAq,bg,aNq];exact ax.mpr ⟨h4',h5'⟩
  .rw [fAq,bg,aNq]at hq;exact h6' q hq
 .cases e
def Wr(i:Nat) (b:ME) (m:ME):MS:=λS=>(m S).bind λx=>(xo x.2 i).bind λ_=>(b x.2).bind λy=>(xo y.2 i).bind λkvs=>(uk y.1).bind λkey =>
 uI (kvs.length<qF) (some (.nx (y.2.set i (some (.owd (xf kvs key x.1))))))
end
theorem R6(d:D):P8 (.sh d)=some d:=rfl
theorem MC(S:AS) (i:Nat) (b:ME):zb i b S=(qf S i).bind λ_=>(b S).bind λy=>(intOf y.1).bind λz=>(qf y.2 i).bind λavs=>uI (0<=z/\z<avs.length/\avs.length<=qF) ((avs[z.toNat]?.bind P8).map λd=>(d,y.2.set i (some (.ow (avs.eraseIdx z.toNat))))):=rfl
theorem Tn(S:AS) (i:Nat):yv i S=(qf S i).bind λavs=>(avs[avs.length-1]?.bind P8).map λd=>(d,S.set i (some (.ow avs.dropLast))):=rfl
theorem RA(S:AS) (i:Nat) (m:ME):C6 i m S=(m S).map λx=>.nx (x.2.set i (some (.sh x.1))):=rfl
theorem Tp(S:AS) (i:Nat) (m:ME):Kt i m S=(qf S i).bind λ_=>(m S).bind λx=>(qf x.2 i).bind λavs=>uI (avs.length<qF) (some (.nx (x.2.set i (some (.ow (avs++[.sh x.1])))))):=rfl
def XJ:=aa @R6 (aa @MC (aa @Tn (aa @RA @Tp)))
def NZ(x y:D):Option D:=match x with
 | .tup _=>Hj x y
 |_=>Cc x y
def XN(i:Nat) (b:ME) (k:MK):MS:=λS=>(qf S i).bind λ_=>(b S).bind λy=>(intOf y.1).bind λz=>(rN k y.2).bind λx=>(qf x.2 i).bind λavs=>uI (0<=z/\z<=avs.length/\avs.length<qF) (some (.nx (x.2.set i (some (.ow (avs.take z.toNat++x.1::avs.drop z.toNat))))))
section
variable {K:W.Frag}
theorem Lg:CC K (λx y H Q=>KU K x y H Q∨QL K x y H Q) NZ:=by
 intro x y H Q dx dy d rx ry e q;unfold NZ at e;split at e
 .exact .inr (HC rx ry e q)
 .exact .inl (uc rx ry e q)
end
theorem NS(ds:List D) (i:Int):NZ (.tup ds) (.int i)=atI ds i:=rfl
def Xk:=@NS
def QG:D->String->Option D
 | .int _,T=>if T = "list" ∨ T = "tuple" ∨ T = "str" then some (.bl false) else none
 | .str _,T=>if T = "list" ∨ T = "tuple" then some (.bl false) else none
 | .non,T=>if T = "list" ∨ T = "tuple" then some (.bl false) else none
 | .list _,T=>if T = "tuple" then some (.bl false) else none
 | .tup _,T=>if T = "list" then some (.bl false) else none
 |_,_=>none
def Fk:List D->Option D
 | [x,.ty T]=>QG x T
 |_=>none
def xY(ds:List D):Option D:=match Fe ds with
 |some d=>some d
 |none=>Fk ds
section
variable {K:W.Frag}
theorem Rc:Ql K (λxs H Q=>∃x T,xs=[x,.ty T]/\Rl K x H T/\Q (.bl false) H) Fk:=by
 intro vs H Q ds d r e q;unfold Fk at e;split at e
 rotate_left
 .cases e
 rename_i x T;obtain⟨v,ws,rfl,h1,h2⟩:=r.cons_inv;obtain⟨u,zs,rfl,h3,h4⟩:=h2.cons_inv;rw[h4.nil_inv];cases h3;unfold QG at e;cases x <;> first|(cases e;done)|dsimp only at e
 all_goals
  split at e
  rotate_left
  .cases e
  rename_i hT;cases e
 .cases h1;exact⟨_,_,rfl,hT,q _ .bl⟩
 .cases h1;exact⟨_,_,rfl,hT,q _ .bl⟩
 .cases h1;exact⟨_,_,rfl,hT,q _ .bl⟩
 .obtain ⟨p,xs,rfl,h,_⟩:=h1.list_inv;exact⟨_,_,rfl,.inl ⟨hT,xs,qS.of h⟩,q _ .bl⟩
 .obtain ⟨p,xs,rfl,h,_⟩:=h1.tup_inv;exact⟨_,_,rfl,.inr ⟨hT,xs,BR.of h⟩,q _ .bl⟩
theorem BB:Ql K (λxs H Q=>(∃x T b,xs=[x,.ty T]/\SC K x H T b/\Q (.bl b) H)∨∃x T,xs=[x,.ty T]/\Rl K x H T/\Q (.bl false) H) xY:=by
 intro vs H Q ds d r e q;unfold xY at e;split at e
 .rename_i e';cases e;exact .inl (Sa r e' q)
 .exact .inr (Rc r e q)
end
theorem Tg(ds:List D):xY [.list ds,.ty "list"]=some (.bl true):=by simp[xY,Fe,Fk,Sv,QG]
theorem Su(ds:List D):xY [.tup ds,.ty "tuple"]=some (.bl true):=by simp[xY,Fe,Fk,Sv,QG]
theorem Rg(x:Str):xY [.str x,.ty "str"]=some (.bl true):=by simp[xY,Fe,Fk,Sv,QG]
theorem QP(i:Int):xY [.int i,.ty "int"]=some (.bl true):=by simp[xY,Fe,Fk,Sv,QG]
theorem QH(i:Int):xY [.int i,.ty "bool"]=some (.bl false):=by simp[xY,Fe,Fk,Sv,QG]
def XO:=aa @Tg (aa @Su (aa @Rg (aa @QP @QH)))
section
variable {K:W.Frag}{H₀ Hf₀ Hf H:Hp}{S:AS}{σ:St}{Fs:List (List Addr)}{te tb:TE}{k:MK}{b:ME}
theorem oM.poke(R:oM K H₀ Hf₀ Hf S σ H Fs) {p:Addr}{o:HO}(pn:Hf p=none) (p0:H₀ p=none) (pf:p∉Fs.flatten):oM K H₀ Hf₀ Hf S σ (pX H p o) Fs:=by
 refine⟨R.len,R.lenF,λj a ej=>?_,R.emp,R.nd,R.fresh,λb u e=>?_,λb u e=>?_,R.lim,R.sf⟩
 .obtain ⟨w,G,f1,f2,q⟩:=R.rep j a ej;refine⟨w,G,f1,f2,q.keep (.refl _) (λc hc=>nY λe=>pf ?_) λc hc=>(q.owned c hc).2⟩
  subst e;exact oN f2 hc
 .rw [nY λz=>by rw[z,pn]at e;cases e]
  exact R.sub b u e
 .rw [nY λz=>by rw[z,p0]at e;cases e]
  exact R.fr b u e
theorem xp.stays{Hf' H':Hp}{Fs':List (List Addr)}(t:xp Hf H Fs Hf' H' Fs') {p:Addr}(pn:Hf p=none) (ph:H p≠none) (pf:p∉Fs.flatten):Hf' p=none/\p∉Fs'.flatten:=by
 refine⟨?_,λm=>pf (t.own p m)⟩
 by_cases h:Hf' p=none
 .exact h
 .exact ((t.gr p pn h).elim (λe=>absurd e ph) λm=>absurd m pf)
def BE(b:ME) (k:MK):MK:=λS=>(b S).bind λy=>(rN k y.2).bind λx=>(uk y.1).map λkey=>(.owd [(key,nU x.1)],x.2)
theorem Ci(hb:SR K tb b) (hk:SK K te k):SK K (Qp [(tb,te)]) (BE b k):=by
 intro H₀ Hf₀ Hf S σ H Fs av S' R e Q q;obtain⟨y,e1,e⟩:=oBq.mp e;obtain⟨x,e2,e⟩:=oBq.mp e;obtain⟨key,e3,e⟩:=oMq.mp e;cases e;have hk':SK K te (rN k):=SK.frz hk;intro p hp;obtain⟨t0,R0,n1,n2,n3⟩:=R.new (o:=.dK []) hp;have own0:=vN.one R hp;refine hb R0 (d:=y.1) (S':=y.2) e1 _ λHf1 H1 Fs1 w t1 R1 r1=>?_
 have p0:pX H p (HO.dK []) p=some (.dK []):=oh;have p1:H1 p=some (.dK []):=t1.sh p _ p0;obtain⟨a1,a2⟩:=t1.stays n1 (by rw[p0];simp) n3
 refine hk' R1 (a:=x.1) (S':=x.2) e2 _ λHf2 H2 Fs2 v F t2 R2 r2 o2=>?_
 have p2:H2 p=some (.dK []):=t2.sh p _ p1;obtain⟨b1,b2⟩:=t2.stays a1 (by rw[p1];simp) a2
 obtain⟨x1,hx1⟩:∃d,x.1 = .sh d:=by
  obtain⟨w,_,e⟩:=oMq.mp e2;rw[←e];exact⟨_,rfl⟩
 rw[hx1]at r2;have rv:=r2.sh_inv.2;have hw:=vQ e3 r1;subst hw;refine⟨p2,[(key,v)],rfl,by simp,?_⟩
 have t12:=(t0.trans t1).trans t2;have hs:ou H (pX H2 p (HO.dK (Ag [] [(key,v)]))):=λc u e=>by
  rw[nY λz=>by rw[z,hp]at e;cases e]
  exact t12.sh c u e
 refine q Hf2 _ Fs2 (.ref p) [p] ⟨t12.sf,hs,t12.own,t12.gr⟩ (R2.poke b1 n2 b2) (.owd oh b1 ⟨rfl,λi d u h1 h2=>?_⟩) ⟨by simp,λc h=>by rw[mSq.mp h];exact n2,λc h=>by rw[mSq.mp h];exact b2,λc h=>by rw[mSq.mp h];exact .inl hp⟩
 match i,h1,h2 with
 |0,h1,h2 =>
  cases h1;cases h2;rw[hx1,pH];exact rv
 |i+1,h1,_=>simp at h1
theorem zd{i:Nat}:SM K (UT K "list" S9 (xP i)) (yv i):=RU
def yC:List (oy×D)->Option (List Int)
 | []=>some []
 | (.inl i,_)::r=>(yC r).map (i :: ·)
 |_=>none
theorem FU:∀{kvs:List (oy×D)}{ns:List Int},yC kvs=some ns->kvs.map (·.1)=ns.map aG
 | [],ns,h=>by cases h;rfl
 | (.inl i,d)::r,ns,h=>by
  obtain⟨ms,h1,h2⟩:=oMq.mp (show (yC r).map (i :: ·)=some ns from h)
  subst h2;rw[aC,aC,FU h1]
 | (.inr _,_)::_,_,h=>by cases h
def DZ(a:ME):MK:=λS=>(a S).bind λx=>match x.1 with
 | .dict kvs=>(yC kvs).map λns=>(.ow ((rS ns).map λn=>.sh (.int n)),x.2)
 |_=>none
theorem MW(hb:SR K te b):SK K (N3 (λxs H Q=>∃(a:Addr) (kvs:List (oy×V)) (ns:List Int),xs=[.ref a]/\H a=some (.dK kvs)/\kvs.map (·.1)=ns.map aG/\∀p,H p=none->Q (.ref p) (pX H p (.lst ((rS ns).map V.int)))) (sY te xr)) (DZ b):=by
 intro H₀ Hf₀ Hf S σ H Fs av S' R e Q q;obtain⟨x,e1,e⟩:=oBq.mp e;obtain⟨x1,x2⟩:=x;cases x1 with
 |dict kvs =>
  obtain⟨ns,e2,e⟩:=oMq.mp (show (yC kvs).map (λns=>(AV.ow ((rS ns).map λn=>.sh (.int n)),x2))=some (av,S') from e)
  cases e;refine hb R (d:=.dict kvs) (S':=S') e1 _ λHf1 H1 Fs1 w t1 R1 r1=>?_
  obtain⟨p1,vs,rfl,h1,h2⟩:=r1.dict_inv;refine⟨p1,vs,ns,rfl,h1,by rw[←h2.1];exact FU e2,λp hp=>?_⟩
  obtain⟨t4,R4,n1,n2,n3⟩:=R1.new (o:=.lst ((rS ns).map V.int)) hp;rw[As]at q;exact q _ _ _ (.ref p) [p] (t1.trans t4) R4 (oJ.new oh n1 (tM _)) ((vN.one R1 hp).back t1)
 |_=>cases e
end
theorem O0(S:AS) (b:ME) (k:MK):BE b k S=(b S).bind λy=>(rN k y.2).bind λx=>(uk y.1).map λkey=>(.owd [(key,nU x.1)],x.2):=rfl
def Qt:D->AS->Option (AV×AS)
 | .dict kvs,S=>(yC kvs).map λns=>(.ow ((rS ns).map λn=>.sh (.int n)),S)
 |_,_=>none
theorem Po(S:AS) (a:ME):DZ a S=(a S).bind λx=>Qt x.1 x.2:=by
 unfold DZ;congr 1;funext x;obtain⟨x1,x2⟩:=x;cases x1 <;> rfl
theorem QK(kvs:List (oy×D)) (S:AS):Qt (.dict kvs) S=(yC kvs).map λns=>(.ow ((rS ns).map λn=>.sh (.int n)),S):=rfl
theorem CT{α:Type}(f:α->Int) (g:α->D):∀l:List α,yC (l.map λx=>(aG (f x),g x))=some (l.map f)
 | []=>rfl
 |x::l=>by
  show (yC (l.map λx=>(aG (f x),g x))).map (f x :: ·)=_
  rw[CT f g l];rfl
def XW:=aa @O0 (aa @Po @QK)
def uq(tf:MT) (te:MK) (cap:AS):List (D×D)->Option (List AV)
 | []=>some []
 |d::ds=>(tf (some (.sh d.1)::some (.sh d.2)::cap)).bind λb=>if b.1=true then (te b.2).bind λa=>(uq tf te cap ds).map (a.1 :: ·) else uq tf te cap ds
section
variable {K:W.Frag}{H₀ Hf₀ Hf Hf' H H':Hp}{S S':AS}{σ:St}{Fs Fs':List (List Addr)}
theorem GE(R:oM K H₀ Hf₀ Hf S σ H Fs) {fr:List Nat}{cap:AS}(e:Ad S fr=some cap) {d d2:D}{x x2:V}(rx:qB K Hf d x) (rx2:qB K Hf d2 x2) :
  oM K H₀ Hf₀ Hf (some (.sh d)::some (.sh d2)::cap) (some x::some x2::slots σ fr) H (aO (cap.length+2) []):=by
 obtain⟨h1,h2⟩:=Bf R e;have fl:=rK (cap.length+2);refine⟨by simp[slots,h1],by simp,λi av ei=>?_,λi ei=>?_,by rw[fl];exact aW,λp hp=>(by rw[fl]at hp;cases hp),R.sub,R.fr,R.lim,R.sf⟩
 .match i,ei with
  |0,ei =>
   cases ei;exact⟨x,[],rfl,by simp,.sh rx⟩
  |1,ei =>
   cases ei;exact⟨x2,[],rfl,by simp,.sh rx2⟩
  |k+2,ei =>
   have hk:k<cap.length:=(gSq.mp (by simpa using ei)).1
   obtain⟨d',v,rfl,s1,r⟩:=h2 k av (by simpa using ei)
   exact⟨v,[],by simpa using s1,by rw[bC,oz (by lia)],.sh r⟩
 .rw [bC];have hi:=(gSq.mp ei).1;rw[oz (by simpa using hi)]
end
section
variable {K:W.Frag}{tf:TT}{te:TE}{mf:MT}{me:MK}{fr:List Nat}
theorem Gn{H₀ Hf₀ Hf1 H1:Hp}{S1:AS}{σ:St}{Fs1:List (List Addr)}{cap:AS}{ds:List (D×D)}{avs:List AV}{J:It}{Q:VK}(hf:Cp K tf mf) (he:SK K te me)
  (R1:oM K H₀ Hf₀ Hf1 S1 σ H1 Fs1) (ec:Ad S1 fr=some cap) (hl:ds.length<=qF) (e:uq mf me cap ds=some avs)
  (hgo:∀i H,ou Hf1 H->i<ds.length->J.go i H) (hst:∀H,ou Hf1 H->J.stop ds.length H) (hy:∀i H x H',ou Hf1 H->i<ds.length->J.yld i H x H'->∃a v1 v2 d,x = .ref a/\BR K H' a [v1,v2]/\ds[i]?=some d/\qB K Hf1 d.1 v1/\qB K Hf1 d.2 v2/\(H'=H∨∃o,H a=none/\H'=pX H a o))
  (q:∀Hf' H' v F,xp Hf1 H1 Fs1 Hf' H' Fs1->oM K H₀ Hf₀ Hf' S1 σ H' Fs1->oJ K Hf' H' (.ow avs) v F->vN H₀ H1 Fs1 Fs1 F->Q v H') :
  ∀acc,H1 acc=none->∃W:Nat->Nat->Hp->Prop,(∃m,W 0 m (pX H1 acc (.lst [])))/\∀i m H,W i m H ->
   (J.stop i H/\Q (.ref acc) H) ∨
   (J.go i H/\∃N:Hp->Prop,(∀H',N H'->∃m',m'<m/\W (i+1) m' H')/\∀x H',J.yld i H x H'->∀v0 v1,g2 K x (v0::v1::slots σ fr) H' λσ2 H1=>(∃a b,σ2=a::b::slots σ fr)/\tf σ2 H1 λb H2 =>
    if b=true then te σ2 H2 λy H3=>∃ys,H3 acc=some (.lst ys)/\ys.length<iR/\N (pX H3 acc (.lst (ys++[y]))) else N H2):=by
 intro acc hacc;obtain⟨t0,R0,n1,n2,n3⟩:=R1.new (o:=.lst []) hacc
 let P:Nat->Hp->Prop:=λi H=>∃Hf as vs Gs rest,oM K H₀ Hf₀ Hf S1 σ H Fs1/\xp Hf1 H1 Fs1 Hf H Fs1/\H acc=some (.lst vs)/\Hf acc=none/\pB K Hf H as vs Gs/\vN H₀ H1 Fs1 Fs1 (acc::Gs.flatten)/\as.length<=i /\
  uq mf me cap (ds.drop i)=some rest/\avs=as++rest
 refine⟨λi m H=>m=ds.length-i/\i<=ds.length/\P i H,⟨ds.length,by simp,aV _,Hf1,[],[],[],avs,R0,t0,oh,n1,.nil,vN.one R1 hacc,aV _,e,rfl⟩,?_⟩
 rintro i m H ⟨rfl,hi,Hf,as,vs,Gs,rest,R,t,ha,hfa,ra,ow,la,er,ea⟩;have hs:ou Hf1 H:=t.sf.trans R.sub
 by_cases hlt:i<ds.length
 .refine .inr ⟨hgo i H hs hlt,P (i+1),λH' p=>⟨ds.length-(i+1),by lia,rfl,hlt,p⟩,λx H' y=>?_⟩
  intro w0 w1;obtain⟨a0,u1,u2,d,rfl,hT,hd,rx1,rx2,hH⟩:=hy i H x H' hs hlt y;rw[aK hlt,(gSq.mp hd).2]at er;obtain⟨b,e1,e2⟩:=oBq.mp er;have fl:=rK (cap.length+2);refine⟨a0,[u1,u2],rfl,hT,rfl,u1,[u2],rfl,u2,[],rfl,rfl,⟨some u1,some u2,rfl⟩,?_⟩;obtain⟨R,t,ha,ra⟩:oM K H₀ Hf₀ Hf S1 σ H' Fs1/\xp Hf1 H1 Fs1 Hf H' Fs1/\H' acc=some (.lst vs)/\pB K Hf H' as vs Gs:=by
   rcases hH with rfl|⟨o,hn,rfl⟩
   .exact ⟨R,t,ha,ra⟩
   .obtain ⟨tn,Rn,m1,m2,m3⟩:=R.new (o:=o) hn;exact⟨Rn,t.trans tn,tn.sh _ _ ha,ra.stp (λq hq=>ow.out q (mCo _ hq)) tn⟩
  refine hf (GE R ec (rx1.mono t.sf) (rx2.mono t.sf)) (b:=b.1) (S':=b.2) e1 _ λHf2 H2 Fs2 t2 R2=>?_
  obtain⟨t2',R2'⟩:=R.outer R2 t2 fl;have ha2:H2 acc=some (.lst vs):=t2.sh _ _ ha;have hfa2:Hf2 acc=none:=by
   by_cases z:Hf2 acc=none
   .exact z
   .rcases t2.gr acc hfa z with z|z
    .rw [ha]at z;cases z
    .rw [fl]at z;cases z
  have ra2:=ra.stp (λq hq=>ow.out q (mCo _ hq)) t2'
  split at e2
  .rename_i hb;rw[hb];refine Bh ?_;obtain⟨a,e3,e4⟩:=oBq.mp e2;obtain⟨rest',e5,e6⟩:=oMq.mp e4;subst e6;refine he R2 (a:=a.1) (S':=a.2) e3 _ λHf3 H3 Fs3 v F t3 R3 r3 o3=>?_
   have fl2:Fs2.flatten=[]:=by
    cases hz:Fs2.flatten with
    |nil=>rfl
    |cons z zs =>
     have:=t2.own z (by rw[hz];simp)
     rw[fl]at this;cases this
   obtain⟨t3',R3'⟩:=R2'.outer R3 t3 fl2;have ha3:H3 acc=some (.lst vs):=t3.sh _ _ ha2;have hfa3:Hf3 acc=none:=by
    by_cases z:Hf3 acc=none
    .exact z
    .rcases t3.gr acc hfa2 z with z|z
     .rw [ha2]at z;cases z
     .rw [fl2]at z;cases z
   have ra3:=ra2.stp (λq hq=>ow.out q (mCo _ hq)) t3'
   have newF:∀q∈F,H2 q=none:=λq hq=>(o3.new q hq).elim id λz=>by rw[fl2]at z;cases z
   have accF:acc∉F:=λm=>by rw[newF acc m]at ha2;cases ha2
   have accG:acc∉Gs.flatten:=(ax.mp ow.nd).1;have tt:=(t.trans t2').trans t3';refine⟨vs,ha3,?_,?_⟩
   .rw [sU,←ra.1];lia
   .refine ⟨Hf3,as++[a.1],vs++[v],Gs++[F],rest',R3'.updOut n3 hfa3 n2,⟨tt.sf,λb o eb=>?_,λ_ h=>h,tt.gr⟩,oh,hfa3,(ra3.keepUpd accG).snoc (r3.keepUpd accF),?_,by rw[lAq,lSq];lia,e5,by rw[ea];simp⟩
    .rw [nY λz=>by rw[z,hacc]at eb;cases eb]
     exact tt.sh b o eb
    .rw [fAq,bg];have oF:vN H₀ H1 Fs1 Fs1 F:=⟨o3.nd,o3.fr,λq hq m=>(R2'.mem m).1 (newF q hq),λq hq=>.inl ((t.trans t2').sh.free (newF q hq))⟩
     refine(show vN H₀ H1 Fs1 Fs1 ((acc::Gs.flatten)++F) from ow.app oF λq hq m=>?_)
     rcases aj.mp hq with z|z
     .rw [z]at m;exact accF m
     .exact (ra2.owned q z).1 (newF q m)
  .rename_i hb;rw[cE]at hb;rw[hb];exact Bs ⟨Hf2,as,vs,Gs,rest,R2',t.trans t2',ha2,hfa2,ra2,ow,by lia,e2,ea⟩
 .have e0:i=ds.length:=by lia
  subst e0;rw[cS]at er;cases er;rw[aNq]at ea;subst ea;exact .inl ⟨hst H hs,q Hf H (.ref acc) _ t R (oJ.news ha hfa ra) ow⟩
end
section
variable {K:W.Frag}{H₀ Hf₀ Hf Hf' H H':Hp}{S S':AS}{σ σ':St}{Fs Fs':List (List Addr)}
theorem EA.same(s:ou H H'):∀{path:List Nat}{v w:V},EA H v path w->EA H' v path w
 | [],v,w,h=>h
 |j::js,v,w,⟨p,vs,u,h1,h2,h3,h4⟩=>⟨p,vs,u,h1,s _ _ h2,h3,EA.same s h4⟩
theorem EA.one:∀{path:List Nat}{v w w':V},EA H v path w->EA H v path w'->w=w'
 | [],v,w,w',h,h'=>h.symm.trans h'
 |j::js,v,w,w',hz,hy=>by
  obtain⟨p,vs,u,h1,h2,h3,h4⟩:=hz;obtain⟨p',vs',u',g1,g2,g3,g4⟩:=hy;rw[h1]at g1;cases g1;rw[h2]at g2;cases g2;rw[h3]at g3;cases g3;exact h4.one g4
theorem EA.snoc:∀{path:List Nat}{v:V}{p:Addr}{vs:List V}{n:Nat}{u:V},EA H v path (.ref p)->H p=some (.lst vs)->vs[n]?=some u->EA H v (path++[n]) u
 | [],v,p,vs,n,u,h,h1,h2=>⟨p,vs,u,h,h1,h2,rfl⟩
 |j::js,v,p,vs,n,u,⟨p',vs',u',g1,g2,g3,g4⟩,h1,h2=>⟨p',vs',u',g1,g2,g3,g4.snoc h1 h2⟩
theorem EA.kept:∀{path:List Nat}{av:AV}{v w:V}{F:List Addr}{as:List AV},oJ K Hf H av v F->pO av path=some as->EA H v path w->(∀q∈F,H' q=H q)->EA H' v path w
 | [],av,v,w,F,as,_,_,h,_=>h
 |j::js,av,v,w,F,as,r,e,hz,hk=>by
  obtain⟨p,vs,u,h1,h2,h3,h4⟩:=hz;cases av with
  |ow avs =>
   obtain⟨p',vs',Gs,e1,e2,e3,e4,e5⟩:=r.ow_inv;rw[h1]at e1;cases e1;rw[h2]at e3;cases e3;obtain⟨a,ea,e⟩:=oBq.mp (show (avs[j]?).bind (λa=>pO a js)=some as from e)
   have hj:j<avs.length:=(gSq.mp ea).1;have hG:=gEg (e5.2.1 ▸ hj);have rj:=e5.2.2 j a u _ ea h3 hG;refine⟨p,vs,u,h1,by rw[hk p (by rw[e2];simp)];exact h2,h3,h4.kept rj e λq hq=>hk q ?_⟩
   rw[e2];exact mCo _ (oN hG hq)
  |_=>cases e
def frm(H₀ H:Hp) (F:List Addr):Hp:=λb=>if b∈F then H b else H₀ b
theorem DH{F:List Addr}{b:Addr}(h:b∈F):frm H₀ H F b=H b:=oz h
theorem yi{F:List Addr}{b:Addr}(h:b∉F):frm H₀ H F b=H₀ b:=oB h
theorem oM.frame(R:oM K H₀ Hf₀ Hf S σ H Fs) {i:Nat}{F:List Addr}(s2:Fs[i]?=some F):oM K (frm H₀ H F) Hf₀ Hf (S.set i none) σ H (Fs.set i []):=by
 have R1:=R.kill i;have hF:∀q∈F,q∈Fs.flatten:=λq hq=>oN s2 hq
 refine⟨R1.len,R1.lenF,R1.rep,R1.emp,R1.nd,λp hp=>?_,R1.sub,λb u e=>?_,λb h1 h2=>?_,R1.sf⟩
 .have hn:p∉F:=λz=>sV R.nd s2 z hp
  rw[yi hn];exact R1.fresh p hp
 .by_cases hb:b∈F
  .rw [DH hb]at e;exact e
  .rw [yi hb]at e;exact R.fr b u e
 .by_cases hb:b∈F
  .exact (R.mem (hF b hb)).2
  .rw [yi hb]at h2;exact R.lim b h1 h2
theorem ED{α:Type}{l:List α}{i:Nat}{a:α}(h:l[i]?=some a):l.set i a=l:=by
 obtain⟨hk,ev⟩:=gSq.mp h;rw[←ev];exact fc hk
theorem oM.unframe(R:oM K H₀ Hf₀ Hf S σ H Fs) {i:Nat}{av:AV}{v:V}{F:List Addr}(s2:Fs[i]?=some F) (r:oJ K Hf H av v F) (nd:F.Nodup) (h0:∀q∈F,H₀ q=none)
  (R':oM K (frm H₀ H F) Hf₀ Hf' S' σ' H' Fs') (e':S'[i]?=some none) (s1:σ'[i]?=some (some v)) (sf:ou Hf Hf') :
  (∀q∈F,H' q=H q)/\oJ K Hf' H' av v F/\oM K H₀ Hf₀ Hf' (S'.set i (some av)) σ' H' (Fs'.set i F):=by
 have hk:∀q∈F,H' q=H q:=λq hq=>by
  have hn:=(R.mem (oN s2 hq)).1;cases hu:H q with
  |none=>exact absurd hu hn
  |some u=>exact R'.fr q u (by rw[DH hq];exact hu)
 have hf:∀q∈F,Hf' q=none:=λq hq=>by
  have hm:=R.mem (oN s2 hq);refine R'.lim q ?_ (by rw[DH hq];exact hm.1)
  cases hz:Hf₀ q with
  |none=>rfl
  |some u=>rw[R.sf q u hz]at hm;exact absurd hm.2 (by simp)
 have r':=r.keep sf hk hf;refine⟨hk,r',?_⟩;have R1:oM K H₀ Hf₀ Hf' (S'.set i none) σ' H' (Fs'.set i []):=by
  rw[ED e',ED (R'.emp i e')];refine⟨R'.len,R'.lenF,R'.rep,R'.emp,R'.nd,λp hp=>?_,R'.sub,λb u e=>?_,λb h1 h2=>?_,R'.sf⟩
  .have:=R'.fresh p hp
   by_cases hb:p∈F
   .exact h0 p hb
   .rwa [yi hb]at this
  .refine R'.fr b u ?_;rw[yi λz=>by rw[h0 b z]at e;cases e]
   exact e
  .refine R'.lim b h1 ?_;rw[yi λz=>h2 (h0 b z)]
   exact h2
 refine R1.again (F:=F) s1 r' nd λq hq=>⟨h0 q hq,λm=>?_⟩
 rw[ED (R'.emp i e')]at m;have:=R'.fresh q m;rw[DH hq]at this;exact(R.mem (oN s2 hq)).1 this
end
abbrev MP:=AS->Option (List Nat×AS)
def LI(i:Nat):MP:=λS=>(qf S i).map λ_=>([],S)
def UX(i:Nat) (pf:MP) (b:ME):MP:=λS=>(pf S).bind λx=>(b x.2).bind λy=>(intOf y.1).bind λj=>(qf y.2 i).bind λavs=>(pO (.ow avs) x.1).bind λas=>(E1 as.length j).map λn=>(x.1++[n],y.2)
def U5(K:W.Frag) (i:Nat) (te:TE) (pf:MP):Prop:=∀{H₀ Hf₀ Hf:Hp}{S:AS}{σ:St}{H:Hp}{Fs:List (List Addr)}{path:List Nat}{S':AS},oM K H₀ Hf₀ Hf S σ H Fs->pf S=some (path,S')->∀Q:VK,
 (∀Hf' H' Fs' v w,xp Hf H Fs Hf' H' Fs'->oM K H₀ Hf₀ Hf' S' σ H' Fs'->σ[i]?=some (some v)->EA H' v path w->Q w H')->te σ H Q
section
variable {K:W.Frag}
theorem HP(i:Nat):U5 K i (xP i) (LI i):=by
 intro H₀ Hf₀ Hf S σ H Fs path S' R e Q q;obtain⟨avs,e1,e⟩:=oMq.mp e;cases e;obtain⟨p,vs,Gs,s1,_⟩:=R.ow (oW e1);exact⟨_,s1,q _ _ _ _ _ .refl R s1 rfl⟩
theorem ze{H₀ Hf₀ Hf H:Hp}{S:AS}{σ:St}{Fs:List (List Addr)}{i:Nat}{avs as:List AV}{path:List Nat}{v w:V}(R:oM K H₀ Hf₀ Hf S σ H Fs) (e:S[i]?=some (some (.ow avs))) (s1:σ[i]?=some (some v)) (en:pO (.ow avs) path=some as) (h:EA H v path w) :
  ∃p vs,w = .ref p/\H p=some (.lst vs)/\vs.length=as.length:=by
 obtain⟨v',F,t1,t2,r,nd,_⟩:=R.move e;rw[s1]at t1;cases t1;obtain⟨p,vs,Gs,g1,g2,g3,g4,_⟩:=r.path nd en;exact⟨p,vs,h.one g1,g2,g4.1.symm⟩
theorem Mn{i:Nat}{te tb:TE}{pf:MP}{b:ME}(hp:U5 K i te pf) (hb:SR K tb b):U5 K i (OH (KU K) te tb) (UX i pf b):=by
 intro H₀ Hf₀ Hf S σ H Fs path S' R e Q q;obtain⟨x,e1,e⟩:=oBq.mp e;obtain⟨y,e2,e⟩:=oBq.mp e;obtain⟨j,e3,e⟩:=oBq.mp e;obtain⟨avs,e4,e⟩:=oBq.mp e;obtain⟨as,e5,e⟩:=oBq.mp e;obtain⟨n,e6,e⟩:=oMq.mp e;cases e;refine hp R (path:=x.1) (S':=x.2) e1 _ λHf1 H1 Fs1 v w t1 R1 s1 a1=>hb R1 (d:=y.1) (S':=y.2) e2 _ λHf2 H2 Fs2 u t2 R2 r2=>?_
 have hy:y.1 = .int j:=by
  cases hx:y.1 <;> rw[hx]at e3 <;> first|(cases e3;rfl)|cases e3
 rw[hy]at r2;cases r2;have a2:=a1.same t2.sh;obtain⟨p,vs,rfl,h1,h2⟩:=ze R2 (oW e4) s1 e5 a2;have hix:=e6;obtain⟨_,hn,_⟩:=HZ e6;have hn':n<vs.length:=by rw[h2];exact hn
 obtain⟨u,hv⟩:∃u,vs[n]?=some u:=⟨_,gEg hn'⟩;refine⟨p,vs,j,u,rfl,rfl,qS.of h1,?_,q _ _ _ v _ (t1.trans t2) R2 s1 (a2.snoc h1 hv)⟩;unfold atI;rw[h2,e6];exact hv
end
section
variable {K:W.Frag}
theorem oM.grow{H₀ Hf₀ Hf H:Hp}{S:AS}{σ:St}{Fs:List (List Addr)}{i:Nat}{avs as:List AV}{path:List Nat}{v:V}{p:Addr}(R:oM K H₀ Hf₀ Hf S σ H Fs) (e:S[i]?=some (some (.ow avs))) (s1:σ[i]?=some (some v)) (en:pO (.ow avs) path=some as) (h:EA H v path (.ref p)) :
  ∃vs,H p=some (.lst vs)/\as.length=vs.length/\∀(bs:List AV) (ws:List V) (Gs:List (List Addr)),pB K Hf H bs ws Gs->Gs.flatten.Nodup->(∀q∈Gs.flatten,H₀ q=none/\q∉Fs.flatten) ->
   ∃Fs',oM K H₀ Hf₀ Hf (S.set i (some (putAt (.ow avs) path (as++bs)))) σ (pX H p (.lst (vs++ws))) Fs':=by
 obtain⟨v',F,t1,t2,r,nd,oo,_⟩:=R.move e;rw[s1]at t1;cases t1;obtain⟨p',vs,Es,g1,g2,g3,g4,g5,g6,g6',g7,g8⟩:=r.path nd en;have hpp:V.ref p=V.ref p':=h.one g1;cases hpp;refine⟨vs,g2,g4.1,λbs ws Gs rb nG oG=>?_⟩
 have pG:p∉Gs.flatten:=λm=>(oG p m).2 (oN t2 g5)
 have hfl:(Es++Gs).flatten=Es.flatten++Gs.flatten:=fAq;obtain⟨F',k1,k2,k3⟩:=g8 (as++bs) (vs++ws) (Es++Gs) ((g4.keepUpd g6).append (rb.keepUpd pG)) (by
  rw[hfl];refine ax.mpr ⟨λm=>(mAq.mp m).elim g6 pG,nAq.mpr ⟨g6',nG,λa ha b hb z=>(oG b hb).2 (oN t2 (g7 b (z ▸ ha)))⟩⟩) (λq hq=>by
  rw[hfl]at hq;exact(mAq.mp hq).imp id λm z=>(oG q m).2 (oN t2 z))
 refine⟨_,R.turnAny s1 t2 g5 k1 k2 λq hq=>?_⟩
 rcases k3 q hq with z|z
 .exact oo q z
 .rw [hfl]at z;rcases mAq.mp z with z|z
  .exact oo q (g7 q z)
  .exact ⟨(oG q z).1,λm=>(oG q z).2 (pZ m)⟩
def WN(i:Nat) (pf:MP) (k:MK):MS:=λS=>(pf S).bind λx=>(qf x.2 i).bind λa0=>(pO (.ow a0) x.1).bind λ_=>(k x.2).bind λy=>(qf y.2 i).bind λavs=>(pO (.ow avs) x.1).bind λas=>uI (as.length<qF) (some (.nx (y.2.set i (some (putAt (.ow avs) x.1 (as++[y.1]))))))
def Xd(i:Nat) (pf:MP) (l:ML):MS:=λS=>(pf S).bind λx=>(qf x.2 i).bind λa0=>(pO (.ow a0) x.1).bind λ_=>(l x.2).bind λy=>(qf y.2 i).bind λavs=>(pO (.ow avs) x.1).bind λas=>uI (as.length+y.1.length<=qF) (some (.nx (y.2.set i (some (putAt (.ow avs) x.1 (as++y.1.map .sh))))))
def Xj(x i:Nat) (path:List Nat) (S:AS) (σ:St) (H:Hp):Prop:=∃v p avs as,S[i]?=some (some (.ow avs))/\pO (.ow avs) path=some as/\σ[x]?=some (some (.ref p))/\σ[i]?=some (some v)/\EA H v path (.ref p)
def M6(K:W.Frag) (x i:Nat) (t:TS) (m:List Nat->MS):Prop:=∀{path:List Nat}{H₀ Hf₀ Hf:Hp}{S:AS}{σ:St}{H:Hp}{Fs:List (List Addr)}{o:DG},oM K H₀ Hf₀ Hf S σ H Fs->Xj x i path S σ H->m path S=some o->∀D:vX,Ai K H₀ Hf₀ Hf D o->t D σ H
def Pg(x i:Nat) (pf:MP) (m:List Nat->MS):MS:=λS=>(pf S).bind λy=>(qf y.2 i).bind λavs=>(pO (.ow avs) y.1).bind λ_=>uI (x≠i/\x<y.2.length) (m y.1 (y.2.set x none))
theorem Rf{x i:Nat}{te:TE}{pf:MP}{t:TS}{m:List Nat->MS}(hp:U5 K i te pf) (hm:M6 K x i t m):SS K (Kb (E6 te (rG x)) t) (Pg x i pf m):=by
 intro H₀ Hf₀ Hf S σ H Fs o R e D h;obtain⟨y,e1,e⟩:=oBq.mp e;obtain⟨avs,e2,e⟩:=oBq.mp e;obtain⟨as,e3,e⟩:=oBq.mp e;rcases oC e with ⟨⟨hne,hlt⟩,e⟩|e
 .refine hp R (path:=y.1) (S':=y.2) e1 _ λHf1 H1 Fs1 v w t1 R1 s1 a1=>?_
  obtain⟨p,vs,rfl,h1,h2⟩:=ze R1 (oW e2) s1 e3 a1;have R2:=(R1.kill x).any (V.ref p);refine hm R2 ⟨v,p,avs,as,?_,e3,?_,?_,a1⟩ e D (h.mono t1.sf)
  .rw [aE hne];exact oW e2
  .exact aJ (by rw[←R1.len];exact hlt)
  .rw [aE hne];exact s1
 .cases e
theorem Qj{x i:Nat}{t:TS}{m:MS}(h:SS K t m):M6 K x i t (λ_=>m):=λR _ e D o=>h R e D o
theorem Rr{x i:Nat}{t u:TS}{a:List Nat->MS}{b:MS}(ha:M6 K x i t a) (hb:SS K u b):M6 K x i (Kb t u) (λpath=>oa (a path) b):=by
 intro path H₀ Hf₀ Hf S σ H Fs o R A e D h;obtain⟨y,e1,e⟩:=oBq.mp e;refine ha R A e1 _ ?_;cases y with
 |nx S'=>exact λHf' σ' H' Fs' s R'=>hb R' e D (h.mono s)
 |rt a=>cases e;exact h
 |bk a=>cases e;exact h
 |ct a=>cases e;exact h
def ES(i:Nat) (c:MT) (a b:List Nat->MS):List Nat->MS:=λpath S=>(c S).bind λy=>(qf y.2 i).bind λavs=>(pO (.ow avs) path).bind λ_=>if y.1=true then a path y.2 else b path y.2
theorem Mu{x i:Nat}{c:TT}{m:MT}{t u:TS}{a b:List Nat->MS}(hc:Cp K c m) (ha:M6 K x i t a) (hb:M6 K x i u b):M6 K x i (Nl c t u) (ES i m a b):=by
 intro path H₀ Hf₀ Hf S σ H Fs o R A e D h;obtain⟨y,e1,e⟩:=oBq.mp e;obtain⟨avs,e2,e⟩:=oBq.mp e;obtain⟨as,e3,e⟩:=oBq.mp e;obtain⟨v,p,_,_,_,_,s2,s1,at0⟩:=A;refine hc R (b:=y.1) (S':=y.2) e1 _ λHf1 H1 Fs1 t1 R1=>?_
 have A1:Xj x i path y.2 σ H1:=⟨v,p,avs,as,oW e2,e3,s2,s1,at0.same t1.sh⟩;split at e
 .rename_i hx;rw[hx];exact Bh (ha R1 A1 e D (h.mono t1.sf))
 .rename_i hx;rw[cE]at hx;rw[hx];exact Bs (hb R1 A1 e D (h.mono t1.sf))
def IK(i:Nat) (k:MK):List Nat->MS:=λpath S=>(k S).bind λy=>(qf y.2 i).bind λavs=>(pO (.ow avs) path).bind λas=>uI (as.length<qF) (some (.nx (y.2.set i (some (putAt (.ow avs) path (as++[y.1]))))))
theorem Sl{x i:Nat}{te:TE}{k:MK}(hk:SK K te k):M6 K x i (zm (N1 K "list" yn (xP x) (sY te xr))) (IK i k):=by
 intro path H₀ Hf₀ Hf S σ H Fs o R A e D h;obtain⟨y,e4,e⟩:=oBq.mp e;obtain⟨avs,e5,e⟩:=oBq.mp e;obtain⟨as,e6,e⟩:=oBq.mp e;rcases oC e with ⟨hl,e⟩|e
 .cases e;obtain⟨v,p,a0,n0,e2,e3,s2,s1,at0⟩:=A;obtain⟨p',vs,hp,h1,h2⟩:=ze R e2 s1 e3 at0;cases hp;refine⟨.ref p,s2,.inl ⟨rfl,vs,qS.of h1⟩,hk R (a:=y.1) (S':=y.2) e4 _ λHf2 H2 Fs2 u F t2 R2 r2 o2=>?_⟩
  obtain⟨vs',g1,g2,g3⟩:=R2.grow (oW e5) s1 e6 (at0.same t2.sh);obtain⟨Fs',R3⟩:=g3 [y.1] [u] [F] (pB.nil.snoc r2) (by rw[bg];exact o2.nd) (λq hq=>by rw[bg]at hq;exact⟨o2.fr q hq,o2.out q hq⟩)
  exact⟨p,vs',u,rfl,rfl,g1,by rw[sU,←g2];exact hl,h _ _ _ _ t2.sf R3⟩
 .cases e
def WV(i:Nat) (l:ML):List Nat->MS:=λpath S=>(l S).bind λy=>(qf y.2 i).bind λavs=>(pO (.ow avs) path).bind λas=>uI (as.length+y.1.length<=qF) (some (.nx (y.2.set i (some (putAt (.ow avs) path (as++y.1.map .sh))))))
def DM(i:Nat) (mm:ME):List Nat->MS:=λpath S=>(qf S i).bind λavs=>(pO (.ow avs) path).bind λas=>(mm (S.set i none)).bind λy=>uI (y.2[i]?=some none/\as.length<qF) (some (.nx (y.2.set i (some (putAt (.ow avs) path (as++[.sh y.1]))))))
theorem Oj{x i:Nat}{te:TE}{mm:ME}(hk:SM K te mm):M6 K x i (zm (N1 K "list" yn (xP x) (sY te xr))) (DM i mm):=by
 intro path H₀ Hf₀ Hf S σ H Fs o R A e D h;obtain⟨avs,e2,e⟩:=oBq.mp e;obtain⟨as,e3,e⟩:=oBq.mp e;obtain⟨y,e4,e⟩:=oBq.mp e;rcases oC e with ⟨⟨hn,hl⟩,e⟩|e
 .cases e;obtain⟨v,p,a0,n0,_,_,s2,s1,at0⟩:=A;have e2':=oW e2;obtain⟨p',vs,hp,h1,h2⟩:=ze R e2' s1 e3 at0;cases hp;obtain⟨v',F,t1,t2,r,nd,oo,_⟩:=R.move e2';rw[s1]at t1;cases t1;refine⟨.ref p,s2,.inl ⟨rfl,vs,qS.of h1⟩,hk (R.frame t2) (d:=y.1) (S':=y.2) e4 _ λHf2 H2 Fs2 u t3 R2 r2=>?_⟩
  obtain⟨k1,k2,R3⟩:=R.unframe t2 r nd (λq hq=>(oo q hq).1) R2 hn s1 t3
  have hlt:i<y.2.length:=(gSq.mp hn).1;have e5:(y.2.set i (some (.ow avs)))[i]?=some (some (.ow avs)):=aJ hlt;obtain⟨vs',g1,g2,g3⟩:=R3.grow e5 s1 e3 (at0.kept r e3 k1);obtain⟨Fs',R4⟩:=g3 [.sh y.1] [u] [[]] (pB.nil.snoc (.sh r2)) (by simp) (λq hq=>by simp at hq)
  rw[fm]at R4;exact⟨p,vs',u,rfl,rfl,g1,by rw[sU,←g2];exact hl,h _ _ _ _ t3 R4⟩
 .cases e
def S0(K:W.Frag) (J:List Nat) (t:TS) (m:MS):Prop:=∀{H₀ Hf₀ Hf:Hp}{S:AS}{σ:St}{H:Hp}{Fs:List (List Addr)}{S':AS},oM K H₀ Hf₀ Hf S σ H Fs->m S=some (.nx S')->∀D:vX,(∀Hf' σ' H' Fs',ou Hf Hf'->oM K H₀ Hf₀ Hf' S' σ' H' Fs'->(∀j∈J,σ'[j]?=σ[j]?)->D.nx σ' H')->t D σ H
theorem Lq{J:List Nat}{t:TS}(h:∀D σ H,D.nx σ H->t D σ H):S0 K J t qM:=by
 intro H₀ Hf₀ Hf S σ H Fs S' R e D q;cases e;exact h _ _ _ (q _ _ _ _ (.refl _) R λ_ _=>rfl)
theorem HL{J:List Nat}{y:Nat}{te:TE}{k:MK}(hk:SK K te k) (hJ:y∉J):S0 K J (E6 te (rG y)) (ox y k):=by
 intro H₀ Hf₀ Hf S σ H Fs S' R e D q;obtain⟨x,e1,e⟩:=oMq.mp e;cases e;refine hk R (a:=x.1) (S':=x.2) e1 _ λHf1 H1 Fs1 v F t1 R1 r1 o1=>?_
 exact q _ _ _ _ t1.sf (R1.set y r1 o1.nd λq hq=>⟨o1.fr q hq,o1.out q hq⟩) λj hj=>aE (show y≠j from λz=>hJ (by rw[z];exact hj))
theorem LM{J:List Nat}{y:Nat}{te:TE}{m:ME}(hk:SM K te m) (hJ:y∉J):S0 K J (E6 te (rG y)) (C6 y m):=by
 intro H₀ Hf₀ Hf S σ H Fs S' R e D q;obtain⟨x,e1,e⟩:=oMq.mp e;cases e;refine hk R (d:=x.1) (S':=x.2) e1 _ λHf1 H1 Fs1 v t1 R1 r1=>?_
 exact q _ _ _ _ t1 (R1.setD y r1) λj hj=>aE (show y≠j from λz=>hJ (by rw[z];exact hj))
theorem SE{J:List Nat}{c:TT}{m:MT}{t u:TS}{a b:MS}(hc:Cp K c m) (ha:S0 K J t a) (hb:S0 K J u b):S0 K J (Nl c t u) (zJ m a b):=by
 intro H₀ Hf₀ Hf S σ H Fs S' R e D q;obtain⟨x,e1,e⟩:=oBq.mp e;refine hc R (b:=x.1) (S':=x.2) e1 _ λHf1 H1 Fs1 t1 R1=>?_
 split at e
 .rename_i hx;rw[hx];exact Bh (ha R1 e D λHf' σ' H' Fs' s R' j=>q _ _ _ _ (t1.sf.trans s) R' j)
 .rename_i hx;rw[cE]at hx;rw[hx];exact Bs (hb R1 e D λHf' σ' H' Fs' s R' j=>q _ _ _ _ (t1.sf.trans s) R' j)
def EB(i:Nat) (a:MS) (m:List Nat->MS):List Nat->MS:=λpath S=>(qf S i).bind λavs=>(a (S.set i none)).bind λo=>match o with
 | .nx S1=>uI (S1[i]?=some none) (m path (S1.set i (some (.ow avs))))
 |_=>none
theorem Hk{x i:Nat}{t u:TS}{a:MS}{m:List Nat->MS}(ha:S0 K [x,i] t a) (hm:M6 K x i u m):M6 K x i (Kb t u) (EB i a m):=by
 intro path H₀ Hf₀ Hf S σ H Fs o R A e D h;obtain⟨avs,e2,e⟩:=oBq.mp e;obtain⟨oo,e3,e⟩:=oBq.mp e;cases oo with
 |nx S1 =>
  rcases oC (show uI (S1[i]?=some none) (m path (S1.set i (some (.ow avs))))=some o from e) with ⟨hn,e⟩|e
  .obtain ⟨v,p,a0,n0,e2',e4,s2,s1,at0⟩:=A;have e5:=oW e2;rw[e5]at e2';cases e2';obtain⟨v',F,t1,t2,r,nd,ow,_⟩:=R.move e5;rw[s1]at t1;cases t1;refine ha (R.frame t2) e3 _ λHf' σ' H' Fs' s R' hJ=>?_
   have j1:σ'[x]?=σ[x]?:=hJ x (by simp)
   have j2:σ'[i]?=σ[i]?:=hJ i (by simp)
   obtain⟨k1,k2,R3⟩:=R.unframe t2 r nd (λq hq=>(ow q hq).1) R' hn (j2.trans s1) s
   have hlt:i<S1.length:=(gSq.mp hn).1;exact hm R3 ⟨v,p,avs,n0,aJ hlt,e4,j1.trans s2,j2.trans s1,at0.kept r e4 k1⟩ e D (h.mono s)
  .cases e
 |_=>cases e
end
theorem Uu(S:AS) (i:Nat):LI i S=(qf S i).map λ_=>([],S):=rfl
theorem VI(S:AS) (i:Nat) (pf:MP) (b:ME):UX i pf b S=(pf S).bind λx=>(b x.2).bind λy=>(intOf y.1).bind λj=>(qf y.2 i).bind λavs=>(pO (.ow avs) x.1).bind λas=>(E1 as.length j).map λn=>(x.1++[n],y.2):=rfl
theorem Tw(S:AS) (x i:Nat) (pf:MP) (m:List Nat->MS):Pg x i pf m S=(pf S).bind λy=>(qf y.2 i).bind λavs=>(pO (.ow avs) y.1).bind λ_=>uI (x≠i/\x<y.2.length) (m y.1 (y.2.set x none)):=rfl
theorem Ul(S:AS) (i:Nat) (c:MT) (a b:List Nat->MS) (path:List Nat):ES i c a b path S=(c S).bind λy=>(qf y.2 i).bind λavs=>(pO (.ow avs) path).bind λ_=>if y.1=true then a path y.2 else b path y.2:=rfl
theorem RJ(S:AS) (i:Nat) (k:MK) (path:List Nat):IK i k path S=(k S).bind λy=>(qf y.2 i).bind λavs=>(pO (.ow avs) path).bind λas=>uI (as.length<qF) (some (.nx (y.2.set i (some (putAt (.ow avs) path (as++[y.1])))))):=rfl
theorem On(S:AS) (i:Nat) (mm:ME) (path:List Nat):DM i mm path S=(qf S i).bind λavs=>(pO (.ow avs) path).bind λas=>(mm (S.set i none)).bind λy=>uI (y.2[i]?=some none/\as.length<qF) (some (.nx (y.2.set i (some (putAt (.ow avs) path (as++[.sh y.1])))))):=rfl
def TL(i:Nat) (avs:List AV) (m:List Nat->MS) (path:List Nat):DG->Option DG
 | .nx S1=>uI (S1[i]?=some none) (m path (S1.set i (some (.ow avs))))
 |_=>none
theorem Tv(S:AS) (i:Nat) (a:MS) (m:List Nat->MS) (path:List Nat):EB i a m path S=(qf S i).bind λavs=>(a (S.set i none)).bind (TL i avs m path):=by
 unfold EB;congr 1
theorem O5(i:Nat) (avs:List AV) (m:List Nat->MS) (path:List Nat) (S1:AS):TL i avs m path (.nx S1)=uI (S1[i]?=some none) (m path (S1.set i (some (.ow avs)))):=rfl
theorem GW(avs:List AV):pO (.ow avs) []=some avs:=rfl
theorem FX(avs:List AV) (j:Nat) (js:List Nat):pO (.ow avs) (j::js)=(avs[j]?).bind λa=>pO a js:=rfl
theorem GQ{avs:List AV}{j:Nat}{js:List Nat}{as:List AV}{a:AV}(h:avs[j]?=some a):putAt (.ow avs) (j::js) as = .ow (avs.set j (putAt a js as)):=by
 show (match avs[j]? with|some a=>_|none=>_)=_
 rw[h]
def XT:=aa @Uu (aa @VI (aa @Tw (aa @Ul (aa @RJ (aa @On (aa @Tv (aa @O5 @GW)))))))
section
variable {K:W.Frag}
def Bk(m:ME):MS:=λS=>(m S).map λx=>.nx x.2
theorem Fl{te:TE}{m:ME}(h:SM K te m):SS K (zm te) (Bk m):=by
 intro H₀ Hf₀ Hf S σ H Fs o R e D hd;obtain⟨x,e1,e⟩:=oMq.mp e;cases e;exact h R (d:=x.1) (S':=x.2) e1 _ λHf1 H1 Fs1 v t1 R1 r1=>hd _ _ _ _ t1 R1
def Xu(i:Nat):MS:=λS=>(qf S i).map λavs=>.nx (S.set i (some (.ow avs.reverse)))
end
theorem PU(S:AS) (m:ME):Bk m S=(m S).map λx=>.nx x.2:=rfl
def Xq:=@PU
section
variable {K:W.Frag}
end
end Z
namespace Mr
open PySem PySem.Spec PyProof.Rows L2
end Mr
namespace Z
open PySem L2 Mr
end Z
namespace Xe
open PySem PySem.Spec PySem.W PyProof.Rows L2 Mr
end Xe
namespace Z
open PySem L2 Mr Xe
end Z
namespace HT
open PySem PyProof.Rows
open PySem.SeqAt
open PySem.AutoSeq1 (wpAny_loadPart')
open PySem.MeetsSeq PySem.MeetsSeq2 PySem.MeetsSeq3
end HT
namespace Mr
open PySem PySem.Spec PyProof.Rows L2
end Mr
namespace Z
open PySem L2 Mr
end Z
namespace Z
open PySem L2 Mr Xe
end Z
namespace Xe
open PySem PySem.Spec PySem.W PyProof.Rows L2 Mr
end Xe
namespace Z
open PySem L2 Mr Xe
end Z
namespace Mr
open PySem PySem.Spec PySem.W PyProof.Rows L2 HT
end Mr
namespace Z
open PySem L2 Mr Xe
end Z
namespace Z
open PySem PySem.Spec PySem.W PyProof.Rows L2 Mr Xe
end Z
namespace Mr
open PySem L2
open PySem.Spec PyProof.Rows
section
variable {X:Cx}
end
end Mr
namespace Z
open PySem L2 Mr Xe
def O4(f:D->D->Option D) (m b:ME):ME:=λS=>(m S).bind λx=>(b x.2).bind λy=>(f x.1 y.1).bind λd=>if d.scal then some (d,y.2) else none
def XY(i:Nat) (g:Int->Int->Int) (b:ME):MS:=λS=>(nH i S).bind λx=>(intOf x.1).bind λa=>(b x.2).bind λy=>(intOf y.1).map λc=>.nx (y.2.set i (some (.sh (.int (g a c)))))
def HA(i:Nat) (pf:MP) (mm:ME):MS:=λS=>(pf S).bind λx=>(qf x.2 i).bind λavs=>(pO (.ow avs) x.1).bind λas=>(mm (x.2.set i none)).bind λy=>uI (y.2[i]?=some none/\as.length<qF) (some (.nx (y.2.set i (some (putAt (.ow avs) x.1 (as++[.sh y.1]))))))
def WT(g:MF) (f:Fo) (a:MA):MX:=λS=>(a S).bind λx=>(f (x.1.map nU)).bind (C5 λr=>(g [nU r]).map λz=>.ok (.rt z))
section
variable {K:W.Frag}
theorem UJ{r:R2}{f:D->D->Option D}{ta tb:TE}{m b:ME}(hr:CC K r f) (ha:SM K ta m) (hb:SR K tb b):SM K (OH r ta tb) (O4 f m b):=by
 intro H₀ Hf₀ Hf S σ H Fs d S' R e Q q;obtain⟨x,e1,e⟩:=oBq.mp e;obtain⟨y,e2,e⟩:=oBq.mp e;obtain⟨z,e3,e⟩:=oBq.mp e;split at e
 .rename_i hs;cases e;refine ha R (d:=x.1) (S':=x.2) e1 _ λHf1 H1 Fs1 v1 t1 R1 r1=>hb R1 (d:=y.1) (S':=y.2) e2 _ λHf2 H2 Fs2 v2 t2 R2 r2=>?_
  exact hr ((r1.mono R1.sub).mono t2.sh) r2 e3 λv rv=>q _ _ _ v (t1.trans t2.sf) R2 (rv.scal hs)
 .cases e
theorem Ng{i:Nat}{tp te:TE}{pf:MP}{mm:ME}(hp:U5 K i tp pf) (hk:SM K te mm):SS K (zm (N1 K "list" yn tp (sY te xr))) (HA i pf mm):=by
 intro H₀ Hf₀ Hf S σ H Fs o R e D h;obtain⟨x,e1,e⟩:=oBq.mp e;obtain⟨avs,e2,e⟩:=oBq.mp e;obtain⟨as,e3,e⟩:=oBq.mp e;obtain⟨y,e4,e⟩:=oBq.mp e;rcases oC e with ⟨⟨hn,hl⟩,e⟩|e
 .cases e;refine hp R (path:=x.1) (S':=x.2) e1 _ λHf1 H1 Fs1 v w t1 R1 s1 at0=>?_
  have e2':=oW e2;obtain⟨p,vs,rfl,h1,h2⟩:=ze R1 e2' s1 e3 at0;obtain⟨v',F,u1,u2,r,nd,oo,_⟩:=R1.move e2';rw[s1]at u1;cases u1;refine⟨.inl ⟨rfl,vs,qS.of h1⟩,hk (R1.frame u2) (d:=y.1) (S':=y.2) e4 _ λHf2 H2 Fs2 u t3 R2 r2=>?_⟩
  obtain⟨k1,k2,R3⟩:=R1.unframe u2 r nd (λq hq=>(oo q hq).1) R2 hn s1 t3
  have hlt:i<y.2.length:=(gSq.mp hn).1;have e5:(y.2.set i (some (.ow avs)))[i]?=some (some (.ow avs)):=aJ hlt;obtain⟨vs',g1,g2,g3⟩:=R3.grow e5 s1 e3 (at0.kept r e3 k1);obtain⟨Fs',R4⟩:=g3 [.sh y.1] [u] [[]] (pB.nil.snoc (.sh r2)) (by simp) (λq hq=>by simp at hq)
  rw[fm]at R4;exact⟨p,vs',u,rfl,rfl,g1,by rw[sU,←g2];exact hl,h _ _ _ _ (t1.sf.trans t3) R4⟩
 .cases e
end
theorem UG(S:AS) (f:D->D->Option D) (m b:ME):O4 f m b S=(m S).bind λx=>(b x.2).bind λy=>(f x.1 y.1).bind λd=>if d.scal then some (d,y.2) else none:=rfl
theorem Pd(S:AS) (i:Nat) (pf:MP) (mm:ME):HA i pf mm S=(pf S).bind λx=>(qf x.2 i).bind λavs=>(pO (.ow avs) x.1).bind λas=>(mm (x.2.set i none)).bind λy=>uI (y.2[i]?=some none/\as.length<qF) (some (.nx (y.2.set i (some (putAt (.ow avs) x.1 (as++[.sh y.1])))))):=rfl
def Xw:=aa @UG @Pd
def W0:=aa zq (aa Xr (aa XQ (aa XA (aa XJ (aa Xk (aa XO (aa XW (aa XT (aa Xq (Xw))))))))))
end Z
local macro_rules | `(tactic| simp_arith [$ls,*]) => `(tactic| simp -implicitDefEqProofs only [Z.W0,ir,iu,gV,gW,gw,↓reduceIte,reduceCtorEq,$ls,*])
namespace Z
open PySem PySem.Spec PySem.W PyProof.Rows L2 Mr Xe
end Z
namespace Z
open PySem L2 Mr Xe
end Z
namespace HT
open PySem PyProof.Rows
open PySem.SeqAt
open PySem.AutoSeq1 (wpAny_loadPart')
open PySem.MeetsSeq PySem.MeetsSeq2 PySem.MeetsSeq3
end HT
namespace Mr
open PySem L2
open PySem.Spec PyProof.Rows
end Mr
namespace Z
open PySem L2 Mr Xe
end Z
namespace Mr
open PySem PySem.Calls PySem.Spec PyProof.Rows L2
end Mr
namespace Z
open PySem L2 Mr Xe
end Z
namespace Mo
open PySem PyProof.Rows Mr
section
variable {K:Type} [DecidableEq K]
def fz(ks:List K) (ws:List Value) (j:Nat):List (K×Value):=((ks.zip ws).take j).foldl (λm p=>stored m p.1 p.2) []
end
end Mo
namespace Mr
open PySem PySem.W PySem.Spec PyProof.Rows L2 Mo
end Mr
namespace Z
open PySem L2 Mr
end Z
namespace Mr
open PySem L2
end Mr
namespace Mr
open PySem PySem.Spec PyProof.Rows L2
end Mr
namespace Z
open PySem L2 Mr Xe
end Z
namespace Xe
open PySem PySem.Spec PySem.W PyProof.Rows L2 Mr
end Xe
namespace Z
open PySem L2 Mr Xe
def SW(K:W.Frag) (te:TE) (m:MK):Prop:=∀{H₀ Hf₀ Hf:Hp}{S:AS}{σ:St}{H:Hp}{Fs:List (List Addr)}{a:AV}{S':AS},oM K H₀ Hf₀ Hf S σ H Fs->m S=some (a,S')->∀Q:VK,
 (∀Hf' H' Fs' v F,ou Hf Hf'->oM K H₀ Hf₀ Hf' S' σ H' Fs'->oJ K Hf' H' a v F->F.Nodup->(∀q∈F,H₀ q=none/\q∉Fs'.flatten)->Q v H')->te σ H Q
end Z
namespace Mr
open PySem PySem.Spec PyProof.Rows L2
end Mr
namespace Ms
open PySem
def Up(xs:Array Nat):Prop:=∀a b u v:Nat,xs[a]?=some u->xs[b]?=some v->a<b->u<v
theorem Up.list{xs:Array Nat}(h:xs.toList.Pairwise (· < ·)):Up xs:=λa b u v ha hb hl=>by
 rw[←aq]at ha hb;obtain⟨la,ea⟩:=gSq.mp ha;obtain⟨lb,eb⟩:=gSq.mp hb;have:=bN.mp h a b la lb hl;rw[ea,eb]at this;exact this
theorem Up.pw{xs:Array Nat}(h:Up xs):xs.toList.Pairwise (· < ·):=bN.mpr λa b la lb hl=>h a b _ _ (by rw[←aq];exact gEg la) (by rw[←aq];exact gEg lb) hl
theorem BG{xs:Array Nat}{j:Nat}(hs:Up xs):∀(fuel lo hi:Nat),hi-lo<=fuel->lo<=hi->hi<=xs.size->(∀k v,xs[k]?=some v->k<lo->v<j)->(∀k v,xs[k]?=some v->hi<=k->j<=v) ->
  ∃i,SetTable.below.go xs j fuel lo hi=i/\i<=xs.size/\(∀k v,xs[k]?=some v->k<i->v<j)/\∀k v,xs[k]?=some v->i<=k->j<=v
 |0,lo,hi,hf,hl,hh,h1,h2=>⟨lo,by rw[SetTable.below.go],by lia,h1,λk v e hk=>h2 k v e (by lia)⟩
 |fuel+1,lo,hi,hf,hl,hh,h1,h2=>by
  rw[SetTable.below.go]
  by_cases c:lo<hi
  .rw [oz c];have hm:(lo+hi) / 2<xs.size:=by lia
   have em:xs[(lo+hi) / 2]?=some (xs[(lo+hi) / 2]'hm):=af hm;have eg:xs.getD ((lo+hi) / 2) j=xs[(lo+hi) / 2]'hm:=by simp[eR,hm]
   show ∃i,(if xs.getD ((lo+hi) / 2) j<j then SetTable.below.go xs j fuel ((lo+hi) / 2+1) hi else SetTable.below.go xs j fuel lo ((lo+hi) / 2))=i/\_
   rw[eg]
   by_cases d:xs[(lo+hi) / 2]'hm<j
   .rw [oz d];refine BG hs fuel _ _ (by lia) (by lia) hh (λk v e hk=>?_) h2
    by_cases q:k=(lo+hi) / 2
    .subst q;rw[em]at e;cases e;exact d
    .exact gJ (hs _ _ _ _ e em (by lia)) d
   .rw [oB d];refine BG hs fuel _ _ (by lia) (by lia) (by lia) h1 λk v e hk=>?_
    by_cases q:k=(lo+hi) / 2
    .subst q;rw[em]at e;cases e;lia
    .have:=hs _ _ _ _ em e (by lia)
     lia
  .rw [oB c];exact⟨lo,rfl,by lia,h1,λk v e hk=>h2 k v e (by lia)⟩
theorem za{xs:Array Nat}(hs:Up xs) (j:Nat):SetTable.below xs j<=xs.size/\(∀k v,xs[k]?=some v->k<SetTable.below xs j->v<j)/\∀k v,xs[k]?=some v->SetTable.below xs j<=k->j<=v:=by
 obtain⟨i,e,h1,h2,h3⟩:=BG (j:=j) hs xs.size 0 xs.size (by lia) (aV _) (ag _) (λk v _ hk=>absurd hk (cX _)) (λk v e hk=>by
  have:=(aD.mp e).1;lia)
 have:SetTable.below xs j=i:=e;rw[this];exact⟨h1,h2,h3⟩
theorem Gk{xs:Array Nat}(hs:Up xs) {i v:Nat}(h:xs[i]?=some v):SetTable.below xs (v+1)=i+1:=by
 obtain⟨h1,h2,h3⟩:=za hs (v+1);generalize SetTable.below xs (v+1)=b at h1 h2 h3;have hi:=(aD.mp h).1
 by_cases c:b<=i
 .have:=h3 i v h c;lia
 .by_cases d:i+1<b
  .have hb:i+1<xs.size:=by lia
   have e:=af hb;have a:=h2 _ _ e d;have:=hs _ _ _ _ h e (cB i);lia
  .lia
theorem G3{xs:Array Nat}(hs:Up xs):SetTable.below xs 0=0:=by
 obtain⟨h1,h2,h3⟩:=za hs 0;generalize SetTable.below xs 0=b at h1 h2 h3
 by_cases c:b=0
 .exact c
 .have hb:0<xs.size:=by lia
  have:=h2 0 _ (af hb) (by lia)
  lia
theorem Ju{xs:Array Nat}(hs:Up xs) {j:Nat}(hn:∀k:Nat,xs[k]? ≠ some j):Up (SetTable.insertAt xs (SetTable.below xs j) j):=by
 refine Up.list ?_;rw[SetTable.toList_insertAt];obtain⟨h1,h2,h3⟩:=za hs j;generalize SetTable.below xs j=b at h1 h2 h3;have hp:=hs.pw;rw[aH];refine⟨hp.sublist (bD _ _),eh.mpr ⟨λv hv=>?_,hp.sublist (bI _ _)⟩,λu hu v hv=>?_⟩
 .obtain ⟨k,hk⟩:=bb.mp hv;rw[cI,aq]at hk;have a:=h3 _ v hk (by lia)
  have:v≠j:=λz=>hn _ (z ▸ hk)
  lia
 .obtain ⟨k,hk⟩:=bb.mp hu;rw[gI]at hk;split at hk
  .rename_i q;rw[aq]at hk;have a:=h2 k u hk q;rcases aj.mp hv with z|z
   .rw [z];exact a
   .obtain ⟨k2,hk2⟩:=bb.mp z;rw[cI,aq]at hk2;exact hs _ _ _ _ hk hk2 (by lia)
  .cases hk
theorem SJ:Up #[]:=λa b u v h=>by simp at h
theorem NU(n:Nat):Up (Array.range n):=λa b u v ha hb hl=>by
 rw[Array.getElem?_range]at ha hb;split at ha <;> split at hb
 .cases ha;cases hb;exact hl
 .cases hb
 .cases ha
 .cases ha
structure Tb (led:Bool) (t:SetTable):Prop where
 up:Up t.place
 dm:t.dummies=#[]
 led:t.led=led
theorem Tb.fresh(led:Bool):Tb led (.fresh 0 0 led):=⟨SJ,rfl,rfl⟩
theorem Tb.standIn{led:Bool}{t:SetTable}(h:Tb led t) (n:Nat):Tb led (t.standIn n):=⟨NU n,rfl,h.led⟩
theorem Tb.orStandIn{led:Bool}{t:SetTable}(h:Tb led t) (n:Nat):Tb led (t.orStandIn n):=by
 unfold SetTable.orStandIn;split
 .exact h
 .exact h.standIn n
theorem Tb.plain{led:Bool}{t:SetTable}(h:Tb led t) (b:Bool):Tb led { t with plain:=b }:=⟨h.up,h.dm,h.led⟩
theorem BY{t:SetTable}(hd:t.dummies=#[]) {h:Int}:∀(fuel:Nat) (p:SetTable.Probe) (m:SetTable.Met),p.dummy=none->SetTable.probe.go t (λ_=>h+1) h fuel p=some m->∃j,m = .empty j none/\t.slot j = .empty
 |0,p,m,_,e=>by rw[SetTable.probe.go]at e;cases e
 |fuel+1,p,m,hp,e=>by
  rw[SetTable.probe.go]at e;have adv:(t.advance p).dummy=none:=by
   unfold SetTable.advance;split <;> exact hp
  cases hs:t.slot p.j with
  |empty =>
   rw[hs]at e;cases e;exact⟨p.j,by rw[hp],hs⟩
  |dummy =>
   exfalso;unfold SetTable.slot at hs;simp only at hs;split at hs
   .cases hs
   .split at hs
    .rename_i q;unfold SetTable.has at q;rw[hd]at q;simp at q
    .cases hs
  |live i =>
   rw[hs]at e;have:((h+1:Int) == h)=false:=by
    rw[beq_eq_false_iff_ne];lia
   simp only[this,du,if_false]at e;exact BY hd fuel _ m adv e
theorem Kk{t:SetTable}(hs:Up t.place) {j:Nat}(h:t.slot j = .empty):∀k:Nat,t.place[k]? ≠ some j:=by
 intro k hk;obtain⟨h1,h2,h3⟩:=za hs j;unfold SetTable.slot at h;simp only at h;have hi:=(aD.mp hk).1;have e:k=SetTable.below t.place j:=by
  rcases fJ k (SetTable.below t.place j) with c|c|c
  .have:=h2 k j hk c;lia
  .exact c
  .have hb:=af (gJ c hi);have a:=h3 _ _ hb (ag _);have:=hs _ _ _ _ hb hk c;lia
 rw[←e,hk]at h;simp at h
theorem QX{led:Bool}{t:SetTable}(h:Tb led t) (es:Array (Int×Value)) (hh:Int) (x:Value):Tb led (layNew t es hh x).2.1:=by
 unfold layNew;split
 .rename_i slot wd e;refine Tb.orStandIn ?_ _;unfold SetTable.freeSlot at e;split at e
  .rename_i j d em;obtain⟨j',e1,e2⟩:=BY h.dm _ _ _ rfl em;cases e1;cases e;have hf:=Kk h.up e2;refine⟨Ju h.up hf,?_,h.led⟩;show (if SetTable.has t.dummies j then SetTable.eraseAt t.dummies (SetTable.below t.dummies j) else t.dummies)=#[]
   rw[h.dm];have:SetTable.has #[] j=false:=by simp[SetTable.has]
   rw[this];rfl
  .cases e
 .exact h.standIn _
theorem MV{led:Bool}{t:SetTable}(h:Tb led t) (es:Array (Int×Value)) (n:Nat):Tb led (kO t es n).2.1:=by
 unfold kO;split
 .rename_i t' order e;dsimp only;split
  .unfold SetTable.relaid SetTable.laid at e;obtain⟨ow,e1,e2⟩:=oBq.mp e;cases e2;refine⟨Up.list ?_,rfl,h.led⟩;show (((aN _).filterMap λj=>(ow.getD j none).map λx=>(j,x)).map (·.1)).Pairwise (· < ·)
   rw[cf,List.pairwise_filterMap];refine cR.imp ?_ List.pairwise_lt_range;intro a b hab x hx y hy;obtain⟨_,_,rfl⟩:=oMq.mp hx;obtain⟨_,_,rfl⟩:=oMq.mp hy;exact hab
  .exact h.standIn _
 .exact h.standIn _
end Ms
namespace Ms
open PySem PyProof.Rows Mr
def SI(prog:iT) (w:iU) (h:Heap) (a:Addr) (F:List Int):Prop :=
 ∃o es ep t,h.get? a=some o/\o.ExactSet/\o.data = .set es ep t/\ElemsOf (jE prog w) es.toList/\(∀e∈es.toList,∃k u,e.2 = .int k u)/\(es.toList.map λe=>Mr.intOf e.2).Perm F/\es.size<jB/\t.fits es.size=true/\Tb (!w.params.followText "set-order") t
def xE(F:List Int) (k:Int):List Int:=if k∈F then F else F++[k]
section
variable {prog:iT}{w:iU}{A:Around}{E:Value->Shared->Prop}{s:Shared}
theorem SI.keep{h h':Heap}{a:Addr}{F:List Int}(x:SI prog w h a F) (k:∀o,h.get? a=some o->h'.get? a=some o):SI prog w h' a F:=by
 obtain⟨o,es,ep,t,ho,r⟩:=x;exact⟨o,es,ep,t,k o ho,r⟩
theorem Fh{h:Heap}{a:Addr}{o:Obj}{es:Array (Int×Value)}{ep:Nat}{t:SetTable}(ho:h.get? a=some o) (hd:o.data = .set es ep t) (es':Array (Int×Value)) (t':SetTable) :
  (h.update a (Obj.putSet es' t')).get? a=some { o with data:=.set es' (ep+1) t' }:=by
 have:=cC (Obj.putSet es' t') ho (by rw[putSet_of es' t' hd];rfl)
 rw[putSet_of es' t' hd]at this;exact this
theorem Rm{a:Addr}{F:List Int}{k:Int}{u:Tok}{Q:Bool->Shared->Prop}(hS:SI prog w s.heap a F) (hroom:F.length+1<jB)
  (h:∀b h',bK a s.heap h'->SI prog w h' a (xE F k)->Q b { s with heap:=h' }) :
  iM (iO prog w) A (setAddHashed a (.int k u) ((jE prog w).hash k)) Q E s:=by
 obtain⟨o,es,ep,t,ho,hex,hd,hel,hin,hp,hb,hf,hT⟩:=hS;have hkey:=lZ prog w k u;have hsz:es.size=F.length:=by
  have:=hp.length_eq
  rwa [lMq,ao]at this
 have his:∀e∈es.toList,(jE prog w).is k e.2=true->Mr.intOf e.2=k:=λe he hk=>by
  obtain⟨m,v,ev⟩:=hin e he;rw[ev]at hk ⊢;exact(jE prog w).inj _ _ _ (lZ prog w m v) hk
 unfold setAddHashed setAddHashedIn;refine jo (iJ (jh ho hd hf ?_));dsimp only;rw[byScan_of (knd:=jE prog w) rfl hb hel];simp only[↓reduceIte];unfold setAddByScan;refine iJ ?_;refine iJ (lW ?_);refine iJ (wpAny_setScan_of hkey ho hd hf hel ?_);cases hr:List.findIdx? (λe=>(jE prog w).is k e.2) es.toList with
 |some j =>
  dsimp only;obtain⟨hj,hpj,_⟩:=List.findIdx?_eq_some_iff_getElem.mp hr;have hm:k∈F:=hp.mem_iff.mp (mMq.mpr ⟨_,gRq hj,his _ (gRq hj) hpj⟩);refine iN (iN ?_);have e:s={ s with heap:=s.heap }:=by cases s;rfl
  rw[e];refine h _ s.heap (bK.refl a s.heap) ?_;unfold xE;rw[oz hm];exact⟨o,es,ep,t,ho,hex,hd,hel,hin,hp,hb,hf,hT⟩
 |none =>
  dsimp only;have hm:k∉F:=λz=>by
   obtain⟨e,he,ek⟩:=mMq.mp (hp.mem_iff.mpr z);have:=List.findIdx?_eq_none_iff.mp hr e he;obtain⟨m,v,ev⟩:=hin e he;rw[ev]at ek this;have ek':m=k:=ek;rw[ek',lZ]at this;cases this
  have hgw:∀(b:Bool) {z:Shared}{Q':Unit->Shared->Prop},Q' () z->iM (iO prog w) A (match b with|true=>rule "set.scan.the-table-gave-way" |false=>pure ()) Q' E z:=λb z Q' hq=>by cases b <;> first|exact iN hq|exact lW hq
  have hperm:=layNew_perm t es ((jE prog w).hash k) (.int k u);have hfits:=layNew_fits t es ((jE prog w).hash k) (.int k u);have hT1:=QX hT es ((jE prog w).hash k) (.int k u);generalize hL:layNew t es ((jE prog w).hash k) (.int k u)=L at hperm hfits hT1 ⊢;obtain⟨es1,t1,wasDummy,gave⟩:=L;dsimp only at hperm hfits hT1 ⊢;rw[cQ]at hperm;have hel1:ElemsOf (jE prog w) es1.toList:=(hel.push hkey rfl).perm hperm;have hin1:∀e∈es1.toList,∃k u,e.2 = .int k u:=λe he=>by
   rcases mAq.mp (hperm.mem_iff.mp he) with z|z
   .exact hin e z
   .rw [mSq.mp z];exact⟨k,u,rfl⟩
  have hp1:(es1.toList.map λe=>Mr.intOf e.2).Perm (xE F k):=by
   unfold xE;rw[oB hm];refine(hperm.map _).trans ?_;rw[mBq];exact hp.append_right _
  have hz1:es1.size=es.size+1:=by
   have:=hperm.length_eq
   rwa [lAq,ao,ao]at this
  have hb1:es1.size<jB:=by rw[hz1,hsz];exact hroom
  refine iJ (hgw _ ?_);have fin:∀{t2:SetTable},t2.fits es1.size=true->Tb (!w.params.followText "set-order") t2->∀{R:Option Bool->Shared->Prop},(∀h',bK a s.heap h'->SI prog w h' a (xE F k)->R (some true) { s with heap:=h' }) ->
    iM (iO prog w) A (do
     storeSet a es1 t2
     if (!wasDummy && t2.tooFull)=true then do
       (match (kO t2 es1 (SetTable.grown es1.size)).2.2 with|true=>rule "set.scan.the-table-gave-way" |false=>pure ())
       storeSet a (kO t2 es1 (SetTable.grown es1.size)).1 (kO t2 es1 (SetTable.grown es1.size)).2.1
       pure (some true)
      else pure (some true)) R E s:=by
   intro t2 hf2 hT2 R hR;refine iJ (wpAny_storeSet_of ho hd ?_ (kG hb1));have g1:=Fh ho hd es1 t2;have sb1:=bK.update s.heap a (Obj.putSet es1 t2);split
   .have q1:=relayAll_perm t2 es1 (SetTable.grown es1.size);have q2:=relayAll_fits t2 es1 (SetTable.grown es1.size);have q3:=MV hT2 es1 (SetTable.grown es1.size);generalize kO t2 es1 (SetTable.grown es1.size)=V at q1 q2 q3 ⊢;obtain⟨es2,t3,gv⟩:=V;dsimp only at q1 q2 q3 ⊢;have hz2:es2.size=es1.size:=by
     have:=q1.length_eq
     rwa [ao,ao]at this
    refine iJ (hgw _ ?_);refine iJ (wpAny_storeSet_of g1 rfl ?_ (kG (by rw[hz2];exact hb1)))
    have g2:=Fh g1 rfl es2 t3;exact iN (hR _ (sb1.trans (bK.update _ a _)) ⟨_,es2,_,t3,g2,hex,rfl,hel1.perm q1,λe he=>hin1 e (q1.mem_iff.mp he),(q1.map _).trans hp1,by rw[hz2];exact hb1,q2,q3⟩)
   .exact iN (hR _ sb1 ⟨_,es1,_,t2,g1,hex,rfl,hel1,hin1,hp1,hb1,hf2,hT2⟩)
  split
  .refine iJ ?_;rw[hashByValue_scannable 8 (x:=.int k u) rfl];refine iN ?_;refine fin ?_ ?_ λh' sb hS'=>?_
   .split
    .exact hfits
    .exact SetTable.fits_plain_off hfits
   .split
    .exact hT1
    .exact hT1.plain false
   .dsimp only;exact iN (h _ h' sb hS')
  .refine iJ (iN ?_);simp only[↓reduceIte];refine fin hfits hT1 λh' sb hS'=>?_
   dsimp only;exact iN (h _ h' sb hS')
end
def dd(ns:List Int):List Int:=ns.foldl xE []
theorem OX(ns:List Int) (k:Int):dd (ns++[k])=xE (dd ns) k:=by
 unfold dd;rw[fL];rfl
theorem K9(F:List Int) (k:Int):(xE F k).length<=F.length+1:=by
 unfold xE;split
 .lia
 .simp
theorem MR{F:List Int}{k x:Int}:x∈xE F k↔x∈F∨x=k:=by
 unfold xE;split
 .rename_i h;exact⟨.inl,λq=>q.elim id λq=>q ▸ h⟩
 .simp
theorem PH{F:List Int}{k:Int}(h:F.Nodup):(xE F k).Nodup:=by
 unfold xE;split
 .exact h
 .rename_i q;rw[nAq];exact⟨h,by simp,λx hx y hy z=>q (by rw[mSq.mp hy]at z;rw[←z];exact hx)⟩
theorem BH:∀(ns F:List Int),(ns.foldl xE F).length<=F.length+ns.length/\(∀x,x∈ns.foldl xE F↔x∈F∨x∈ns)/\(F.Nodup->(ns.foldl xE F).Nodup)
 | [],F=>⟨by simp,by simp,λh=>h⟩
 |n::ns,F=>by
  obtain⟨h1,h2,h3⟩:=BH ns (xE F n);have:=K9 F n;rw[cm,lCq];refine⟨by lia,λx=>?_,λh=>h3 (PH h)⟩
  rw[h2 x,MR,aj,or_assoc]
theorem Gp(ns:List Int):(dd ns).length<=ns.length:=by
 have:=(BH ns []).1;simpa [dd] using this
theorem RT{ns:List Int}{x:Int}:x∈dd ns↔x∈ns:=by
 have:=(BH ns []).2.1 x;simpa [dd] using this
section
variable {prog:iT}{w:iU}{A:Around}{E:Value->Shared->Prop}{s:Shared}{R:Result->Shared->Prop}{l I S:Addr}{vs:List Value}{ns:List Int}
theorem Mf(hh:A.handled=none) (hi:jd vs ns) (hlI:l≠I) (hSI:S≠I) (hSl:S≠l) (hb:ns.length+1<jB):∀(k j:Nat) (z:Shared),vs.length-j=k->j<=vs.length->z.heap.IsListIter I l j->z.heap.IsList l vs.toArray->SI prog w z.heap S (dd (ns.take j)) ->
  (∀h' tk,SI prog w h' S (dd ns)->(∀b o,b≠I->b≠S->z.heap.get? b=some o->h'.get? b=some o)->R (.ok (.ret .none)) { z with heap:=h',toks:=tk }) ->
  jF (iO prog w) A (.builtin "set.update.loop" ⟨[.ref S,.ref I],[]⟩) R z:=by
 have W:=Walks.list (prog:=prog) (w:=w) (A:=A.in1) hh I l hlI vs.toArray;have vl:vs.toArray.size=vs.length:=ay ..;have hln:=hi.length;intro k
 induction k with
 |zero =>
  intro j z hk hj hst hL hS hR;have hjn:j=vs.toArray.size:=by rw[vl];lia
  refine jf PyProof.Rows.F.entry_set_update_loop ?_;rw[Around.under_plainId PyProof.Rows.F.plain_set_update_loop _];show iM _ A.in1 (jR (.ref I) >>= _) _ _ z;refine iJ (W.done z _ _ ⟨hjn ▸ hst,hL⟩ λh' tk kp=>?_)
  show iM _ A.in1 (ret cg) _ _ _;refine iN (hR h' tk ?_ λb o nI _ e=>kp b o (by simpa using nI) e)
  rw[cj (by lia)]at hS
  exact hS.keep λo e=>kp S o (by simpa using hSI) e
 |succ k ih =>
  intro j z hk hj hst hL hS hR;have hlt:j<vs.toArray.size:=by rw[vl];lia
  refine jf PyProof.Rows.F.entry_set_update_loop ?_;rw[Around.under_plainId PyProof.Rows.F.plain_set_update_loop _];show iM _ A.in1 (jR (.ref I) >>= _) _ _ z;refine iJ (W.item j z _ _ hlt ⟨hst,hL⟩ λv h' tk hP Bw kp=>?_)
  obtain⟨n,hn⟩:∃n,ns[j]?=some n:=⟨_,gEg (by lia)⟩
  obtain⟨u,hu⟩:=hi.get j n hn;have hv:vs[j]?=some v:=by simpa using hP
  rw[hu]at hv;cases hv;have hS':SI prog w h' S (dd (ns.take j)):=hS.keep λo e=>kp S o (by simpa using hSI) e
  show iM _ A.in1 (holding [eK n u] (setAdd S (.int n u)) >>= _) _ _ _;refine iJ (jo ?_);unfold setAdd;refine jo ?_;refine iJ ((jE prog w).pyHash (k:=n) (lZ _ _ _ _) ?_);have hrm:(dd (ns.take j)).length+1<jB:=by
   have a:=Gp (ns.take j);rw[lTq]at a;lia
  refine Rm hS' hrm λb h2 sb hS2=>?_
  have ht:ns.take (j+1)=ns.take j++[n]:=by rw[bw,hn];rfl
  rw[←OX,←ht]at hS2;refine iN ⟨jQ PyProof.Rows.F.plain_set_update_loop _,ih (j+1) _ (by lia) (by lia) (Bw.1.extBut sb.extBut (Ne.symm hSI)) (Bw.2.extBut sb.extBut (Ne.symm hSl)) hS2 λh3 tk3 hS3 kp3=>?_⟩
  exact hR h3 tk3 hS3 λb o nI nS e=>kp3 b o nI nS (sb.extBut b o nS (kp b o (by simpa using nI) e))
theorem KZ(a:Value) {Q1:Value->Shared->Prop}
  (h:Q1 (.ref s.heap.objs.size) { s with heap:=s.heap.push { cls:=.type "set", dict:=none,data:=.set #[] 0 (.fresh 0 0 (!w.params.followText "set-order")) } }) :
  jF (iO prog w) A (.call (.builtin "set.__new__") ⟨[.type "set", a],[]⟩) (wants Q1 E) s:=by
 refine kR ?_;show iM _ A.in1 (do checkBuiltinCall "set.__new__" ⟨[.type "set", a],[]⟩;again (.builtin "set.__new__" ⟨[.type "set", a],[]⟩)) _ _ s
 refine iJ (kX (PySem.F.newCall_set_1 a) (iN ⟨jQ gf _,jf PySem.F.entry_set_new ?_⟩));rw[Around.under_plainId gf _];unfold Builtin.«set.__new__» Builtin.Frozenset.newClass;have hsub:=sub_set_self;obtain⟨hp,g,d,tk,os⟩:=s;dsimp only
 wp_walk
 refine kN (iN ?_);dsimp only;simp only[newObj];refine iJ (wpAny_alloc (iN ?_));exact iN h
theorem SI.fresh{h:Heap}{a:Addr}(ho:h.get? a=some { cls:=.type "set", dict:=none,data:=.set #[] 0 (.fresh 0 0 (!w.params.followText "set-order")) }):SI prog w h a [] :=
 ⟨_,#[],0,_,ho,⟨rfl,rfl,rfl⟩,rfl,λe he=>by simp at he,λe he=>by simp at he,.refl _,by unfold jB;decide,rfl,Tb.fresh _⟩
theorem Na{Q:Value->Shared->Prop}(hh:A.handled=none) (hl:s.heap.IsList l vs.toArray) (hi:jd vs ns) (hb:ns.length+1<jB)
  (h:∀(h':Heap) (tk:Nat),SI prog w h' s.heap.objs.size (dd ns)->(∀b o,s.heap.get? b=some o->h'.get? b=some o)->Q (.ref s.heap.objs.size) { s with heap:=h',toks:=tk }) :
  iM (iO prog w) A (call (.type "set") [.ref l]) Q E s:=by
 obtain⟨c,tl,hmro⟩:=bU.mro;have hmade:=bU.made;have hsub:=bU.sub;refine lY (kR ?_);show iM _ _ (callAny (.type "set") _) _ _ _;refine iN ⟨Code.quiet_builtin _ (by decide +kernel),jf PySem.F.entry_type_call ?_⟩
 rw[Around.under_plain (weight_type_call_type "set" [.ref l] []) rfl];have h1:=bU.notType;have h2:=bU.canCreate;have hct:=PySem.F.typeCall_set_1 (.ref l)
 repeat (any_goals (first|assumption|wp_step))
 generalize hg1:s.heap.push { cls:=.type "set", dict:=none,data:=.set #[] 0 (.fresh 0 0 (!w.params.followText "set-order")) }=g1;have z1:g1.objs.size=s.heap.objs.size+1:=by rw[←hg1];exact dN ..
 have k1:∀b o,s.heap.get? b=some o->g1.get? b=some o:=λb o e=>by rw[←hg1];exact ae _ e
 have o1:g1.get? s.heap.objs.size=some { cls:=.type "set", dict:=none,data:=.set #[] 0 (.fresh 0 0 (!w.params.followText "set-order")) }:=by rw[←hg1];exact az _ rfl
 refine ky (KZ (.ref l) (E:=E) (Q1:=λobj z=>obj = .ref s.heap.objs.size/\z={ s with heap:=g1 }) ⟨rfl,by rw[hg1]⟩) λr z hr=>?_
 cases r with
 |error e=>exact hr
 |ok fl =>
  cases fl with
  |ret obj =>
   obtain⟨rfl,rfl⟩:=hr;have hT:Shared.TypeIs { s with heap:=g1 } (.ref s.heap.objs.size) "set" := ⟨_,o1,rfl⟩
   have hli:=bU.init.lookup;have hbi:=bU.init.bind (.ref s.heap.objs.size)
   repeat (any_goals (first|assumption|wp_step))
   refine ky (lV (R:=wants (λr y=>r = .none/\∃h' tk,y={ s with heap:=h',toks:=tk }/\SI prog w h' s.heap.objs.size (dd ns)/\∀b o,s.heap.get? b=some o->h'.get? b=some o) E) bU.init.plain PySem.F.entry_set_init (check_set_init_1 hT ?_)) λr2 y hr2=>?_
   .obtain ⟨⟨oc,od,odt,osl⟩,hol,hcl,nl,hdl⟩:=hl;simp only at hcl hdl;subst hcl;subst hdl;have hol1:=k1 l _ hol;have n1:=PySem.F.sub_list_set;have n2:=PySem.F.sub_list_frozenset;have n3:(cJ "list" == cJ "dict")=false:=by decide
    have hl1:g1.IsList l vs.toArray:=⟨_,hol1,rfl,nl,rfl⟩;unfold Builtin.«set.__init__» noKeywords Builtin.Frozenset.updateFrom;generalize hPI:pyIter=PI
    wp_walk
    subst hPI;refine wpAny_pyIter_list hl1 ?_;refine iJ (lF ?_);have hlS:l<s.heap.objs.size:=ai hol;have hh3:A.in1.in1.handled=none:=by simp[hh]
    have lI:l≠g1.objs.size:=by rw[z1];exact aw (bE hlS)
    have sI:s.heap.objs.size≠g1.objs.size:=by rw[z1];exact aw (cB _)
    refine Mf (prog:=prog) (w:=w) (vs:=vs) (ns:=ns) hh3 hi lI sI (cz hlS) hb _ 0 _ rfl (aV _) ⟨_,az _ rfl,rfl,rfl⟩ (hl1.push _) (SI.fresh (ae _ o1)) λh' tk hS kp=>?_
    show iM _ _ _ _ _ _;refine iN ?_;show iM _ _ (ret cg) _ _ _;refine iN ⟨rfl,h',tk,rfl,hS,λb o e=>kp b o ?_ ?_ (ae _ (k1 b o e))⟩
    .have:=ai e;rw[z1];exact aw (bE this)
    .exact aw (ai e)
   .cases r2 with
    |error e=>exact hr2
    |ok fl2 =>
     cases fl2 with
     |ret r =>
      obtain⟨rfl,h',tk,rfl,hS',hk'⟩:=hr2
      repeat (any_goals (first|assumption|wp_step))
      exact h _ _ hS' hk'
     |_=>exact hr2.elim
  |_=>exact hr.elim
end
theorem qW:Slot "set_iterator" "__next__" "set_iterator.__next__" :=
 .of (owner := "set_iterator") (n := "__next__") (by rw[typeLookup_type,ly];kernel_rfl) (by decide +kernel) (by decide +kernel) (by decide +kernel) (.inl (by decide +kernel)) (by rw[jL];kernel_rfl)
theorem wZ:entryFor table "set_iterator.__next__" = some Builtin.«set_iterator.__next__»:=entryFor_of_tree (by kernel_rfl)
theorem ye(a:Value):argsOk "set_iterator.__next__" ⟨[a],[]⟩:=by unfold argsOk;kernel_rfl
theorem Df:Slot "set_iterator" "__iter__" "set_iterator.__iter__" :=
 .of (owner := "set_iterator") (n := "__iter__") (by rw[typeLookup_type,ly];kernel_rfl) (by decide +kernel) (by decide +kernel) (by decide +kernel) (.inl (by decide +kernel)) (by rw[jL];kernel_rfl)
theorem Hh:entryFor table "set_iterator.__iter__" = some Builtin.«dict_keyiterator.__iter__»:=entryFor_alias (id' := "dict_keyiterator.__iter__") (by kernel_rfl) rfl (by decide +kernel) (by kernel_rfl)
theorem Ji(a:Value):argsOk "set_iterator.__iter__" ⟨[a],[]⟩:=by unfold argsOk;kernel_rfl
theorem Gq:entryFor table "set.__iter__" = some Builtin.«frozenset.__iter__»:=entryFor_alias (id' := "frozenset.__iter__") (by kernel_rfl) rfl (by decide +kernel) (by kernel_rfl)
def SA(h:Heap) (a:Addr) (es:Array (Int×Value)) (ep:Nat) (t:SetTable):Prop:=∃o,h.get? a=some o/\o.ExactSet/\o.data = .set es ep t
def IA(h:Heap) (I:Addr) (f:Value) (i:Nat) (a:Addr) (n ep:Nat):Prop:=h.get? I=some { cls:=.type "set_iterator", dict:=none,data:=.fields #[f,iX i,.ref a,iX n,iX ep],slots:=#[] }
section
variable {prog:iT}{w:iU}{A:Around}{E:Value->Shared->Prop}{s:Shared}{I a T:Addr}{es:Array (Int×Value)}{ep i n:Nat}{t:SetTable}{f:Value}
theorem IA.type(h:IA s.heap I f i a n ep):s.TypeIs (.ref I) "set_iterator" := ⟨_,h,rfl⟩
theorem IA.self{Q:Value->Shared->Prop}(h:IA s.heap I f i a n ep) (q:Q (.ref I) s):iM (iO prog w) A (pyIter (.ref I)) Q E s:=by
 refine wpAny_pyIter_slot h.type Df (jg Df h.type Hh ?_ (Ji _));show iM _ _ (ret (.ref I)) _ _ s;exact iN ⟨_,rfl, "set_iterator", _,h.type,qW.lookup,q⟩
theorem vd{Q:Array (Int×Value)->Shared->Prop}(hS:SA s.heap a es ep t) (hf:t.fits es.size=true) (h:Q es s):iM (iO prog w) A (kA a) Q E s:=by
 obtain⟨o,ho,_,hd⟩:=hS;unfold kA;exact iJ (jh ho hd hf (iN h))
theorem EG{Q:Bool->Shared->Prop}(h:Q (w.params.followText "set-order") s):iM (iO prog w) A setsByText Q E s:=by
 unfold setsByText;exact iJ (kN (iN h))
theorem JE{sl nx:Nat}{x:Value}{Q:Option Value->Shared->Prop}(hI:IA s.heap I (iX sl) i a n ep) (hS:SA s.heap a es ep t) (hf:t.fits es.size=true) (hn:es.size=n)
  (hx:∀(A':Around) (E':Value->Shared->Prop) (Q':Option (Value×Nat)->Shared->Prop),Q' (some (x,nx)) s->iM (iO prog w) A' (kq a sl i ep) Q' E' s)
  (hQ:∀h',IA h' I (iX nx) (i+1) a n ep->bK I s.heap h'->Q (some x) { s with heap:=h' }):iM (iO prog w) A (jR (.ref I)) Q E s:=by
 unfold jR;refine iJ (ki (jD (name:=Str.ofString "__next__") hI.type qW (jg qW hI.type wZ ?_ (ye _))));unfold Builtin.«set_iterator.__next__»;refine iJ (iN ?_);refine iJ (kC hI rfl ?_);show iM _ _ (kA a >>= _) _ _ s;refine iJ (vd hS hf ?_);rw[oB (by rw[hn];simp)]
 show iM _ _ (kq a ((sl:Int)).toNat ((i:Int)).toNat ((ep:Int)).toNat >>= _) _ _ s;rw[aX,aX,aX];refine iJ (hx _ _ _ ?_);show iM _ _ (mh (.ref I) 0 (iX nx) >>= _) _ _ s;refine iJ (ju hI (by simp) λh1 e1 b1=>?_)
 show iM _ _ (mh (.ref I) 1 (iX ((i:Int)+1)) >>= _) _ _ _;refine iJ (ju e1 (by simp) λh2 e2 b2=>?_)
 show iM _ _ (ret x) _ _ _;exact iN ⟨_,rfl,iN (hQ h2 (by simpa [IA] using e2) (bK.trans b1 b2))⟩
theorem Kh{sl:Nat}{Q:Option Value->Shared->Prop}(hh:A.handled=none) (hI:IA s.heap I (iX sl) i a n ep) (hS:SA s.heap a es ep t) (hf:t.fits es.size=true) (hn:es.size=n)
  (hx:∀(A':Around) (E':Value->Shared->Prop) (Q':Option (Value×Nat)->Shared->Prop),Q' none s->iM (iO prog w) A' (kq a sl i ep) Q' E' s)
  (hQ:∀h',iE I s.heap h'->Q none { s with heap:=h' }):iM (iO prog w) A (jR (.ref I)) Q E s:=by
 unfold jR;refine iJ (ki (jD (name:=Str.ofString "__next__") hI.type qW (jg qW hI.type wZ ?_ (ye _))));unfold Builtin.«set_iterator.__next__»;refine iJ (iN ?_);refine iJ (kC hI rfl ?_);show iM _ _ (kA a >>= _) _ _ s;refine iJ (vd hS hf ?_);rw[oB (by rw[hn];simp)]
 show iM _ _ (kq a ((sl:Int)).toNat ((i:Int)).toNat ((ep:Int)).toNat >>= _) _ _ s;rw[aX,aX,aX];refine iJ (hx _ _ _ ?_);show iM _ _ (mh (.ref I) 2 .none >>= _) _ _ s;refine iJ (ju hI (by simp) λh1 e1 b1=>?_)
 show iM _ _ (newExc (.type "StopIteration") [] >>= _) _ _ _;refine iJ ?_;simp only[newExc,newTuple];refine iJ (ji ?_ (by size_fits))
 refine iJ (m:=kE _ _) (kX (a:=cg) (by first|rfl|(simp only[kE];rfl)) ?_)
 refine ji ?_ (by size_fits)
 simp only[raiseNew];refine iJ (wpAny_handled ?_);rw[show A.in1.handled=none from hh]
 refine iJ (iN (wpAny_throw ?_));refine iJ (kM (T := "StopIteration") (b:=true) ⟨_,az _ rfl,rfl⟩ isSubtype_stop ?_);exact iN (hQ _ ((b1.extBut.push _).push _))
theorem Hx{ps:Array Value}{p:Nat}{u:Tok}{e:Int×Value}{Q:Option Value->Shared->Prop}(hI:IA s.heap I (.ref T) i a n ep) (hS:SA s.heap a es ep t) (hf:t.fits es.size=true) (hn:es.size=n) (hT:s.heap.IsTuple T ps) (hp:ps[i]?=some (.int (p:Int) u)) (he:es[p]?=some e)
  (hQ:∀h',IA h' I (.ref T) (i+1) a n ep->bK I s.heap h'->Q (some e.2) { s with heap:=h' }):iM (iO prog w) A (jR (.ref I)) Q E s:=by
 unfold jR;refine iJ (ki (jD (name:=Str.ofString "__next__") hI.type qW (jg qW hI.type wZ ?_ (ye _))));unfold Builtin.«set_iterator.__next__»;refine iJ (iN ?_);refine iJ (kC hI rfl ?_);show iM _ _ (kA a >>= _) _ _ s;refine iJ (vd hS hf ?_);rw[oB (by rw[hn];simp)]
 obtain⟨oT,hoT,hcT,m,hdT⟩:=hT;show iM _ _ (seqItems? (.ref T) >>= _) _ _ s;refine iJ (wpAny_seqItems hoT hdT ?_);simp only[aX,hp];obtain⟨o,ho,_,hd⟩:=hS;refine iJ ?_;unfold setNextDrawn;refine iJ (jh ho hd hf ?_);simp only[bne_self_eq_false,du,if_false,aX,he];refine iN ?_;show iM _ _ (mh (.ref I) 1 (iX ((i:Int)+1)) >>= _) _ _ _;refine iJ (ju hI (by simp) λh2 e2 b2=>?_)
 exact iN ⟨_,rfl,iN (hQ h2 (by simpa [IA] using e2) b2)⟩
theorem Gm{ps:Array Value}{Q:Option Value->Shared->Prop}(hh:A.handled=none) (hI:IA s.heap I (.ref T) i a n ep) (hS:SA s.heap a es ep t) (hf:t.fits es.size=true) (hn:es.size=n) (hT:s.heap.IsTuple T ps) (hp:ps[i]?=none)
  (hQ:∀h',iE I s.heap h'->Q none { s with heap:=h' }):iM (iO prog w) A (jR (.ref I)) Q E s:=by
 unfold jR;refine iJ (ki (jD (name:=Str.ofString "__next__") hI.type qW (jg qW hI.type wZ ?_ (ye _))));unfold Builtin.«set_iterator.__next__»;refine iJ (iN ?_);refine iJ (kC hI rfl ?_);show iM _ _ (kA a >>= _) _ _ s;refine iJ (vd hS hf ?_);rw[oB (by rw[hn];simp)]
 obtain⟨oT,hoT,hcT,m,hdT⟩:=hT;show iM _ _ (seqItems? (.ref T) >>= _) _ _ s;refine iJ (wpAny_seqItems hoT hdT ?_);simp only[aX,hp];refine iJ (ju hI (by simp) λh0 e0 b0=>?_)
 refine iJ (ju e0 (by simp) λh1 e1 b1=>?_)
 show iM _ _ (newExc (.type "StopIteration") [] >>= _) _ _ _;refine iJ ?_;simp only[newExc,newTuple];refine iJ (ji ?_ (by size_fits))
 refine iJ (m:=kE _ _) (kX (a:=cg) (by first|rfl|(simp only[kE];rfl)) ?_)
 refine ji ?_ (by size_fits)
 simp only[raiseNew];refine iJ (wpAny_handled ?_);rw[show A.in1.handled=none from hh]
 refine iJ (iN (wpAny_throw ?_));refine iJ (kM (T := "StopIteration") (b:=true) ⟨_,az _ rfl,rfl⟩ isSubtype_stop ?_);exact iN (hQ _ (((bK.trans b0 b1).extBut.push _).push _))
theorem erase_perm{α:Type}:∀(l:List α) (i:Nat) (h:i<l.length),(l[i]::l.eraseIdx i).Perm l
 |x::l,0,_=>.refl _
 |x::l,i+1,h=>(aQ.swap _ _ _).trans (.cons x (erase_perm l i (by simpa using h)))
theorem Kj{src:Source}{m:Nat}{Q:Nat->Shared->Prop}(hm:m≠0) (h:∀i d',i<m->Q i { s with drawn:=d' }):iM (iO prog w) A (choose src m) Q E s:=λΓ p hΓ=>by
 show Sem.wp _ _ (Sem.choose src m Sem.pure) _ _ _ _;rw[Sem.wp_choose];exact⟨hm,h _ _ (hZ _ (eA hm))⟩
theorem II{α:Type}:∀(m:Nat) (xs:List α) (s:Shared) (Q:List α->Shared->Prop),m=xs.length->(∀ys d',ys.Perm xs->Q ys { s with drawn:=d' })->iM (iO prog w) A (drawOrder m xs) Q E s
 |0,xs,s,Q,hm,h=>by
  have:xs=[]:=bZ.mp hm.symm;subst this;unfold drawOrder;exact iN (h [] s.drawn (.refl _))
 |m+1,[],s,Q,hm,h=>by cases hm
 |m+1,x::xs,s,Q,hm,h=>by
  unfold drawOrder;refine iJ (Kj (by simp) λi d' hi=>?_)
  have e:(x::xs)[i]?=some ((x::xs)[i]'hi):=gEg hi;rw[e];refine iJ (II m _ _ _ (by rw[cO,oz hi];simp at hm ⊢;lia) λys d2 hp=>iN (h _ _ ?_))
  exact(aQ.cons _ hp).trans (erase_perm _ _ hi)
theorem HW{α:Type}(nx:Nat->Nat):∀(m k:Nat) (xs:List α) (out:Array α),m=xs.length->(pickOrder.go nx m k xs out).toList.Perm (out.toList++xs)
 |0,k,xs,out,hm=>by
  have:xs=[]:=bZ.mp hm.symm;subst this;rw[pickOrder.go,aNq]
 |m+1,k,xs,out,hm=>by
  have hi:nx k % xs.length<xs.length:=hZ _ (by lia)
  rw[pickOrder.go];rw[gEg hi];dsimp only;refine(HW nx m (k+1) _ _ (by rw[cO,oz hi];lia)).trans ?_
  rw[cQ,ah];exact aQ.append_left _ (erase_perm _ _ hi)
theorem Jc{α:Type}(nx:Nat->Nat) (xs:Array α):(pickOrder nx xs).toList.Perm xs.toList:=by
 have:=HW nx xs.size 0 xs.toList #[] (by rw[ao])
 simpa [pickOrder] using this
end
theorem SA.keep{h h':Heap}{a:Addr}{es:Array (Int×Value)}{ep:Nat}{t:SetTable}(x:SA h a es ep t) (k:∀o,h.get? a=some o->h'.get? a=some o):SA h' a es ep t:=by
 obtain⟨o,ho,r⟩:=x;exact⟨o,k o ho,r⟩
section
variable {prog:iT}{w:iU}{A:Around}{E:Value->Shared->Prop}{s:Shared}{I a T:Addr}{es:Array (Int×Value)}{ep:Nat}{t:SetTable}
theorem Ds{items:List Value}{sl:Nat->Nat}(hh:A.handled=none) (hIa:a≠I) (hf:t.fits es.size=true) (hn:es.size=items.length)
  (Hn:∀(i:Nat) (A':Around) (E':Value->Shared->Prop) (Q':Option (Value×Nat)->Shared->Prop) (z:Shared),i<=items.length->SA z.heap a es ep t->Q' (items[i]?.map λx=>(x,sl (i+1))) z->iM (iO prog w) A' (kq a (sl i) i ep) Q' E' z) :
  Walks prog w A I [I,a] [I] items.length (λi v=>items[i]?=some v) (λi h=>i<=items.length/\IA h I (iX (sl i)) i a items.length ep/\SA h a es ep t) where
 sub:=λb hb=>by rw[mSq.mp hb];simp
 frame:=λi h h' st k=>⟨st.1,k I (by simp) _ st.2.1,st.2.2.keep λo e=>k a (by simp) o e⟩
 item:=λi s Q E hi st hQ=>by
  have e:=gEg hi;refine JE st.2.1 st.2.2 hf hn (nx:=sl (i+1)) (x:=items[i]) (λA' E' Q' q=>Hn i A' E' Q' s st.1 st.2.2 (by rw[e];exact q)) λh' ih sb=>?_
  exact hQ _ h' s.toks e ⟨hi,ih,st.2.2.keep λo q=>sb.extBut a o hIa q⟩ λb o hb q=>sb.extBut b o (by simpa using hb) q
 done:=λs Q E st hQ=>by
  have e:items[items.length]?=none:=bu (ag _);exact Kh hh st.2.1 st.2.2 hf hn (λA' E' Q' q=>Hn _ A' E' Q' s st.1 st.2.2 (by rw[e];exact q)) λh' eb=>hQ h' s.toks λb o hb q=>eb b o (by simpa using hb) q
 self:=λi s Q E st hQ=>st.2.1.self hQ
theorem Hm{items:List Value}{ps:List Nat}(hh:A.handled=none) (hIa:a≠I) (hIT:T≠I) (hf:t.fits es.size=true) (hn:es.size=items.length) (hl:ps.length=items.length) (hp:∀i p:Nat,ps[i]?=some p->∃e:Int×Value,es[p]?=some e/\items[i]?=some e.2) :
  Walks prog w A I [I,a,T] [I] items.length (λi v=>items[i]?=some v) (λi h=>i<=items.length/\IA h I (.ref T) i a items.length ep/\SA h a es ep t/\h.IsTuple T (ps.map λp:Nat=>iX p).toArray) where
 sub:=λb hb=>by rw[mSq.mp hb];simp
 frame:=λi h h' st k=>⟨st.1,k I (by simp) _ st.2.1,st.2.2.1.keep λo e=>k a (by simp) o e,let ⟨o,ho,r⟩:=st.2.2.2;⟨o,k T (by simp) o ho,r⟩⟩
 item:=λi s Q E hi st hQ=>by
  have hi2:i<ps.length:=by rw[hl];exact hi
  have e:=gEg hi2;obtain⟨x,hx,hy⟩:=hp i _ e;refine Hx (u:=0) (p:=ps[i]) (e:=x) st.2.1 st.2.2.1 hf hn st.2.2.2 (by rw[gg,gMq,e];rfl) hx λh' ih sb=>?_
  exact hQ _ h' s.toks hy ⟨hi,ih,st.2.2.1.keep λo q=>sb.extBut a o hIa q,let ⟨o,ho,r⟩:=st.2.2.2;⟨o,sb.extBut T o hIT ho,r⟩⟩ λb o hb q=>sb.extBut b o (by simpa using hb) q
 done:=λs Q E st hQ=>Gm hh st.2.1 st.2.2.1 hf hn st.2.2.2 (by rw[gg];exact bu (by rw[lMq,hl];exact ag _)) λh' eb=>hQ h' s.toks λb o hb q=>eb b o (by simpa using hb) q
 self:=λi s Q E st hQ=>st.2.1.self hQ
def Qm(t:SetTable) (i:Nat):Nat:=if i=0 then 0 else t.place.getD (i-1) 0+1
theorem JK(hu:Up t.place) {i:Nat}(hi:i<=t.place.size):SetTable.below t.place (Qm t i)=i:=by
 unfold Qm
 by_cases c:i=0
 .rw [oz c,c];exact G3 hu
 .rw [oB c];have hl:i-1<t.place.size:=by lia
  have e:=af hl;have eg:t.place.getD (i-1) 0=t.place[i-1]'hl:=by simp[eR,hl]
  rw[eg,Gk hu e];lia
theorem L3(hf:t.fits es.size=true) (hT:Tb true t) (hw:w.params.followText "set-order" = false) (hd:(!t.plain && decide (es.size>1))=false) {i:Nat}(hi:i<=es.size) (hS:SA s.heap a es ep t) {Q:Option (Value×Nat)->Shared->Prop}
  (h:Q ((es[i]?).map λe=>(e.2,Qm t (i+1))) s):iM (iO prog w) A (kq a (Qm t i) i ep) Q E s:=by
 obtain⟨o,ho,_,hdt⟩:=hS;have hps:t.place.size=es.size:=by
  simp only[SetTable.fits,dR,beq_iff_eq,decide_eq_true_eq]at hf;exact hf.1
 unfold kq;refine iJ (jh ho hdt hf ?_);refine iJ (EG ?_);rw[hw];show iM _ _ (if (false:Bool)=true then _ else _) _ _ s
 rw[oB aR];refine jG (λz=>absurd (show (!t.plain && decide (es.size>1))=true from z) (by rw[hd];decide)) (λ_=>?_)
 refine iJ ?_;refine jG (λz=>absurd (show (!t.led && !es.isEmpty)=true from z) (by rw[hT.led];simp)) (λ_=>iN ?_)
 rw[JK hT.up (by rw[hps];exact hi)]
 refine iN ?_
 by_cases c:i<es.size
 .have e1:=af c;have e2:=af (show i<t.place.size by rw[hps];exact c)
  have e3:Qm t (i+1)=t.place[i]'(by rw[hps];exact c)+1:=by
   unfold Qm;rw[oB (by lia),eD]
   simp[eR,show i<t.place.size by rw[hps];exact c]
  rw[e1,e3]at h;rw[e1,e2];exact h
 .have e1:es[i]?=none:=Array.getElem?_eq_none (fQ c);rw[e1]at h;rw[e1];exact h
theorem JY(hf:t.fits es.size=true) (hw:w.params.followText "set-order" = true) {i:Nat}(hS:SA s.heap a es ep t) {Q:Option (Value×Nat)->Shared->Prop}
  (h:Q (((pickOrder (w.params.setOrder a ep) es)[i]?).map λe=>(e.2,0)) s):iM (iO prog w) A (kq a 0 i ep) Q E s:=by
 obtain⟨o,ho,_,hdt⟩:=hS;unfold kq;refine iJ (jh ho hdt hf ?_);refine iJ (EG ?_);rw[hw];show iM _ _ (if (true:Bool)=true then _ else _) _ _ s
 rw[oz rfl];refine jG (λz=>absurd z (by simp)) (λ_=>?_)
 refine iJ ?_;unfold setWalk;refine iJ (jh ho hdt hf ?_);refine iJ (EG ?_);rw[hw];show iM _ _ (if (true:Bool)=true then _ else _) _ _ s
 rw[oz rfl];refine iJ (kN ?_);exact iN (iN h)
end
theorem Ab{es:List (Int×Value)}{F:List Int}{vs:List Value}(hin:∀e∈es,∃k u,e.2 = .int k u) (hp:(es.map λe=>Mr.intOf e.2).Perm F) (hv:vs.Perm (es.map (·.2))):(∀v∈vs,∃k u,v = .int k u)/\(vs.map Mr.intOf).Perm F:=by
 refine⟨λv hm=>?_,(hv.map _).trans ?_⟩
 .obtain ⟨e,he,rfl⟩:=mMq.mp (hv.mem_iff.mp hm);exact hin e he
 .rw [mPq];exact hp
section
variable {prog:iT}{w:iU}{A:Around}{E:Value->Shared->Prop}{s:Shared}{a:Addr}{F:List Int}
theorem KQ{Q:Value->Shared->Prop}(hS:SI prog w s.heap a F)
  (h:∀(I:Addr) (h1:Heap) (d':Drawn) (fp:List Addr) (vs:List Value) (St:Nat->Heap->Prop),(∀A':Around,A'.handled=none->Walks prog w A' I fp [I] vs.length (λi v=>vs[i]?=some v) St)->St 0 h1->(∀b o,s.heap.get? b=some o->h1.get? b=some o)->s.heap.objs.size<=I->(∀b∈fp,b=a∨s.heap.objs.size<=b) ->
   (∀v∈vs,∃k u,v = .int k u)->(vs.map Mr.intOf).Perm F->Q (.ref I) { s with heap:=h1,drawn:=d' }):iM (iO prog w) A (pyIter (.ref a)) Q E s:=by
 obtain⟨o,es,ep,t,ho,hex,hd,hel,hin,hp,hb,hf,hT⟩:=hS;have hTy:s.TypeIs (.ref a) "set" := ⟨o,ho,hex.1⟩;have hla:a<s.heap.objs.size:=ai ho;have hSA:SA s.heap a es ep t:=⟨o,ho,hex,hd⟩;have fits:es.size<=iR:=kG hb;refine wpAny_pyIter_slot hTy gh (jg gh hTy Gq ?_ (PySem.F.args_set_iter_1 _));unfold Builtin.«frozenset.__iter__»;show iM _ _ (Builtin.Frozenset.sizeOf a >>= _) _ _ s;refine iJ ?_;unfold Builtin.Frozenset.sizeOf;refine iJ (vd hSA hf (iN ?_));show iM _ _ (setDrawn a >>= _) _ _ s;refine iJ ?_;unfold setDrawn;refine iJ (jh ho hd hf ?_);refine iJ (EG (iN ?_));have fin:∀(f:Value) (z:Shared),z.heap.get? a=some o->Q (.ref z.heap.objs.size) { z with heap:=z.heap.push { cls:=.type "set_iterator", data:=.fields #[f,iX (0:Nat),.ref a,iX es.size,iX ep] } } ->
   iM (iO prog w) A.in1 (setEpoch a >>= λe=>newFields "set_iterator" [f,iX 0,.ref a,iX es.size,iX e] >>= λv=>ret v) (λfin z=>∃v,fin = .done (.ret v)/\∃T' r,z.TypeIs v T'/\kz (.type T') "__next__" = pure (some r)/\Q v z) E z:=λf z hz q=>by
  unfold setEpoch;refine iJ (iJ (jh hz hd hf (iN ?_)));unfold newFields;exact iJ (ji (iN ⟨_,rfl, "set_iterator", _,⟨_,az _ rfl,rfl⟩,qW.lookup,q⟩))
 have s0:s={ s with heap:=s.heap,drawn:=s.drawn }:=by cases s;rfl
 cases hw:w.params.followText "set-order" with
 |true =>
  show iM _ _ (if (!true && _)=true then _ else _) _ _ s
  rw[oB (by simp)]
  refine iJ (iN ?_);have hperm:=Jc (w.params.setOrder a ep) es;have hl:es.size=((pickOrder (w.params.setOrder a ep) es).toList.map (·.2)).length:=by rw[lMq,hperm.length_eq,ao]
  obtain⟨v1,v2⟩:=Ab hin hp (hperm.map (·.2));refine fin (iX 0) s ho ?_;have fpm:∀b∈[s.heap.objs.size,a],b=a∨s.heap.objs.size<=b:=λb hb=>(aj.mp hb).elim (λz=>.inr (dO z.symm)) λz=>.inl (by simpa using z)
  have ia:IA (s.heap.push { cls:=.type "set_iterator", data:=.fields #[iX 0,iX (0:Nat),.ref a,iX es.size,iX ep] }) s.heap.objs.size (iX (0:Nat)) 0 a ((pickOrder (w.params.setOrder a ep) es).toList.map (·.2)).length ep:=by
   rw[←hl];exact az _ rfl
  refine h _ _ s.drawn [s.heap.objs.size,a] _ _ (λA' hh=>Ds (items:=(pickOrder (w.params.setOrder a ep) es).toList.map (·.2)) (sl:=λ_=>0) hh (aw hla) hf hl λi A2 E2 Q2 z hi hz q=>JY hf hw hz ?_) ⟨aV _,ia,hSA.keep λo e=>ae _ e⟩ (λb o e=>ae _ e) (ag _) fpm v1 v2
  rw[gMq,aq]at q;cases hq:(pickOrder (w.params.setOrder a ep) es)[i]? with
  |none=>rw[hq]at q;exact q
  |some x=>rw[hq]at q;exact q
 |false =>
  have hT':Tb true t:=by rw[hw]at hT;exact hT
  by_cases hdr:(!t.plain && decide (es.size>1))=true
  .show iM _ _ (if (!false && (!t.plain && decide (es.size>1)))=true then _ else _) _ _ s
   rw[oz (by rw[hdr];rfl)]
   refine iJ (II es.size (aN es.size) s _ (by rw[aT]) λys d' hy=>iJ ?_)
   have yl:ys.length=es.size:=by rw[hy.length_eq,aT]
   refine wpAny_newTuple ?_ (by rw[lMq,yl];exact fits)
   generalize hg:s.heap.push { cls:=.type "tuple", data:=.seq (ys.map λi:Nat=>iX i).toArray }=g
   have kg:∀b o,s.heap.get? b=some o->g.get? b=some o:=λb o e=>by rw[←hg];exact ae _ e
   have zg:g.objs.size=s.heap.objs.size+1:=by rw[←hg];exact dN ..
   have tg:g.IsTuple s.heap.objs.size (ys.map λi:Nat=>iX i).toArray:=by rw[←hg];exact⟨_,az _ rfl,rfl,_,rfl⟩
   refine fin (.ref s.heap.objs.size) { s with heap:=g,drawn:=d' } (kg a o ho) ?_
   let items:List Value:=ys.filterMap λp=>(es[p]?).map (·.2)
   have ev:ys.map (λp=>(es[p]?).map (·.2))=items.map some:=by
    show _=(ys.filterMap λp=>(es[p]?).map (·.2)).map some
    have:∀l:List Nat,(∀p∈l,p<es.size)->l.map (λp=>(es[p]?).map (·.2))=(l.filterMap λp=>(es[p]?).map (·.2)).map some:=by
     intro l
     induction l with
     |nil=>intro _;rfl
     |cons p l ih =>
      intro hl;have hp:=af (hl p (by simp))
      rw[aC,List.filterMap_cons_some (b:=(es[p]'(hl p (by simp))).2) (by rw[hp];rfl),aC,ih λq hq=>hl q (by simp[hq]),hp]
      rfl
    exact this ys λp hp=>by
     have:=hy.mem_iff.mp hp;exact bO.mp this
   have il:items.length=es.size:=by
    have:=congrArg bL ev;rw[lMq,lMq]at this;rw[←this,yl]
   have ip:items.Perm (es.toList.map (·.2)):=by
    refine(hy.filterMap _).trans ?_;have:=filterMap_getElem?_range es;rw[←this,List.map_filterMap]
   obtain⟨v1,v2⟩:=Ab hin hp ip;have fpm:∀b∈[g.objs.size,a,s.heap.objs.size],b=a∨s.heap.objs.size<=b:=λb hb=>by
    simp only[aj,cD,or_false]at hb;rcases hb with z|z|z
    .rw [z,zg];exact .inr (bH _)
    .exact .inl z
    .rw [z];exact .inr (ag _)
   have ia:IA (g.push { cls:=.type "set_iterator", data:=.fields #[.ref s.heap.objs.size,iX (0:Nat),.ref a,iX es.size,iX ep] }) g.objs.size (.ref s.heap.objs.size) 0 a items.length ep:=by
    rw[il];exact az _ rfl
   refine h _ _ d' [g.objs.size,a,s.heap.objs.size] items _ (λA' hh=>Hm (ps:=ys) hh (by rw[zg];exact aw (bE hla)) (by rw[zg];exact aw (cB _)) hf il.symm (by rw[yl,il]) λi p e=>?_) ⟨aV _,ia,(hSA.keep λo e=>kg a o e).keep λo e=>ae _ e,let ⟨o,ho,r⟩:=tg;⟨o,ae _ ho,r⟩⟩ (λb o e=>ae _ (kg b o e)) (by rw[zg];exact bH _) fpm v1 v2
   have hpl:p<es.size:=bO.mp (hy.mem_iff.mp (mGq e));have hx:=af hpl;refine⟨_,hx,?_⟩;have:=congrArg (λl:List (Option Value)=>l[i]?) ev
   simp only[gMq,e,fk,hx]at this;cases hq:items[i]? with
   |none=>rw[hq]at this;cases this
   |some y=>rw[hq]at this;exact congrArg some (aU.inj (aU.inj this)).symm
  .show iM _ _ (if (!false && (!t.plain && decide (es.size>1)))=true then _ else _) _ _ s
   have hdr':(!t.plain && decide (es.size>1))=false:=by simpa using hdr
   rw[oB (by rw[hdr'];decide)]
   refine iJ (iN ?_);have hl:es.size=(es.toList.map (·.2)).length:=by rw[lMq,ao]
   obtain⟨v1,v2⟩:=Ab hin hp (.refl _);refine fin (iX 0) s ho ?_;have fpm:∀b∈[s.heap.objs.size,a],b=a∨s.heap.objs.size<=b:=λb hb=>(aj.mp hb).elim (λz=>.inr (dO z.symm)) λz=>.inl (by simpa using z)
   have ia:IA (s.heap.push { cls:=.type "set_iterator", data:=.fields #[iX 0,iX (0:Nat),.ref a,iX es.size,iX ep] }) s.heap.objs.size (iX (Qm t 0)) 0 a (es.toList.map (·.2)).length ep:=by
    rw[←hl];exact az _ rfl
   refine h _ _ s.drawn [s.heap.objs.size,a] _ _ (λA' hh=>Ds (items:=es.toList.map (·.2)) (sl:=Qm t) hh (aw hla) hf hl λi A2 E2 Q2 z hi hz q=>L3 hf hT' hw hdr' (by rw[hl];exact hi) hz ?_) ⟨aV _,ia,hSA.keep λo e=>ae _ e⟩ (λb o e=>ae _ e) (ag _) fpm v1 v2
   rw[gMq,aq]at q;cases hq:es[i]? with
   |none=>rw[hq]at q;exact q
   |some x=>rw[hq]at q;exact q
end
end Ms
namespace Ms
open PySem PySem.W PyProof.Rows Mr MrS
section
variable {prog:iT}{w:iU}{A:Around}{E:Value->Shared->Prop}{s:Shared}{a:Addr}{F:List Int}
theorem LU{r:Addr}{Q:Bool->Shared->Prop}(hT:s.TypeIs (.ref r) "set") (h:Q false s):iM (iO prog w) A (Builtin.List.listLengthHint (.ref r)) Q E s:=by
 unfold Builtin.List.listLengthHint;refine iJ (wpAny_specialOf hT PySem.F.slot_set_len.lookup ?_);generalize hid:("set.__len__" : String)=id0
 wp_delta
 rw[show splitId id0=some ("set", "__len__") from by subst hid;decide +kernel]
 subst hid;refine iJ (kM (T := "set") (b:=true) hT (by rw[jL];kernel_rfl) ?_)
 refine jG (λhab=>absurd hab (by decide)) (λ_=>?_)
 refine jG (λ_=>?_) (λhab=>absurd (by decide +kernel) hab)
 refine iJ (mv hT ?_);exact iN h
theorem Px{R:Result->Shared->Prop}{S:Addr}{res:Value}{c0:Nat}(hh:A.handled=none) (hSI:SI prog w s.heap a F) (hSa:S≠a) (hS:s.heap.get? S=some { cls:=.type "list", data:=.seq #[] c0 }) (hn:F.length<=iR)
  (hR:∀h' tk d' acc c',(∀b o,b≠S->s.heap.get? b=some o->h'.get? b=some o)->h'.get? S=some { cls:=.type "list", dict:=none,data:=.seq acc c',slots:=#[] }->(∀v∈acc.toList,∃k u,v = .int k u)->(acc.toList.map Mr.intOf).Perm F->R (.ok (.ret res)) { s with heap:=h',toks:=tk,drawn:=d' }) :
  iM (iO prog w) A.in1 (Builtin.List.listExtendWith (.ref S) (.ref a) res)
   (λfin s'=>match fin with|.done f=>R (.ok f) s'|.again c'=>c'.quiet=true/\jF (iO prog w) A c' R s') (λe s'=>R (.error e) s') s:=by
 have hSl:S<s.heap.objs.size:=ai hS;have hT:s.TypeIs (.ref a) "set" := by
  obtain⟨o,_,_,_,ho,hex,_⟩:=hSI;exact⟨o,ho,hex.1⟩
 unfold Builtin.List.listExtendWith;refine iJ (mv (T := "set") hT ?_);have h1:Builtin.List.listSameRef (.ref S) (.ref a)=false:=by simp[Builtin.List.listSameRef,hSa]
 have h2:(cJ "set" == cJ "list")=false:=by decide
 have h3:(cJ "set" == cJ "tuple")=false:=by decide
 simp only[h1,h2,h3,Bool.or_false,du,if_false];refine iJ (KQ hSI λI g d' fp vs St W st kp hI hfp v1 v2=>?_)
 have hSf:S∉fp:=λm=>by
  rcases hfp S m with z|z
  .exact hSa z
  .exact absurd hSl (Nat.not_lt.mpr z)
 have vn:vs.length<=iR:=by
  have:=v2.length_eq;rw[lMq]at this;rw[this];exact hn
 have hIS:I≠S:=cz (aF hSl hI);have key:∀(h:Heap) (c1 tk:Nat),St 0 h->(∀b o,b≠S->s.heap.get? b=some o->h.get? b=some o) ->
   h.get? S=some { cls:=.type "list", data:=.seq #[] c1 }->jF (iO prog w) A (.builtin "list.extend.loop" ⟨[.ref S,.ref I,res],[]⟩) R { s with heap:=h,toks:=tk,drawn:=d' }:=by
  intro h c1 tk hst hk hS1;refine codeAny_extend_loopS (W A.in1 hh).toS vn S hSf res vs.length 0 _ #[] c1 rfl (aV _) hst hS1 (ItemsOf.nil _) λz acc c' hm hS' hacc=>?_
  rw[Moved.eq_with hm];have ea:acc.toList=vs:=by
   refine dG λj=>?_
   rw[aq];cases hq:acc[j]? with
   |none =>
    have:acc.size<=j:=Array.getElem?_eq_none_iff.mp hq;rw[bu (by rw[←hacc.1];exact this)]
   |some v=>exact(hacc.2 j v hq).symm
  refine hR z.heap z.toks d' acc c' (λb o hb e=>hm.heap b o (λhmem=>?_) (hk b o hb e)) hS' (by rw[ea];exact v1) (by rw[ea];exact v2)
  rcases aj.mp hmem with e'|e'
  .exact hb e'
  .rw [mSq.mp e']at e;exact absurd (ai e) (Nat.not_lt.mpr hI)
 have hS1:=kp S _ hS;refine iJ (jo (LU (let ⟨o,ho,hc⟩:=hT;⟨o,kp a o ho,hc⟩) ?_))
 refine jG (λ_=>?_) (λ_=>iN ⟨jQ fM _,key _ c0 _ st (λb o _ e=>kp b o e) hS1⟩)
 refine iJ (lW ?_);refine iJ ?_;show iM _ _ (updateSeq S (·.push .none) >>= λ_=>updateSeq S (·.pop)) _ _ _
 refine iJ (wpAny_updateSeq hS1 rfl ?_);have hS2:=cC (Obj.mapSeq (·.push cg)) hS1 rfl;refine wpAny_updateSeq (hz:=by seq_fits) hS2 rfl ?_
 have hS3:=cC (Obj.mapSeq (·.pop)) hS2 rfl;refine iN ⟨jQ fM _,key _ _ _ ?_ (λb o hb e=>?_) hS3⟩
 .refine (W A.in1 hh).frame 0 _ _ st λb hb o e=>?_
  have hbS:b≠S:=λh=>hSf (h ▸ hb)
  exact(bf _ _ (Ne.symm hbS)).trans ((bf _ _ (Ne.symm hbS)).trans e)
 .exact (bf _ _ (Ne.symm hb)).trans ((bf _ _ (Ne.symm hb)).trans (kp b o e))
theorem Fg{Q:List Value->Shared->Prop}(hh:A.handled=none) (hSI:SI prog w s.heap a F) (hn:F.length<=iR)
  (h:∀h' tk d' vs,(∀b o,s.heap.get? b=some o->h'.get? b=some o)->s.heap.objs.size<h'.objs.size->(∀v∈vs,∃k u,v = .int k u)->(vs.map Mr.intOf).Perm F->Q vs { s with heap:=h',toks:=tk,drawn:=d' }) :
  iM (iO prog w) A (collect (.ref a)) Q E s:=by
 have hla:a<s.heap.objs.size:=let ⟨_,_,_,_,ho,_⟩:=hSI;ai ho
 unfold collect;refine iJ (lF (jf lU ?_));show iM _ _ (do again (.builtin "list.__iadd__" ⟨[←mE [],.ref a],[]⟩)) _ _ s
 refine iJ (jP (iN ⟨Code.quiet_builtin _ (by decide +kernel),jf entry_list_iadd' ?_⟩))
 show iM _ _ (Builtin.List.listExtendWith (.ref s.heap.objs.size) (.ref a) (.ref s.heap.objs.size)) _ _ { s with heap:=s.heap.push (iZ "list" #[] 0) }
 have hS0:(s.heap.push (iZ "list" #[] 0)).get? s.heap.objs.size=some (iZ "list" #[] 0):=az _ rfl;refine Px (A:=A) (R:=λr s'=>match r with
   | .ok (.ret v)=>iM (iO prog w) A (match v with
    | .ref a=>do
     let o ←load a
     match o.data with
     | .seq xs _=>pure xs.toList
     |_=>jA "internal:collect"
    |_=>jA "internal:collect") Q E s'
   | .ok _=>False
   | .error e=>E e s') (s:={ s with heap:=s.heap.push (iZ "list" #[] 0) }) hh (hSI.keep λo e=>ae _ e) (cz hla) hS0 hn λh' tk d' acc c hk hS v1 v2=>?_
 show iM (iO prog w) A (do
   let o ←load s.heap.objs.size
   match o.data with
   | .seq xs _=>pure xs.toList
   |_=>jA "internal:collect") Q E { s with heap:=h',toks:=tk,drawn:=d' }
 refine iJ (wpAny_load hS ?_);exact iN (h h' tk d' acc.toList (λb o e=>hk b o (aw (ai e)) (ae _ e)) (ai hS) v1 v2)
theorem HE{Q:Value->Shared->Prop}(hh:A.handled=none) (hSI:SI prog w s.heap a F) (hn:F.length<=iR)
  (h:∀(out:List Value) (h':Heap) (p:Addr) (tk n':Nat) (d':Drawn),(∀v∈out,∃k u,v = .int k u)->out.map Mr.intOf=rS F->(∀b o,s.heap.get? b=some o->h'.get? b=some o)->s.heap.objs.size<=p->h'.get? p=some (iZ "list" out.toArray n')->Q (.ref p) { s with heap:=h',toks:=tk,drawn:=d' }) :
  iM (iO prog w) A (call (.builtin "sorted") [.ref a]) Q E s:=by
 refine Calls.call_function_entry mG mw mz (mB _) ?_;unfold Builtin.«sorted»;refine iJ (m:=checkCount "sorted" 1 1 _) (iN ?_);refine iJ (Fg hh hSI hn λh0 tk d' vs hk0 hsz0 v1 v2=>?_)
 have hs:vs.length<=iR:=by
  have:=v2.length_eq;rw[lMq]at this;rw[this];exact hn
 refine iJ (jP ?_ hs);have hoL:(h0.push (iZ "list" vs.toArray 0)).get? h0.objs.size=some (iZ "list" vs.toArray 0):=az _ rfl;show iM _ _ _ _ _ { s with heap:=h0.push (iZ "list" vs.toArray 0),toks:=tk,drawn:=d' }
 have hsz:s.heap.objs.size<=h0.objs.size:=cw hsz0;have k1:∀b o,s.heap.get? b=some o->(h0.push (iZ "list" vs.toArray 0)).get? b=some o:=λb o e=>ae _ (hk0 b o e)
 have hlt:∀b o,s.heap.get? b=some o->b≠h0.objs.size:=λb o e=>aw (ai (hk0 b o e))
 generalize h0.push (iZ "list" vs.toArray 0)=G at hoL k1 ⊢
 clear hsz0
 generalize h0.objs.size=p at hoL hsz hlt ⊢;have k2:∀b o,s.heap.get? b=some o->(rM G p vs).get? b=some o:=λb o e=>by
  refine ae _ (ae _ ?_);rw[cu _ _ _ _ (hlt b o e)];exact k1 b o e
 have hkk:2<=vs.length->∀Q:jl->Shared->Prop,Q jJ { s with heap:=rM G p vs,toks:=tk,drawn:=d' }->iM (iO prog w) A.in1.in1 (mi vs.toArray) Q E { s with heap:=rM G p vs,toks:=tk,drawn:=d' }:=λh3 Q q=>by
  have hi:jd vs (vs.map Mr.intOf):=A7 (by rw[lMq]) λj v m e1 e2=>by
   obtain⟨k,u,rfl⟩:=v1 v (mGq e1);rw[gMq,e1]at e2;cases e2;exact⟨u,rfl⟩
  match vs,hi,h3 with
  | [],_,h3=>simp at h3
  | [_],_,h3=>simp at h3
  |v₁::v₂::rest,hi,_ =>
   rw[keyKind_ints hi];exact iN q
 refine iJ (jo (jg lH ⟨_,hoL,rfl⟩ kQ (vC (s:={ s with heap:=G,toks:=tk,drawn:=d' }) (Pk:=λx:iK=>∃a t,x.1=eK a t) (lt:=VO) hoL hs hkk (Ui _ _ _ _) (λx hx=>?_) λxs a1 a2=>⟨_,rfl,?_⟩) (lJ _)))
 .obtain ⟨m1,m2⟩:=tU hx;exact v1 _ m1
 .obtain ⟨o1,o2⟩:=xR a1 a2;obtain⟨e1,ho1⟩:=DQ vs hoL;obtain⟨n1,g1⟩:=DX (xs.map (·.2)) ho1;have hv:∀v∈(xs.map (·.2)).toList,∃a t,v=eK a t:=λv m=>v1 v (o1.mem_iff.mp m)
  refine iN ⟨_,rfl,h _ (kc G p vs (xs.map (·.2))) p tk n1 d' hv (HF ((o1.map _).trans v2) ?_) (λb o e=>?_) hsz ?_⟩
  .rw [cf];refine o2.imp_of_mem λ{x y} mx my hq=>?_
   obtain⟨c,t,rfl⟩:=hv x mx;obtain⟨b,u,rfl⟩:=hv y my;have h':¬ b<c:=of_decide_eq_false hq;show c<=b;lia
  .unfold kc;rw[cu _ _ _ _ (hlt b o e)];exact k2 b o e
  .rw [show (xs.map (·.2)).toList.toArray=xs.map (·.2) from fi]
   exact g1
end
end Ms
namespace Z
open PySem L2 Mr Xe
end Z
namespace Mr
open PySem PySem.Spec PyProof.Rows L2
theorem Wy{X:Cx}{nA:List (Addr×Obj)}{σ:St}{H:Hp}{s:Shared}(I:Inv X nA σ H s) (d:Drawn):Inv X nA σ H { s with drawn:=d }:=⟨I.ok,I.os,I.bare,I.base,I.loc,I.cell,I.free,I.freeC,I.pin,I.hok,I.len⟩
section
variable {X:Cx}
def Qy(K:W.Frag) (xs:List V) (H:Hp) (Q:VK):Prop:=∃(a:Addr) (ns:List Int),xs=[.ref a]/\qS K H a (ns.map V.int)/\ns.length+1<jB/\∀p,H p=none->Q (.ref p) (pX H p (.lst ((rS (Ms.dd ns)).map V.int)))
theorem P3{e:Expr}{ta:TA}{p0 p pos0 pos:Pos}(hc:X.calm=true) (gl:Gl X "sorted") (ml:X.mg "sorted" = none) (hg:Gl X "set") (hm:X.mg "set" = none) (ha:PA X [e] ta)
  (he:iW [.Call (.Name "set" p) [e] [] pos] X.env=(false,eval (.Call (.Name "set" p) [e] [] pos) X.env)::iW [] X.env:=by rfl) (hs:iW [e] X.env=[(false,eval e X.env)]:=by rfl) :
  PE X (.Call (.Name "sorted" p0) [.Call (.Name "set" p) [e] [] pos] [] pos0) (N3 (Qy X.K) ta):=by
 intro nA s σ H Q I h;refine jv (vI I gl ml boot_sorted ?_ (by decide) (by decide))
 refine ff ?_ he (by rfl)
 rw[he];show iM _ _ (spliced ((false,eval (.Call (.Name "set" p) [e] [] pos) X.env)::jS pos0 (iW [] X.env))) _ _ s;refine Calls.spliced_cons ?_;refine Call_ (vI I hg hm boot_set (bz (thn (ha pos nA s σ H _ I h) λus s1 hz1=>?_) hs rfl))
 obtain⟨vs,H1,I1,r1,a,ns,e1,hS,hb,q⟩:=hz1;subst e1;obtain⟨u,rfl,ru⟩:=xw r1;cases ru;obtain⟨ws,hl,hi,_⟩:=FR I1 hS;have hd:=Ms.Gp ns;refine Ms.Na (I1.ok.hd hc) hl hi hb λh1 tk hSI kp=>Calls.spliced_nil ?_
 refine Ms.HE (s:={ s1 with heap:=h1,toks:=tk }) (I1.ok.hd hc) hSI (by have:jB=4096:=rfl;rw[jb];lia) λout h2 p tk2 n' d' hv ho kp2 hp hx=>?_
 have hp2:s1.heap.objs.size<=p:=bJ (cw (let ⟨_,_,_,_,ho',_⟩:=hSI;ai ho')) hp
 have hfr:H1 p=none:=I1.hok.fresh hp2;have hz:((rS (Ms.dd ns)).map V.int).length<=iR:=by
  have:jB=4096:=rfl;rw[lMq,(uA _).length_eq,jb];lia
 refine⟨.ref p,_,Wy (I1.laid (t':=tk2) (λb o e=>kp2 b o (kp b o e)) hp2 (show qr X.prog X.w _ h2 _ (.lst ((rS (Ms.dd ns)).map V.int)) from ⟨hz,out,n',?_,hx⟩)) d',rfl,q _ hfr⟩
 rw[←ho];exact Mr.vals_ints hv
end
end Mr
namespace Z
open PySem L2 Mr
def Kw(l:ML):MK:=λS=>(l S).bind λx=>(rR x.1).bind λns=>uI (ns.length<=4000) (some (.ow ((rS (Ms.dd ns)).map λn=>.sh (.int n)),x.2))
theorem Pl{K:W.Frag}{te:TE}{l:ML}(hl:SQ K te l):SK K (N3 (Qy K) (sY te xr)) (Kw l):=by
 intro H₀ Hf₀ Hf S σ H Fs av S' R e Q q;obtain⟨x,e1,e⟩:=oBq.mp e;obtain⟨ns,e2,e⟩:=oBq.mp e;rcases oC e with ⟨hlen,e⟩|e
 .cases e;refine hl R (ds:=x.1) (S':=x.2) e1 _ λHf1 H1 Fs1 p1 vs1 t1 R1 h1 r1=>?_
  rw[wg e2]at r1;rw[rW r1]at h1;refine⟨p1,ns,rfl,h1,by unfold jB;lia,λp hp=>?_⟩
  obtain⟨t4,R4,n1,n2,n3⟩:=R1.new (o:=.lst ((rS (Ms.dd ns)).map V.int)) hp;rw[As]at q;exact q _ _ _ (.ref p) [p] (t1.trans t4) R4 (oJ.new oh n1 (tM _)) ((vN.one R1 hp).back t1)
 .cases e
theorem K3(l:ML) (S:AS):Kw l S=(l S).bind λx=>(rR x.1).bind λns=>uI (ns.length<=4000) (some (.ow ((rS (Ms.dd ns)).map λn=>.sh (.int n)),x.2)):=rfl
end Z
namespace Mr
open PySem PySem.Spec PyProof.Rows L2
section
variable {X:Cx}
def LO(xs:List V) (H:Hp) (Q:VK):Prop:=∃j:Int,xs=[.int j]/\(-(2 ^ 62)<=j/\j<2 ^ 62)/\j.toNat<=iR/\∀l,H l=none->Q (.ref l) (pX H l (.lst ((aN j.toNat).map λk:Nat=>V.int (0+k))))
theorem ER{b:Expr}{ta:TA}{p0 p pos0 pos:Pos}(hc:X.calm=true) (gl:Gl X "list") (ml:X.mg "list" = none) (hg:Gl X "range") (hm:X.mg "range" = none) (ha:PA X [b] ta)
  (he:iW [.Call (.Name "range" p) [b] [] pos] X.env=(false,eval (.Call (.Name "range" p) [b] [] pos) X.env)::iW [] X.env:=by rfl) (hs2:iW [b] X.env=[(false,eval b X.env)]:=by rfl) :
  PE X (.Call (.Name "list" p0) [.Call (.Name "range" p) [b] [] pos] [] pos0) (N3 LO ta):=by
 intro nA s σ H Q I h;refine jv (vI I gl ml boot_list ?_ (by decide) (by decide))
 refine bz ?_ he (by rfl)
 rw[he];show iM _ _ (spliced ((false,eval (.Call (.Name "range" p) [b] [] pos) X.env)::jS pos0 (iW [] X.env))) _ _ s;refine Calls.spliced_cons ?_;refine Call_ (vI I hg hm boot_range (bz (thn (ha pos nA s σ H _ I h) λus s1 hz1=>?_) hs2 rfl))
 obtain⟨vs,H1,I1,r1,j,e1,⟨q3,q4⟩,hn,q⟩:=hz1;subst e1;obtain⟨u,rfl,ru⟩:=xw r1;obtain⟨t,rfl⟩:=ru;have hsz:((j.toNat:Nat):Int)=Builtin.Range.rangeSize 0 j 1:=by rw[rangeSize_one];split <;> lia
 have hn':j.toNat<=2 ^ 24:=by rw[jb]at hn;exact hn
 refine call_range_1 (Calls.spliced_nil ?_);refine call_list_range (n:=j.toNat) (I1.ok.hd hc) (IsRange.new ..) (small_one (by decide) (by decide) q3 q4) hsz.symm hn' λh' tk acc c hk hS hacc=>?_
 have hgz:(s1.heap.push { cls:=.type "range", data:=.fields #[.int 0 s1.toks,.int j t,.int 1 (s1.toks+1)] }).objs.size=s1.heap.objs.size+1:=by first|rfl|simp[Heap.push]
 dsimp only at hk hS;rw[hgz]at hS;have hiv:oQ ((aN j.toNat).map λk:Nat=>V.int (0+k)) acc.toList:=by
  have hl:acc.toList.length=j.toNat:=by rw[ao];exact hacc.1
  have key:jd acc.toList ((aN j.toNat).map λk:Nat=>0+(k:Int)):=A7 (by simp[hl]) λk v n e1 e2=>by
   rw[aq]at e1;obtain⟨tv,rfl⟩:=hacc.2 k v e1;rw[gMq]at e2;obtain⟨m,e3,e4⟩:=oMq.mp e2;obtain⟨_,e5⟩:=gSq.mp e3;rw[List.getElem_range]at e5;subst e5;subst e4;exact⟨tv,by simp⟩
  have:=L2.vals_ints key;rw[mPq]at this;exact this
 refine⟨.ref (s1.heap.objs.size+1),pX H1 (s1.heap.objs.size+1) (.lst _),I1.laid (t':=tk) (λb o e=>hk b o (ae _ e)) (bH _) (show qr X.prog X.w _ h' _ (.lst _) from ⟨by simpa using hn,acc.toList,c,hiv,by simpa using hS⟩),by rw[hgz];rfl,q _ (I1.hok.fresh (bH _))⟩
end
end Mr
namespace Z
open PySem L2 Mr
def DK(a:ML):MK:=λS=>(a S).bind λx=>(AK x.1).bind λds=>uI (ds.length<=qF) (some (.ow (ds.map .sh),x.2))
section
variable {K:W.Frag}{te:TE}{l:ML}
theorem ET{ta:TA}{a:ML}(ha:Pe K ta a):SK K (N3 LO ta) (DK a):=by
 intro H₀ Hf₀ Hf S σ H Fs av S' R e Q q;obtain⟨x,e1,e⟩:=oBq.mp e;obtain⟨ds,e2,e⟩:=oBq.mp e;rcases oC e with ⟨hl,e⟩|e
 .cases e;refine ha R (ds:=x.1) (S':=x.2) e1 _ λHf1 H1 Fs1 vs t1 R1 r1=>?_
  unfold AK at e2;split at e2
  .rename_i j hx;rw[hx]at r1;rcases oC e2 with ⟨hj,e2⟩|e2
   .cases e2;obtain⟨v,ws,rfl,h1,h2⟩:=r1.cons_inv;cases h2.nil_inv;cases h1;rw[oI]at hl;refine⟨j,rfl,hj,by rw[sU];exact hl,λp hp=>?_⟩
    obtain⟨t2,R2,n1,n2,n3⟩:=R1.new (o:=.lst ((aN j.toNat).map λk:Nat=>V.int (0+k))) hp
    refine q _ _ _ (.ref p) [p] (t1.trans t2) R2 (oJ.new oh n1 ?_) ((vN.one R1 hp).back t1);refine⟨by rw[oI,lMq,aT],λi d v g1 g2=>?_⟩
    have hi:i<j.toNat:=by
     have:=(gSq.mp g1).1
     rwa [oI]at this
    rw[wN hi]at g1;rw[gMq,dh hi]at g2;cases g1;cases g2;exact .int
   .cases e2
  .cases e2
 .cases e
end
theorem D1(S:AS) (a:ML):DK a S=(a S).bind λx=>(AK x.1).bind λds=>uI (ds.length<=qF) (some (.ow (ds.map .sh),x.2)):=rfl
end Z
namespace Z
open PySem L2 Mr Xe
end Z
namespace Mr
open PySem PySem.Spec PyProof.Rows L2
open AutoSeq1 (wpAny_loadPart')
end Mr
namespace Z
open PySem L2 Mr Xe
end Z
namespace Mr
open PySem PySem.W PySem.Spec PyProof.Rows L2
end Mr
namespace Mr
open PySem PySem.Spec PyProof.Rows L2
end Mr
namespace Z
open PySem L2 Mr
end Z
namespace Mr
open PySem PySem.Calls PySem.Spec PyProof.Rows L2
end Mr
namespace Z
open PySem L2 Mr
end Z
namespace Z
open PySem PySem.Spec PyProof.Rows L2 Mr
section
variable {K:W.Frag}
def O2(f g:D->D->Option D) (a b c:ME):ME:=λS=>(a S).bind λx=>(b x.2).bind λy=>(f x.1 y.1).bind λd=>match d with
 | .bl true=>(c y.2).bind λz=>if y.1.scal=true then (g y.1 z.1).map λd'=>(d',z.2) else none
 | .bl false=>some (.bl false,y.2)
 |_=>none
theorem QI{r r':R2}{f g:D->D->Option D}{ta tb tc:TE}{a b c:ME}(hf:CC K r f) (hg:CC K r' g) (ha:SR K ta a) (hb:SR K tb b) (hc:SR K tc c) (hsc:∀x y d,f x y=some d->x.scal=true):SR K (Kx r r' ta tb tc) (O2 f g a b c):=by
 intro H₀ Hf₀ Hf S σ H Fs d S' R e Q q;obtain⟨x,e1,e⟩:=oBq.mp e;obtain⟨y,e2,e⟩:=oBq.mp e;obtain⟨k,e3,e⟩:=oBq.mp e;refine ha R (d:=x.1) (S':=x.2) e1 _ λHf1 H1 Fs1 v1 t1 R1 r1=>hb R1 (d:=y.1) (S':=y.2) e2 _ λHf2 H2 Fs2 v2 t2 R2 r2=>?_
 refine hf (r1.scal (hsc _ _ _ e3)) r2 e3 λv rv=>?_
 split at e
 .cases rv;refine⟨true,rfl,Bh ?_⟩;obtain⟨z,e4,e⟩:=oBq.mp e;split at e
  .rename_i hy;obtain⟨d',e5,e⟩:=oMq.mp e;cases e;refine hc R2 (d:=z.1) (S':=z.2) e4 _ λHf3 H3 Fs3 v3 t3 R3 r3=>?_
   exact hg (r2.scal hy) r3 e5 λw rw=>q _ _ _ w ((t1.trans t2).trans t3) R3 rw
  .cases e
 .cases rv;cases e;exact⟨false,rfl,Bs (q _ _ _ _ (t1.trans t2) R2 .bl)⟩
 .cases e
theorem Ux(x y d:D) (h:Il x y=some d):x.scal=true:=by
 cases x <;> first|rfl|cases h
theorem FF(f g:D->D->Option D) (a b c:ME) (S:AS):O2 f g a b c S=(a S).bind λx=>(b x.2).bind λy=>(f x.1 y.1).bind λd=>match d with
 | .bl true=>(c y.2).bind λz=>if y.1.scal=true then (g y.1 z.1).map λd'=>(d',z.2) else none
 | .bl false=>some (.bl false,y.2)
 |_=>none:=rfl
end
end Z
namespace Z
open PySem L2 Mr Xe
def OW(H:Hp) (G:List Addr):Hp:=λb=>if b∈G then none else H b
theorem Ip{H:Hp}{G:List Addr}{b:Addr}(h:b∈G):OW H G b=none:=oz h
theorem wo{H:Hp}{G:List Addr}{b:Addr}(h:b∉G):OW H G b=H b:=oB h
section
variable {K:W.Frag}
theorem Q0{Hf H:Hp}{as:List AV}{vs:List V}{Gs:List (List Addr)}(N:List Str) (s:ou Hf H) (r:pB K Hf H as vs Gs) (nd:Gs.flatten.Nodup) :
  oM K (OW H Gs.flatten) Hf Hf (as.map some++aO (N.length-as.length) none) (L2.sZ N vs) H (Gs++aO (N.length-as.length) []):=by
 obtain⟨l1,l2,h⟩:=r;have fl:(Gs++aO (N.length-as.length) []).flatten=Gs.flatten:=by rw[fAq,rK,aNq]
 refine⟨by simp[L2.sZ,l1],by simp[l2],λi av e=>?_,λi e=>?_,by rw[fl];exact nd,λp hp=>?_,s,λb o e=>?_,λb h _=>h,ou.refl _⟩
 .by_cases hi:i<as.length
  .rw [gZq (by simpa using hi),gMq]at e
   obtain⟨a,e1,e2⟩:=oMq.mp e;cases e2;have hv:=gEg (show i<vs.length by lia)
   have hG:=gEg (show i<Gs.length by lia)
   refine⟨_,_,?_,?_,h i av _ _ e1 hv hG⟩
   .unfold L2.sZ;rw[gZq (by simpa [←l1] using hi),gMq,hv]
    rfl
   .rw [gZq (by lia)]
    exact hG
  .rw [gYq (by simpa using hi)]at e
   have h2:=cK (mGq e);cases h2
 .by_cases hi:i<as.length
  .rw [gZq (by simpa using hi),gMq,gEg hi]at e
   cases e
  .have hl:=(gSq.mp e).1;rw[lAq,lMq,dF]at hl;rw[gYq (by lia),bC,oz (by lia)]
 .rw [fl]at hp;exact Ip hp
 .by_cases m:b∈Gs.flatten
  .rw [Ip m]at e;cases e
  .rw [wo m]at e;exact e
theorem oM.chg{H₀ Hf₀ Hf Hf' H H':Hp}{S:AS}{σ:St}{Fs:List (List Addr)}{G:List Addr}(R:oM K H₀ Hf₀ Hf S σ H Fs) (hG:∀q∈G,H₀ q=none/\q∉Fs.flatten) (sf:ou Hf Hf') (hs:∀b,b∉G->∀o,H b=some o->H' b=some o) (sub:ou Hf' H') (l:∀b,Hf b=none->H b≠none->b∉G->Hf' b=none):oM K H₀ Hf₀ Hf' S σ H' Fs:=by
 have out:∀q∈Fs.flatten,q∉G:=λq hq m=>(hG q m).2 hq
 refine⟨R.len,R.lenF,λi av e=>?_,R.emp,R.nd,R.fresh,sub,λb o e=>?_,λb h1 h2=>?_,R.sf.trans sf⟩
 .obtain ⟨v,F,s1,s2,r⟩:=R.rep i av e;refine⟨v,F,s1,s2,r.keep sf (λq hq=>?_) λq hq=>?_⟩
  .have hm:=oN s2 hq;have hn:=(R.mem hm).1;cases hz:H q with
   |none=>exact absurd hz hn
   |some u=>exact hs q (out q hm) u hz
  .have hm:=oN s2 hq;exact l q (R.mem hm).2 (R.mem hm).1 (out q hm)
 .exact hs b (λm=>by rw[(hG b m).1]at e;cases e) o (R.fr b o e)
 .refine l b (R.lim b h1 h2) (Ed R.fr h2) λm=>h2 (hG b m).1
end
section
variable {K:W.Frag}{J:List Nat}{te tf tb tn tp:TE}{k:MK}{b n:ME}{t u:TS}{m m' body:MS}{x y i:Nat}
theorem OQ{i:Nat}(hk:SW K te k):SS K (E6 te (rG i)) (ox i k):=by
 intro H₀ Hf₀ Hf S σ H Fs o R e D h;obtain⟨x,e1,e⟩:=oMq.mp e;cases e;exact hk R (a:=x.1) (S':=x.2) e1 _ λHf1 H1 Fs1 v F t1 R1 r1 n1 o1=>h _ _ _ _ t1 (R1.set i r1 n1 o1)
end
end Z
namespace Z
open PySem PySem.Spec PyProof.Rows L2 Mr Xe
section
variable {X:Cx}{a:Expr}{ta:TE}{pos:Pos}
def Qu(K:W.Frag) (ta:TE):TE:=λσ H Q=>ta σ H λx H1=>∃k,MB K x H1 k/\Q (.bl (!k)) H1
theorem PB(ha:PE X a ta):PE X (.UnaryOp .Not a pos) (Qu X.K ta):=by
 intro nA s σ H Q I h;refine UnaryOp_ (thn (ha nA s σ H _ I h) λv s1 hz1=>?_)
 obtain⟨x,H1,I1,r1,k,tk,q1⟩:=hz1;refine not_of (thn (Gw nA s1 σ H1 x v (λc H2=>Q (.bl (!c)) H2) I1 r1 ⟨k,tk,q1⟩) λc s2 hz2=>?_)
 obtain⟨H2,I2,q2⟩:=hz2;exact⟨.bl (!c),H2,I2,rfl,q2⟩
end
section
variable {K:W.Frag}{te:TE}{a:ME}
def Nz(a:ME):ME:=λS=>(a S).bind λx=>(wL x.1).map λb=>(.bl (!b),x.2)
theorem NT(a:ME) (S:AS):Nz a S=(a S).bind λx=>(wL x.1).map λb=>(.bl (!b),x.2):=rfl
theorem PX(ha:SR K te a):SR K (Qu K te) (Nz a):=by
 intro H₀ Hf₀ Hf S σ H Fs d S' R e Q q;obtain⟨x,e1,e⟩:=oBq.mp e;obtain⟨b,e2,e⟩:=oMq.mp e;cases e;have e3:yM a S=some (b,x.2):=by unfold yM;rw[e1];show (wL x.1).map _=_;rw[e2];rfl
 exact xT ha R e3 (λk H'=>Q (.bl (!k)) H') λHf1 H1 Fs1 t1 R1=>q _ _ _ _ t1 R1 .bl
end
end Z
namespace Z
open PySem L2 Mr Xe
abbrev Tr:=List AV->Option AV
def Jw(np n:Nat) (m:MS):Tr:=λas=>if as.length=np then (m (as.map some++aO (n-as.length) none)).bind λo=>match o with
  | .rt a=>some a
  | .nx _=>some (.sh .non)
  |_=>none
 else none
def NJ(K:W.Frag) (f:Tr):Sp:=λvs H Q _=>∃(Hf:Hp) (as:List AV) (Gs:List (List Addr)) (r:AV),ou Hf H/\pB K Hf H as vs Gs/\Gs.flatten.Nodup/\f as=some r /\
 ∀Hf' H' v F,ou Hf Hf'->(∀b,b∉Gs.flatten->∀o,H b=some o->H' b=some o)->ou Hf' H'->(∀b,Hf b=none->H b≠none->b∉Gs.flatten->Hf' b=none)->oJ K Hf' H' r v F->F.Nodup->(∀q∈F,H q=none∨q∈Gs.flatten)->Q v H'
section
variable {K:W.Frag}{t:TS}{m:MS}{np n:Nat}{vs:List V}{H:Hp}{Q:VK}{E:XK}
theorem JS(N:List Str) (h:SS K t m) (hs:NJ K (Jw np N.length m) vs H Q E):t { nx:=λ_ H'=>Q .non H',rt:=Q } (L2.sZ N vs) H:=by
 obtain⟨Hf,as,Gs,r,s,rs,nd,e,q⟩:=hs;have un:∀q,OW H Gs.flatten q=none->H q=none∨q∈Gs.flatten:=λq h=>by
  by_cases m:q∈Gs.flatten
  .exact .inr m
  .rw [wo m]at h;exact .inl h
 unfold Jw at e;split at e
 .obtain ⟨o,e1,e2⟩:=oBq.mp e;refine h (Q0 N s rs nd) e1 _ ?_;cases o with
  |rt a' =>
   cases e2;exact λHf' H' v F s1 s2 s3 l r nd fr=>q Hf' H' v F s1 (λb hb o e=>s2 b o (by rw[wo hb];exact e)) s3 (λb h1 h2 hb=>l b h1 (by rw[wo hb];exact h2)) r nd λq hq=>un q (fr q hq)
  |nx S' =>
   cases e2;exact λHf' σ' H' Fs' s1 R=>q Hf' H' .non [] R.sf (λb hb o e=>R.fr b o (by rw[wo hb];exact e)) R.sub (λb h1 h2 hb=>R.lim b h1 (by rw[wo hb];exact h2)) (.sh .non) aW λq h=>(by cases h)
  |bk S'=>cases e2
  |ct S'=>cases e2
 .cases e
theorem OA(hs:NJ K (Jw np n m) vs H Q E):vs.length=np:=by
 obtain⟨Hf,as,Gs,r,s,rs,nd,e,q⟩:=hs;unfold Jw at e;split at e
 .rename_i h;rw[←rs.1,h]
 .cases e
def Ea(f:Tr) (a:MA):MK:=λS=>(a S).bind λx=>(f x.1).map λr=>(r,x.2)
theorem Ie(f:Tr) (a:MA) (S:AS):Ea f a S=(a S).bind λx=>(f x.1).map λr=>(r,x.2):=rfl
theorem LN{f:Tr}{ta:TA}{a:MA}(ha:SA K ta a):SW K (Ao (NJ K f) [] E0 ta) (Ea f a):=by
 intro H₀ Hf₀ Hf S σ H Fs av S' R e Q q;obtain⟨x,e1,e⟩:=oBq.mp e;obtain⟨r,e2,e⟩:=oMq.mp e;cases e;refine ha R (as:=x.1) (S':=x.2) e1 _ λHf1 H1 Fs1 vs Gs t1 R1 r1 o1=>?_
 rw[aNq];refine⟨Hf1,x.1,Gs,av,R1.sub,r1,o1.nd,e2,λHf' H' v F sf hs sub l rv nd new=>?_⟩
 have R2:=R1.chg (λq hq=>⟨o1.fr q hq,o1.out q hq⟩) sf hs sub l
 refine q Hf' H' Fs1 v F (t1.sf.trans sf) R2 rv nd λp hp=>?_
 rcases new p hp with z|z
 .exact ⟨R1.fr.free z,λm=>(R1.mem m).1 z⟩
 .exact ⟨o1.fr p z,o1.out p z⟩
def KN(f:D->Option D) (m:ME):ME:=λS=>(m S).bind λx=>(f x.1).bind λz=>if z.scal=true then some (z,x.2) else none
theorem KJ(f:D->Option D) (m:ME) (S:AS):KN f m S=(m S).bind λx=>(f x.1).bind λz=>if z.scal=true then some (z,x.2) else none:=rfl
theorem QD{r:V->Hp->VK->Prop}{f:D->Option D}{ta:TE}{m:ME}(hr:V9 K r f) (ha:SM K ta m):SM K (VQ r ta) (KN f m):=by
 intro H₀ Hf₀ Hf S σ H Fs d S' R e Q q;obtain⟨x,e1,e⟩:=oBq.mp e;obtain⟨z,e3,e⟩:=oBq.mp e;split at e
 .rename_i hs;cases e;exact ha R (d:=x.1) (S':=x.2) e1 _ λHf1 H1 Fs1 v1 t1 R1 r1=>hr (r1.mono R1.sub) e3 λv rv=>q _ _ _ v t1 R1 (rv.scal hs)
 .cases e
end
end Z
namespace Z
open PySem PySem.Spec PyProof.Rows L2 Mr Xe
section
variable {X:Cx}
theorem Jm:sF X (.type "int") (λxs H Q=>∃b,xs=[.bl b]/\Q (.int (if b=true then 1 else 0)) H):=by
 intro nA s σ H xs us Q I r h;obtain⟨b,rfl,q⟩:=h;obtain⟨u,rfl,hu⟩:=xw r;cases hu;exact call_int_bool ⟨.int (if b=true then 1 else 0),H,I.tok _,⟨_,rfl⟩,q⟩
end
def E5:List D->Option D
 | [.bl b]=>some (.int (if b=true then 1 else 0))
 |_=>none
theorem L7(b:Bool):E5 [.bl b]=some (.int (if b=true then 1 else 0)):=rfl
theorem Pa{K:W.Frag}:Ql K (λxs H Q=>∃b,xs=[.bl b]/\Q (.int (if b=true then 1 else 0)) H) E5:=by
 intro vs H Q ds d r e q;unfold E5 at e;split at e
 .obtain ⟨v,ws,rfl,h1,h2⟩:=r.cons_inv;rw[h2.nil_inv];cases h1;cases e;exact⟨_,rfl,q _ .int⟩
 .cases e
end Z
namespace Z
open PySem L2 Mr Xe
def Gy(k l:MK) (fr:List Nat) (tf:MT) (te:MK):MK:=λS=>(rN k S).bind λy=>(rN l y.2).bind λw=>(qm (nU y.1)).bind λds=>(qm (nU w.1)).bind λes=>(fzAll fr w.2).bind λS2=>(Ad S2 fr).bind λcap=>uI (ds.length=es.length/\ds.length<=qF) ((uq tf te cap (ds.zip es)).map λavs=>(.ow avs,S2))
theorem OM(S:AS) (k l:MK) (fr:List Nat) (tf:MT) (te:MK):Gy k l fr tf te S=(rN k S).bind λy=>(rN l y.2).bind λw=>(qm (nU y.1)).bind λds=>(qm (nU w.1)).bind λes=>(fzAll fr w.2).bind λS2=>(Ad S2 fr).bind λcap=>uI (ds.length=es.length/\ds.length<=qF) ((uq tf te cap (ds.zip es)).map λavs=>(.ow avs,S2)):=rfl
section
variable {K:W.Frag}{tf:TT}{te:TE}{mf:MT}{me:MK}{fr:List Nat}
theorem NL{tl tm:TE}{k l:MK}(hk:SK K tl k) (hm:SK K tm l) (hf:Cp K tf mf) (he:SK K te me):SK K (Nb K (Q4 K (sY tl (sY tm xr))) fr tf te) (Gy k l fr mf me):=by
 intro H₀ Hf₀ Hf S σ H Fs av S' R e Q q;obtain⟨z,e0,e⟩:=oBq.mp e;obtain⟨w,e0',e⟩:=oBq.mp e;obtain⟨ds,e2,e⟩:=oBq.mp e;obtain⟨es,e2',e⟩:=oBq.mp e;obtain⟨S2,e3,e⟩:=oBq.mp e;obtain⟨cap,e4,e⟩:=oBq.mp e;rcases oC e with ⟨⟨hlen,hl⟩,e⟩|e
 .obtain ⟨avs,e5,e⟩:=oMq.mp e;cases e;have hk':SK K tl (rN k):=SK.frz hk;have hm':SK K tm (rN l):=SK.frz hm;refine hk' R (a:=z.1) (S':=z.2) e0 _ λHf1 H1 Fs1 v F t1 R1 r1 o1=>hm' R1 (a:=w.1) (S':=w.2) e0' _ λHf2 H2 Fs2 v2 F2 t2 R2 r2 o2=>?_
  obtain⟨d,hd⟩:=uU (te:=tl) e0;obtain⟨d2,hd2⟩:=uU (te:=tm) e0';rw[hd]at r1;rw[hd,pH]at e2;rw[hd2]at r2;rw[hd2,pH]at e2';obtain⟨Hf3,Fs3,t3,R3⟩:=R2.fzAll e3;obtain⟨a,vs,rfl,g1,g2⟩:=tG e2 ((r1.sh_inv.2.mono t2.sf).mono t3.sf);obtain⟨b,ws,rfl,g3,g4⟩:=tG e2' (r2.sh_inv.2.mono t3.sf);have lz:(ds.zip es).length=ds.length:=by rw[hU,hlen,iy]
  have lv:vs.length=ds.length:=g2.1.symm;have lw:ws.length=ds.length:=by rw[←g4.1,hlen]
  refine⟨a,b,rfl,⟨vs,R3.sub.seq g1⟩,⟨ws,R3.sub.seq g3⟩,Gn (K:=K) hf he R3 e4 (by rw[lz];exact hl) e5 (λi H s hi=>⟨vs,ws,vs[i]'(by lia),ws[i]'(by lia),s.seq g1,s.seq g3,gEg (by lia),gEg (by lia)⟩) (λH s=>⟨vs,ws,s.seq g1,s.seq g3,by lia⟩) (λi H x H' s hi y=>?_) λHf' H' v F t R' r o=>q _ _ _ v F (((t1.trans t2).trans t3).trans t) R' r (o.back ((t1.trans t2).trans t3))⟩
  obtain⟨T,x',y',hT,rfl,rfl,hx,hy⟩:=y;obtain⟨di,h1,h2⟩:=g2.get' (hx vs (s.seq g1));obtain⟨ei,h3,h4⟩:=g4.get' (hy ws (s.seq g3));refine⟨T,x',y',(di,ei),rfl,BR.of oh,?_,h2,h4,.inr ⟨_,hT,rfl⟩⟩;rw[cY];exact⟨h1,h3⟩
 .cases e
end
end Z
namespace Z
open PySem PySem.Spec PyProof.Rows L2 Mr Xe
section
variable {X:Cx}{a b:Expr}{ta tb:TE}{pos:Pos}{rest:List Expr}
def UR(K:W.Frag) (ta tb:TE):TE:=λσ H Q=>ta σ H λx H1=>∃k,MB K x H1 k/\if k=true then Q x H1 else tb σ H1 Q
theorem SU(ha:PE X a ta) (hb:PE X (.BoolOp .Or (b::rest) pos) tb):PE X (.BoolOp .Or (a::b::rest) pos) (UR X.K ta tb):=by
 intro nA s σ H Q I h;refine BoolOp_or (thn (ha nA s σ H _ I h) λv s1 hz1=>?_)
 obtain⟨x,H1,I1,r1,k,tk,q1⟩:=hz1;refine thn (Gw nA s1 σ H1 x v (λc H2=>(c=true->Q x H2)/\(c=false->tb σ H2 Q)) I1 r1 ⟨k,tk,?_⟩) λc s2 hz2=>?_
 .cases k with
  |true=>exact⟨λ_=>q1,λh=>by cases h⟩
  |false=>exact⟨λh=>(by cases h),λ_=>q1⟩
 .obtain ⟨H2,I2,q2,q3⟩:=hz2;cases c with
  |false=>exact hb nA s2 σ H2 Q I2 (q3 rfl)
  |true=>exact⟨x,H2,I2,r1,q2 rfl⟩
end
section
variable {K:W.Frag}{ta tb:TE}{k l:MK}
def Q6(k l:MK):MK:=λS=>(k S).bind λx=>match x.1 with
 | .ow avs=>if avs.isEmpty=true then l x.2 else some x
 |_=>none
theorem Qr(k l:MK) (S:AS):Q6 k l S=(k S).bind λx=>match x.1 with
 | .ow avs=>if avs.isEmpty=true then l x.2 else some x
 |_=>none:=rfl
theorem S7(ha:SK K ta k) (hb:SK K tb l):SK K (UR K ta tb) (Q6 k l):=by
 intro H₀ Hf₀ Hf S σ H Fs av S' R e Q q;obtain⟨x,e1,e⟩:=oBq.mp e;refine ha R (a:=x.1) (S':=x.2) e1 _ λHf1 H1 Fs1 v F t1 R1 r1 o1=>?_
 split at e
 .rename_i avs hx;rw[hx]at r1;obtain⟨p,vs,Gs,rfl,rfl,h1,h2,h3⟩:=r1.ow_inv;refine⟨!avs.isEmpty,.inl ⟨vs,qS.of h1,vA h3.1⟩,?_⟩;cases c:avs.isEmpty with
  |true =>
   rw[c]at e;have e:l x.2=some (av,S'):=e;refine Bs ?_;exact hb R1 (a:=av) (S':=S') e _ λHf2 H2 Fs2 v2 F2 t2 R2 r2 o2=>q _ _ _ _ _ (t1.trans t2) R2 r2 (o2.back t1)
  |false =>
   rw[c]at e;have e:x=(av,S'):=aU.inj e;refine Bh ?_;have e1:x.1=av:=by rw[e]
   have e2:x.2=S':=by rw[e]
   rw[←hx,e1]at r1;rw[e2]at R1;exact q _ _ _ _ _ t1 R1 r1 o1
 .cases e
end
end Z
namespace Mr
open PySem PySem.Calls PySem.Spec PyProof.Rows L2
open PySem.MeetsSeq (size_erased plain_remove_loop entry_remove_loop)
end Mr
namespace Z
open PySem L2 Mr Xe
end Z
namespace MrS
open PySem PySem.W PyProof.Rows
end MrS
namespace Mr
open PySem PySem.W PySem.Spec PyProof.Rows L2
end Mr
namespace Z
open PySem L2 Mr Xe
variable {K:W.Frag}{t u:TS}{m m':MS}{te:TE}{k:MK}{J:List Nat}
variable {K:W.Frag}{t v:TS}
end Z
namespace Mr
open PySem L2
variable {K:W.Frag}{h:Heap}{mg:Str->Option Value}{x z:Str}{st:Stmt}{f O:Addr}{fd:ja}
structure At (K:W.Frag) (x:Str) (st:Stmt) (f:Addr) (fd:ja):Prop where
 a:W.nsIn K iS x=some (some (.ref f))
 F:P2 K x x st f fd
section
variable {oc kV doc pm tj ct:Value}{od an:Option Addr}{osl:Array (Option Value)}
theorem Ug(a:W.nsIn K iS x=some (some (.ref f))) (l:K.lookup f=some ⟨oc,od,.func (W.fnOf x x (uv st) (sL st) (og st) .none kV doc pm an tj ct),osl⟩)
  (c:W.codeIn K tj x=true) (k:W.keepIn K (.ref f)=true):At K x st f (W.fnOf x x (uv st) (sL st) (og st) .none kV doc pm an tj ct):=⟨a,G2 l c k⟩
end
abbrev BA(x q:Str) (st:Stmt) (ps:List Str) (us:List Value):Prop:=∀(kV doc pm:Value) (an:Option Addr) (tj ct:Value),bindArgs (W.fnOf x q (uv st) (sL st) (og st) .none kV doc pm an tj ct) ⟨us,[]⟩=pure (ps.zip us)
section
variable {q a b c d:Str}(F:P2 K x q st f fd)
include F
theorem b1(h:∀u,BA x q st [a] [u]):yu K fd [a] []:=F.binds λ_ _ _ _ _ _ us hl=>by
 obtain - | ⟨u, - | ⟨v,l⟩⟩:=us <;> cases hl
 apply h
theorem b2(h:∀u v,BA x q st [a,b] [u,v]):yu K fd [a,b] []:=F.binds λ_ _ _ _ _ _ us hl=>by
 obtain - | ⟨u, - | ⟨v, - | ⟨w,l⟩⟩⟩:=us <;> cases hl
 apply h
theorem b3(h:∀u v w,BA x q st [a,b,c] [u,v,w]):yu K fd [a,b,c] []:=F.binds λ_ _ _ _ _ _ us hl=>by
 obtain - | ⟨u, - | ⟨v, - | ⟨w, - | ⟨y,l⟩⟩⟩⟩:=us <;> cases hl
 apply h
end
theorem CP{ps:List Str}(X:K.In h) (G:h.Ns iS mg) (a:At K x st f fd) (b:yu K fd ps []):AE K mg x st ps f fd:=⟨a.F,W.mg_of X G a.a,b⟩
end Mr
namespace Zl
open PySem L2 Mr Z
def wG:MS:=(oa (zJ (uE (oV Il (nH 1) (vO sm (nO (nH 0) oj)))) (su (kSc (oV Cc (nH 0) (nH 1)))) qM)
 (su (kSc (rC (.int 0)))))
def nV:MF:=vi 2 2 wG
def ve:MS:=(xD 1 (nH 4) (oS 2))
def vf:MS:=(yq 4 (oS 3) ve)
def zh:MS:=(oa (ox 1 Ar)
 (oa (Iq 2 3 (oS 0) vf)
 (su (Cv 1))))
def pP:MF:=vi 1 5 zh
theorem vq(ns:List Int) {k:Int}(h:0<=k):nV [.scr ns,.int k]=some (.sh (.int (cell ns k.toNat))):=by
 by_cases c:k<(ns.length:Int)
 .have hk:k.toNat<ns.length:=by lia
  have e:ns.getD k.toNat 0=ns[k.toNat]:=AQ hk
  simp_arith [nV,wG,c,IQ h,gEg hk,cell,e]
 .have hk:ns.length<=k.toNat:=by lia
  have e:ns.getD k.toNat 0=0:=by rw[gDq,bu hk];rfl
  simp_arith [nV,wG,c,cell,e]
theorem Qo(ns:List Int):nV [.scr ns,.int 0]=some (.sh (.int (cell ns 0))):=vq ns (by decide)
theorem TR(ns:List Int):nV [.scr ns,.int 1]=some (.sh (.int (cell ns 1))):=vq ns (by decide)
theorem UC(ns:List Int):nV [.scr ns,.int 2]=some (.sh (.int (cell ns 2))):=vq ns (by decide)
theorem Jl{n:Int}{ns:List Int}:ns.foldl min n∈n::ns/\∀x∈n::ns,ns.foldl min n<=x:=⟨vD ns n,λx hx=>(aj.mp hx).elim (λe=>e ▸ (uz ns n).1) ((uz ns n).2 x)⟩
theorem ro{rs:List (List Int)}{i:Nat}{r:List Int}(h:rs[i]?=some r):(rs.take (i+1)).flatten=(rs.take i).flatten++r:=by
 rw[bw,h,fAq];simp
theorem ui(rs:List (List Int)) (i:Nat):(rs.take i).flatten.length<=rs.flatten.length:=by
 have:=congrArg bL (congrArg List.flatten (bA i rs));rw[fAq,lAq]at this;lia
theorem DP{rs:List (List Int)}{i:Nat}{d:D}(h:(rs.map dI)[i]?=some d):∃r,rs[i]?=some r/\d=dI r:=by
 rw[gMq]at h;obtain⟨r,h1,h2⟩:=oMq.mp h;exact⟨r,h1,h2.symm⟩
theorem DV{ns:List Int}{i:Nat}{d:D}(h:(ns.map D.int)[i]?=some d):∃z,ns[i]?=some z/\d = .int z:=by
 rw[gMq]at h;obtain⟨r,h1,h2⟩:=oMq.mp h;exact⟨r,h1,h2.symm⟩
theorem UO{ts:List (List Int)}{a:Nat}(h:a<ts.length):atI (ts.map dI) (a:Int)=some (dI (ts.getD a [])):=by
 rw[OE,IQ (by lia),aX,gDq,gEg h]
 rfl
end Zl
--ZQ3 --ZQ4
namespace Zl
open PySem L2 Mr Z Xe
def bare(rs:List (List Int)):Nat:=rs.countP (·=([]:List Int))
section
variable {rs:List (List Int)}(hl:rs.flatten.length<=500000)
include hl
end
theorem Jz(rs:List (List Int)):(zK (rs.map qZ)).flatten.Perm rs.flatten:=(wB (tV _)).trans (rO uH rs)
end Zl
namespace Zl
open PySem L2 Mr Z
def sO(p:Nat) (r:List Int):List (oy×D):=r.map λe=>(.inl e,.int (p:Int))
def oD:Nat->List (List Int)->List (oy×D)
 |_,[]=>[]
 |p,r::rs=>sO p r++oD (p+1) rs
theorem Aw(r:List Int):∀(rs:List (List Int)) (p:Nat),oD p (rs++[r])=oD p rs++sO (p+rs.length) r
 | [],p=>by simp[oD]
 |s::rs,p=>by
  show sO p s++oD (p+1) (rs++[r])=(sO p s++oD (p+1) rs)++_;rw[Aw r rs (p+1),ah,lCq,show p+1+rs.length=p+(rs.length+1) by lia]
theorem xQ:∀(rs:List (List Int)) (p:Nat),(oD p rs).map (·.1)=rs.flatten.map aG
 | [],p=>rfl
 |r::rs,p=>by
  show (sO p r++oD (p+1) rs).map (·.1)=_;rw[mBq,xQ rs (p+1),fCq,mBq];congr 1;unfold sO;rw[mPq];rfl
theorem G0(rs:List (List Int)) (p:Nat):(oD p rs).length=rs.flatten.length:=by
 have:=congrArg bL (xQ rs p)
 rwa [lMq,lMq]at this
theorem Fx{kvs:List (oy×D)}{k:oy}{d:D}(h:k∉kvs.map (·.1)):xf kvs k d=kvs++[(k,d)]:=by
 unfold xf;rw[oB];intro e;obtain⟨kv,hk,e⟩:=dS.mp e;exact h (mMq.mpr ⟨kv,hk,of_decide_eq_true e⟩)
theorem getD_app{k:oy}:∀{a b:List (oy×D)},k∉a.map (·.1)->Z.getD (a++b) k=Z.getD b k
 | [],b,_=>rfl
 |x::a,b,h=>by
  unfold Z.getD;rw[List.cons_append,cT (by
   intro e;exact h (by rw[←of_decide_eq_true e];simp))]
  exact getD_app (k:=k) (a:=a) (b:=b) λm=>h (by simp only[aC,aj];exact .inr m)
theorem FS{p:Nat}{e:Int}{b:List (oy×D)}:∀{r:List Int},e∈r->Z.getD (sO p r++b) (.inl e)=some (.int p)
 | [],h=>by cases h
 |x::r,h=>by
  unfold Z.getD;show ((((aG x:oy),D.int (p:Int))::(sO p r++b)).find? _).map _=_
  by_cases c:x=e
  .subst c;rw[dC (by simp)]
   rfl
  .rw [cT (by simp[c])]
   exact FS (r:=r) ((aj.mp h).resolve_left λz=>c z.symm)
theorem yg{e:Int}{r:List Int}:∀{rs:List (List Int)}{i:Nat}(p:Nat),rs.flatten.Nodup->rs[i]?=some r->e∈r->Z.getD (oD p rs) (.inl e)=some (.int ((p+i:Nat):Int))
 | [],i,p,_,h,_=>by simp at h
 |s::rs,0,p,hn,h,he=>by
  simp at h;subst h;exact FS he
 |s::rs,i+1,p,hn,h,he=>by
  rw[fCq,nAq]at hn;have h':rs[i]?=some r:=by simpa using h
  have:=yg (rs:=rs) (i:=i) (p+1) hn.2.1 h' he;rw[show p+1+i=p+(i+1) by lia]at this
  rw[←this];refine getD_app ?_;unfold sO;rw[mPq];intro m;obtain⟨x,hx,e2⟩:=mMq.mp m;cases e2;exact hn.2.2 _ hx _ (mFq.mpr ⟨r,mGq h',he⟩) rfl
theorem uo{rs:List (List Int)}(hn:rs.flatten.Nodup) (hl:rs.flatten.length<=500000):pP [dM rs]=some (.owd (oD 0 rs)):=by
 have key:=LG (x:=2) (y:=3) (k:=0) (body:=vf) (λi S=>∃v2 v3 v4,S=[some (.sh (dM rs)),some (.owd (oD 0 (rs.take i))),v2,v3,v4]) (ds:=rs.map dI) (S:=[some (.sh (dM rs)),some (.owd []),none,none,none]) ⟨none,none,none,rfl⟩ (by
  rintro i d S hd ⟨v2,v3,v4,rfl⟩;rw[bY];obtain⟨r,hr,rfl⟩:=DP hd;have hfl:=ro hr;have hle:=ui rs (i+1);have hi:i<rs.length:=(gSq.mp hr).1;have hnd:((rs.take i).flatten++r).Nodup:=by
   rw[←hfl];have e0:rs.flatten=(rs.take (i+1)).flatten++(rs.drop (i+1)).flatten:=by rw[←fAq,bA]
   rw[e0]at hn;exact(nAq.mp hn).1
  rw[hfl,lAq]at hle;have k2:=tX (x:=4) (body:=ve) (λj S=>∃v4,S=[some (.sh (dM rs)),some (.owd (oD 0 (rs.take i)++sO i (r.take j))),some (.sh (.int i)),some (.sh (dI r)),v4]) (ds:=r.map D.int) (S:=[some (.sh (dM rs)),some (.owd (oD 0 (rs.take i))),some (.sh (.int i)),some (.sh (dI r)),v4]) ⟨v4,by simp[sO]⟩ (by
   rintro j d S hd ⟨v4,rfl⟩;obtain⟨z,hz,rfl⟩:=DV hd;have hj:j<r.length:=(gSq.mp hz).1;have h3:(oD 0 (rs.take i)++sO i (r.take j)).length<qF:=M1 (by
    rw[lAq,G0];unfold sO;rw[lMq,lTq];lia)
   have hput:xf (oD 0 (rs.take i)++sO i (r.take j)) (.inl z) (.int (i:Int))=oD 0 (rs.take i)++sO i (r.take (j+1)):=by
    rw[Fx]
    .unfold sO;rw[tH hz,mBq,ah];rfl
    .rw [mBq,xQ];intro m;have e1:r.take (j+1)=r.take j++[z]:=tH hz;rcases mAq.mp m with m|m
     .obtain ⟨x,hx,e2⟩:=mMq.mp m;cases e2;exact(nAq.mp hnd).2.2 _ hx _ (mGq hz) rfl
     .unfold sO at m;rw[mPq]at m;obtain⟨x,hx,e2⟩:=mMq.mp m;cases e2;have:=cR.sublist (bD (j+1) r) (nAq.mp hnd).2.1;rw[e1]at this;exact(nAq.mp this).2.2 _ hx _ (by simp) rfl
   refine⟨_,?_,some (.sh (.int z)),rfl⟩
   simp_arith [ve,h3,hput])
  obtain⟨S2,e2,w4,rfl⟩:=k2;rw[lMq,aZ]at e2;refine⟨_,?_,some (.sh (.int i)),some (.sh (dI r)),w4,rfl⟩;rw[tH hr,Aw,lTq,dz (by lia),bY]
  simp_arith [vf,e2])
 obtain⟨S',e,v2,v3,v4,rfl⟩:=key;rw[bY,lMq,aZ]at e
 simp_arith [pP,zh,e]
theorem xH{c:MT}{body:MS}(P:AS->Prop) (μ:AS->Nat) (Qf:AS->Prop) (h:∀S,P S->∃b S1,c S=some (b,S1)/\(b=true->∃S2,body S1=some (.nx S2)/\P S2/\μ S2<μ S)/\(b=false->Qf S1)) :
  ∀(fuel:Nat) (S:AS),P S->μ S<fuel->∃S',rV c body fuel S=some (.nx S')/\Qf S'
 |0,S,_,hm=>absurd hm (cX _)
 |n+1,S,hp,hm=>by
  obtain⟨b,S1,e1,h1,h2⟩:=h S hp;rw[OP,e1,fR];cases b with
  |true =>
   obtain⟨S2,e2,p2,m2⟩:=h1 rfl;rw[oz rfl,e2];exact xH P μ Qf h n S2 p2 (by lia)
  |false =>
   rw[oB (by simp)]
   exact⟨S1,rfl,h2 rfl⟩
end Zl
--ZQ3 --ZQ4 --ZQ5 --ZQ6 --ZQ8 --ZQ9 --ZQB
namespace Zl
open PySem L2 Mr Z Xe
def plc(rs:List (List Int)) (e:Int):Nat:=rs.findIdx λr=>decide (e∈r)
theorem same_place{rs:List (List Int)}(hn:rs.flatten.Nodup) {i j:Nat}{r s:List Int}{e:Int}(hi:rs[i]?=some r) (hj:rs[j]?=some s) (h1:e∈r) (h2:e∈s):i=j:=by
 have a:=yg 0 hn hi h1;have b:=yg 0 hn hj h2;rw[a]at b;have:=D.int.inj (aU.inj b);lia
theorem plc_eq{rs:List (List Int)}(hn:rs.flatten.Nodup) {i:Nat}{r:List Int}{e:Int}(hi:rs[i]?=some r) (h1:e∈r):plc rs e=i:=by
 have hl:rs.findIdx (λr=>decide (e∈r))<rs.length:=eT ⟨r,mGq hi,decide_eq_true h1⟩
 have h2:=gA (xs:=rs) (p:=λr=>decide (e∈r)) (w:=hl)
 exact same_place hn (gEg hl) hi (of_decide_eq_true h2) h1
structure Mp (rs:List (List Int)):Prop where
 hn:rs.flatten.Nodup
 hl:rs.flatten.length<=1000
 hr:rs.length<=1000
 hneg:∀e∈rs.flatten, -e∈rs.flatten
theorem Mp.at{rs:List (List Int)}(h:Mp rs) {e:Int}(he:e∈rs.flatten):∃r,rs[plc rs e]?=some r/\e∈r:=by
 obtain⟨r,h1,h2⟩:=mFq.mp he;obtain⟨i,h3⟩:=bb.mp h1;exact⟨r,by rw[plc_eq h.hn h3 h2];exact h3,h2⟩
theorem Mp.row{rs:List (List Int)}(h:Mp rs) {k:Nat}{r:List Int}(hk:rs[k]?=some r):r.length<=1000:=by
 have:=fW.length_le (bq (mGq hk));have:=h.hl;lia
def V3(f:Int->Int):Nat->Int->Int
 |0,e=>e
 |n+1,e=>f (V3 f n e)
theorem QN:∀(l E:List Int),l.Nodup->(∀x∈l,x∈E)->l.length<=E.length
 | [],E,_,_=>aV _
 |x::l,E,hn,h=>by
  have hn':=ax.mp hn;have hx:=h x (au ..);have h2:=QN l (E.erase x) hn'.2 (λy hy=>by
   refine(List.mem_erase_of_ne ?_).mpr (h y (mCo _ hy));intro e;exact hn'.1 (e ▸ hy))
  rw[List.length_erase_of_mem hx]at h2;have:=eQ hx;rw[lCq];lia
section
variable {f:Int->Int}{E:List Int}
structure Cy (f:Int->Int) (e:Int) (l:List Int):Prop where
 len:1<=l.length
 get:l=(aN l.length).map λn=>V3 f n e
 back:V3 f l.length e=e
 nd:l.Nodup
end
end Zl
namespace K13
open PySem L2 Mr Z Xe
end K13
namespace K51
open PySem L2 Mr Z Xe
def yK:MS:=(xD 1 (nH 3) (oS 4))
def yV:MS:=(Mz 3 4 (oS 2) (ON (lOf (Qb (vh 2) (yz (rC (.int 1))) Dj)) (lOf (Qb (vh 2) Dj (yz (rC (.int 1)))))) yK)
def EN:MS:=(oa (ox 1 Ar)
 (oa (yq 2 (oS 0) yV)
 (su (Cv 1))))
def zo:MF:=vi 1 5 EN
def rL:MS:=(oa (ox 7 (kSc (uj (nH 2) (DC vg (nH 6))))) (zJ (uE (tN (nH 7) (nH 3))) (oa (xD 3 (nH 7) (kSc (rC (.bl true)))) (wR 4 (oS 7))) qM))
def ux:MS:=(oa (C6 5 (yv 4)) (yq 6 (Qx (vh 0) (nH 5)) rL))
def BS:MS:=(oa (ox 2 (qL Zl.pP (oA (oS 0) pQ)))
 (oa (ox 3 (BE (nH 1) (kSc (rC (.bl true)))))
 (oa (ox 4 (tI (oA (oS 1) pQ)))
 (oa (rV (uE (oV Qs (vO sm (nO (nH 4) oj)) (rC (.int 0)))) ux 100000)
 (su (DZ (nH 3)))))))
def uG:MF:=vi 2 8 BS
def vz:MS:=(xD 1 (nH 5) (kSc (rC (.bl true))))
def vo:MS:=(zJ (uE (tN (nH 3) (nH 1))) (oa (ox 4 (qL K51.uG (oA (oS 0) (oA (oS 3) pQ)))) (oa (yq 5 (oS 4) vz) (wR 2 (AA (NV (oS 4)) [0] xn (zG (lOf (Qx (vh 1) (nH 0)))))))) qM)
def Dx:MS:=(oa (ox 1 Ar)
 (oa (ox 2 (tI pQ))
 (oa (A9 3 (nO (vO sm (nO (nH 0) oj)) oj) vo)
 (su (Cv 2)))))
def xI:MF:=vi 1 6 Dx
def qI:MX:=(Wb (uE (oV S6 (vO sm (nO (rOf (qL K51.xI (oA (oS 0) pQ))) oj)) (rC (.int 1)))) (Ek "NotOnePiece") (Mg qM))
def oP:Fo:=GV 1 1 qI
def uF:MS:=(oa (ox 6 (kSc (uj (nH 1) (DC vg (nH 5))))) (zJ (uE (oV C7 (nH 5) (uj (nH 3) (uj (nH 1) (nH 5))))) (oa (wR 4 (MY (oA (kSc (rC (.str "up"))) (oA (oS 5) pQ)))) (ox 5 (kSc (uj (nH 2) (DC vg (nH 5)))))) (zJ (uE (tN (nH 6) (nH 3))) (oa (xD 3 (nH 6) (kSc (DC vg (nH 5)))) (oa (wR 4 (MY (oA (kSc (rC (.str "down"))) (oA (oS 5) pQ)))) (ox 5 (kSc (uj (nH 2) (DC vg (nH 5))))))) (oa (wR 4 (MY (oA (kSc (rC (.str "side"))) (oA (oS 5) pQ)))) (ox 5 (kSc (uj (nH 2) (nH 5))))))))
def Ee:MX:=(CA (LS K51.oP (oA (oS 0) pQ))
 (CA (Mg (zJ (uE (oV C7 (vO sm (nO (oV Cc (nH 0) (rC (.int 0))) oj)) (rC (.int 0)))) (su (tI pQ)) qM))
 (CA (Mg (ox 1 (qL Zl.pP (oA (oS 0) pQ))))
 (CA (Mg (ox 2 (qL K51.zo (oA (oS 0) pQ))))
 (CA (Mg (ox 3 (BE (rC (.int 0)) (kSc (rC .non)))))
 (CA (Mg (ox 4 (tI pQ)))
 (CA (Mg (ox 5 (kSc (oV Cc (oV Cc (nH 0) (rC (.int 0))) (rC (.int 0))))))
 (CA (Mg (rV (uE (oV Il (vO sm (nO (nH 4) oj)) (vO Am (nO (nH 2) oj)))) uF 100000))
 (Mg (su (Cv 4)))))))))))
def xj:Fo:=GV 1 7 Ee
def yH:MS:=(oa (ox 1 (kSc (rC (.int 1))))
 (oa (ox 2 (kSc (rC (.int 0))))
 (oa (zJ (uE (oV Qs (oV tK (rP Zl.nV (nO (nH 0) (nO (rC (.int 0)) oj))) (rC (.int 3))) (rC (.int 0)))) (oa (ox 1 (kSc (oV vR (rC (.int 1)) (oV tK (rP Zl.nV (nO (nH 0) (nO (rC (.int 1)) oj))) (oV E9 (rC (.int 10)) (rC (.int 57))))))) (ox 2 (kSc (oV tK (rP Zl.nV (nO (nH 0) (nO (rC (.int 2)) oj))) (oV E9 (rC (.int 10)) (rC (.int 59))))))) qM)
 (oa (ox 3 (kSc (oV vR (rC (.int 1)) (oV tK (oV AJ (rP Zl.nV (nO (nH 0) (nO (rC (.int 0)) oj))) (rC (.int 3))) (rC (.int 66))))))
 (oa (ox 4 (kSc (oV tK (oV AJ (rP Zl.nV (nO (nH 0) (nO (rC (.int 0)) oj))) (rC (.int 198))) (rC (.int 67)))))
 (su (AA (Vr (nO (rC (.int 67)) oj)) [2,1,4,3] xn (kSc (oV vR (oV zX (nH 2) (oV vR (rC (.int 1)) (oV tK (oV vR (oV zX (nH 4) (nH 0)) (nH 3)) (rC (.int 67))))) (nH 1))))))))))
def tq:MF:=vi 1 5 yH
def CU:MS:=(su (AA (NV (oS 0)) [] xn (zG (vh 0))))
def wq:MF:=vi 1 1 CU
def BN:MS:=(su (kSc (D9 (vO xY (nO (nH 0) (nO (rC (.ty "int")) oj))) (Q3 (vO xY (nO (nH 0) (nO (rC (.ty "bool")) oj)))))))
def yf:MF:=vi 1 1 BN
def vG:MS:=(oa (zJ (FZ (yx (uE (vO xY (nO (nH 1) (nO (rC (.ty "tuple")) oj))))) (uE (oV S6 (vO sm (nO (nH 1) oj)) (rC (.int 2))))) (su (kSc (rC (.bl false)))) qM) (zJ (FZ (yx (uE (vO xY (nO (oV NZ (nH 1) (rC (.int 0))) (nO (rC (.ty "str")) oj))))) (yx (uE (rP K51.yf (nO (oV NZ (nH 1) (rC (.int 1))) oj))))) (su (kSc (rC (.bl false)))) qM))
def Aq:MS:=(oa (zJ (yx (uE (vO xY (nO (nH 0) (nO (rC (.ty "list")) oj))))) (su (kSc (rC (.bl false)))) qM)
 (oa (yq 1 (oS 0) vG)
 (su (kSc (rC (.bl true))))))
def tu:MF:=vi 1 2 Aq
end K51
namespace K12
open PySem L2 Mr Z Xe
end K12
namespace K15
open PySem L2 Mr Z
end K15
namespace K23
open PySem L2 Mr Z Xe
end K23
namespace K31
open PySem L2 Mr Z Xe
end K31
namespace K43
open PySem L2 Mr Z Xe
end K43
namespace K61
open PySem L2 Mr Z
end K61
namespace K72
open PySem L2 Mr Z Xe
def ud:MS:=(oa (zJ (yM (nH 2)) (oa (ox 3 (kSc (Vl "list" zN (nH 2) (nO (vO PZ (nO (nH 2) oj)) oj)))) (ox 2 (ON (lOf (Qb (vh 2) (yz (nH 3)) Dj)) (lOf (Qb (vh 2) Dj (yz (nH 3))))))) qM) (wR 1 (oS 2)))
def Dv:MS:=(oa (ox 1 (tI pQ))
 (oa (yq 2 (oS 0) ud)
 (su (GS (vh 1)))))
def uL:MF:=vi 1 4 Dv
end K72
namespace K75
open PySem L2 Mr Z Xe
def wM:MS:=(oa (Kt 3 (zb 2 (oV tK (nH 0) (vO sm (nO (nH 2) oj))))) (ox 0 (kSc (oV AJ (nH 0) (oV vR (vO sm (nO (nH 2) oj)) (rC (.int 1)))))))
def Cf:MS:=(oa (ox 2 (DK (nO (nH 1) oj)))
 (oa (ox 3 (tI pQ))
 (oa (A9 4 (nO (nH 1) oj) wM)
 (su (Cv 3)))))
def vT:MF:=vi 2 5 Cf
def vE:MS:=(oa (ox 6 (kSc (oV Eh (oV vR (oV Eh (oV E9 (rC (.int 10)) (rC (.int 60))) (nH 1)) (nH 5)) (nH 4)))) (oa (ox 4 (kSc (oV vR (oV vR (nH 4) (rC (.int 1))) (oV tK (nH 2) (nH 6))))) (oa (ox 2 (kSc (oV M4 (nH 2) (nH 6)))) (wR 3 (oS 4)))))
def Au:MS:=(oa (ox 2 (kSc (rP Zl.nV (nO (nH 0) (nO (rC (.int 2)) oj)))))
 (oa (ox 3 (tI pQ))
 (oa (ox 4 (kSc (rC (.int 0))))
 (oa (A9 5 (nO (nH 1) oj) vE)
 (su (Cv 3))))))
def vb:MF:=vi 2 7 Au
def wC:MS:=(SV 3 (lOf (tI (oA (oS 4) (oA (kSc (oV Eh (rC (.int 0)) (nH 4))) pQ)))))
def wV:MS:=(oa (xD 7 (nH 10) (kSc (rC (.bl true)))) (oa (wR 9 (oS 10)) (ox 10 (kSc (oV Cc (nH 3) (oV Cc (nH 5) (Vl "list" zN (nH 3) (nO (nH 10) oj))))))))
def va:MS:=(oa (ox 9 (tI pQ)) (oa (ox 10 (oS 8)) (oa (rV (uE (tN (nH 10) (nH 7))) wV 100000) (zJ (yM (nH 9)) (wR 6 (oS 9)) qM))))
def Ga:MS:=(oa (ox 2 (kSc (oV tK (rP Zl.nV (nO (nH 0) (nO (rC (.int 1)) oj))) (oV vR (nH 1) (rC (.int 1))))))
 (oa (ox 3 (tI pQ))
 (oa (yq 4 (qL K75.vb (oA (oS 0) (oA (oS 2) pQ))) wC)
 (oa (ox 5 (qL K75.vT (oA (kSc (rP Zl.nV (nO (nH 0) (nO (rC (.int 4)) oj)))) (oA (kSc (vO sm (nO (nH 3) oj))) pQ))))
 (oa (ox 6 (AA (Vr (nO (oV tK (oV AJ (rP Zl.nV (nO (nH 0) (nO (rC (.int 1)) oj))) (oV vR (nH 1) (rC (.int 1)))) (rC (.int 4))) oj)) [] xn (tI pQ)))
 (oa (ox 7 Ar)
 (oa (yq 8 (oS 3) va)
 (su (qL K72.uL (oA (oS 6) pQ))))))))))
def yj:MF:=vi 2 11 Ga
end K75
namespace K52
open PySem L2 Mr Z Xe
def qR:MS:=(oa (ox 7 (kSc (oV tK (nH 6) (rC (.int 7))))) (Pg 8 3 (UX 3 (LI 3) (oV Cc (nH 4) (DC vg (rC (.int 1))))) (ES 3 (Bj (uE (oV Il (rC (.int 4)) (nH 7))) (yM (nH 5))) (EB 3 (ox 9 (kSc (oV Eh (vO sm (nO (nH 5) oj)) (rC (.int 1))))) (EB 3 (zJ (uE (nH 2)) (ox 9 (kSc (oV tK (oV AJ (nH 6) (rC (.int 7))) (vO sm (nO (nH 5) oj))))) qM) (DM 3 (KN vg (zb 5 (nH 9)))))) (ES 3 (Bj (uE (O2 Il Il (rC (.int 1)) (nH 7) (rC (.int 4)))) (uE (oV Qs (vO sm (nO (nH 4) oj)) (rC (.int 1))))) (λ_=>(Bk (yv 4))) (ES 3 (yM (nH 1)) (EB 3 (C6 10 (O4 zX (yv 1) (oV Eh (rC (.int 1)) (oV zX (rC (.int 2)) (oV tK (oV AJ (nH 6) (rC (.int 7))) (rC (.int 2))))))) (λpath=>oa ((IK 3 (oS 10)) path) (zJ (uE (oV Il (nH 7) (rC (.int 2)))) (oa (wR 4 (kSc (vO sm (nO (nH 3) oj)))) (wR 3 (tI (oA (kSc (DC vg (nH 10))) pQ)))) (wR 5 (oS 10))))) (λ_=>qM))))))
def uy:MS:=(HA 3 (UX 3 (LI 3) (oV Cc (nH 4) (DC vg (rC (.int 1))))) (KN vg (yv 5)))
def BL:MS:=(oa (ox 3 (tI (oA (tI pQ) pQ)))
 (oa (ox 4 (tI (oA (kSc (rC (.int 0))) pQ)))
 (oa (ox 5 (tI pQ))
 (oa (yq 6 (oS 0) qR)
 (oa (rV (yM (nH 5)) uy 100000)
 (su (qL K72.uL (oA (oS 3) pQ))))))))
def tL:Tr:=Jw 3 11 BL
def vB:MS:=(xD 1 (nH 4) (kSc (oV Cc (nH 2) (oV tK (oV vR (nH 3) (rC (.int 1))) (vO sm (nO (nH 2) oj))))))
def vJ:MS:=(Iq 3 4 (oS 2) vB)
def Ax:MS:=(oa (ox 1 Ar)
 (oa (yq 2 (oS 0) vJ)
 (su (Cv 1))))
def uT:MF:=vi 1 5 Ax
def oZ:MS:=(oa (ox 9 (kSc (oV Hj (nH 8) (rC (.int 1))))) (oa (zJ (FZ (uE (oV S6 (nH 9) (nH 7))) (FZ (uE (SN (nH 9) (nH 6))) (uE (tN (nH 9) (nH 2))))) (su (kSc (rC (.bl false)))) qM) (oa (xD 6 (nH 9) (kSc (rC (.bl true)))) (oa (ox 10 (kSc (rC (.str "side")))) (oa (ox 7 (kSc (uj (nH 3) (nH 9)))) (oa (zJ (Bj (yM (nH 5)) (uE (oV C7 (oV Cc (nH 5) (DC vg (rC (.int 1)))) (nH 9)))) (oa (ox 10 (kSc (rC (.str "up")))) (oa (Bk (yv 5)) (ox 7 (kSc (uj (nH 3) (DC vg (nH 9))))))) (zJ (uE (tN (uj (nH 2) (DC vg (nH 9))) (nH 4))) (oa (ox 10 (kSc (rC (.str "down")))) (oa (xD 4 (uj (nH 2) (DC vg (nH 9))) (kSc (rC (.bl true)))) (oa (wR 5 (kSc (DC vg (nH 9)))) (ox 7 (kSc (uj (nH 3) (DC vg (nH 9)))))))) qM)) (zJ (uE (oV S6 (oV Hj (nH 8) (rC (.int 0))) (nH 10))) (su (kSc (rC (.bl false)))) qM)))))))
def vH:MS:=(oa (ox 2 (qL Zl.pP (oA (oS 0) pQ)))
 (oa (ox 3 (qL K52.uT (oA (oS 0) pQ)))
 (oa (ox 4 (BE (rC (.int 0)) (kSc (rC (.bl true)))))
 (oa (ox 5 (tI pQ))
 (oa (ox 6 Ar)
 (oa (ox 7 (kSc (rC (.int 0))))
 (oa (zJ (yM (oV Cc (nH 0) (rC (.int 0)))) (ox 7 (kSc (oV Cc (oV Cc (nH 0) (rC (.int 0))) (rC (.int 0))))) qM)
 (oa (yq 8 (oS 1) oZ)
 (su (kSc (D9 (oV C7 (vO Am (nO (nH 6) oj)) (vO Am (nO (nH 2) oj))) (D9 (oV C7 (vO Am (nO (nH 4) oj)) (vO sm (nO (nH 0) oj))) (Nz (nH 5))))))))))))))
def qP:MF:=vi 2 11 vH
def sP:MS:=(oa (ox 5 (kSc (oV Cc (nH 2) (uj (nH 1) (nH 4))))) (oa (ox 6 (kSc (oV Cc (nH 2) (uj (nH 1) (DC vg (nH 4)))))) (ox 2 (AA (NV (oS 2)) [5,6] xn (kSc (oV Cc (rOf (tI (oA (oS 0) (oA (oS 1) pQ)))) (vO E5 (nO (oV C7 (nH 0) (nH 2)) oj))))))))
def ur:MS:=(yq 4 (oS 3) sP)
def uw:MS:=(wR 7 (Gy (oS 0) (oS 2) [5] (uE (oV C7 (nH 1) (nH 2))) (oS 0)))
def yT:MS:=(oa (ox 1 (qL Zl.pP (oA (oS 0) pQ)))
 (oa (ox 2 (DK (nO (vO sm (nO (nH 0) oj)) oj)))
 (oa (yq 3 (oS 0) ur)
 (oa (ox 7 (tI pQ))
 (oa (yq 5 (Kw (vh 2)) uw)
 (su (Q6 (Cv 7) (tI (oA (tI (oA (tI pQ) pQ)) pQ)))))))))
def tx:MF:=vi 1 8 yT
def KW:MS:=(oa (ox 1 (Ea K52.tL (oA (Qb (vh 0) (yz (rC (.int 3))) (yz (rC (.int 66)))) (oA (qL K51.tq (oA (oS 0) pQ)) (oA (kSc (oV C7 (oV tK (rP Zl.nV (nO (nH 0) (nO (rC (.int 1)) oj))) (rC (.int 2))) (rC (.int 0)))) pQ)))))
 (oa (zJ (uE (oV C7 (oV tK (rP Zl.nV (nO (nH 0) (nO (rC (.int 0)) oj))) (rC (.int 2))) (rC (.int 1)))) (oa (ox 2 (qL K52.tx (oA (qL K75.yj (oA (oS 0) (oA (kSc (rC (.int 30))) pQ))) pQ))) (ox 1 (Qx (vh 2) (oV tK (oV AJ (rP Zl.nV (nO (nH 0) (nO (rC (.int 1)) oj))) (rC (.int 124))) (vO sm (nO (nH 2) oj)))))) qM)
 (oa (ox 3 (qL K51.wq (oA (oS 1) pQ)))
 (oa (ox 4 (qL (okX K51.xj) (oA (oS 3) pQ)))
 (oa (zJ (FZ (yx (uE (rP K51.tu (nO (nH 4) oj)))) (yx (uE (rP K52.qP (nO (nH 1) (nO (nH 4) oj)))))) (su (kSc (rC (.bl false)))) qM)
 (oa (ox 5 (zG (vh 4)))
 (su (kSc (D9 (oV yL (rOf (qL (okX K51.xj) (oA (oS 3) pQ))) (nH 5)) (D9 (oV yL (nH 4) (nH 5)) (oV yL (nH 3) (nH 1))))))))))))
def Ih:MF:=vi 1 6 KW
def top(i:Nat):Stmt:=PySem.Challenge.pw_mapround_k52_whole_walk_followed.main.body.getD i (.Pass ⟨0,0,0,0⟩)
section
variable {P:iT}{w:iU}{K:W.Frag}{mg:Str->Option Value}{base:Heap}
abbrev sC:Stmt:=top 4
theorem sR:oY ["m", "places", "place", "turn", "end"] ["m"] (og sC):=by trivial
theorem El     (D:AE K mg "places_at" sC ["m"] f fd) (B:Bt mg)     : Fn P w K mg base 1 "places_at" sC ["m"] (qe K Zl.pP) f fd :=
 ⟨D,D.F.ok sR (λ_ _ _ _=>qY) λtj A outer s H vs Q E hr h=>⟨_,(nC (nR (i:=1) sR.nd rfl (by trivial) vc) (nC (qu PassesOwn.never rfl (DU (by rfl) B.enum (nB (pv 0) nF)) (BD rfl (rY (oH (i:=2) sR.nd rfl (by trivial)) (rY (oH (i:=3) sR.nd rfl (by trivial)) zB))) (nM (qu PassesOwn.never rfl (qo (pv 3)) (oH (i:=4) sR.nd rfl (by trivial)) (nM (tQ (qi hr) (pv 1) (pv 4) (pv 2) rfl))))) (nM (pS (pv 1))))),pV _ (K:=K) (nK (nT (i:=1) wW) (nK (D2 (nZ 0) (sr (nZ 3) (tP (i:=1) (nZ 2) (nD 4)))) (pR (wJ 1)))) h⟩⟩
abbrev zu:Stmt:=top 5
theorem xC:oY ["m", "following", "turn", "end", "behind"] ["m"] (og zu):=by trivial
theorem L0     (D:AE K mg "nexts" zu ["m"] f fd) (B:Bt mg)     : Fn P w K mg base 1 "nexts" zu ["m"] (qe K K51.zo) f fd :=
 ⟨D,D.F.ok xC (λ_ _ _ _=>qY) λtj A outer s H vs Q E hr h=>⟨_,(nC (nR (i:=1) xC.nd rfl (by trivial) vc) (nC (qu PassesOwn.never rfl (qo (pv 0)) (oH (i:=2) xC.nd rfl (by trivial)) (nM (qu PassesOwn.never rfl (LZ (by rfl) B.zip (nB (pv 2) (nB (oE M9 (xJ zw (pv 2) (yh nQ) AR) (xJ zw (pv 2) AR (yh nQ))) nF))) (BD rfl (rY (oH (i:=3) xC.nd rfl (by trivial)) (rY (oH (i:=4) xC.nd rfl (by trivial)) zB))) (nM (tQ (qi hr) (pv 1) (pv 3) (pv 4) rfl))))) (nM (pS (pv 1))))),pV _ (K:=K) (nK (nT (i:=1) wW) (nK (sr (nZ 0) (PQ (nZ 2) (Np (SK.lOf (Ge (ug 2) (ya nP) AM)) (SK.lOf (Ge (ug 2) AM (ya nP)))) (tP (i:=1) (nZ 4) (nD 3)))) (pR (wJ 1)))) h⟩⟩
abbrev we:Stmt:=top 7
theorem sk:oY ["m", "start", "place_of", "known", "waiting", "here", "end", "there"] ["m", "start"] (og we):=by trivial
theorem GT  (D:AE K mg "reached" we ["m", "start"] f fd) (B:Bt mg)   (G_places_at:Fn P w K mg base 1 "places_at" sC ["m"] (qe K Zl.pP) fplaces_at fdplaces_at)  : Fn P w K mg base 2 "reached" we ["m", "start"] (qe K K51.uG) f fd :=
 ⟨D,D.F.ok sk (λ_ _ _ _=>qY) λtj A outer s H vs Q E hr h=>⟨_,(nC (nR (i:=2) sk.nd rfl (by trivial) (qb G_places_at (hr.mono (by decide)) (nB (pv 0) nF))) (nC (nR (i:=3) sk.nd rfl (by trivial) (D8 (BO (pv 1) vp DY) rfl rfl (by simp) (by decide))) (nC (nR (i:=4) sk.nd rfl (by trivial) (qt (nB (pv 1) nF))) (nC (yZ PassesOwn.never (qG Nk (oq pW (by rfl) B.len PySem.boot_len (nB (pv 4) nF)) nQ (qg _)) (nC (nR (i:=5) sk.nd rfl (by trivial) (Cg ak bS bT BU (pv 4))) (nM (qu PassesOwn.never rfl (qo (qU pM (pv 0) (pv 5) (λ_ _=>rfl))) (oH (i:=6) sk.nd rfl (by trivial)) (nC (nR (i:=7) sk.nd rfl (by trivial) (ri (qi hr) (pv 2) (tW rH (pv 6)) (by first|rfl|exact trivial|(intro _ _;rfl)))) (nM (qV (yI (uC (qi hr) (pv 7) (pv 3))) (nC (tQ (qi hr) (pv 3) (pv 7) vp rfl) (nM (pU (rJ ak aA aB oK (pv 4) (nB (pv 7) nF))))) qa))))))) (nM (pS (oq (Eo rfl) (by rfl) B.sorted fO (nB (pv 3) nF)))))))),pV _ (K:=K) (nK (nT (i:=2) (ql (oi (nZ 0) ot))) (nK (nT (i:=3) (Ci (nD 1) (SR.kSc vx))) (nK (nT (i:=4) (qv (oi (nZ 1) ot))) (nK (zt 100000 (qA (nW Kq (qw rh (nJ (nD 4) nX)) nP)) (nK (Ov (i:=5) (zd (i:=4))) (sr (LV (ug 0) (nD 5)) (nK (nT (i:=7) (SR.kSc (rn (nD 2) (uK rp (nD 6))))) (sv (uX (uB (nD 7) (nD 3))) (nK (tP (i:=3) (SR.kSc vx) (nD 7)) (sJ (i:=4) (nZ 7))) qp))))) (pR (MW (nD 3))))))) h⟩⟩
abbrev xU:Stmt:=top 8
theorem uD:oY ["m", "known", "found", "start", "places", "place"] ["m"] (og xU):=by trivial
theorem J5  (D:AE K mg "pieces" xU ["m"] f fd) (B:Bt mg)   (G_reached:Fn P w K mg base 2 "reached" we ["m", "start"] (qe K K51.uG) freached fdreached)  : Fn P w K mg base 3 "pieces" xU ["m"] (qe K K51.xI) f fd :=
 ⟨D,D.F.ok uD (λ_ _ _ _=>qY) λtj A outer s H vs Q E hr h=>⟨_,(nC (nR (i:=1) uD.nd rfl (by trivial) vc) (nC (nR (i:=2) uD.nd rfl (by trivial) (qt nF)) (nC (qu PassesOwn.never rfl (vZ (by rfl) B.range (nB (oq pW (by rfl) B.len PySem.boot_len (nB (pv 0) nF)) nF)) (oH (i:=3) uD.nd rfl (by trivial)) (nM (qV (yI (uC (qi hr) (pv 3) (pv 1))) (nC (nR (i:=4) uD.nd rfl (by trivial) (qb G_reached (hr.mono (by decide)) (nB (pv 0) (nB (pv 3) nF)))) (nC (qu PassesOwn.never rfl (qo (pv 4)) (oH (i:=5) uD.nd rfl (by trivial)) (nM (tQ (qi hr) (pv 1) (pv 5) vp rfl))) (nM (pU (rJ ak aA aB oK (pv 2) (nB (D0 (N:=["place", "m"]) (fr:=[0]) rfl rfl (by decide +kernel) rfl (by decide +kernel) rfl (xl.of (by decide +kernel) rfl rfl (by exact⟨rfl,trivial⟩) (by repeat (first|exact trivial|refine⟨(by first|exact λ_=>⟨_,rfl⟩|exact λh=>(by rcases h with h|h <;> cases h)),?_⟩)) (by exact⟨⟨rfl,rfl,rfl⟩,trivial⟩)) (qo (pv 4)) (λ_ _ _ _=>B9) (λ_ _ _ _=>(yo wO (by rfl) B.list dD (nB (qU pM (pv 1) (pv 0) (λ_ _=>rfl)) nF)))) nF)))))) qa))) (nM (pS (pv 2)))))),pV _ (K:=K) (nK (nT (i:=1) wW) (nK (nT (i:=2) (qv ot)) (nK (BJ (nJ (qw rh (nJ (nD 0) nX)) nX) (sv (uX (uB (nD 3) (nD 1))) (nK (nT (i:=4) (ql (oi (nZ 0) (oi (nZ 3) ot)))) (nK (sr (nZ 4) (tP (i:=1) (SR.kSc vx) (nD 5))) (sJ (i:=2) (Bi (nZ 4) BI (Er (SL.q (SK.lOf (LV (ug 1) (nD 0))))))))) qp)) (pR (wJ 2))))) h⟩⟩
abbrev pL:Stmt:=top 9
theorem wz:oY ["m"] ["m"] (og pL):=by trivial
theorem vP  {Cs CB:Addr}  (D:AE K mg "refuse_not_one_piece" pL ["m"] f fd) (B:Bt mg)  (rX:Qk K mg "NotOnePiece" Cs CB) (G_pieces:Fn P w K mg base 3 "pieces" xU ["m"] (qe K K51.xI) fpieces fdpieces)  : Tq P w K mg base 4 "refuse_not_one_piece" pL ["m"] (Ld K K51.oP) f fd :=
 ⟨D,okX D.F wz (λvs H Q E h=>HQ h) λtj A outer s H vs Q E hr h=>⟨_,(nM (qV (qG Ig (oq pW (by rfl) B.len PySem.boot_len (nB (qb G_pieces (hr.mono (by decide)) (nB (pv 0) nF)) nF)) nQ (qg _)) (nM (Nn rX.i.rf Dc rfl (Sy rX.i))) qa)),CV _ (K:=K) (Th (qA (nW Ir (qw rh (nJ (SK.rOf (ql (oi (nZ 0) ot))) nX)) nP)) (Ht rX.i.rf) (wU qp)) h⟩⟩
abbrev Bq:Stmt:=top 11
theorem tS:oY ["m", "place_of", "following", "came_by", "things", "end", "there"] ["m"] (og Bq):=by trivial
theorem Ot  (D:AE K mg "walk" Bq ["m"] f fd) (B:Bt mg)   (G_refuse_not_one_piece:Tq P w K mg base 4 "refuse_not_one_piece" pL ["m"] (Ld K K51.oP) frefuse_not_one_piece fdrefuse_not_one_piece) (G_places_at:Fn P w K mg base 1 "places_at" sC ["m"] (qe K Zl.pP) fplaces_at fdplaces_at) (G_nexts:Fn P w K mg base 1 "nexts" zu ["m"] (qe K K51.zo) fnexts fdnexts)  : Tq P w K mg base 5 "walk" Bq ["m"] (Ld K K51.xj) f fd :=
 ⟨D,okX D.F tS (λvs H Q E h=>HQ h) λtj A outer s H vs Q E hr h=>⟨_,(nC (pU (QV G_refuse_not_one_piece (hr.mono (by decide)) JG (nB (pv 0) nF))) (nC (qV (qG zE (oq pW (by rfl) B.len PySem.boot_len (nB (qU pM (pv 0) nQ (λ_ _=>rfl)) nF)) nQ (qg _)) (nM (pS (qt nF))) qa) (nC (nR (i:=1) tS.nd rfl (by trivial) (qb G_places_at (hr.mono (by decide)) (nB (pv 0) nF))) (nC (nR (i:=2) tS.nd rfl (by trivial) (qb G_nexts (hr.mono (by decide)) (nB (pv 0) nF))) (nC (nR (i:=3) tS.nd rfl (by trivial) (D8 (BO nQ Rv DY) rfl rfl (by simp) (by decide))) (nC (nR (i:=4) tS.nd rfl (by trivial) (qt nF)) (nC (nR (i:=5) tS.nd rfl (by trivial) (qU pM (qU pM (pv 0) nQ (λ_ _=>rfl)) nQ (λ_ _=>rfl))) (nC (yZ PassesOwn.leaving (qG Dr (oq pW (by rfl) B.len PySem.boot_len (nB (pv 4) nF)) (oq ym (by rfl) B.len PySem.boot_len (nB (pv 2) nF)) (qg _)) (nC (nR (i:=6) tS.nd rfl (by trivial) (ri (qi hr) (pv 1) (tW rH (pv 5)) (by first|rfl|exact trivial|(intro _ _;rfl)))) (nM (qV (qG zE (pv 5) (ri (qi hr) (pv 3) (ri (qi hr) (pv 1) (pv 5) (by first|rfl|exact trivial|(intro _ _;rfl))) (by first|rfl|exact trivial|(intro _ _;rfl))) (qg _)) (nC (pU (rJ ak aA aB oK (pv 4) (nB (GA (nB Ae (nB (pv 5) nF))) nF))) (nM (nR (i:=5) tS.nd rfl (by trivial) (ri (qi hr) (pv 2) (tW rH (pv 5)) (by first|rfl|exact trivial|(intro _ _;rfl)))))) (nM (qV (yI (uC (qi hr) (pv 6) (pv 3))) (nC (tQ (qi hr) (pv 3) (pv 6) (tW rH (pv 5)) rfl) (nC (pU (rJ ak aA aB oK (pv 4) (nB (GA (nB Ae (nB (pv 5) nF))) nF))) (nM (nR (i:=5) tS.nd rfl (by trivial) (ri (qi hr) (pv 2) (tW rH (pv 5)) (by first|rfl|exact trivial|(intro _ _;rfl))))))) (nC (pU (rJ ak aA aB oK (pv 4) (nB (GA (nB Ae (nB (pv 5) nF))) nF))) (nM (nR (i:=5) tS.nd rfl (by trivial) (ri (qi hr) (pv 2) (pv 5) (by first|rfl|exact trivial|(intro _ _;rfl)))))))))))) (nM (pS (pv 4))))))))))),CV _ (K:=K) (vk (Lw (oi (nZ 0) ot)) (vk (wU (sv (qA (nW yy (qw rh (nJ (nW uc (nD 0) nP) nX)) nP)) (pR (qv ot)) qp)) (vk (wU (nT (i:=1) (ql (oi (nZ 0) ot)))) (vk (wU (nT (i:=2) (ql (oi (nZ 0) ot)))) (vk (wU (nT (i:=3) (Ci nP (SR.kSc Ti)))) (vk (wU (nT (i:=4) (qv ot))) (vk (wU (nT (i:=5) (SR.kSc (nW uc (nW uc (nD 0) nP) nP)))) (vk (wU (zt 100000 (qA (nW Dz (qw rh (nJ (nD 4) nX)) (qw A5 (nJ (nD 2) nX)))) (nK (nT (i:=6) (SR.kSc (rn (nD 1) (uK rp (nD 5))))) (sv (qA (nW yy (nD 5) (rn (nD 3) (rn (nD 1) (nD 5))))) (nK (sJ (i:=4) (Gu (oi (SR.kSc zU) (oi (nZ 5) ot)))) (nT (i:=5) (SR.kSc (rn (nD 2) (uK rp (nD 5)))))) (sv (uX (uB (nD 6) (nD 3))) (nK (tP (i:=3) (SR.kSc (uK rp (nD 5))) (nD 6)) (nK (sJ (i:=4) (Gu (oi (SR.kSc zU) (oi (nZ 5) ot)))) (nT (i:=5) (SR.kSc (rn (nD 2) (uK rp (nD 5))))))) (nK (sJ (i:=4) (Gu (oi (SR.kSc zU) (oi (nZ 5) ot)))) (nT (i:=5) (SR.kSc (rn (nD 2) (nD 5)))))))))) (wU (pR (wJ 4))))))))))) h⟩⟩
abbrev tZ:Stmt:=top 13
theorem J7:oY ["_law_script", "_law_k"] ["_law_script", "_law_k"] (og tZ):=by trivial
theorem Jy     (D:AE K mg "_law_cell" tZ ["_law_script", "_law_k"] f fd) (B:Bt mg)     : Fn P w K mg base 1 "_law_cell" tZ ["_law_script", "_law_k"] (qe K Zl.nV) f fd :=
 ⟨D,D.F.ok J7 (λ_ _ _ _=>qY) λtj A outer s H vs Q E hr h=>⟨_,(nC (qV (qG Dr (pv 1) (oq pW (by rfl) B.len PySem.boot_len (nB (pv 0) nF)) (qg _)) (nM (pS (qU pM (pv 0) (pv 1) (λ_ _=>rfl)))) qa) (nM (pS nQ))),pV _ (K:=K) (nK (sv (qA (nW Dz (nD 1) (qw rh (nJ (nD 0) nX)))) (pR (SR.kSc (nW uc (nD 0) (nD 1)))) qp) (pR (SR.kSc nP))) h⟩⟩
abbrev wx:Stmt:=top 14
theorem sq:oY ["_law_script", "_law_step", "_law_shift", "_law_a", "_law_b"] ["_law_script"] (og wx):=by trivial
theorem GK  (D:AE K mg "_law_roads" wx ["_law_script"] f fd) (B:Bt mg)   (qj:Fn P w K mg base 1 "_law_cell" tZ ["_law_script", "_law_k"] (qe K Zl.nV) fL_cell fdL_cell)  : Fn P w K mg base 2 "_law_roads" wx ["_law_script"] (qe K K51.tq) f fd :=
 ⟨D,D.F.ok sq (λ_ _ _ _=>qY) λtj A outer s H vs Q E hr h=>⟨_,(nC (nR (i:=1) sq.nd rfl (by trivial) nQ) (nC (nR (i:=2) sq.nd rfl (by trivial) nQ) (nC (qV (qG Nk (oE rq (qb qj (hr.mono (by decide)) (nB (pv 0) (nB nQ nF))) nQ) nQ (qg _)) (nC (nR (i:=1) sq.nd rfl (by trivial) (oE ue nQ (oE rq (qb qj (hr.mono (by decide)) (nB (pv 0) (nB nQ nF))) (oE GX nQ nQ)))) (nM (nR (i:=2) sq.nd rfl (by trivial) (oE rq (qb qj (hr.mono (by decide)) (nB (pv 0) (nB nQ nF))) (oE GX nQ nQ))))) qa) (nC (nR (i:=3) sq.nd rfl (by trivial) (oE ue nQ (oE rq (oE wI (qb qj (hr.mono (by decide)) (nB (pv 0) (nB nQ nF))) nQ) nQ))) (nC (nR (i:=4) sq.nd rfl (by trivial) (oE rq (oE wI (qb qj (hr.mono (by decide)) (nB (pv 0) (nB nQ nF))) nQ) nQ)) (nM (pS (D0 (N:=["_law_k", "_law_shift", "_law_step", "_law_b", "_law_a"]) (fr:=[2,1,4,3]) rfl rfl (by decide +kernel) rfl (by decide +kernel) rfl (xl.of (by decide +kernel) rfl rfl (by exact⟨rfl,rfl,rfl,rfl,trivial⟩) (by repeat (first|exact trivial|refine⟨(by first|exact λ_=>⟨_,rfl⟩|exact λh=>(by rcases h with h|h <;> cases h)),?_⟩)) (by exact⟨⟨rfl,rfl,rfl⟩,⟨rfl,rfl,rfl⟩,⟨rfl,rfl,rfl⟩,⟨rfl,rfl,rfl⟩,trivial⟩)) (vZ (by rfl) B.range (nB nQ nF)) (λ_ _ _ _=>B9) (λ_ _ _ _=>(oE ue (oE Ef (pv 2) (oE ue nQ (oE rq (oE ue (oE Ef (pv 4) (pv 0)) (pv 3)) nQ))) (pv 1))))))))))),pV _ (K:=K) (nK (nT (i:=1) (SR.kSc nP)) (nK (nT (i:=2) (SR.kSc nP)) (nK (sv (qA (nW Kq (nW rD (qN (nJ (nD 0) (nJ nP nX))) nP) nP)) (nK (nT (i:=1) (SR.kSc (nW uf nP (nW rD (qN (nJ (nD 0) (nJ nP nX))) (nW G8 nP nP))))) (nT (i:=2) (SR.kSc (nW rD (qN (nJ (nD 0) (nJ nP nX))) (nW G8 nP nP))))) qp) (nK (nT (i:=3) (SR.kSc (nW uf nP (nW rD (nW yU (qN (nJ (nD 0) (nJ nP nX))) nP) nP)))) (nK (nT (i:=4) (SR.kSc (nW rD (nW yU (qN (nJ (nD 0) (nJ nP nX))) nP) nP))) (pR (CQ (nJ nP nX) BI (SR.kSc (nW uf (nW EC (nD 2) (nW uf nP (nW rD (nW uf (nW EC (nD 4) (nD 0)) (nD 3)) nP))) (nD 1)))))))))) h⟩⟩
abbrev wu:Stmt:=top 15
theorem vY:oY ["_law_turns", "_law_rows", "_law_turn", "_law_at"] ["_law_turns"] (og wu):=by trivial
theorem JV     (D:AE K mg "_law_good" wu ["_law_turns"] f fd) (B:Bt mg)     : Fn P w K mg base 1 "_law_good" wu ["_law_turns"] (qe K K72.uL) f fd :=
 ⟨D,D.F.ok vY (λ_ _ _ _=>qY) λtj A outer s H vs Q E hr h=>have hu:=hr.units;⟨_,(nC (nR (i:=1) vY.nd rfl (by trivial) (qt nF)) (nC (qu PassesOwn.never rfl (qo (pv 0)) (oH (i:=2) vY.nd rfl (by trivial)) (nC (qV (uM (pv 2) (λ_=>rfl)) (nC (nR (i:=3) vY.nd rfl (by trivial) (rJ ak eG fX FD (pv 2) (nB (oq (Jv rfl) (by rfl) B.min iF (nB (pv 2) nF)) nF))) (nM (nR (i:=2) vY.nd rfl (by trivial) (oE M9 (xJ zw (pv 2) (yh (pv 3)) AR) (xJ zw (pv 2) AR (yh (pv 3))))))) qa) (nM (pU (rJ ak aA aB oK (pv 1) (nB (pv 2) nF)))))) (nM (pS (oq (Ey hu) (by rfl) B.sorted fO (nB (pv 1) nF)))))),pV _ (K:=K) (nK (nT (i:=1) (qv ot)) (nK (sr (nZ 0) (nK (sv (xT (nD 2)) (nK (nT (i:=3) (SR.kSc (Qv (T := "list") Fv (nD 2) (nJ (qw SG (nJ (nD 2) nX)) nX)))) (nT (i:=2) (Np (SK.lOf (Ge (ug 2) (ya (nD 3)) AM)) (SK.lOf (Ge (ug 2) AM (ya (nD 3))))))) qp) (sJ (i:=1) (nZ 2)))) (pR (Ll (ug 1))))) h⟩⟩
abbrev wt:Stmt:=top 16
theorem qC:oY ["_law_cells", "_law_roads_here", "_law_loose", "_law_turns", "_law_path", "_law_opened", "_law_cell_here", "_law_kind", "_law_turn", "_law_at", "_law_end"] ["_law_cells", "_law_roads_here", "_law_loose"] (og wt):=by trivial
theorem Gi  (D:AE K mg "_law_piece" wt ["_law_cells", "_law_roads_here", "_law_loose"] f fd) (B:Bt mg)   (Bb:Fn P w K mg base 1 "_law_good" wu ["_law_turns"] (qe K K72.uL) fL_good fdL_good)  : Fn P w K mg base 2 "_law_piece" wt ["_law_cells", "_law_roads_here", "_law_loose"] (NJ K K52.tL) f fd :=
 ⟨D,D.F.ok qC (λvs H Q E h=>OA h) λtj A outer s H vs Q E hr h=>⟨_,(nC (nR (i:=3) qC.nd rfl (by trivial) (qt (nB (qt nF) nF))) (nC (nR (i:=4) qC.nd rfl (by trivial) (qt (nB nQ nF))) (nC (nR (i:=5) qC.nd rfl (by trivial) (qt nF)) (nC (qu PassesOwn.never rfl (qo (pv 0)) (oH (i:=6) qC.nd rfl (by trivial)) (nC (nR (i:=7) qC.nd rfl (by trivial) (oE rq (pv 6) nQ)) (nC (nR (i:=8) qC.nd rfl (by trivial) (qU pM (pv 3) (qU pM (pv 4) (tW rH nQ) (λ_ _=>rfl)) (λ_ _=>rfl))) (nM (qV (PW.pt (Hq (qG Dr nQ (pv 7) (qg _)) (DJ (uM (pv 5) (λ_=>rfl))))) (nC (nR (i:=9) qC.nd rfl (by trivial) (oE Br (oq pW (by rfl) B.len PySem.boot_len (nB (pv 5) nF)) nQ)) (nC (qV (yG (pv 2)) (nM (nR (i:=9) qC.nd rfl (by trivial) (oE rq (oE wI (pv 6) nQ) (oq pW (by rfl) B.len PySem.boot_len (nB (pv 5) nF))))) qa) (nM (pU (rJ ak aA aB oK (pv 8) (nB (tW rH (rJ ak bS bT E3 (pv 5) (nB (pv 9) nF))) nF)))))) (nM (qV (PW.pt (Hq (Nv Dr Dr nQ (pv 7) nQ) (DJ (qG Nk (oq pW (by rfl) B.len PySem.boot_len (nB (pv 4) nF)) nQ (qg _))))) (nM (pU (Cg ak bS bT BU (pv 4)))) (nM (qV (uM (pv 1) (λ_=>rfl)) (nC (nR (i:=10) qC.nd rfl (by trivial) (oE Ef (Cg ak bS bT BU (pv 1)) (oE Br nQ (oE Ef nQ (oE rq (oE wI (pv 6) nQ) nQ))))) (nC (pU (rJ ak aA aB oK (pv 8) (nB (pv 10) nF))) (nM (qV (qG Dr (pv 7) nQ (qg _)) (nC (pU (rJ ak aA aB oK (pv 4) (nB (oq pW (by rfl) B.len PySem.boot_len (nB (pv 3) nF)) nF))) (nM (pU (rJ ak aA aB oK (pv 3) (nB (qt (nB (tW rH (pv 10)) nF)) nF))))) (nM (pU (rJ ak aA aB oK (pv 5) (nB (pv 10) nF)))))))) qa))))))))) (nC (yZ PassesOwn.never (uM (pv 5) (λ_=>rfl)) (nM (pU (rJ ak aA aB oK (qU pM (pv 3) (qU pM (pv 4) (tW rH nQ) (λ_ _=>rfl)) (λ_ _=>rfl)) (nB (tW rH (Cg ak bS bT BU (pv 5))) nF))))) (nM (pS (qb Bb (hr.mono (by decide)) (nB (pv 3) nF))))))))),JS ["_law_cells", "_law_roads_here", "_law_loose", "_law_turns", "_law_path", "_law_opened", "_law_cell_here", "_law_kind", "_law_turn", "_law_at", "_law_end"] (K:=K) (nK (nT (i:=3) (qv (oi (qv ot) ot))) (nK (nT (i:=4) (qv (oi (SR.kSc nP) ot))) (nK (nT (i:=5) (qv ot)) (nK (sr (nZ 0) (nK (nT (i:=7) (SR.kSc (nW rD (nD 6) nP))) (Rf (Mn (HP 3) (nW uc (nD 4) (uK rp nP))) (Mu (GH (qA (nW Dz nP (nD 7))) (xT (nD 5))) (Hk (HL (SR.kSc (nW BW (qw rh (nJ (nD 5) nX)) nP)) (by decide)) (Hk (SE (uX (nD 2)) (HL (SR.kSc (nW rD (nW yU (nD 6) nP) (qw rh (nJ (nD 5) nX)))) (by decide)) (Lq (λ_ _ _ h=>h))) (Oj (QD rp (Fy (i:=5) (nD 9)))))) (Mu (GH (qA (QI Dz Dz nP (nD 7) nP Ux)) (qA (nW Kq (qw rh (nJ (nD 4) nX)) nP))) (Qj (Fl (zd (i:=4)))) (Mu (xT (nD 1)) (Hk (LM (UJ EC (zd (i:=1)) (nW BW nP (nW EC nP (nW rD (nW yU (nD 6) nP) nP)))) (by decide)) (Rr (Sl (nZ 10)) (sv (qA (nW Dz (nD 7) nP)) (nK (sJ (i:=4) (SR.kSc (qw rh (nJ (nD 3) nX)))) (sJ (i:=3) (qv (oi (SR.kSc (uK rp (nD 10))) ot)))) (sJ (i:=5) (nZ 10))))) (Qj qp))))))) (nK (zt 100000 (xT (nD 5)) (Ng (Mn (HP 3) (nW uc (nD 4) (uK rp nP))) (QD rp (zd (i:=5))))) (pR (ql (oi (nZ 3) ot)))))))) h⟩⟩
abbrev xV:Stmt:=top 17
theorem Jx:oY ["_law_turns"] ["_law_turns"] (og xV):=by trivial
theorem JO     (D:AE K mg "_law_copy" xV ["_law_turns"] f fd) (B:Bt mg)     : Fn P w K mg base 1 "_law_copy" xV ["_law_turns"] (qe K K51.wq) f fd :=
 ⟨D,D.F.ok Jx (λ_ _ _ _=>qY) λtj A outer s H vs Q E hr h=>⟨_,(nM (pS (D0 (cl:=[]) (N:=["_law_turn"]) (fr:=[]) rfl rfl (by decide +kernel) rfl (by decide +kernel) rfl (xl.none (by decide +kernel)) (qo (pv 0)) (λ_ _ _ _=>B9) (λ_ _ _ _=>(yo wO (by rfl) B.list dD (nB (pv 0) nF)))))),pV _ (K:=K) (pR (Bi (nZ 0) BI (Er (ug 0)))) h⟩⟩
abbrev vV:Stmt:=top 18
theorem Hc:oY ["_law_found"] ["_law_found"] (og vV):=by trivial
theorem Hd     (D:AE K mg "_law_whole" vV ["_law_found"] f fd) (B:Bt mg)     : Fn P w K mg base 1 "_law_whole" vV ["_law_found"] (qe K K51.yf) f fd :=
 ⟨D,D.F.ok Hc (λ_ _ _ _=>qY) λtj A outer s H vs Q E hr h=>⟨_,(nM (pS (B3 (oq (sF.or xZ xB) (by rfl) B.isi bV (nB (pv 0) (nB (zD (v:=.ty "int") (by rfl) B.int gi rfl) nF))) (Em (So (oq (sF.or xZ xB) (by rfl) B.isi bV (nB (pv 0) (nB (zD (v:=.ty "bool") (by rfl) B.bool iB rfl) nF)))))))),pV _ (K:=K) (pR (SR.kSc (Ce (qw BB (nJ (nD 0) (nJ FQ nX))) (R9 (qw BB (nJ (nD 0) (nJ FQ nX))))))) h⟩⟩
abbrev uO:Stmt:=top 19
theorem Ah:oY ["_law_found", "_law_thing"] ["_law_found"] (og uO):=by trivial
theorem EJ  (D:AE K mg "_law_things" uO ["_law_found"] f fd) (B:Bt mg)    (b_tuple:mg "tuple" = none) (Js:Fn P w K mg base 1 "_law_whole" vV ["_law_found"] (qe K K51.yf) fL_whole fdL_whole)  : Fn P w K mg base 2 "_law_things" uO ["_law_found"] (qe K K51.tu) f fd :=
 ⟨D,D.F.ok Ah (λ_ _ _ _=>qY) λtj A outer s H vs Q E hr h=>⟨_,(nC (qV (zR (yG (oq (sF.or xZ xB) (by rfl) B.isi bV (nB (pv 0) (nB (zD (v:=.ty "list") (by rfl) B.list dD rfl) nF))))) (nM (pS vp)) qa) (nC (qu PassesOwn.never rfl (qo (pv 0)) (oH (i:=1) Ah.nd rfl (by trivial)) (nC (qV (PW.pt (E7 (zR (yG (oq (sF.or xZ xB) (by rfl) B.isi bV (nB (pv 1) (nB (zD (v:=.ty "tuple") (by rfl) b_tuple iz rfl) nF))))) (Ew (qG Ig (oq pW (by rfl) B.len PySem.boot_len (nB (pv 1) nF)) nQ (qg _))))) (nM (pS vp)) qa) (nM (qV (PW.pt (E7 (zR (yG (oq (sF.or xZ xB) (by rfl) B.isi bV (nB (qU (O1.or pM Eu) (pv 1) nQ (λ_ _=>rfl)) (nB (zD (v:=.ty "str") (by rfl) B.str iG rfl) nF))))) (Ew (zR (yG (qb Js (hr.mono (by decide)) (nB (qU (O1.or pM Eu) (pv 1) nQ (λ_ _=>rfl)) nF))))))) (nM (pS vp)) qa)))) (nM (pS vp)))),pV _ (K:=K) (nK (sv (zP (uX (qw BB (nJ (nD 0) (nJ FQ nX))))) (pR (SR.kSc vx)) qp) (nK (sr (nZ 0) (nK (sv (EY (zP (uX (qw BB (nJ (nD 1) (nJ FQ nX))))) (qA (nW Ir (qw rh (nJ (nD 1) nX)) nP))) (pR (SR.kSc vx)) qp) (sv (EY (zP (uX (qw BB (nJ (nW Lg (nD 1) nP) (nJ FQ nX))))) (zP (uX (qN (nJ (nW Lg (nD 1) nP) nX))))) (pR (SR.kSc vx)) qp))) (pR (SR.kSc vx)))) h⟩⟩
abbrev uS:Stmt:=top 20
theorem tY:oY ["_law_turns", "_law_follow_here", "_law_turn", "_law_k", "_law_end"] ["_law_turns"] (og uS):=by trivial
theorem E8     (D:AE K mg "_law_follow" uS ["_law_turns"] f fd) (B:Bt mg)     : Fn P w K mg base 1 "_law_follow" uS ["_law_turns"] (qe K K52.uT) f fd :=
 ⟨D,D.F.ok tY (λ_ _ _ _=>qY) λtj A outer s H vs Q E hr h=>⟨_,(nC (nR (i:=1) tY.nd rfl (by trivial) vc) (nC (qu PassesOwn.never rfl (qo (pv 0)) (oH (i:=2) tY.nd rfl (by trivial)) (nM (qu PassesOwn.never rfl (DU (by rfl) B.enum (nB (pv 2) nF)) (BD rfl (rY (oH (i:=3) tY.nd rfl (by trivial)) (rY (oH (i:=4) tY.nd rfl (by trivial)) zB))) (nM (tQ (qi hr) (pv 1) (pv 4) (qU pM (pv 2) (oE rq (oE ue (pv 3) nQ) (oq pW (by rfl) B.len PySem.boot_len (nB (pv 2) nF))) (λ_ _=>rfl)) rfl))))) (nM (pS (pv 1))))),pV _ (K:=K) (nK (nT (i:=1) wW) (nK (sr (nZ 0) (D2 (nZ 2) (tP (i:=1) (SR.kSc (nW uc (nD 2) (nW rD (nW uf (nD 3) nP) (qw rh (nJ (nD 2) nX))))) (nD 4)))) (pR (wJ 1)))) h⟩⟩
abbrev tJ:Stmt:=top 21
theorem tT:oY ["_law_turns", "_law_places_here", "_law_place", "_law_turn", "_law_end"] ["_law_turns"] (og tJ):=by trivial
theorem FT     (D:AE K mg "_law_places" tJ ["_law_turns"] f fd) (B:Bt mg)     : Fn P w K mg base 1 "_law_places" tJ ["_law_turns"] (qe K Zl.pP) f fd :=
 ⟨D,D.F.ok tT (λ_ _ _ _=>qY) λtj A outer s H vs Q E hr h=>⟨_,(nC (nR (i:=1) tT.nd rfl (by trivial) vc) (nC (qu PassesOwn.never rfl (DU (by rfl) B.enum (nB (pv 0) nF)) (BD rfl (rY (oH (i:=2) tT.nd rfl (by trivial)) (rY (oH (i:=3) tT.nd rfl (by trivial)) zB))) (nM (qu PassesOwn.never rfl (qo (pv 3)) (oH (i:=4) tT.nd rfl (by trivial)) (nM (tQ (qi hr) (pv 1) (pv 4) (pv 2) rfl))))) (nM (pS (pv 1))))),pV _ (K:=K) (nK (nT (i:=1) wW) (nK (D2 (nZ 0) (sr (nZ 3) (tP (i:=1) (nZ 2) (nD 4)))) (pR (wJ 1)))) h⟩⟩
abbrev sS:Stmt:=top 22
theorem om:oY ["_law_m", "_law_things_here", "_law_places_here", "_law_follow_here", "_law_come", "_law_path", "_law_told", "_law_here", "_law_thing", "_law_end", "_law_word"] ["_law_m", "_law_things_here"] (og sS):=by trivial
theorem CG  (D:AE K mg "_law_followed" sS ["_law_m", "_law_things_here"] f fd) (B:Bt mg)   (yJ:Fn P w K mg base 1 "_law_places" tJ ["_law_turns"] (qe K Zl.pP) fL_places fdL_places) (Hw:Fn P w K mg base 1 "_law_follow" uS ["_law_turns"] (qe K K52.uT) fL_follow fdL_follow)  : Fn P w K mg base 2 "_law_followed" sS ["_law_m", "_law_things_here"] (qe K K52.qP) f fd :=
 ⟨D,D.F.ok om (λ_ _ _ _=>qY) λtj A outer s H vs Q E hr h=>⟨_,(nC (nR (i:=2) om.nd rfl (by trivial) (qb yJ (hr.mono (by decide)) (nB (pv 0) nF))) (nC (nR (i:=3) om.nd rfl (by trivial) (qb Hw (hr.mono (by decide)) (nB (pv 0) nF))) (nC (nR (i:=4) om.nd rfl (by trivial) (D8 (BO nQ vp DY) rfl rfl (by simp) (by decide))) (nC (nR (i:=5) om.nd rfl (by trivial) (qt nF)) (nC (nR (i:=6) om.nd rfl (by trivial) vc) (nC (nR (i:=7) om.nd rfl (by trivial) nQ) (nC (qV (uM (qU pM (pv 0) nQ (λ_ _=>rfl)) (λ_=>rfl)) (nM (nR (i:=7) om.nd rfl (by trivial) (qU pM (qU pM (pv 0) nQ (λ_ _=>rfl)) nQ (λ_ _=>rfl)))) qa) (nC (qu PassesOwn.never rfl (qo (pv 1)) (oH (i:=8) om.nd rfl (by trivial)) (nC (nR (i:=9) om.nd rfl (by trivial) (qU Eu (pv 8) nQ (λ_ _=>rfl))) (nC (qV (PW.pt (E7 (qG Ig (pv 9) (pv 7) (qg _)) (E7 (yI (Sx (qi hr) (pv 9) (pv 6))) (Ew (yI (uC (qi hr) (pv 9) (pv 2))))))) (nM (pS vp)) qa) (nC (tQ (qi hr) (pv 6) (pv 9) vp rfl) (nC (nR (i:=10) om.nd rfl (by trivial) Ae) (nC (nR (i:=7) om.nd rfl (by trivial) (ri (qi hr) (pv 3) (pv 9) (by first|rfl|exact trivial|(intro _ _;rfl)))) (nC (qV (PW.pt (Hq (uM (pv 5) (λ_=>rfl)) (DJ (qG zE (qU pM (pv 5) (tW rH nQ) (λ_ _=>rfl)) (pv 9) (qg _))))) (nC (nR (i:=10) om.nd rfl (by trivial) Ae) (nC (pU (Cg ak bS bT BU (pv 5))) (nM (nR (i:=7) om.nd rfl (by trivial) (ri (qi hr) (pv 3) (tW rH (pv 9)) (by first|rfl|exact trivial|(intro _ _;rfl))))))) (nM (qV (yI (uC (qi hr) (ri (qi hr) (pv 2) (tW rH (pv 9)) (by first|rfl|exact trivial|(intro _ _;rfl))) (pv 4))) (nC (nR (i:=10) om.nd rfl (by trivial) Ae) (nC (tQ (qi hr) (pv 4) (ri (qi hr) (pv 2) (tW rH (pv 9)) (by first|rfl|exact trivial|(intro _ _;rfl))) vp rfl) (nC (pU (rJ ak aA aB oK (pv 5) (nB (tW rH (pv 9)) nF))) (nM (nR (i:=7) om.nd rfl (by trivial) (ri (qi hr) (pv 3) (tW rH (pv 9)) (by first|rfl|exact trivial|(intro _ _;rfl)))))))) qa))) (nM (qV (qG Ig (qU Eu (pv 8) nQ (λ_ _=>rfl)) (pv 10) (qg _)) (nM (pS vp)) qa))))))))) (nM (pS (B3 (wK zE (oq ym (by rfl) B.len PySem.boot_len (nB (pv 6) nF)) (oq ym (by rfl) B.len PySem.boot_len (nB (pv 2) nF)) (qg _)) (B3 (wK zE (oq ym (by rfl) B.len PySem.boot_len (nB (pv 4) nF)) (oq pW (by rfl) B.len PySem.boot_len (nB (pv 0) nF)) (qg _)) (Em (PB (pv 5))))))))))))))),pV _ (K:=K) (nK (nT (i:=2) (ql (oi (nZ 0) ot))) (nK (nT (i:=3) (ql (oi (nZ 0) ot))) (nK (nT (i:=4) (Ci nP (SR.kSc vx))) (nK (nT (i:=5) (qv ot)) (nK (nT (i:=6) wW) (nK (nT (i:=7) (SR.kSc nP)) (nK (sv (xT (nW uc (nD 0) nP)) (nT (i:=7) (SR.kSc (nW uc (nW uc (nD 0) nP) nP))) qp) (nK (sr (nZ 1) (nK (nT (i:=9) (SR.kSc (nW HC (nD 8) nP))) (nK (sv (EY (qA (nW Ir (nD 9) (nD 7))) (EY (uX (QE (nD 9) (nD 6))) (uX (uB (nD 9) (nD 2))))) (pR (SR.kSc vx)) qp) (nK (tP (i:=6) (SR.kSc vx) (nD 9)) (nK (nT (i:=10) (SR.kSc zU)) (nK (nT (i:=7) (SR.kSc (rn (nD 3) (nD 9)))) (nK (sv (GH (xT (nD 5)) (qA (nW yy (nW uc (nD 5) (uK rp nP)) (nD 9)))) (nK (nT (i:=10) (SR.kSc zU)) (nK (Fl (zd (i:=5))) (nT (i:=7) (SR.kSc (rn (nD 3) (uK rp (nD 9))))))) (sv (uX (uB (rn (nD 2) (uK rp (nD 9))) (nD 4))) (nK (nT (i:=10) (SR.kSc zU)) (nK (tP (i:=4) (SR.kSc vx) (rn (nD 2) (uK rp (nD 9)))) (nK (sJ (i:=5) (SR.kSc (uK rp (nD 9)))) (nT (i:=7) (SR.kSc (rn (nD 3) (uK rp (nD 9)))))))) qp)) (sv (qA (nW Ir (nW HC (nD 8) nP) (nD 10))) (pR (SR.kSc vx)) qp)))))))) (pR (SR.kSc (Ce (nW yy (qw A5 (nJ (nD 6) nX)) (qw A5 (nJ (nD 2) nX))) (Ce (nW yy (qw A5 (nJ (nD 4) nX)) (qw rh (nJ (nD 0) nX))) (PX (nD 5)))))))))))))) h⟩⟩
abbrev vS:Stmt:=top 23
theorem uZ:oY ["_law_cell_here", "_law_many", "_law_left", "_law_order_here", "_law_k"] ["_law_cell_here", "_law_many"] (og vS):=by trivial
theorem HD     (D:AE K mg "_law_order" vS ["_law_cell_here", "_law_many"] f fd) (B:Bt mg)     : Fn P w K mg base 1 "_law_order" vS ["_law_cell_here", "_law_many"] (qe K K75.vT) f fd :=
 ⟨D,D.F.ok uZ (λ_ _ _ _=>qY) λtj A outer s H vs Q E hr h=>⟨_,(nC (nR (i:=2) uZ.nd rfl (by trivial) (ER rfl (by rfl) B.list (by rfl) B.range (nB (pv 1) nF))) (nC (nR (i:=3) uZ.nd rfl (by trivial) (qt nF)) (nC (qu PassesOwn.never rfl (vZ (by rfl) B.range (nB (pv 1) nF)) (oH (i:=4) uZ.nd rfl (by trivial)) (nC (pU (rJ ak aA aB oK (pv 3) (nB (rJ ak bS bT E3 (pv 2) (nB (oE rq (pv 0) (oq pW (by rfl) B.len PySem.boot_len (nB (pv 2) nF))) nF)) nF))) (nM (nR (i:=0) uZ.nd rfl (by trivial) (oE wI (pv 0) (oE ue (oq pW (by rfl) B.len PySem.boot_len (nB (pv 2) nF)) nQ)))))) (nM (pS (pv 3)))))),pV _ (K:=K) (nK (nT (i:=2) (ET (nJ (nD 1) nX))) (nK (nT (i:=3) (qv ot)) (nK (BJ (nJ (nD 1) nX) (nK (OT (i:=3) (Fy (i:=2) (nW rD (nD 0) (qw rh (nJ (nD 2) nX))))) (nT (i:=0) (SR.kSc (nW yU (nD 0) (nW uf (qw rh (nJ (nD 2) nX)) nP)))))) (pR (wJ 3))))) h⟩⟩
abbrev uW:Stmt:=top 24
theorem qK:oY ["_law_script", "_law_many", "_law_cell_here", "_law_names", "_law_name", "_law_k", "_law_room"] ["_law_script", "_law_many"] (og uW):=by trivial
theorem Fc  (D:AE K mg "_law_called" uW ["_law_script", "_law_many"] f fd) (B:Bt mg)   (qj:Fn P w K mg base 1 "_law_cell" tZ ["_law_script", "_law_k"] (qe K Zl.nV) fL_cell fdL_cell)  : Fn P w K mg base 2 "_law_called" uW ["_law_script", "_law_many"] (qe K K75.vb) f fd :=
 ⟨D,D.F.ok qK (λ_ _ _ _=>qY) λtj A outer s H vs Q E hr h=>⟨_,(nC (nR (i:=2) qK.nd rfl (by trivial) (qb qj (hr.mono (by decide)) (nB (pv 0) (nB nQ nF)))) (nC (nR (i:=3) qK.nd rfl (by trivial) (qt nF)) (nC (nR (i:=4) qK.nd rfl (by trivial) nQ) (nC (qu PassesOwn.never rfl (vZ (by rfl) B.range (nB (pv 1) nF)) (oH (i:=5) qK.nd rfl (by trivial)) (nC (nR (i:=6) qK.nd rfl (by trivial) (oE Br (oE ue (oE Br (oE GX nQ nQ) (pv 1)) (pv 5)) (pv 4))) (nC (nR (i:=4) qK.nd rfl (by trivial) (oE ue (oE ue (pv 4) nQ) (oE rq (pv 2) (pv 6)))) (nC (nR (i:=2) qK.nd rfl (by trivial) (oE K0 (pv 2) (pv 6))) (nM (pU (rJ ak aA aB oK (pv 3) (nB (pv 4) nF)))))))) (nM (pS (pv 3))))))),pV _ (K:=K) (nK (nT (i:=2) (SR.kSc (qN (nJ (nD 0) (nJ nP nX))))) (nK (nT (i:=3) (qv ot)) (nK (nT (i:=4) (SR.kSc nP)) (nK (BJ (nJ (nD 1) nX) (nK (nT (i:=6) (SR.kSc (nW BW (nW uf (nW BW (nW G8 nP nP) (nD 1)) (nD 5)) (nD 4)))) (nK (nT (i:=4) (SR.kSc (nW uf (nW uf (nD 4) nP) (nW rD (nD 2) (nD 6))))) (nK (nT (i:=2) (SR.kSc (nW PV (nD 2) (nD 6)))) (sJ (i:=3) (nZ 4)))))) (pR (wJ 3)))))) h⟩⟩
abbrev yY:Stmt:=top 25
theorem rB:oY ["_law_script", "_law_most", "_law_many", "_law_ends", "_law_name", "_law_order_here", "_law_turns", "_law_met", "_law_end", "_law_turn", "_law_here"] ["_law_script", "_law_most"] (og yY):=by trivial
theorem NH  (D:AE K mg "_law_any" yY ["_law_script", "_law_most"] f fd) (B:Bt mg)   (G6:Fn P w K mg base 2 "_law_called" uW ["_law_script", "_law_many"] (qe K K75.vb) fL_called fdL_called) (JC:Fn P w K mg base 1 "_law_order" vS ["_law_cell_here", "_law_many"] (qe K K75.vT) fL_order fdL_order) (Bb:Fn P w K mg base 1 "_law_good" wu ["_law_turns"] (qe K K72.uL) fL_good fdL_good) (qj:Fn P w K mg base 1 "_law_cell" tZ ["_law_script", "_law_k"] (qe K Zl.nV) fL_cell fdL_cell)  : Fn P w K mg base 3 "_law_any" yY ["_law_script", "_law_most"] (qe K K75.yj) f fd :=
 ⟨D,D.F.ok rB (λ_ _ _ _=>qY) λtj A outer s H vs Q E hr h=>⟨_,(nC (nR (i:=2) rB.nd rfl (by trivial) (oE rq (qb qj (hr.mono (by decide)) (nB (pv 0) (nB nQ nF))) (oE ue (pv 1) nQ))) (nC (nR (i:=3) rB.nd rfl (by trivial) (qt nF)) (nC (qu PassesOwn.never rfl (qo (qb G6 (hr.mono (by decide)) (nB (pv 0) (nB (pv 2) nF)))) (oH (i:=4) rB.nd rfl (by trivial)) (nM (pU (rJ ak PySem.F.slot_list_extend PySem.F.type_list_extend Ki (pv 3) (nB (qt (nB (pv 4) (nB (oE Br nQ (pv 4)) nF))) nF))))) (nC (nR (i:=5) rB.nd rfl (by trivial) (qb JC (hr.mono (by decide)) (nB (qb qj (hr.mono (by decide)) (nB (pv 0) (nB nQ nF))) (nB (oq pW (by rfl) B.len PySem.boot_len (nB (pv 3) nF)) nF)))) (nC (IE (i:=6) (cl:=[]) (N:=["_law_k"]) (fr:=[]) rfl rB.nd rfl (by trivial) rfl (by decide +kernel) rfl (by decide +kernel) rfl (xl.none (by decide +kernel)) (vZ (by rfl) B.range (nB (oE rq (oE wI (qb qj (hr.mono (by decide)) (nB (pv 0) (nB nQ nF))) (oE ue (pv 1) nQ)) nQ) nF)) (λ_ _ _ _=>B9) (λ_ _ _ _=>(qt nF))) (nC (nR (i:=7) rB.nd rfl (by trivial) vc) (nC (qu PassesOwn.never rfl (qo (pv 3)) (oH (i:=8) rB.nd rfl (by trivial)) (nC (nR (i:=9) rB.nd rfl (by trivial) (qt nF)) (nC (nR (i:=10) rB.nd rfl (by trivial) (pv 8)) (nC (yZ PassesOwn.never (yI (uC (qi hr) (pv 10) (pv 7))) (nC (tQ (qi hr) (pv 7) (pv 10) vp rfl) (nC (pU (rJ ak aA aB oK (pv 9) (nB (pv 10) nF))) (nM (nR (i:=10) rB.nd rfl (by trivial) (qU pM (pv 3) (qU pM (pv 5) (rJ ak eG fX FD (pv 3) (nB (pv 10) nF)) (λ_ _=>rfl)) (λ_ _=>rfl))))))) (nM (qV (uM (pv 9) (λ_=>rfl)) (nM (pU (rJ ak aA aB oK (pv 6) (nB (pv 9) nF)))) qa)))))) (nM (pS (qb Bb (hr.mono (by decide)) (nB (pv 6) nF))))))))))),pV _ (K:=K) (nK (nT (i:=2) (SR.kSc (nW rD (qN (nJ (nD 0) (nJ nP nX))) (nW uf (nD 1) nP)))) (nK (nT (i:=3) (qv ot)) (nK (sr (ql (oi (nZ 0) (oi (nZ 2) ot))) (QO (i:=3) (SK.lOf (qv (oi (nZ 4) (oi (SR.kSc (nW BW nP (nD 4))) ot)))))) (nK (nT (i:=5) (ql (oi (SR.kSc (qN (nJ (nD 0) (nJ nP nX)))) (oi (SR.kSc (qw rh (nJ (nD 3) nX))) ot)))) (nK (nT (i:=6) (CQ (nJ (nW rD (nW yU (qN (nJ (nD 0) (nJ nP nX))) (nW uf (nD 1) nP)) nP) nX) BI (qv ot))) (nK (nT (i:=7) wW) (nK (sr (nZ 3) (nK (nT (i:=9) (qv ot)) (nK (nT (i:=10) (nZ 8)) (nK (zt 100000 (uX (uB (nD 10) (nD 7))) (nK (tP (i:=7) (SR.kSc vx) (nD 10)) (nK (sJ (i:=9) (nZ 10)) (nT (i:=10) (SR.kSc (nW uc (nD 3) (nW uc (nD 5) (Qv (T := "list") Fv (nD 3) (nJ (nD 10) nX))))))))) (sv (xT (nD 9)) (sJ (i:=6) (nZ 9)) qp))))) (pR (ql (oi (nZ 6) ot)))))))))) h⟩⟩
abbrev wa:Stmt:=top 26
theorem qD:oY ["_law_m", "_law_places_here", "_law_part", "_law_turn", "_law_end", "_law_one", "_law_other", "_law_lot"] ["_law_m"] (og wa):=by trivial
theorem GL  (D:AE K mg "_law_split" wa ["_law_m"] f fd) (B:Bt mg)    (b_set:mg "set" = none) (yJ:Fn P w K mg base 1 "_law_places" tJ ["_law_turns"] (qe K Zl.pP) fL_places fdL_places)  : Fn P w K mg base 2 "_law_split" wa ["_law_m"] (qe K K52.tx) f fd :=
 ⟨D,D.F.ok qD (λ_ _ _ _=>qY) λtj A outer s H vs Q E hr h=>⟨_,(nC (nR (i:=1) qD.nd rfl (by trivial) (qb yJ (hr.mono (by decide)) (nB (pv 0) nF))) (nC (nR (i:=2) qD.nd rfl (by trivial) (ER rfl (by rfl) B.list (by rfl) B.range (nB (oq pW (by rfl) B.len PySem.boot_len (nB (pv 0) nF)) nF))) (nC (qu PassesOwn.never rfl (qo (pv 0)) (oH (i:=3) qD.nd rfl (by trivial)) (nM (qu PassesOwn.never rfl (qo (pv 3)) (oH (i:=4) qD.nd rfl (by trivial)) (nC (nR (i:=5) qD.nd rfl (by trivial) (qU pM (pv 2) (ri (qi hr) (pv 1) (pv 4) (by first|rfl|exact trivial|(intro _ _;rfl))) (λ_ _=>rfl))) (nC (nR (i:=6) qD.nd rfl (by trivial) (qU pM (pv 2) (ri (qi hr) (pv 1) (tW rH (pv 4)) (by first|rfl|exact trivial|(intro _ _;rfl))) (λ_ _=>rfl))) (nM (IE (i:=2) (N:=["_law_k", "_law_one", "_law_other"]) (fr:=[5,6]) rfl qD.nd rfl (by trivial) rfl (by decide +kernel) rfl (by decide +kernel) rfl (xl.of (by decide +kernel) rfl rfl (by exact⟨rfl,rfl,trivial⟩) (by repeat (first|exact trivial|refine⟨(by first|exact λ_=>⟨_,rfl⟩|exact λh=>(by rcases h with h|h <;> cases h)),?_⟩)) (by exact⟨⟨rfl,rfl,rfl⟩,⟨rfl,rfl,rfl⟩,trivial⟩)) (qo (pv 2)) (λ_ _ _ _=>B9) (λ_ _ _ _=>(qU pM (qt (nB (pv 0) (nB (pv 1) nF))) (yo Jm (by rfl) B.int gi (nB (wK zE (pv 0) (pv 2) (qg _)) nF)) (λ_ _=>rfl)))))))))) (nC (nR (i:=7) qD.nd rfl (by trivial) (qt nF)) (nC (qu PassesOwn.never rfl (qo (P3 rfl (by rfl) B.sorted (by rfl) b_set (nB (pv 2) nF))) (oH (i:=5) qD.nd rfl (by trivial)) (nM (pU (rJ ak aA aB oK (pv 7) (nB (KH (N:=["_law_turn", "_law_k", "_law_one"]) (fr:=[5]) rfl rfl (by decide +kernel) rfl (by decide +kernel) rfl rfl (B5.of (by decide +kernel) rfl rfl rfl (by exact⟨rfl,trivial⟩) (by repeat (first|exact trivial|refine⟨(by first|exact λ_=>⟨_,rfl⟩|exact λh=>(by rcases h with h|h <;> cases h)),?_⟩)) (by exact⟨⟨rfl,rfl,rfl⟩,trivial⟩)) (LZ (by rfl) B.zip (nB (pv 0) (nB (pv 2) nF))) (λ_ _ _ _=>Rq (qG zE (pv 1) (pv 2) (qg _))) (λ_ _ _ _=>(pv 0))) nF))))) (nM (pS (SU (pv 7) (Em (qt (nB (qt (nB (qt nF) nF)) nF))))))))))),pV _ (K:=K) (nK (nT (i:=1) (ql (oi (nZ 0) ot))) (nK (nT (i:=2) (ET (nJ (qw rh (nJ (nD 0) nX)) nX))) (nK (sr (nZ 0) (sr (nZ 3) (nK (nT (i:=5) (SR.kSc (nW uc (nD 2) (rn (nD 1) (nD 4))))) (nK (nT (i:=6) (SR.kSc (nW uc (nD 2) (rn (nD 1) (uK rp (nD 4)))))) (nT (i:=2) (Bi (nZ 2) BI (SR.kSc (nW uc (SK.rOf (qv (oi (nZ 0) (oi (nZ 1) ot)))) (qw Pa (nJ (nW yy (nD 0) (nD 2)) nX)))))))))) (nK (nT (i:=7) (qv ot)) (nK (sr (Pl (ug 2)) (sJ (i:=7) (NL (nZ 0) (nZ 2) (qA (nW yy (nD 1) (nD 2))) (nZ 0)))) (pR (S7 (wJ 7) (qv (oi (qv (oi (qv ot) ot)) ot))))))))) h⟩⟩
abbrev yt:Stmt:=top 27
theorem yR:oY ["_law_script", "_law_m", "_law_lot", "_law_handed", "_law_found", "_law_kept"] ["_law_script"] (og yt):=by trivial
theorem RZ  (D:AE K mg "law" yt ["_law_script"] f fd) (B:Bt mg)   (JR:Fn P w K mg base 2 "_law_piece" wt ["_law_cells", "_law_roads_here", "_law_loose"] (NJ K K52.tL) fL_piece fdL_piece) (Ly:Fn P w K mg base 1 "_law_copy" xV ["_law_turns"] (qe K K51.wq) fL_copy fdL_copy) (G_walk:Tq P w K mg base 5 "walk" Bq ["m"] (Ld K K51.xj) fwalk fdwalk) (JI:Fn P w K mg base 2 "_law_roads" wx ["_law_script"] (qe K K51.tq) fL_roads fdL_roads) (Je:Fn P w K mg base 2 "_law_split" wa ["_law_m"] (qe K K52.tx) fL_split fdL_split) (qj:Fn P w K mg base 1 "_law_cell" tZ ["_law_script", "_law_k"] (qe K Zl.nV) fL_cell fdL_cell) (OO:Fn P w K mg base 3 "_law_any" yY ["_law_script", "_law_most"] (qe K K75.yj) fL_any fdL_any) (G5:Fn P w K mg base 2 "_law_things" uO ["_law_found"] (qe K K51.tu) fL_things fdL_things) (Ez:Fn P w K mg base 2 "_law_followed" sS ["_law_m", "_law_things_here"] (qe K K52.qP) fL_followed fdL_followed)  : Fn P w K mg base 6 "law" yt ["_law_script"] (qe K K52.Ih) f fd :=
 ⟨D,D.F.ok yR (λ_ _ _ _=>qY) λtj A outer s H vs Q E hr h=>have hu:=hr.units;⟨_,(nC (nR (i:=1) yR.nd rfl (by trivial) (qb JR (hr.mono (by decide)) (nB (xJ zw (pv 0) (yh nQ) (yh nQ)) (nB (qb JI (hr.mono (by decide)) (nB (pv 0) nF)) (nB (wK zE (oE rq (qb qj (hr.mono (by decide)) (nB (pv 0) (nB nQ nF))) nQ) nQ (qg _)) nF))))) (nC (qV (qG zE (oE rq (qb qj (hr.mono (by decide)) (nB (pv 0) (nB nQ nF))) nQ) nQ (qg _)) (nC (nR (i:=2) yR.nd rfl (by trivial) (qb Je (hr.mono (by decide)) (nB (qb OO (hr.mono (by decide)) (nB (pv 0) (nB nQ nF))) nF))) (nM (nR (i:=1) yR.nd rfl (by trivial) (qU pM (pv 2) (oE rq (oE wI (qb qj (hr.mono (by decide)) (nB (pv 0) (nB nQ nF))) nQ) (oq pW (by rfl) B.len PySem.boot_len (nB (pv 2) nF))) (λ_ _=>rfl))))) qa) (nC (nR (i:=3) yR.nd rfl (by trivial) (qb Ly (hr.mono (by decide)) (nB (pv 1) nF))) (nC (nR (i:=4) yR.nd rfl (by trivial) (NM G_walk (hr.mono (by decide)) (nB (pv 3) nF))) (nC (qV (PW.pt (E7 (zR (yG (qb G5 (hr.mono (by decide)) (nB (pv 4) nF)))) (Ew (zR (yG (qb Ez (hr.mono (by decide)) (nB (pv 1) (nB (pv 4) nF)))))))) (nM (pS vp)) qa) (nC (nR (i:=5) yR.nd rfl (by trivial) (yo wO (by rfl) B.list dD (nB (pv 4) nF))) (nM (pS (B3 (wK (G9 hu) (NM G_walk (hr.mono (by decide)) (nB (pv 3) nF)) (pv 5) (qg _)) (B3 (wK (G9 hu) (pv 4) (pv 5) (qg _)) (Em (wK (G9 hu) (pv 3) (pv 1) (qg _))))))))))))),pV _ (K:=K) (nK (OQ (i:=1) (LN (oi (Ge (ug 0) (ya nP) (ya nP)) (oi (ql (oi (nZ 0) ot)) (oi (SR.kSc (nW yy (nW rD (qN (nJ (nD 0) (nJ nP nX))) nP) nP)) ot))))) (nK (sv (qA (nW yy (nW rD (qN (nJ (nD 0) (nJ nP nX))) nP) nP)) (nK (nT (i:=2) (ql (oi (ql (oi (nZ 0) (oi (SR.kSc nP) ot))) ot))) (nT (i:=1) (LV (ug 2) (nW rD (nW yU (qN (nJ (nD 0) (nJ nP nX))) nP) (qw rh (nJ (nD 2) nX)))))) qp) (nK (nT (i:=3) (ql (oi (nZ 1) ot))) (nK (nT (i:=4) (ql (oi (nZ 3) ot))) (nK (sv (EY (zP (uX (qN (nJ (nD 4) nX)))) (zP (uX (qN (nJ (nD 1) (nJ (nD 4) nX)))))) (pR (SR.kSc vx)) qp) (nK (nT (i:=5) (Er (ug 4))) (pR (SR.kSc (Ce (nW GD (SK.rOf (ql (oi (nZ 3) ot))) (nD 5)) (Ce (nW GD (nD 4) (nD 5)) (nW GD (nD 3) (nD 1)))))))))))) h⟩⟩
end
end K52
namespace K16
open PySem L2 Mr Z
end K16
--ZQ3 --ZQ4 --ZQ5 --ZQ6 --ZQ8 --ZQ9
namespace K51
open PySem L2 Mr Z Xe Zl
def rd(st sh a b k:Int):Int:=st*(1+(a*k+b) % 67)+sh
def rds(st sh a b:Int):List Int:=(aN 67).map λk:Nat=>rd st sh a b k
theorem Cm{st sh a b:Int}(h1:1<=a) (h2:a<=66):uh xn (kSc (oV vR (oV zX (nH 2) (oV vR (rC (.int 1)) (oV tK (oV vR (oV zX (nH 4) (nH 0)) (nH 3)) (rC (.int 67))))) (nH 1))) [some (.sh (.int sh)),some (.sh (.int st)),some (.sh (.int b)),some (.sh (.int a))] (oU 0 67)=some ((rds st sh a b).map λz=>.sh (.int z)):=by
 have key:=vW (te:=kSc (oV vR (oV zX (nH 2) (oV vR (rC (.int 1)) (oV tK (oV vR (oV zX (nH 4) (nH 0)) (nH 3)) (rC (.int 67))))) (nH 1))) (cap:=[some (.sh (.int sh)),some (.sh (.int st)),some (.sh (.int b)),some (.sh (.int a))])
  (λd=>match d with|.int k=>.sh (.int (rd st sh a b k))|_=>.sh .non) (ds:=oU 0 67) (by
  intro d hd;rw[xK]at hd;obtain⟨k,_,rfl⟩:=mMq.mp hd;have b1:0<=(a*(k:Int)+b) % 67:=bo _ (by decide)
  have b2:(a*(k:Int)+b) % 67<67:=bh _ (by decide)
  have c1:=Qg (i:=a) (j:=(k:Int)) (by lia) (by lia)
  have c2:=P5 (i:=st) (j:=1+(a*(k:Int)+b) % 67) (by lia) (by lia)
  have m67:=λi:Int=>rA (i:=i) (j:=67) (by decide)
  refine⟨[some (.sh (.int (k:Int))),some (.sh (.int sh)),some (.sh (.int st)),some (.sh (.int b)),some (.sh (.int a))],?_⟩
  simp_arith [c1,c2,m67,rd])
 rw[key,xK,mPq];unfold rds;rw[mPq];rfl
theorem Nr(ns:List Int):∃st sh a b:Int,1<=st/\st<=10 ^ 57/\0<=sh/\sh<10 ^ 59/\1<=a/\a<=66/\0<=b/\b<67/\tq [.scr ns]=some (aI (rds st sh a b)):=by
 have a1:0<=cell ns 0 / 3 % 66:=bo _ (by decide)
 have a2:cell ns 0 / 3 % 66<66:=bh _ (by decide)
 have b1:0<=cell ns 0 / 198 % 67:=bo _ (by decide)
 have b2:cell ns 0 / 198 % 67<67:=bh _ (by decide)
 have s1:0<=cell ns 1 % 10 ^ 57:=bo _ (by decide)
 have s2:cell ns 1 % 10 ^ 57<10 ^ 57:=bh _ (by decide)
 have s3:0<=cell ns 2 % 10 ^ 59:=bo _ (by decide)
 have s4:cell ns 2 % 10 ^ 59<10 ^ 59:=bh _ (by decide)
 have m3:=λi:Int=>rA (i:=i) (j:=3) (by decide)
 have m66:=λi:Int=>rA (i:=i) (j:=66) (by decide)
 have m67:=λi:Int=>rA (i:=i) (j:=67) (by decide)
 have m57:=λi:Int=>rA (i:=i) (j:=10 ^ 57) (by decide)
 have m59:=λi:Int=>rA (i:=i) (j:=10 ^ 59) (by decide)
 have d3:=λi:Int=>yP (i:=i) (j:=3) (by decide) (by decide)
 have d198:=λi:Int=>yP (i:=i) (j:=198) (by decide) (by decide)
 have r67:AK [.int 67]=some (oU 0 67):=yc (n:=67) (by decide)
 have l67:(oU 0 67).length<=qF:=by rw[oI];show 67<=16777216;decide
 by_cases h0:0<cell ns 0 % 3
 .refine ⟨1+cell ns 1 % 10 ^ 57,cell ns 2 % 10 ^ 59,1+cell ns 0 / 3 % 66,cell ns 0 / 198 % 67,by lia,by lia,s3,s4,by lia,by lia,b1,b2,?_⟩
  have rc:=Cm (st:=1+cell ns 1 % 10 ^ 57) (sh:=cell ns 2 % 10 ^ 59) (a:=1+cell ns 0 / 3 % 66) (b:=cell ns 0 / 198 % 67) (by lia) (by lia)
  simp_arith [tq,yH,Qo,TR,UC,h0,m3,m66,m67,m57,m59,d3,d198,W6,Xg,r67,l67,rc]
 .refine ⟨1,0,1+cell ns 0 / 3 % 66,cell ns 0 / 198 % 67,by decide,by decide,by decide,by decide,by lia,by lia,b1,b2,?_⟩
  have rc:=Cm (st:=1) (sh:=0) (a:=1+cell ns 0 / 3 % 66) (b:=cell ns 0 / 198 % 67) (by lia) (by lia)
  simp_arith [tq,yH,Qo,h0,m3,m66,m67,d3,d198,r67,l67,rc]
theorem RB{st sh a b:Int}(h1:1<=st) (h2:1<=a) (h3:a<=66) {j k:Nat}(hj:j<67) (hk:k<67) (h:rd st sh a b j=rd st sh a b k):j=k:=by
 unfold rd at h;have e1:st*(1+(a*j+b) % 67)=st*(1+(a*k+b) % 67):=by lia
 have e2:=Int.eq_of_mul_eq_mul_left (by lia) e1
 have e3:((a*j+b)-(a*k+b)) % 67=0:=Int.emod_eq_emod_iff_emod_sub_eq_zero.mp (by lia)
 have e4:(a*((j:Int)-k)) % 67=0:=by
  rw[←e3];congr 1;rw[Int.mul_sub];lia
 obtain⟨tn,rfl⟩:∃tn:Nat,a=(tn:Int)+1:=⟨(a-1).toNat,by lia⟩
 rcases fJ j k with q|q|q
 .exfalso;refine Mr.HG ⟨tn,by lia⟩ ⟨k-j,by lia⟩ (by show 0<k-j;lia) ?_
  show (tn+1)*(k-j) % 67=0;have e5:(((tn:Int)+1)*((k:Int)-j)) % 67=0:=by
   have:((tn:Int)+1)*((k:Int)-j) = -(((tn:Int)+1)*((j:Int)-k)):=by
    rw[←Int.mul_neg];congr 1;lia
   rw[this];lia
  have e6:(((tn+1)*(k-j) % 67:Nat):Int)=0:=by
   rw[←e5];push_cast [cw q];rfl
  lia
 .exact q
 .exfalso;refine Mr.HG ⟨tn,by lia⟩ ⟨j-k,by lia⟩ (by show 0<j-k;lia) ?_
  show (tn+1)*(j-k) % 67=0;have e6:(((tn+1)*(j-k) % 67:Nat):Int)=0:=by
   rw[←e4];push_cast [cw q];rfl
  lia
theorem OU(st sh a b:Int):(rds st sh a b).length=67:=by unfold rds;rw[lMq,aT]
theorem Ja{st sh a b:Int}(h1:1<=st) (h2:1<=a) (h3:a<=66):(rds st sh a b).Nodup:=by
 unfold rds;rw[cV,cf];refine cR.imp_of_mem (λ{x y} hx hy hne e=>hne (RB h1 h2 h3 (bO.mp hx) (bO.mp hy) e)) (cV.mp dU)
theorem Oh{st sh a b:Int}(h1:1<=st) (h2:0<=sh) {z:Int}(h:z∈rds st sh a b):1<=z:=by
 obtain⟨k,_,rfl⟩:=mMq.mp h;have b1:0<=(a*(k:Int)+b) % 67:=bo _ (by decide)
 have:1*1<=st*(1+(a*(k:Int)+b) % 67):=Int.mul_le_mul h1 (by lia) (by decide) (by lia)
 show 1<=st*(1+(a*(k:Int)+b) % 67)+sh;lia
end K51
--ZQ3 --ZQ4 --ZQ5 --ZQ6 --ZQ8 --ZQ9
namespace K51
open PySem L2 Mr Z Xe Zl
theorem PL{rs:List (List Int)}(hl:rs.length<=500000):wq [dM rs]=some (.ow (rs.map aI)):=by
 have key:=vW (te:=zG (vh 0)) (cap:=[]) (λd=>match d with|.list ds=>.ow (ds.map .sh)|_=>.sh .non) (ds:=rs.map dI) (by
  intro d hd;obtain⟨r,_,rfl⟩:=mMq.mp hd;refine⟨[some (.sh (dI r))],?_⟩
  simp_arith [dI])
 have h1:rs.length<=qF:=by show _<=16777216;lia
 have e:(rs.map dI).map (λd=>match d with|D.list ds=>AV.ow (ds.map .sh)|_=>.sh .non)=rs.map aI:=by
  rw[mPq];refine mCq λr _=>?_
  show AV.ow ((r.map D.int).map .sh)=aI r;rw[mPq];rfl
 rw[e]at key
 simp_arith [wq,CU,dM,key,h1]
def Aa(x:String×Int):AV:=.sh (.tup [.str x.1,.int x.2])
end K51
--ZQ3 --ZQ4 --ZQ5 --ZQ6 --ZQ8 --ZQ9
namespace K51
open PySem L2 Mr Z Xe Zl
end K51
--ZQ3 --ZQ4 --ZQ5 --ZQ6 --ZQ8 --ZQ9
namespace K51
open PySem L2 Mr Z Xe Zl
def kd(ks:List Nat):List (oy×D):=ks.map λk:Nat=>((aG (k:Int):oy),D.bl true)
def wd(ws:List Nat):List AV:=ws.map λk:Nat=>AV.sh (.int (k:Int))
theorem G4(ks:List Nat) (t:Nat):(kd ks).any (λkv=>decide (kv.1=(aG (t:Int):oy)))=decide (t∈ks):=by
 induction ks with
 |nil=>simp[kd]
 |cons k ks ih =>
  unfold kd at ih ⊢;rw[aC,eX,ih]
  by_cases h:t=k
  .subst h;simp
  .have h':¬ (aG (k:Int):oy)=aG (t:Int):=λq=>h (by have:=aG.inj q;lia)
   simp[h',h]
theorem KB(ks:List Nat) (t:Nat):(getD (kd ks) (aG (t:Int))).isSome=decide (t∈ks):=by
 unfold getD;rw[cc,←G4,bR,dJ,dS]
theorem K5{ks:List Nat}{t:Nat}(h:t∉ks):xf (kd ks) (aG (t:Int)) (.bl true)=kd (ks++[t]):=by
 unfold xf;rw[G4,decide_eq_false h,oB (by simp)]
 simp[kd]
theorem Hs{kvs:List (oy×D)}{ks ws:List Nat}{e:Int}{t:Nat}{v0 v1 v5 v7:Option AV}(hg:getD kvs (aG (-e))=some (.int (t:Int))) (hk:ks.length<500000) (hw:ws.length<500000) :
  rL [v0,v1,some (.owd kvs),some (.owd (kd ks)),some (.ow (wd ws)),v5,some (.sh (.int e)),v7]=some (.nx [v0,v1,some (.owd kvs),some (.owd (kd (if t∈ks then ks else ks++[t]))),some (.ow (wd (if t∈ks then ws else ws++[t]))),v5,some (.sh (.int e)),some (.sh (.int (t:Int)))]):=by
 have l1:(kd ks).length<qF:=by unfold kd;rw[lMq];show _<16777216;lia
 have l2:(wd ws).length<qF:=by unfold wd;rw[lMq];show _<16777216;lia
 have hg2:=KB ks t
 by_cases h:t∈ks
 .rw [decide_eq_true h]at hg2
  simp_arith [rL,hg,hg2,h]
 .rw [decide_eq_false h]at hg2;have hp:=K5 h;have hw2:wd ws++[.sh (.int (t:Int))]=wd (ws++[t]):=by simp[wd]
  simp_arith [rL,hg,hg2,h,hp,l1,l2,hw2]
def AU(pl:Int->Nat) (x:List Nat×List Nat) (e:Int):List Nat×List Nat:=if pl (-e)∈x.1 then x else (x.1++[pl (-e)],x.2++[pl (-e)])
theorem IR(pl:Int->Nat):∀(r:List Int) (x:List Nat×List Nat),(r.foldl (AU pl) x).1.length<=x.1.length+r.length/\(r.foldl (AU pl) x).2.length<=x.2.length+r.length
 | [],x=>⟨ag _,ag _⟩
 |e::r,x=>by
  obtain⟨h1,h2⟩:=IR pl r (AU pl x e);have h3:(AU pl x e).1.length<=x.1.length+1/\(AU pl x e).2.length<=x.2.length+1:=by
   unfold AU;split
   .exact ⟨bH _,bH _⟩
   .simp
  rw[cm,lCq];lia
theorem Jr{kvs:List (oy×D)}{ks ws:List Nat}{r:List Int}{pl:Int->Nat}{v0 v1 v5 v6 v7:Option AV}(hg:∀e∈r,getD kvs (aG (-e))=some (.int (pl (-e):Int))) (hk:ks.length+r.length<500000) (hw:ws.length+r.length<500000) :
  ∃v6' v7',rQ 6 rL (r.map D.int) [v0,v1,some (.owd kvs),some (.owd (kd ks)),some (.ow (wd ws)),v5,v6,v7]=some (.nx [v0,v1,some (.owd kvs),some (.owd (kd (r.foldl (AU pl) (ks,ws)).1)),some (.ow (wd (r.foldl (AU pl) (ks,ws)).2)),v5,v6',v7']):=by
 have key:=tX (x:=6) (body:=rL) (λi S=>∃v6' v7',S=[v0,v1,some (.owd kvs),some (.owd (kd ((r.take i).foldl (AU pl) (ks,ws)).1)),some (.ow (wd ((r.take i).foldl (AU pl) (ks,ws)).2)),v5,v6',v7']) (ds:=r.map D.int) (S:=[v0,v1,some (.owd kvs),some (.owd (kd ks)),some (.ow (wd ws)),v5,v6,v7])
  ⟨v6,v7,rfl⟩ (by
  rintro i d S hd ⟨v6',v7',rfl⟩;rw[gMq]at hd;obtain⟨e,he,rfl⟩:=oMq.mp hd;have hi:i<r.length:=(gSq.mp he).1;have hm:e∈r:=mGq he;obtain⟨n1,n2⟩:=IR pl (r.take i) (ks,ws);rw[lTq]at n1 n2;have n1':((r.take i).foldl (AU pl) (ks,ws)).1.length<=ks.length+min i r.length:=n1;have n2':((r.take i).foldl (AU pl) (ks,ws)).2.length<=ws.length+min i r.length:=n2;have step:=Hs (v0:=v0) (v1:=v1) (v5:=v5) (v7:=v7') (hg e hm) (ks:=((r.take i).foldl (AU pl) (ks,ws)).1) (ws:=((r.take i).foldl (AU pl) (ks,ws)).2) (by lia) (by lia)
  have et:(r.take (i+1)).foldl (AU pl) (ks,ws)=AU pl ((r.take i).foldl (AU pl) (ks,ws)) e:=by
   have:r[i]'hi=e:=by rw[gEg hi]at he;exact aU.inj he
   rw[eU hi,fL,this];rfl
  refine⟨_,step,some (.sh (.int e)),some (.sh (.int (pl (-e):Int))),?_⟩;rw[et];unfold AU;split <;> rfl)
 obtain⟨S',e,v6',v7',rfl⟩:=key;rw[lMq,aZ]at e;exact⟨v6',v7',e⟩
end K51
--ZQ3 --ZQ4 --ZQ5 --ZQ6 --ZQ8 --ZQ9
namespace K51
open PySem L2 Mr Z Xe Zl
theorem Ts:∀(N:Nat) (l:List Nat),l.Nodup->(∀x∈l,x<N)->l.length<=N
 |0,l,_,h=>by
  cases l with
  |nil=>exact ag _
  |cons x l=>exact absurd (h x (au ..)) (cX _)
 |N+1,l,hn,h=>by
  have h2:=Ts N (l.erase N) (hn.erase N) (λx hx=>by
   have:=(hn.mem_erase_iff).mp hx;have:=h x this.2;lia)
  rw[List.length_erase]at h2;split at h2 <;> lia
def plc(rs:List (List Int)) (e:Int):Nat:=rs.findIdx λr=>decide (e∈r)
theorem same_place{rs:List (List Int)}(hn:rs.flatten.Nodup) {i j:Nat}{r s:List Int}{e:Int}(hi:rs[i]?=some r) (hj:rs[j]?=some s) (h1:e∈r) (h2:e∈s):i=j:=by
 have a:=yg 0 hn hi h1;have b:=yg 0 hn hj h2;rw[a]at b;have:=D.int.inj (aU.inj b);lia
theorem plc_eq{rs:List (List Int)}(hn:rs.flatten.Nodup) {i:Nat}{r:List Int}{e:Int}(hi:rs[i]?=some r) (h1:e∈r):plc rs e=i:=by
 have hl:rs.findIdx (λr=>decide (e∈r))<rs.length:=eT ⟨r,mGq hi,decide_eq_true h1⟩
 have h2:=gA (xs:=rs) (p:=λr=>decide (e∈r)) (w:=hl)
 exact same_place hn (gEg hl) hi (of_decide_eq_true h2) h1
structure Mp (rs:List (List Int)):Prop where
 hn:rs.flatten.Nodup
 hl:rs.flatten.length<=1000
 hr:rs.length<=1000
 hneg:∀e∈rs.flatten, -e∈rs.flatten
theorem Mp.at{rs:List (List Int)}(h:Mp rs) {e:Int}(he:e∈rs.flatten):∃r,rs[plc rs e]?=some r/\e∈r:=by
 obtain⟨r,h1,h2⟩:=mFq.mp he;obtain⟨i,h3⟩:=bb.mp h1;exact⟨r,by rw[plc_eq h.hn h3 h2];exact h3,h2⟩
theorem Mp.other{rs:List (List Int)}(h:Mp rs) {k:Nat}{r:List Int}{e:Int}(hk:rs[k]?=some r) (he:e∈r):-e∈rs.flatten:=h.hneg e (mFq.mpr ⟨r,mGq hk,he⟩)
theorem Mp.kv{rs:List (List Int)}(h:Mp rs) {e:Int}(he:e∈rs.flatten):getD (oD 0 rs) (aG e)=some (.int (plc rs e:Int)):=by
 obtain⟨r,h1,h2⟩:=h.at he;have:=yg 0 h.hn h1 h2
 rwa [bY]at this
theorem Mp.lt{rs:List (List Int)}(h:Mp rs) {e:Int}(he:e∈rs.flatten):plc rs e<rs.length:=by
 obtain⟨r,h1,_⟩:=h.at he;exact(gSq.mp h1).1
theorem Mp.row{rs:List (List Int)}(h:Mp rs) {k:Nat}{r:List Int}(hk:rs[k]?=some r):r.length<=1000:=by
 have:=fW.length_le (bq (mGq hk));have:=h.hl;lia
inductive sG (rs:List (List Int)) (s:Nat):Nat->Prop
 |base:sG rs s s
 |step {k:Nat}{r:List Int}{e:Int}:sG rs s k->rs[k]?=some r->e∈r->sG rs s (plc rs (-e))
theorem BV(pl:Int->Nat):∀(r:List Int) (ks ws:List Nat),∃a,r.foldl (AU pl) (ks,ws)=(ks++a,ws++a)/\(∀k∈a,∃e∈r,k=pl (-e))/\(∀e∈r,pl (-e)∈ks++a)/\(ks.Nodup->(ks++a).Nodup)
 | [],ks,ws=>⟨[],by simp,by simp,by simp,by simp⟩
 |e::r,ks,ws=>by
  rw[cm]
  by_cases h:pl (-e)∈ks
  .have e1:AU pl (ks,ws) e=(ks,ws):=by unfold AU;rw[oz h]
   rw[e1];obtain⟨a,h1,h2,h3,h4⟩:=BV pl r ks ws;refine⟨a,h1,λk hk=>?_,λx hx=>?_,h4⟩
   .obtain ⟨x,hx,q⟩:=h2 k hk;exact⟨x,mCo _ hx,q⟩
   .rcases aj.mp hx with rfl|hx
    .exact mAq.mpr (.inl h)
    .exact h3 x hx
  .have e1:AU pl (ks,ws) e=(ks++[pl (-e)],ws++[pl (-e)]):=by unfold AU;rw[oB h]
   rw[e1];obtain⟨a,h1,h2,h3,h4⟩:=BV pl r (ks++[pl (-e)]) (ws++[pl (-e)]);refine⟨pl (-e)::a,by rw[h1,ah,ah];rfl,λk hk=>?_,λx hx=>?_,λhn=>?_⟩
   .rcases aj.mp hk with rfl|hk
    .exact ⟨e,au ..,rfl⟩
    .obtain ⟨x,hx,q⟩:=h2 k hk;exact⟨x,mCo _ hx,q⟩
   .rcases aj.mp hx with rfl|hx
    .exact mAq.mpr (.inr (au ..))
    .have:=h3 x hx
     rwa [ah]at this
   .have:=h4 (by
     rw[nAq];exact⟨hn,by simp,λx hx y hy q=>h (by rw[mSq.mp hy]at q;rw[←q];exact hx)⟩)
    rwa [ah]at this
structure Inv (rs:List (List Int)) (s:Nat) (ks ws:List Nat):Prop where
 nd:ks.Nodup
 lt:∀k∈ks,k<rs.length
 st:s∈ks
 rc:∀k∈ks,sG rs s k
 sub:∀w∈ws,w∈ks
 cl:∀k∈ks,k∉ws->∀r e,rs[k]?=some r->e∈r->plc rs (-e)∈ks
 few:2*(rs.length-ks.length)+ws.length<=2*rs.length+1
theorem Inv.go{rs:List (List Int)}(hm:Mp rs) {s h:Nat}{ks ws:List Nat}{r:List Int}(hi:Inv rs s ks (ws++[h])) (hr:rs[h]?=some r):∃a,r.foldl (AU (plc rs)) (ks,ws)=(ks++a,ws++a)/\Inv rs s (ks++a) (ws++a)/\2*(rs.length-(ks++a).length)+(ws++a).length<2*(rs.length-ks.length)+(ws++[h]).length:=by
 obtain⟨a,h1,h2,h3,h4⟩:=BV (plc rs) r ks ws;have hh:h∈ks:=hi.sub h (by simp)
 have nd:=h4 hi.nd;have lt:∀k∈ks++a,k<rs.length:=by
  intro k hk;rcases mAq.mp hk with q|q
  .exact hi.lt k q
  .obtain ⟨e,he,rfl⟩:=h2 k q;exact hm.lt (hm.other hr he)
 have pl:=Ts _ _ nd lt;have p0:=hi.few;rw[lAq]at pl;rw[lAq,lSq]at p0;have key:2*(rs.length-(ks++a).length)+(ws++a).length<2*(rs.length-ks.length)+(ws++[h]).length:=by
  rw[lAq,lAq,lAq,lSq];lia
 refine⟨a,h1,⟨nd,lt,mAq.mpr (.inl hi.st),λk hk=>?_,λw hw=>?_,λk hk hw=>?_,?_⟩,key⟩
 .rcases mAq.mp hk with q|q
  .exact hi.rc k q
  .obtain ⟨e,he,rfl⟩:=h2 k q;exact .step (hi.rc h hh) hr he
 .rcases mAq.mp hw with q|q
  .exact mAq.mpr (.inl (hi.sub w (mAq.mpr (.inl q))))
  .exact mAq.mpr (.inr q)
 .intro r' e hr' he;have k1:k∈ks:=(mAq.mp hk).resolve_right λq=>hw (mAq.mpr (.inr q))
  by_cases q:k=h
  .subst q;rw[hr]at hr';cases hr';exact h3 e he
  .exact mAq.mpr (.inl (hi.cl k k1 (λz=>by
    rcases mAq.mp z with z|z
    .exact hw (mAq.mpr (.inl z))
    .exact q (mSq.mp z)) r' e hr' he))
 .rw [lAq,lAq]at key ⊢;rw[lAq,lSq]at key;lia
def mu(N:Nat):AS->Nat
 | [_,_,_,some (.owd kv),some (.ow w),_,_,_]=>2*(N-kv.length)+w.length
 |_=>0
theorem Hy{rs:List (List Int)}(hm:Mp rs) {s:Nat}(hs:s<rs.length):∃S',rV (uE (oV Qs (vO sm (nO (nH 4) oj)) (rC (.int 0)))) ux 100000 [some (.sh (dM rs)),some (.sh (.int (s:Int))),some (.owd (oD 0 rs)),some (.owd (kd [s])),some (.ow (wd [s])),none,none,none]=some (.nx S') /\
  ∃ks v5 v6 v7,S'=[some (.sh (dM rs)),some (.sh (.int (s:Int))),some (.owd (oD 0 rs)),some (.owd (kd ks)),some (.ow (wd [])),v5,v6,v7]/\Inv rs s ks []:=by
 have h1000:=hm.hr;refine xH (c:=uE (oV Qs (vO sm (nO (nH 4) oj)) (rC (.int 0)))) (body:=ux) (λS=>∃ks ws v5 v6 v7,S=[some (.sh (dM rs)),some (.sh (.int (s:Int))),some (.owd (oD 0 rs)),some (.owd (kd ks)),some (.ow (wd ws)),v5,v6,v7]/\Inv rs s ks ws) (mu rs.length) (λS'=>∃ks v5 v6 v7,S'=[some (.sh (dM rs)),some (.sh (.int (s:Int))),some (.owd (oD 0 rs)),some (.owd (kd ks)),some (.ow (wd [])),v5,v6,v7]/\Inv rs s ks []) ?_ 100000 _ ⟨[s],[s],none,none,none,rfl,?_⟩ ?_
 .rintro S ⟨ks,ws,v5,v6,v7,rfl,hi⟩;rcases cF ws with rfl|⟨ws,h,rfl⟩
  .refine ⟨false,_,?_,λq=>(nomatch q),λ_=>⟨ks,v5,v6,v7,rfl,hi⟩⟩
   simp_arith [wd]
   rfl
  .rw [cG]at hi ⊢;have hlt:h<rs.length:=hi.lt h (hi.sub h (by simp))
   have hr:rs[h]?=some rs[h]:=gEg hlt;obtain⟨a,e1,hi2,mlt⟩:=hi.go hm hr;have few:=hi.few;have kl:=Ts _ _ hi.nd hi.lt;have rl:=hm.row hr;rw[lAq,lSq]at few;obtain⟨v6',v7',e2⟩:=Jr (kvs:=oD 0 rs) (ks:=ks) (ws:=ws) (r:=rs[h]) (pl:=plc rs) (v0:=some (.sh (dM rs))) (v1:=some (.sh (.int (s:Int)))) (v5:=some (.sh (.int (h:Int)))) (v6:=v6) (v7:=v7) (λe he=>hm.kv (hm.other hr he)) (by lia) (by lia)
   rw[e1]at e2;have hw:wd (ws++[h])=wd ws++[.sh (.int (h:Int))]:=by simp[wd]
   have wl:(wd ws).length=ws.length:=by simp[wd]
   have c1:(0:Int)<((wd ws++[AV.sh (.int (h:Int))]).length:Int):=by
    rw[lAq,lSq];lia
   have p1:(wd ws++[AV.sh (.int (h:Int))])[(wd ws++[AV.sh (.int (h:Int))]).length-1]?=some (.sh (.int (h:Int))):=by
    rw[lAq,lSq,gYq (by lia)]
    simp
   have p2:(wd ws++[AV.sh (.int (h:Int))]).dropLast=wd ws:=de;have at1:atI (rs.map dI) (h:Int)=some (dI rs[h]):=si (by rw[gMq,hr];rfl)
   refine⟨true,[some (.sh (dM rs)),some (.sh (.int (s:Int))),some (.owd (oD 0 rs)),some (.owd (kd ks)),some (.ow (wd ws++[.sh (.int (h:Int))])),v5,v6,v7],?_,λ_=>⟨[some (.sh (dM rs)),some (.sh (.int (s:Int))),some (.owd (oD 0 rs)),some (.owd (kd (ks++a))),some (.ow (wd (ws++a))),some (.sh (.int (h:Int))),v6',v7'],?_,⟨_,_,_,_,_,rfl,hi2⟩,?_⟩,λq=>(nomatch q)⟩
   .simp_arith [hw,c1]
   .simp_arith [ux,p1,p2,dM,at1,e2]
   .show 2*(rs.length-(kd (ks++a)).length)+(wd (ws++a)).length<2*(rs.length-(kd ks).length)+(wd (ws++[h])).length;unfold kd wd;rw[lMq,lMq,lMq,lMq];exact mlt
 .refine ⟨by simp,?_,by simp,?_,λw h=>h,?_,?_⟩
  .intro k hk;rw[mSq.mp hk];exact hs
  .intro k hk;rw[mSq.mp hk];exact .base
  .intro k hk hn;exact absurd hk hn
  .simp only [lSq];lia
 .show 2*(rs.length-(kd [s]).length)+(wd [s]).length<100000;simp only[kd,wd,lMq,lSq];lia
theorem GZ{rs:List (List Int)}(hm:Mp rs) {s:Nat}(hs:s<rs.length):∃ks,Inv rs s ks []/\uG [dM rs,.int (s:Int)]=some (aI (rS (ks.map λk:Nat=>(k:Int)))):=by
 obtain⟨S',e,ks,v5,v6,v7,rfl,hi⟩:=Hy hm hs;have hl:=hm.hl;have pa:=uo hm.hn (by lia)
 have e1:[((aG (s:Int):oy),D.bl true)]=kd [s]:=rfl;have e2:[AV.sh (.int (s:Int))]=wd [s]:=rfl;have e3:yC (kd ks)=some (ks.map λk:Nat=>(k:Int)):=CT (λk:Nat=>(k:Int)) (λ_=>D.bl true) ks
 have l1:(wd [s]).length<=qF:=by show 1<=16777216;decide
 refine⟨ks,hi,?_⟩
 simp_arith [uG,BS,pa,e1,e2,e,e3,l1]
end K51
--ZQ3 --ZQ4 --ZQ5 --ZQ6 --ZQ8 --ZQ9
namespace K51
open PySem L2 Mr Z Xe Zl
theorem O6(ks:List Nat):∃ps:List Nat,ps.Perm ks/\ps.Pairwise (·<=·)/\rS (ks.map λk:Nat=>(k:Int))=ps.map λk:Nat=>(k:Int):=by
 have hp:=uA (ks.map λk:Nat=>(k:Int))
 have hs:=Al (ks.map λk:Nat=>(k:Int))
 have hc:(rS (ks.map λk:Nat=>(k:Int)))=((rS (ks.map λk:Nat=>(k:Int))).map gj).map λk:Nat=>(k:Int):=by
  rw[mPq]
  conv=>lhs;rw[←fG (rS (ks.map λk:Nat=>(k:Int)))]
  refine mCq λz hz=>?_
  obtain⟨k,_,rfl⟩:=mMq.mp (hp.mem_iff.mp hz);rfl
 refine⟨(rS (ks.map λk:Nat=>(k:Int))).map gj,?_,?_,hc⟩
 .have:=hp.map gj;rw[mPq]at this;have e:ks.map (gj∘λk:Nat=>(k:Int))=ks:=by
   conv=>rhs;rw[←fG ks]
   refine mCq λk _=>?_
   show gj (k:Int)=k;exact aX k
  rwa [e]at this
 .rw [cf];refine cR.imp (λh=>?_) hs
  lia
structure Pc (rs:List (List Int)) (s:Nat) (ps:List Nat):Prop where
 nd:ps.Nodup
 so:ps.Pairwise (·<=·)
 lt:∀k∈ps,k<rs.length
 iff:∀k,k∈ps↔sG rs s k
theorem Gv{rs:List (List Int)}(hm:Mp rs) {s:Nat}(hs:s<rs.length):∃ps,Pc rs s ps/\uG [dM rs,.int (s:Int)]=some (aI (ps.map λk:Nat=>(k:Int))):=by
 obtain⟨ks,hi,e⟩:=GZ hm hs;obtain⟨ps,h1,h2,h3⟩:=O6 ks;rw[h3]at e;refine⟨ps,⟨h1.symm.nodup hi.nd,h2,λk hk=>hi.lt k (h1.mem_iff.mp hk),λk=>⟨λhk=>hi.rc k (h1.mem_iff.mp hk),λhk=>h1.mem_iff.mpr ?_⟩⟩,e⟩
 induction hk with
 |base=>exact hi.st
 |step _ a b c=>exact hi.cl _ c (cD) _ _ a b
def vM(kn:List Nat) (t:Nat):List Nat:=if t∈kn then kn else kn++[t]
theorem Pm(ks:List Nat) (t:Nat):xf (kd ks) (aG (t:Int)) (.bl true)=kd (vM ks t):=by
 unfold vM
 by_cases h:t∈ks
 .rw [oz h];unfold xf;rw[G4,decide_eq_true h,oz rfl];unfold kd;rw[mPq];refine mCq λk _=>?_
  show (if _ then _ else _)=_
  split <;> rfl
 .rw [oB h];exact K5 h
theorem Li(kn:List Nat) (t:Nat):(vM kn t).length<=kn.length+1:=by
 unfold vM;split
 .lia
 .simp
theorem FN:∀(ps kn:List Nat),(ps.foldl vM kn).length<=kn.length+ps.length
 | [],kn=>ag _
 |p::ps,kn=>by
  have h1:=FN ps (vM kn p);have h2:=Li kn p;rw[cm,lCq];lia
theorem KR{kn:List Nat}{t k:Nat}:k∈vM kn t↔k∈kn∨k=t:=by
 unfold vM;split
 .rename_i h;exact⟨.inl,λq=>q.elim id λq=>q ▸ h⟩
 .simp
theorem uQ:∀{ps kn:List Nat}{k:Nat},k∈ps.foldl vM kn↔k∈kn∨k∈ps
 | [],kn,k=>by simp
 |p::ps,kn,k=>by
  rw[cm,uQ,KR,aj,or_assoc]
theorem OJ{kn:List Nat}{t:Nat}(h:kn.Nodup):(vM kn t).Nodup:=by
 unfold vM;split
 .exact h
 .rename_i q;rw[nAq];exact⟨h,by simp,λx hx y hy z=>q (by rw[mSq.mp hy]at z;rw[←z];exact hx)⟩
theorem Iy:∀{ps kn:List Nat},kn.Nodup->(ps.foldl vM kn).Nodup
 | [],kn,h=>h
 |p::ps,kn,h=>by
  rw[cm];exact Iy (OJ h)
theorem JM{ps kn:List Nat}{v0 v2 v3 v4 v5:Option AV}(hk:kn.length+ps.length<500000):∃v5',rQ 5 vz ((ps.map λk:Nat=>(k:Int)).map D.int) [v0,some (.owd (kd kn)),v2,v3,v4,v5]=some (.nx [v0,some (.owd (kd (ps.foldl vM kn))),v2,v3,v4,v5']):=by
 have key:=tX (x:=5) (body:=vz) (λi S=>∃v5',S=[v0,some (.owd (kd ((ps.take i).foldl vM kn))),v2,v3,v4,v5']) (ds:=(ps.map λk:Nat=>(k:Int)).map D.int) (S:=[v0,some (.owd (kd kn)),v2,v3,v4,v5]) ⟨v5,rfl⟩ (by
  rintro i d S hd ⟨v5',rfl⟩;rw[gMq,gMq]at hd;obtain⟨z,hz,rfl⟩:=oMq.mp hd;obtain⟨k,hk',rfl⟩:=oMq.mp hz;have hi:i<ps.length:=(gSq.mp hk').1;have n1:=FN (ps.take i) kn;rw[lTq]at n1;have l1:(kd ((ps.take i).foldl vM kn)).length<qF:=by unfold kd;rw[lMq];show _<16777216;lia
  have et:(ps.take (i+1)).foldl vM kn=vM ((ps.take i).foldl vM kn) k:=by
   have:ps[i]'hi=k:=by rw[gEg hi]at hk';exact aU.inj hk'
   rw[eU hi,fL,this];rfl
  have hp:=Pm ((ps.take i).foldl vM kn) k;rw[←et]at hp;refine⟨_,?_,some (.sh (.int (k:Int))),rfl⟩
  simp_arith [vz,l1,hp])
 obtain⟨S',e,v5',rfl⟩:=key;rw[lMq,lMq,aZ]at e;exact⟨v5',e⟩
theorem GF{rs:List (List Int)}{ps:List Nat}(h:∀k∈ps,k<rs.length):uh xn (zG (lOf (Qx (vh 1) (nH 0)))) [some (.sh (dM rs))] ((ps.map λk:Nat=>(k:Int)).map D.int)=some (ps.map λk=>aI (rs.getD k [])):=by
 have key:=vW (te:=zG (lOf (Qx (vh 1) (nH 0)))) (cap:=[some (.sh (dM rs))]) (λd=>match d with|.int k=>aI (rs.getD k.toNat [])|_=>.sh .non) (ds:=(ps.map λk:Nat=>(k:Int)).map D.int) (by
  intro d hd;rw[mPq]at hd;obtain⟨k,hk,rfl⟩:=mMq.mp hd;have at1:=UO (h k hk);refine⟨[some (.sh (.int (k:Int))),some (.sh (dM rs))],?_⟩
  simp_arith [dM,at1,Function.comp,aX,dI,aI,mPq]
  rfl)
 rw[key,mPq,mPq];rfl
def pA(rs:List (List Int)) (ps:List Nat):AV:=.ow (ps.map λk=>aI (rs.getD k []))
theorem sG.trans{rs:List (List Int)}{a b c:Nat}(h:sG rs a b) (h2:sG rs b c):sG rs a c:=by
 induction h2 with
 |base=>exact h
 |step _ p q r=>exact .step r p q
theorem sG.symm{rs:List (List Int)}(hm:Mp rs) {a b:Nat}(h:sG rs a b):sG rs b a:=by
 induction h with
 |base=>exact .base
 | @step k r e _ p q ih =>
  obtain⟨r',h1,h2⟩:=hm.at (hm.other p q);have:=sG.step (s:=plc rs (-e)) .base h1 h2;rw[gm,plc_eq hm.hn p q]at this;exact this.trans ih
structure Ps (rs:List (List Int)) (i:Nat) (kn:List Nat) (PS:List (List Nat)):Prop where
 sub:∀ps∈PS,∀k∈ps,k∈kn
 dj:PS.Pairwise λa b=>∀k∈a,k∉b
 pc:∀ps∈PS,∃s,s<rs.length/\Pc rs s ps
 all:∀k,k<i->k∈kn
 mem:∀k,k∈kn->∃ps∈PS,k∈ps
 nd:kn.Nodup
 lt:∀k∈kn,k<rs.length
 len:PS.length<=i
theorem DF{rs:List (List Int)}(hm:Mp rs):∃kn PS,Ps rs rs.length kn PS/\xI [dM rs]=some (.ow (PS.map (pA rs))):=by
 have h1000:=hm.hr;have key:=tX (x:=3) (body:=vo) (λi S=>∃kn PS v3 v4 v5,S=[some (.sh (dM rs)),some (.owd (kd kn)),some (.ow (PS.map (pA rs))),v3,v4,v5]/\Ps rs i kn PS) (ds:=oU 0 rs.length) (S:=[some (.sh (dM rs)),some (.owd []),some (.ow []),none,none,none])
  ⟨[],[],none,none,none,rfl,⟨by simp,by simp,by simp,by simp,by simp,by simp,by simp,by simp⟩⟩ (by
  rintro i d S hd ⟨kn,PS,v3,v4,v5,rfl,hp⟩;have hi:i<rs.length:=by
   have:=(gSq.mp hd).1
   rwa [oI]at this
  rw[wN hi,fV]at hd;cases hd;have hg:=KB kn i
  by_cases c:i∈kn
  .rw [decide_eq_true c]at hg;refine⟨[some (.sh (dM rs)),some (.owd (kd kn)),some (.ow (PS.map (pA rs))),some (.sh (.int (i:Int))),v4,v5],?_,kn,PS,_,_,_,rfl,hp.sub,hp.dj,hp.pc,?_,hp.mem,hp.nd,hp.lt,?_⟩
   .simp_arith [vo,hg]
   .intro k hk;rcases fP.mp hk with q|rfl
    .exact hp.all k q
    .exact c
   .have:=hp.len;lia
  .rw [decide_eq_false c]at hg;obtain⟨ps,h1,e1⟩:=Gv hm hi;have p1:=Ts _ _ hp.nd hp.lt;have p2:=Ts _ _ h1.nd h1.lt;have p3:=hp.len;have l2:ps.length<=qF:=by show _<=16777216;lia
   have l3:PS.length<qF:=by show _<16777216;lia
   obtain⟨v5',e2⟩:=JM (ps:=ps) (kn:=kn) (v0:=some (.sh (dM rs))) (v2:=some (.ow (PS.map (pA rs)))) (v3:=some (.sh (.int (i:Int)))) (v4:=some (.sh (dI (ps.map λk:Nat=>(k:Int))))) (v5:=v5) (by lia)
   have e3:=GF h1.lt;refine⟨[some (.sh (dM rs)),some (.owd (kd (ps.foldl vM kn))),some (.ow ((PS++[ps]).map (pA rs))),some (.sh (.int (i:Int))),some (.sh (dI (ps.map λk:Nat=>(k:Int)))),v5'],?_,ps.foldl vM kn,PS++[ps],_,_,_,rfl,?_,?_,?_,?_,?_,Iy hp.nd,?_,?_⟩
   .simp_arith [vo,hg,e1,e2,e3,l2,l3,mBq,pA]
   .intro qs hq k hk;rcases mAq.mp hq with q|q
    .exact uQ.mpr (.inl (hp.sub qs q k hk))
    .rw [mSq.mp q]at hk;exact uQ.mpr (.inr hk)
   .rw [aH];refine⟨hp.dj,List.pairwise_singleton ..,λqs hq b hb k hk hk2=>c ?_⟩
    rw[mSq.mp hb]at hk2;obtain⟨s,hs,hc⟩:=hp.pc qs hq;exact hp.sub qs hq i ((hc.iff i).mpr (((hc.iff k).mp hk).trans (((h1.iff k).mp hk2).symm hm)))
   .intro qs hq;rcases mAq.mp hq with q|q
    .exact hp.pc qs q
    .rw [mSq.mp q];exact⟨i,hi,h1⟩
   .intro k hk;rcases fP.mp hk with q|rfl
    .exact uQ.mpr (.inl (hp.all k q))
    .exact uQ.mpr (.inr ((h1.iff k).mpr .base))
   .intro k hk;rcases uQ.mp hk with q|q
    .obtain ⟨qs,a,b⟩:=hp.mem k q;exact⟨qs,mAq.mpr (.inl a),b⟩
    .exact ⟨ps,mAq.mpr (.inr (mSq.mpr rfl)),q⟩
   .intro k hk;rcases uQ.mp hk with q|q
    .exact hp.lt k q
    .exact h1.lt k q
   .rw [lAq,lSq];lia)
 obtain⟨S',e,kn,PS,v3,v4,v5,rfl,hp⟩:=key;rw[oI]at hp;have r1:=yc (n:=rs.length) (by lia)
 refine⟨kn,PS,hp,?_⟩
 simp_arith [xI,Dx,dM,r1,e]
end K51
--ZQ3 --ZQ4 --ZQ5 --ZQ6 --ZQ8 --ZQ9
namespace K51
open PySem L2 Mr Z Xe Zl
def rot(r:List Int):List Int:=r.drop 1++r.take 1
def rm(r:List Int):List (oy×Int):=(r.zip (rot r)).map λp=>(.inl p.1,p.2)
def qE(rs:List (List Int)):List (oy×Int):=(rs.map rm).flatten
def AL(ps:List (oy×Int)):List (oy×D):=ps.map λp=>(p.1,D.int p.2)
theorem AX(r:List Int):(rot r).length=r.length:=by
 unfold rot;rw[lAq,aS,lTq];lia
theorem xS(r:List Int):(rm r).length=r.length:=by
 unfold rm;rw[lMq,hU,AX,iy]
theorem zr(r:List Int):(rm r).map (·.1)=r.map aG:=by
 unfold rm;rw[mPq];have:r.map aG=((r.zip (rot r)).map Prod.fst).map (aG:Int->oy):=by rw[List.map_fst_zip (by rw[AX];exact ag _)]
 rw[this,mPq];rfl
theorem uJ:∀(rs:List (List Int)),(qE rs).map (·.1)=rs.flatten.map aG
 | []=>rfl
 |r::rs=>by
  show (rm r++qE rs).map (·.1)=_;rw[mBq,zr,uJ rs,fCq,mBq]
theorem CW(rs:List (List Int)):(qE rs).length=rs.flatten.length:=by
 have:=congrArg bL (uJ rs)
 rwa [lMq,lMq]at this
theorem BK(rs:List (List Int)) (r:List Int):qE (rs++[r])=qE rs++rm r:=by
 unfold qE;rw[mBq,fAq];simp
theorem IB(ps:List (oy×Int)):(AL ps).length=ps.length:=lMq _
theorem PK(a b:List (oy×Int)):AL (a++b)=AL a++AL b:=mBq
theorem KO(ps:List (oy×Int)):(AL ps).map (·.1)=ps.map (·.1):=by
 unfold AL;rw[mPq];rfl
theorem Ca{r:List Int}{j:Nat}{z y:Int}(h:r[j]?=some z) (h2:(rot r)[j]?=some y):(rm r)[j]?=some (.inl z,y):=by
 unfold rm;rw[gMq,cY (z:=(z,y)).mpr ⟨h,h2⟩];rfl
theorem EL{rs:List (List Int)}{i j:Nat}{r:List Int}{z y:Int}(hn:rs.flatten.Nodup) (hr:rs[i]?=some r) (hz:r[j]?=some z) (hy:(rot r)[j]?=some y) :
  xf (AL (qE (rs.take i)++(rm r).take j)) (.inl z) (.int y)=AL (qE (rs.take i)++(rm r).take (j+1)):=by
 have hfl:=ro hr;have hnd:((rs.take i).flatten++r).Nodup:=by
  rw[←hfl];have e0:rs.flatten=(rs.take (i+1)).flatten++(rs.drop (i+1)).flatten:=by rw[←fAq,bA]
  rw[e0]at hn;exact(nAq.mp hn).1
 rw[Fx]
 .rw [tH (Ca hz hy),←ah,PK (_++_) [_]];rfl
 .rw [KO,mBq,uJ,gE,zr,←gE];intro m;rcases mAq.mp m with m|m
  .obtain ⟨x,hx,e2⟩:=mMq.mp m;cases e2;exact(nAq.mp hnd).2.2 _ hx _ (mGq hz) rfl
  .obtain ⟨x,hx,e2⟩:=mMq.mp m;cases e2;have:=cR.sublist (bD (j+1) r) (nAq.mp hnd).2.1;rw[tH hz]at this;exact(nAq.mp this).2.2 _ hx _ (by simp) rfl
theorem Dn{rs:List (List Int)}{i j:Nat}{r:List Int}(hl:rs.flatten.length<=1000) (hr:rs[i]?=some r):(AL (qE (rs.take i)++(rm r).take j)).length<qF:=by
 refine M1 ?_;have h1:=ui rs (i+1);rw[ro hr,lAq]at h1;rw[IB,lAq,CW,lTq,xS];lia
theorem VR(r:List Int):yr (r.map D.int) (some 1) none=(r.drop 1).map D.int:=by
 rw[xG];cases r with
 |nil=>rfl
 |cons x r=>rw[show (some 1:Option Int)=some ((1:Nat):Int) from rfl,Dk _ _ (by simp)]
theorem VP(r:List Int):yr (r.map D.int) none (some 1)=(r.take 1).map D.int:=by
 rw[xG];cases r with
 |nil=>rfl
 |cons x r=>rw[show (some 1:Option Int)=some ((1:Nat):Int) from rfl,HU _ _ (by simp)]
theorem Nf{rs:List (List Int)}(hn:rs.flatten.Nodup) (hl:rs.flatten.length<=1000):zo [dM rs]=some (.owd (AL (qE rs))):=by
 have key:=tX (x:=2) (body:=yV) (λi S=>∃v2 v3 v4,S=[some (.sh (dM rs)),some (.owd (AL (qE (rs.take i)))),v2,v3,v4]) (ds:=rs.map dI) (S:=[some (.sh (dM rs)),some (.owd []),none,none,none]) ⟨none,none,none,rfl⟩ (by
  rintro i d S hd ⟨v2,v3,v4,rfl⟩;obtain⟨r,hr,rfl⟩:=DP hd;have hrl:r.length<=1000:=by
   have h1:=ui rs (i+1);rw[ro hr,lAq]at h1;lia
  have hlen:(r.map D.int).length=((rot r).map D.int).length:=by rw[lMq,lMq,AX]
  have k2:=Qc (x:=3) (y:=4) (k:=0) (body:=yK) (λj S=>∃v3 v4,S=[some (.sh (dM rs)),some (.owd (AL (qE (rs.take i)++(rm r).take j))),some (.sh (dI r)),v3,v4]) (ds:=r.map D.int) (es:=(rot r).map D.int) (S:=[some (.sh (dM rs)),some (.owd (AL (qE (rs.take i)))),some (.sh (dI r)),v3,v4]) hlen ⟨v3,v4,by simp⟩ (by
   rintro j d e S hd he ⟨v3,v4,rfl⟩;obtain⟨z,hz,rfl⟩:=DV hd;obtain⟨y,hy,rfl⟩:=DV he;rw[bY]at *;have h3:=Dn (j:=j) hl hr;have hput:=EL hn hr hz hy;refine⟨_,?_,some (.sh (.int z)),some (.sh (.int y)),rfl⟩
   simp_arith [yK,h3,hput])
  obtain⟨S2,e2,w3,w4,rfl⟩:=k2;rw[bY,lMq,←xS,aZ]at e2;refine⟨_,?_,some (.sh (dI r)),w3,w4,rfl⟩;rw[tH hr,BK];have hll:(r.drop 1).length+(r.take 1).length<=qF:=vF (by rw[aS,lTq];lia)
  have hrot:(r.drop 1).map D.int++(r.take 1).map D.int=(rot r).map D.int:=by unfold rot;rw[mBq]
  have hlen2:r.length=(rot r).length:=(AX r).symm
  simp_arith [yV,VR,VP,hll,hrot,hlen2,e2])
 obtain⟨S',e,v2,v3,v4,rfl⟩:=key;rw[lMq,aZ]at e
 simp_arith [zo,EN,e]
theorem Jf{rs:List (List Int)}{kn:List Nat}{PS:List (List Nat)}(hp:Ps rs rs.length kn PS) (h0:0<rs.length) (hc:∀s k,s<rs.length->k<rs.length->sG rs s k):PS.length=1:=by
 obtain⟨a,ha,_⟩:=hp.mem 0 (hp.all 0 h0);cases PS with
 |nil=>cases ha
 |cons x PS =>
  cases PS with
  |nil=>rfl
  |cons y PS =>
   exfalso;obtain⟨s,hs,p1⟩:=hp.pc x (by simp)
   obtain⟨t,ht,p2⟩:=hp.pc y (by simp)
   have h1:=(eh.mp hp.dj).1 y (by simp) s ((p1.iff s).mpr .base)
   exact h1 ((p2.iff s).mpr (hc t s ht hs))
theorem Kc{rs:List (List Int)}(hm:Mp rs):∃kn PS,Ps rs rs.length kn PS/\oP [dM rs]=if PS.length=1 then some (.ok (.sh .non)) else some (.ex "NotOnePiece" []):=by
 obtain⟨kn,PS,hp,e⟩:=DF hm;refine⟨kn,PS,hp,?_⟩
 by_cases h:PS.length=1
 .have h':((PS.length:Nat):Int)=1:=by lia
  rw[oz h]
  simp_arith [oP,qI,e,h']
 .have h':¬ ((PS.length:Nat):Int)=1:=by lia
  simp_arith [oP,qI,e,h',h]
end K51
--ZQ3 --ZQ4 --ZQ5 --ZQ6 --ZQ8 --ZQ9 --ZQB --ZQC --ZQD --ZQE --ZQF
namespace K15
open PySem L2 Mr Z Xe Zl
theorem Co{ps:List (oy×Int)}{k:oy}{n:Int}(hn:(ps.map (·.1)).Nodup) (h:(k,n)∈ps):Z.getD (K51.AL ps) k=some (.int n):=by
 induction ps with
 |nil=>cases h
 |cons p ps ih =>
  rw[aC,ax]at hn;unfold Z.getD;show (((p.1,D.int p.2)::K51.AL ps).find? _).map _=_;rcases aj.mp h with e|e
  .rw [←e,dC (by simp)]
   rfl
  .rw [cT (by
    intro z;have z':p.1=k:=by simpa using z
    exact hn.1 (by rw[z'];exact mMq.mpr ⟨_,e,rfl⟩))]
   exact ih hn.2 e
def nx(rs:List (List Int)) (e:Int):Int:=match Z.getD (K51.AL (K51.qE rs)) (.inl e) with
 |some (.int n)=>n
 |_=>0
def fw(rs:List (List Int)) (e:Int):Int:=nx rs (-e)
section
variable {rs:List (List Int)}
theorem DR(hn:rs.flatten.Nodup):((K51.qE rs).map (·.1)).Nodup:=by
 rw[K51.uJ,cV,cf];exact cR.imp (λh e=>h (aG.inj e)) (cV.mp hn)
theorem OD(hn:rs.flatten.Nodup) {e:Int}(he:e∈rs.flatten):(aG e,nx rs e)∈K51.qE rs:=by
 have hk:(aG e:oy)∈(K51.qE rs).map (·.1):=by rw[K51.uJ];exact mMq.mpr ⟨e,he,rfl⟩
 obtain⟨⟨k,n⟩,hp,rfl⟩:=mMq.mp hk;have:=Co (DR hn) hp;unfold nx;rw[this];exact hp
theorem yO(hn:rs.flatten.Nodup) {e:Int}(he:e∈rs.flatten):Z.getD (K51.AL (K51.qE rs)) (.inl e)=some (.int (nx rs e)):=Co (DR hn) (OD hn he)
end
end K15
--ZQ3 --ZQ4 --ZQ5 --ZQ6 --ZQ8 --ZQ9 --ZQB --ZQC --ZQD --ZQE --ZQF
namespace K15
open PySem L2 Mr Z Xe Zl
def kI(ks:List Int):List (oy×D):=ks.map λk=>((aG k:oy),D.bl true)
section
variable {rs:List (List Int)}
structure Rd (f:Int->Int) (E:List Int) (kn:List Int) (L:List (List Int)):Prop where
 cy:∀l∈L,∃e,Cy f e l
 fl:L.flatten=kn
 nd:kn.Nodup
 sub:∀x∈kn,x∈E
 cl:∀x∈kn,f x∈kn
def Xn(rs:List (List Int)):List (List Int):=(rs.filter λr=>decide (r=[])).map λ_=>[]
end
end K15
--ZQ3 --ZQ4 --ZQ5 --ZQ8
namespace K13
open PySem L2 Mr Z Xe Zl
end K13
--ZQ3 --ZQ4 --ZQ5 --ZQ6 --ZQ8 --ZQ9 --ZQB --ZQC --ZQD --ZQE --ZQF
namespace K15
open PySem L2 Mr Z Xe Zl
section
variable {rs:List (List Int)}
theorem G1{r:List Int}{j:Nat}(hj:j<r.length):(K51.rot r)[j]?=r[(j+1) % r.length]?:=by
 unfold K51.rot
 by_cases h:j+1<r.length
 .rw [gX h,gZq (by rw[aS];lia),cI,gM]
 .have e:j+1=r.length:=by lia
  rw[e,iA,gYq (by rw[aS];lia),aS,df (by lia)]
  congr 1;lia
end
end K15
--ZQ3 --ZQ4 --ZQ5 --ZQ6 --ZQ8 --ZQ9 --ZQB --ZQC --ZQD --ZQE
namespace K12
open PySem L2 Mr Z Xe Zl
abbrev aP(part:List (List Int)):AV:=.ow (part.map aI)
theorem LA{α β:Type}(f:α->β) (l:List α) (i:Nat) (a:α):(l.map f).set i (f a)=(l.set i a).map f:=by rw[List.map_set]
structure Wd where
 P0:List (List (List Int))
 last:List (List Int)
 t0:List Nat
 h:Nat
 left:List Int
 used:Nat
abbrev cN(ks:List Nat):List Int:=ks.map λn:Nat=>(n:Int)
def st(v0 v1:Option AV) (w:Wd) (v6 v7 v8 v9:Option AV):AS:=[v0,v1,some (.ow ((w.P0++[w.last]).map aP)),some (aI (cN (w.t0++[w.h]))),some (aI w.left),some (.sh (.int (w.used:Int))),v6,v7,v8,v9]
end K12
--ZQ3 --ZQ4 --ZQ5 --ZQ6 --ZQ8 --ZQ9 --ZQB --ZQC --ZQD --ZQE
namespace K12
open PySem L2 Mr Z Xe Zl
section
variable {nm:List Int}{P0:List (List (List Int))}{last:List (List Int)}{t0:List Nat}{hd:Nat}{left r:List Int}{used:Nat}{c e:Int}{v0 v1 v8:Option AV}
theorem zQ(r:List Int) (e:Int):(r.map λn=>AV.sh (.int n))++[.sh (.int e)]=(r++[e]).map λn=>.sh (.int n):=by rw[mBq];rfl
theorem DL(l:List (List Int)) (e:Int):l.map aI++[.ow [.sh (.int e)]]=(l++[[e]]).map aI:=by rw[mBq];rfl
theorem HR(ks:List Nat) (n:Nat):(cN ks).map (λn=>AV.sh (.int n))++[.sh (.int (n:Int))]=(cN (ks++[n])).map λn=>.sh (.int n):=by unfold cN;rw[mBq,mBq];rfl
theorem EF{α β:Type}(f:α->β):∀(l:List α) (i:Nat),(l.map f).eraseIdx i=(l.eraseIdx i).map f
 | [],i=>rfl
 |x::l,0=>rfl
 |x::l,i+1=>by rw[aC,bX,bX,EF f l i,aC]
end
end K12
--ZQ3 --ZQ4 --ZQ5 --ZQ6 --ZQ8 --ZQ9 --ZQB --ZQC --ZQD --ZQE
namespace K12
open PySem L2 Mr Z Xe Zl
def Ur(nm:List Int) (k:Nat):List Int:=(nm.take k).flatMap λx=>[x, -x]
theorem vv{x r:List Int}(a:Int):∀{l:List (List Int)}{h:Nat},l[h]?=some r->(l.set h (r++x)).flatten.count a=l.flatten.count a+x.count a
 | [],_,h=>by simp at h
 |s::l,0,h=>by
  cases h;rw[dr,fCq,fCq,cAq,cAq,cAq];lia
 |s::l,h+1,e=>by
  rw[eC,fCq,fCq,cAq,cAq,vv a (by simpa using e)]
  lia
theorem zO(a:Int):∀{l:List Int}{j:Nat},j<l.length->(l.eraseIdx j).count a+[l.getD j 0].count a=l.count a
 | [],_,h=>by simp at h
 |x::l,0,_=>by
  rw[List.eraseIdx_cons_zero,show x::l=[x]++l from rfl,cAq]
  show l.count a+[x].count a=_;lia
 |x::l,j+1,h=>by
  have ih:=zO a (l:=l) (j:=j) (by simpa using h)
  rw[bX,show x::l.eraseIdx j=[x]++l.eraseIdx j from rfl,show (x::l).getD (j+1) 0=l.getD j 0 from rfl,show x::l=[x]++l from rfl,cAq,cAq]
  lia
theorem A6{l:List (List Int)}{h:Nat}{r:List Int}(e:l[h]?=some r):r.length<=l.flatten.length:=fW.length_le (bq (mGq e))
end K12
--ZQ3 --ZQ4 --ZQ5 --ZQ6 --ZQ8 --ZQ9 --ZQB --ZQC --ZQD --ZQE
namespace K12
open PySem L2 Mr Z Xe Zl
end K12
--ZQ3 --ZQ4 --ZQ5 --ZQ6 --ZQ8 --ZQ9 --ZQB --ZQC --ZQD --ZQE
namespace K12
open PySem L2 Mr Z Xe Zl
def Xi(st sh a b k:Int):Int:=st*((a*k+b) % 67+1)+sh
structure Nm (nm:List Int):Prop where
 len:nm.length=66
 nd:nm.Nodup
 lo:∀x∈nm,1<=x
 hi:∀x∈nm,x<10 ^ 60
theorem pm_nodup:∀{l:List Int},l.Nodup->(∀x∈l,1<=x)->(l.flatMap λx=>[x, -x]).Nodup
 | [],_,_=>aW
 |x::l,hn,hp=>by
  have hn':=ax.mp hn;have px:=hp x (au ..);rw[cZ,nAq];refine⟨?_,pm_nodup hn'.2 λy hy=>hp y (mCo _ hy),λa ha b hb e=>?_⟩
  .rw [ax];refine⟨?_,by simp⟩
   rw[mSq];lia
  .subst e;obtain⟨y,hy,q⟩:=cH.mp hb;have py:=hp y (mCo _ hy);simp at ha q;have:y=x:=by lia
   exact hn'.1 (this ▸ hy)
end K12
--ZQ3 --ZQ4 --ZQ5 --ZQ6 --ZQ8 --ZQ9 --ZQB --ZQC --ZQD --ZQE
namespace K12
open PySem L2 Mr Z Xe Zl
theorem IL:∀{PS:List (List Nat)},(∀ps∈PS,ps.Nodup)->(PS.Pairwise λa b=>∀k∈a,k∉b)->PS.flatten.Nodup
 | [],_,_=>aW
 |p::PS,h1,h2=>by
  obtain⟨h3,h4⟩:=eh.mp h2;rw[fCq,nAq];refine⟨h1 p (au ..),IL (λps hp=>h1 ps (mCo _ hp)) h4,λa ha b hb e=>?_⟩
  obtain⟨q,hq,hb'⟩:=mFq.mp hb;exact h3 q hq a ha (e ▸ hb')
theorem Ap{rs:List (List Int)}{kn:List Nat}{PS:List (List Nat)}(hp:K51.Ps rs rs.length kn PS):(PS.map λps=>ps.map λk=>rs.getD k []).flatten.Perm rs:=by
 have e1:(PS.map λps=>ps.map λk=>rs.getD k []).flatten=PS.flatten.map λk=>rs.getD k []:=by rw[←List.map_flatten]
 rw[e1];have nd:PS.flatten.Nodup:=IL (λps h=>by obtain⟨s,_,q⟩:=hp.pc ps h;exact q.nd) hp.dj
 have pm:PS.flatten.Perm (aN rs.length):=(bF nd dU).mpr λk=>by
  rw[bO,mFq];constructor
  .rintro ⟨ps,h1,h2⟩;obtain⟨s,_,q⟩:=hp.pc ps h1;exact q.lt k h2
  .intro hk;exact hp.mem k (hp.all k hk)
 have e2:(aN rs.length).map (λk=>rs.getD k [])=rs:=by
  refine dG λi=>?_
  rw[gMq]
  by_cases hi:i<rs.length
  .rw [dh hi,gEg hi,fk,gDq,gEg hi];rfl
  .rw [bu (by simpa using hi),bu (by lia)]
   rfl
 have:=pm.map (λk=>rs.getD k [])
 rwa [e2]at this
end K12
--ZQ3 --ZQ4 --ZQ5 --ZQ6 --ZQ8 --ZQ9 --ZQB --ZQC --ZQD --ZQE
namespace K12
open PySem L2 Mr Z Xe Zl
end K12
--ZQ3 --ZQ4 --ZQ5 --ZQ6 --ZQ8 --ZQ9 --ZQB --ZQC --ZQD --ZQE --ZQF
namespace K16
open PySem L2 Mr Z Xe Zl
def pm(l:List Int):List Int:=l.flatMap λx=>[x, -x]
def U3(M:List (Int×Int)):List (oy×D):=M.map λp=>(.inl p.1,.int p.2)
end K16
--ZQ3 --ZQ4 --ZQ5 --ZQ6 --ZQ8 --ZQ9 --ZQB --ZQC --ZQD --ZQE --ZQF
namespace K16
open PySem L2 Mr Z Xe Zl
end K16
namespace K16
open PySem L2 Mr Z Xe Zl K15
section
variable {rs:List (List Int)}
theorem LR(hn:rs.flatten.Nodup) {r:List Int}(hr:r∈rs) {j:Nat}{z y:Int}(hz:r[j]?=some z) (hy:r[(j+1) % r.length]?=some y):nx rs z=y:=by
 have hj:=(gSq.mp hz).1;have h1:=K51.Ca hz ((G1 hj).trans hy);have h2:(aG z,y)∈K51.qE rs:=by
  unfold K51.qE;exact mFq.mpr ⟨_,mMq.mpr ⟨r,hr,rfl⟩,mGq h1⟩
 have h3:=Co (DR hn) h2;unfold nx;rw[h3]
end
end K16
namespace K18
open PySem L2 Mr Z Xe Zl
def pp:List Int->List (Int×Int)
 | []=>[]
 | [_]=>[]
 |x::y::r=>(x,y)::pp (y::r)
def cp:List Int->List (Int×Int)
 | []=>[]
 |x::r=>pp (x::r++[x])
def PC(X:List (List Int)):List (Int×Int):=X.flatMap cp
theorem Cb:∀(l:List Int) (x y:Int) (r:List Int),pp (l++x::y::r)=pp (l++[x])++(x,y)::pp (y::r)
 | [],x,y,r=>rfl
 | [a],x,y,r=>rfl
 |a::b::l,x,y,r=>by
  show (a,b)::pp (b::l++x::y::r)=(a,b)::pp (b::l++[x])++_;rw[Cb (b::l)];rfl
theorem A4{l r:List Int}{a h:Int}{l' r':List Int}(hl:l=l'++[a]) (hr:r=h::r'):pp (l++r)=pp l++(a,h)::pp r:=by
 rw[hl,hr,ah];exact Cb l' a h r'
theorem Dw{l:List Int}{a h:Int}{l' l'':List Int}(hl:l=l'++[a]) (hh:l=h::l''):cp l=pp l++[(a,h)]:=by
 rw[hh];show pp (h::l''++[h])=_;rw[←hh,A4 hl (r:=[h]) rfl];rfl
theorem AW{l:List Int}(h:l≠[]):∃l' a,l=l'++[a]:=⟨l.dropLast,l.getLast h,(List.dropLast_concat_getLast h).symm⟩
theorem zi{l:List Int}(h:l≠[]):∃a l',l=a::l':=by
 cases l with
 |nil=>exact absurd rfl h
 |cons a l=>exact⟨a,l,rfl⟩
theorem Ep(a b:List Int) (q:Int×Int):(cp (a++b)).count q=(cp (b++a)).count q:=by
 by_cases ha:a=[]
 .rw [ha,aNq,dv]
 .by_cases hb:b=[]
  .rw [hb,aNq,dv]
  .obtain ⟨la,ka,ea⟩:=AW ha;obtain⟨lb,kb,eb⟩:=AW hb;obtain⟨fa,ra,ga⟩:=zi ha;obtain⟨fb,rb,gb⟩:=zi hb;rw[Dw (l:=a++b) (a:=kb) (h:=fa) (l':=a++lb) (l'':=ra++b) (by rw[eb,ah]) (by rw[ga];rfl),Dw (l:=b++a) (a:=ka) (h:=fb) (l':=b++la) (l'':=rb++a) (by rw[ea,ah]) (by rw[gb];rfl),A4 ea gb,A4 eb ga]
   simp only[cAq,List.count_cons,List.count_nil];lia
def ct(u v x y:Int):Nat:=[(u,v)].count (x,y)
structure Ln (C LL:List (List Int)):Prop where
 cnt:∀x y,(PC LL).count (x,y)=(PC C).count (-x,y)
 ne:∀c∈LL,c≠[]
section
variable {C LL:List (List Int)}{i:Nat}
theorem Bx{r:List Int}(hi:C[i]?=some r) {q:Int×Int}(h:q∈cp r):q∈PC C:=cH.mpr ⟨r,mGq hi,h⟩
def nL(C LL:List (List Int)):Nat:=LL.length+C.count []
end
end K18
--ZQ3 --ZQ4 --ZQ5 --ZQ6 --ZQ8 --ZQ9 --ZQB --ZQC --ZQD --ZQE --ZQF --ZQG
namespace K18
open PySem L2 Mr Z Xe Zl K15 K16
section
variable {C LL:List (List Int)}
theorem TB{r:List Int}{x y:Int}(h:(x,y)∈cp r):∃j,r[j]?=some x/\r[(j+1) % r.length]?=some y:=by
 cases r with
 |nil=>cases h
 |cons a r =>
  have key:∀{l:List Int},(x,y)∈pp l->∃j,l[j]?=some x/\l[j+1]?=some y:=by
   intro l
   induction l with
   |nil=>intro h;cases h
   |cons b l ih =>
    cases l with
    |nil=>intro h;cases h
    |cons c l =>
     intro h;rcases aj.mp (show (x,y)∈(b,c)::pp (c::l) from h) with e|h
     .cases e;exact⟨0,rfl,rfl⟩
     .obtain ⟨j,j1,j2⟩:=ih h;exact⟨j+1,by simpa using j1,by simpa using j2⟩
  obtain⟨j,j1,j2⟩:=key (show (x,y)∈pp (a::r++[a]) from h)
  have lt:=(gSq.mp j2).1;rw[lAq,lSq]at lt;refine⟨j,?_,?_⟩
  .rw [gZq (by lia)]at j1
   exact j1
  .by_cases c:j+1<(a::r).length
   .rw [gZq c]at j2;rw[gX c];exact j2
   .have e:j+1=(a::r).length:=by lia
    rw[e,gYq (ag _),bP]at j2;rw[e,iA];exact j2
theorem HV{X:List (List Int)}(hn:X.flatten.Nodup) {x y:Int}(h:(x,y)∈PC X):nx X x=y:=by
 obtain⟨r,hr,q⟩:=cH.mp h;obtain⟨j,j1,j2⟩:=TB q;exact LR hn hr j1 j2
end
end K18
--ZQ3 --ZQ4 --ZQ5 --ZQ6 --ZQ8 --ZQ9 --ZQB --ZQC --ZQD --ZQE --ZQF
namespace K23
open PySem L2 Mr Z Xe Zl
def VE(z:Int) (t:List Int):List Int:=t.filter λe=>!decide (e∈[z, -z])
def C(z:Int) (rs:List (List Int)):List (List Int):=rs.map (VE z)
end K23
namespace K25
open PySem L2 Mr Z Xe Zl K15 K16
section
variable {rs:List (List Int)}
def Rt(rs:List (List Int)) (x:Int) (w:List Int):Prop:=∃u v,u++x::v∈rs/\w=v++u
def pz(z e:Int):Bool:=!decide (e∈[z, -z])
def X6(z:Int) (f:Int->Int) (x:Int):Int:=if pz z (f x)=true then f x else if pz z (f (-f x))=true then f (-f x) else f (-f (-f x))
structure X5 (rs:List (List Int)) (z:Int) (D:List (List Int)):Prop where
 nd:D.flatten.Nodup
 mem:∀x,x∈D.flatten↔x∈rs.flatten/\pz z x=true
 on:∀x∈D.flatten,nx D x=X6 z (nx rs) x
 br:bare D=bare rs+((if nx rs (-z)=z then 1 else 0)+(if nx rs z = -z then 1 else 0)+(if nx rs (-z) = -z/\nx rs z=z then 1 else 0))
 len:D.length<=rs.length+2
end
end K25
namespace K43
open PySem L2 Mr Z Xe Zl
open K51 (sG Ps Pc)
section
variable {rs A B:List (List Int)}
theorem Aj(h:Mp rs):K51.Mp rs:=⟨h.hn,h.hl,h.hr,h.hneg⟩
structure Xo (rs:List (List Int)) (l:List Nat):Prop where
 lt:∀k∈l,k<rs.length
 pw:l.Pairwise λa b=>¬ sG rs a b
def emp(B:List (List Int)):List Nat:=(aN B.length).filter λk=>decide (B.getD k []=[])
theorem qd{k:Nat}(h:k<B.length):B[k]?=some (B.getD k []):=by rw[gDq,gEg h];rfl
theorem tF(B:List (List Int)):(aN B.length).map (λk=>B.getD k [])=B:=by
 refine dG λi=>?_
 rw[gMq]
 by_cases h:i<B.length
 .rw [dh h,qd h];rfl
 .rw [bu (by rw[aT];lia),bu (by lia)]
  rfl
end
end K43
namespace K11
open PySem L2 Mr Z
end K11
--ZQ3 --ZQ4 --ZQ5 --ZQ6 --ZQ8 --ZQ9 --ZQB --ZQC --ZQD --ZQE --ZQF
namespace K11
open PySem L2 Mr Z Xe Zl K12
def B0(p:List (List Int)):Prop:=∀k,0<k->k<p.length->∃j e,j<k/\e∈p.getD j []/\-e∈p.getD k []
structure Cn (p:List (List Int)):Prop where
 ne:p≠[]
 clo:∀z∈p.flatten, -z∈p.flatten
 tr:B0 p
theorem zA{l:List (List Int)}{h:Nat}{r x:List Int}(hr:l[h]?=some r) {k:Nat}{e:Int}(he:e∈l.getD k []):e∈(l.set h (r++x)).getD k []:=by
 rw[gDq]at he ⊢
 by_cases q:h=k
 .subst q;have hlt:=(gSq.mp hr).1;rw[aJ hlt];rw[hr]at he;exact bp _ he
 .rw [aE q];exact he
theorem DW{l:List (List Int)}{h:Nat}{r x:List Int}(hr:l[h]?=some r) {e:Int}(he:e∈x):e∈(l.set h (r++x)).getD h []:=by
 have hlt:=(gSq.mp hr).1;rw[gDq,aJ hlt];exact ar _ he
theorem B0.set{l:List (List Int)}{h:Nat}{r x:List Int}(t:B0 l) (hr:l[h]?=some r):B0 (l.set h (r++x)):=λk h0 hk=>by
 rw[lZq]at hk;obtain⟨j,e,h1,h2,h3⟩:=t k h0 hk;exact⟨j,e,h1,zA hr h2,zA hr h3⟩
theorem getD_app{l:List (List Int)}{x:List Int}{k:Nat}(h:k<l.length):(l++[x]).getD k []=l.getD k []:=by
 rw[gDq,gDq,gZq h]
theorem LP{l:List (List Int)}{x:List Int}:(l++[x]).getD l.length []=x:=by
 rw[gDq,gYq (ag _),bP];rfl
theorem B0.add{l:List (List Int)}{h:Nat}{e:Int}(t:B0 l) (hh:h<l.length) (he:e∈l.getD h []):B0 (l++[[-e]]):=λk h0 hk=>by
 rw[lAq,lSq]at hk
 by_cases q:k<l.length
 .obtain ⟨j,e',h1,h2,h3⟩:=t k h0 q;exact⟨j,e',h1,by rw[getD_app (by lia)];exact h2,by rw[getD_app q];exact h3⟩
 .have ek:k=l.length:=by lia
  subst ek;exact⟨h,e,hh,by rw[getD_app hh];exact he,by rw[LP];simp⟩
theorem Nj(r:List Int):B0 [r]:=λk h0 hk=>by
 rw[lSq]at hk;lia
end K11
--ZQ3 --ZQ4 --ZQ5 --ZQ6 --ZQ8 --ZQ9 --ZQB --ZQC --ZQD --ZQE --ZQF --ZQG
namespace K31
open PySem L2 Mr Z Xe Zl K12
theorem zk{T:List (List Int)}{h:Nat}{r:List Int}(hr:T[h]?=some r):pO (.ow (T.map aI)) [h]=some (r.map λn=>.sh (.int n)):=by
 rw[FX,gMq,hr];rfl
theorem Mv{T:List (List Int)}{h:Nat}{r r':List Int}(hr:T[h]?=some r):putAt (.ow (T.map aI)) [h] (r'.map λn=>.sh (.int n)) = .ow ((T.set h r').map aI):=by
 rw[GQ (a:=aI r) (by rw[gMq,hr];rfl)]
 show AV.ow ((T.map aI).set h (aI r'))=_;rw[LA]
structure Wd where
 T:List (List Int)
 t0:List Nat
 h:Nat
 loose:List Int
 left:List Int
def Wq(wild:Bool) (c:Int) (loose:List Int):Nat:=if wild then (c / 8 % loose.length).toNat else loose.length-1
def sg(c x:Int):Int:=x*(1-2*(c / 4 % 2))
def Uv(wild:Bool) (w:Wd) (c:Int):Wd :=
 let r:=w.T.getD w.h []
 if c % 4=1/\w.t0≠[] then { w with t0:=w.t0.dropLast,h:=w.t0.getLast?.getD 0 }
 else if c % 4=2/\w.loose≠[] then { w with T:=w.T.set w.h (r++[w.loose.getD (Wq wild c w.loose) 0]),loose:=w.loose.eraseIdx (Wq wild c w.loose) }
 else match w.left with
  | []=>w
  |x::left=>if c % 4=0 then { w with T:=w.T.set w.h (r++[sg c x])++[[-(sg c x)]],t0:=w.t0++[w.h],h:=w.T.length,left:=left }
   else { w with T:=w.T.set w.h (r++[sg c x]),loose:=w.loose++[-(sg c x)],left:=left }
def st(v0 v1:Option AV) (wild:Bool) (w:Wd) (v7 v8 v9 v10:Option AV):AS:=[v0,v1,some (.sh (.bl wild)),some (.ow (w.T.map aI)),some (aI (cN (w.t0++[w.h]))),some (aI w.loose),some (aI w.left),v7,v8,v9,v10]
section
variable {T:List (List Int)}{t0:List Nat}{hd:Nat}{loose left r:List Int}{c:Int}{wild:Bool}{v0 v1 v8 v9 v10:Option AV}
theorem B2(l:List Nat):(cN l).length=l.length:=lMq ..
end
end K31
--ZQ3 --ZQ4 --ZQ5 --ZQ6 --ZQ8 --ZQ9 --ZQB --ZQC --ZQD --ZQE --ZQF --ZQG
namespace K31
open PySem L2 Mr Z Xe Zl K12
def AG(l:List Int):List Int:=l.flatMap λx=>[x, -x]
theorem BP(x:Int) (l:List Int) (a:Int):(AG (x::l)).count a=[x, -x].count a+(AG l).count a:=by
 unfold AG;rw[cZ,cAq]
theorem D6:∀l:List Int,(AG l).length=2*l.length
 | []=>rfl
 |x::l=>by
  unfold AG;have:=D6 l;unfold AG at this;rw[cZ,lAq,this];show 2+2*l.length=2*(l.length+1);lia
structure N0 (nm:List Int) (w:Wd) (n:Nat):Prop where
 hh:w.h<w.T.length
 ht:∀k∈w.t0,k<w.T.length
 lw:w.t0.length<=n
 lT:w.T.length<=n+1
 lf:w.left.length<=nm.length
 cnt:∀a,w.T.flatten.count a+w.loose.count a+(AG w.left).count a=(AG nm).count a
 tr:K11.B0 w.T
theorem N0.len{nm:List Int}{w:Wd}{n:Nat}(h:N0 nm w n):w.T.flatten.length+w.loose.length+(AG w.left).length=2*nm.length:=by
 have:(w.T.flatten++w.loose++AG w.left).Perm (AG nm):=by
  rw[fu];intro a;rw[cAq,cAq];exact h.cnt a
 have:=this.length_eq;rw[lAq,lAq,D6 nm]at this;exact this
def w0(nm:List Int):Wd:=⟨[[]],[],0,[],nm⟩
theorem TK(nm:List Int):N0 nm (w0 nm) 0:=⟨by simp[w0],(λk h=>by cases h),ag _,ag _,ag _,(λa=>by simp[w0]),K11.Nj _⟩
end K31
--ZQ3 --ZQ4 --ZQ5 --ZQ6 --ZQ8 --ZQ9 --ZQB --ZQC --ZQD --ZQE --ZQF --ZQG
namespace K31
open PySem L2 Mr Z Xe Zl
end K31
--ZQ3 --ZQ4 --ZQ5 --ZQ6 --ZQ8 --ZQ9 --ZQB --ZQC --ZQD --ZQE --ZQF --ZQG
namespace K31
open PySem L2 Mr Z Xe Zl
structure Nm (nm:List Int):Prop where
 len:nm.length<=100
 nd:nm.Nodup
 lo:∀x∈nm,1<=x
structure Wm (nm:List Int) (T:List (List Int)):Prop where
 cnt:∃left,∀a,T.flatten.count a+(AG left).count a=(AG nm).count a
 tr:K11.B0 T
 pos:0<T.length
 len:T.length<=64
theorem Dq{nm:List Int}(h:Nm nm):(AG nm).Nodup:=K12.pm_nodup h.nd h.lo
theorem Ia(l:List Int) (a:Int):(AG l).count (-a)=(AG l).count a:=by
 induction l with
 |nil=>rfl
 |cons x l ih =>
  rw[BP,BP,ih];congr 1;rw[show [x, -x]=[x]++[-x] from rfl,cAq,cAq]
  simp only[List.count_singleton];have e1:(x == -a)=(-x == a):=by rw[bR];simp <;> lia
  have e2:(-x == -a)=(x == a):=by rw[bR];simp <;> lia
  rw[e1,e2];lia
theorem Wm.nodup{nm:List Int}{T:List (List Int)}(hn:Nm nm) (h:Wm nm T):T.flatten.Nodup:=by
 obtain⟨left,hc⟩:=h.cnt;rw[fj];intro a;have h1:=fj.mp (Dq hn) a;have:=hc a;lia
theorem Wm.neg{nm:List Int}{T:List (List Int)}(hn:Nm nm) (h:Wm nm T) {z:Int}(hz:z∈T.flatten):-z∈T.flatten:=by
 obtain⟨left,hc⟩:=h.cnt;have h1:=eF.mpr hz;have h2:=fj.mp (Dq hn) z;have e1:=hc z;have e2:=hc (-z);rw[Ia,Ia]at e2;exact eF.mp (by lia)
theorem Wm.le{nm:List Int}{T:List (List Int)}(h:Wm nm T):T.flatten.length<=2*nm.length:=by
 obtain⟨left,hc⟩:=h.cnt;have:(T.flatten++AG left).Perm (AG nm):=by
  rw[fu];intro a;rw[cAq];exact hc a
 have:=this.length_eq;rw[lAq,D6 nm]at this;lia
end K31
--ZQ3 --ZQ4 --ZQ5 --ZQ6 --ZQ8 --ZQ9 --ZQB --ZQC --ZQD --ZQE --ZQF --ZQG
namespace K31
open PySem L2 Mr Z Xe Zl
open K12 (Xi)
def Xh(st sh a b:Int) (n:Nat):List Int:=(aN n).map λk:Nat=>Xi st sh a b k
end K31
--ZQ3 --ZQ4 --ZQ5 --ZQ6 --ZQ8 --ZQ9 --ZQB --ZQC --ZQD --ZQE --ZQF --ZQG
namespace K43
open PySem L2 Mr Z Xe Zl
open K51 (sG Ps Pc)
section
variable {M:List (List Int)}{z:Int}
def TH(M:List (List Int)) (z:Int):Bool:=@decide (¬ sG (K23.C z M) (plc M z) (plc M (-z))) (eI _)
def rds(M:List (List Int)):List Int:=(rS M.flatten).filter λz=>decide (0<z)
end
end K43
--ZQ3 --ZQ4 --ZQ5 --ZQ6 --ZQ8 --ZQ9 --ZQB --ZQC --ZQD --ZQE --ZQF --ZQG
namespace K46
open PySem L2 Mr Z Xe Zl
open K18 (pp cp PC A4 Dw AW zi Ep ct Ln nL Bx)
end K46
namespace K18
open PySem L2 Mr Z Xe Zl
open K15 (nx fw Rd)
open K43 (Aj TH emp)
open K51 (sG Ps)
end K18
namespace K18
open PySem L2 Mr Z Xe Zl
open K15 (nx fw)
open K16 (LR)
open K43 (Aj TH emp)
open K51 (sG Ps)
end K18
namespace K17
open PySem L2 Mr Z Xe Zl
open K15 (nx fw Xn)
open K25 (Rt X5 pz)
open K43 (Aj TH Xo emp)
open K51 (sG Ps Pc)
end K17
namespace K19
open PySem L2 Mr Z
end K19
namespace K17
open PySem L2 Mr Z
end K17
--ZQ3 --ZQ4 --ZQ5 --ZQ6 --ZQ8 --ZQ9 --ZQB --ZQC --ZQD --ZQE --ZQF
namespace K51
open PySem L2 Mr Z Xe Zl
end K51
namespace K11
open PySem L2 Mr Z Xe Zl K12
theorem JF{p:List (List Int)}(h:Cn p) (hb:[]∈p) (hn:p.flatten.Nodup):p=[[]]:=by
 obtain⟨k,hk⟩:=bb.mp hb;have hlt:=(gSq.mp hk).1;have hkD:p.getD k []=[]:=by rw[gDq,hk];rfl
 have h0:k=0:=by
  by_cases q:0<k
  .obtain ⟨j,e,_,_,h3⟩:=h.tr k q hlt;rw[hkD]at h3;cases h3
  .lia
 subst h0
 by_cases q:1<p.length
 .obtain ⟨j,e,h1,h2,_⟩:=h.tr 1 (by lia) q
  have:j=0:=by lia
  rw[this,hkD]at h2;cases h2
 .cases p with
  |nil=>cases hb
  |cons a p =>
   cases p with
   |nil =>
    have:a=[]:=aU.inj hk;rw[this]
   |cons b p=>exact absurd (show 1<(a::b::p).length by simp) q
section
variable {P:List (List (List Int))}
theorem Fq:∀{P:List (List (List Int))},P.flatten.flatten.Nodup->∀{p q:List (List Int)}{e:Int},p∈P->q∈P->e∈p.flatten->e∈q.flatten->p=q
 | [],_,p,q,e,hp,_,_,_=>by cases hp
 |a::P,h,p,q,e,hp,hq,h1,h2=>by
  rw[fCq,fAq,nAq]at h;have inP:∀{r:List (List Int)},r∈P->e∈r.flatten->e∈P.flatten.flatten:=λ{r} hr hr'=>by
   obtain⟨l,hl,hel⟩:=mFq.mp hr';exact mFq.mpr ⟨l,mFq.mpr ⟨r,hr,hl⟩,hel⟩
  rcases aj.mp hp with e1|e1
  .rcases aj.mp hq with e2|e2
   .rw [e1,e2]
   .rw [e1]at h1;exact absurd rfl (h.2.2 e h1 e (inP e2 h2))
  .rcases aj.mp hq with e2|e2
   .rw [e2]at h2;exact absurd rfl (h.2.2 e h2 e (inP e1 h1))
   .exact Fq h.2.1 e1 e2 h1 h2
theorem getD_mem{p:List (List Int)}{k:Nat}{e:Int}(h:e∈p.getD k []):p.getD k []∈p:=by
 rw[gDq]at h ⊢;cases q:p[k]? with
 |none=>rw[q]at h;cases h
 |some r=>exact mGq q
end
end K11
--ZQ3 --ZQ4 --ZQ5 --ZQ6 --ZQ8 --ZQ9 --ZQB --ZQC --ZQD --ZQE --ZQF --ZQG
namespace K17
open PySem L2 Mr Z Xe Zl
theorem Pi{L:List (List Int)}(hn:L.flatten.Nodup) {i j:Nat}{r s:List Int}{e:Int}(hi:L[i]?=some r) (hj:L[j]?=some s) (h1:e∈r) (h2:e∈s):i=j:=same_place hn hi hj h1 h2
end K17
--ZQ3 --ZQ4 --ZQ5 --ZQ6 --ZQ8 --ZQ9 --ZQB --ZQC --ZQD --ZQE --ZQF --ZQG
namespace K17
open PySem L2 Mr Z Xe Zl
theorem C8{L M:List (List Int)}(h:L.Perm M):L.flatten.Perm M.flatten:=by
 induction h with
 |nil=>exact .refl _
 |cons a _ ih=>rw[fCq,fCq];exact ih.append_left a
 |swap a b l =>
  rw[fCq,fCq,fCq,fCq,←ah,←ah];exact bj.append_right _
 |trans _ _ h1 h2=>exact h1.trans h2
end K17
--ZQ3 --ZQ4 --ZQ5 --ZQ6 --ZQ8 --ZQ9 --ZQB --ZQC --ZQD --ZQE --ZQF --ZQG
namespace K17
open PySem L2 Mr Z Xe Zl
section
variable {v0 v1:Option AV}
end
end K17
namespace K17
open PySem L2 Mr Z Xe Zl
open K51 (sG Ps Pc)
theorem Bl:∀{A:List (List (List Int))},(∀p∈A,([]:List Int)∈p->p=[[]])->A.flatten.count []=A.countP λp=>decide (p=[[]])
 | [],_=>rfl
 |p::A,h=>by
  rw[fCq,cAq,Bl λq hq=>h q (mCo _ hq),List.countP_cons]
  by_cases c:([]:List Int)∈p
  .rw [h p (au ..) c];simp;lia
  .rw [List.count_eq_zero.mpr c,oB (by
    simp only[decide_eq_true_eq];intro e;exact c (by rw[e];simp))]
   lia
theorem GG{a b:List Int}(h:∀y,y∈a↔y∈b) (ha:a≠[]):∃m,a.min?=some m/\b.min?=some m/\m∈a:=by
 cases e:a.min? with
 |none=>exact absurd (List.min?_eq_none_iff.mp e) ha
 |some m =>
  have q:=(fe (xs:=a)).mp e;exact⟨m,rfl,(fe (xs:=b)).mpr ⟨(h m).mp q.1,λx hx=>q.2 x ((h x).mpr hx)⟩,q.1⟩
theorem GM:∀{A:List (List (List Int))},A.flatten.flatten.Nodup->(∀p∈A,p.flatten≠[])->(A.map λp=>p.flatten.min?).Nodup
 | [],_,_=>aW
 |p::A,h,hne=>by
  rw[fCq,fAq,nAq]at h;rw[aC];refine ax.mpr ⟨λm=>?_,GM h.2.1 λq hq=>hne q (mCo _ hq)⟩
  obtain⟨q,hq,e⟩:=mMq.mp m;obtain⟨a,h1,_,h3⟩:=GG (λ_=>Iff.rfl) (hne p (au ..))
  rw[h1]at e;have:=((fe (xs:=q.flatten)).mp e).1;obtain⟨r,hr,har⟩:=mFq.mp this;exact h.2.2 a h3 a (mFq.mpr ⟨r,mFq.mpr ⟨q,hq,hr⟩,har⟩) rfl
structure Bp (A:List (List (List Int))):Prop where
 nd:A.flatten.flatten.Nodup
 ne:∀p∈A,p≠[]
 ba:∀p∈A,([]:List Int)∈p->p=[[]]
theorem Bz{l m:List (List Int)}(h:l.Sublist m):l.flatten.Sublist m.flatten:=by
 induction h with
 |slnil=>exact .refl _
 |cons a _ ih=>rw[fCq];exact ih.trans (List.sublist_append_right ..)
 |cons_cons a _ ih=>rw[fCq,fCq];exact(fW.refl a).append ih
theorem HJ{A:List (List (List Int))}(h:A.flatten.flatten.Nodup) (f:List (List Int)->Bool):(A.filter f).flatten.flatten.Nodup:=by
 rw[gB]at h ⊢;exact h.sublist (Bz (fv.map _))
theorem Bp.fne{A:List (List (List Int))}(h:Bp A) {p:List (List Int)}(hp:p∈A) (hb:p≠[[]]):p.flatten≠[]:=λz=>by
 cases p with
 |nil=>exact h.ne _ hp rfl
 |cons a p =>
  rw[fCq]at z;have:a=[]:=(dE.mp z).1;subst this;exact hb (h.ba _ hp (au ..))
theorem U0{A B:List (List (List Int))}(hA:Bp A) (hB:Bp B) (hs:∀x,x∈A.flatten.flatten->x∈B.flatten.flatten) (sh:∀p∈A,∀q∈B,∀x,x∈p.flatten->x∈q.flatten->∀y,y∈p.flatten↔y∈q.flatten) {k:Option Int}(hk:k∈(A.filter λp=>!decide (p=[[]])).map λp=>p.flatten.min?):k∈(B.filter λp=>!decide (p=[[]])).map λp=>p.flatten.min?:=by
 obtain⟨p,hp,e⟩:=mMq.mp hk;obtain⟨hp,hb⟩:=bQ.mp hp;have hb':p≠[[]]:=by simpa using hb
 obtain⟨m,e1,_,hm⟩:=GG (λ_=>Iff.rfl) (hA.fne hp hb')
 obtain⟨r,hr,hmr⟩:=mFq.mp hm;obtain⟨r',hr',hmr'⟩:=mFq.mp (hs m (mFq.mpr ⟨r,mFq.mpr ⟨p,hp,hr⟩,hmr⟩));obtain⟨q,hq,hrq⟩:=mFq.mp hr';have hmq:m∈q.flatten:=mFq.mpr ⟨r',hrq,hmr'⟩;obtain⟨m',e2,e3,_⟩:=GG (sh p hp q hq m hm hmq) (hA.fne hp hb');rw[←e];refine mMq.mpr ⟨q,bQ.mpr ⟨hq,?_⟩,by rw[e2,e3]⟩
 have:q≠[[]]:=λz=>by rw[z]at hmq;simp at hmq
 simpa using this
theorem JL{A B:List (List (List Int))}(hA:Bp A) (hB:Bp B) (hs:∀x,x∈A.flatten.flatten↔x∈B.flatten.flatten) (sh:∀p∈A,∀q∈B,∀x,x∈p.flatten->x∈q.flatten->∀y,y∈p.flatten↔y∈q.flatten) (hc:A.flatten.count []=B.flatten.count []):A.length=B.length:=by
 have k1:=GM (HJ hA.nd λp=>!decide (p=[[]])) λp hp=>hA.fne (bQ.mp hp).1 (by simpa using (bQ.mp hp).2)
 have k2:=GM (HJ hB.nd λp=>!decide (p=[[]])) λp hp=>hB.fne (bQ.mp hp).1 (by simpa using (bQ.mp hp).2)
 have pm:=((bF k1 k2).mpr λk=>⟨U0 hA hB (λx=>(hs x).mp) sh,U0 hB hA (λx=>(hs x).mpr) λp hp q hq x h1 h2 y=>(sh q hq p hp x h2 h1 y).symm⟩).length_eq
 rw[lMq,lMq,←fx,←fx]at pm;rw[Bl hA.ba,Bl hB.ba]at hc;have l1:=eV (l:=A) λp=>decide (p=[[]])
 have l2:=eV (l:=B) λp=>decide (p=[[]])
 have f:(λp:List (List Int)=>!decide (p=[[]]))=λp=>decide ¬ (decide (p=[[]])=true):=by
  funext p
  by_cases c:p=[[]] <;> simp[c]
 rw[f]at pm;lia
abbrev cls(M:List (List Int)) (PS:List (List Nat)):List (List (List Int)):=PS.map λps=>ps.map λk=>M.getD k []
section
variable {M:List (List Int)}{kn:List Nat}{PS:List (List Nat)}
theorem TM{S:Int->Prop}(hm:K51.Mp M) (hneg:∀x,S x->S (-x)) (hrow:∀r∈M,∀x∈r,∀y∈r,S x->S y) {a b:Nat}(h:sG M a b) (ha:∀x∈M.getD a [],S x):∀y∈M.getD b [],S y:=by
 induction h with
 |base=>exact ha
 | @step k r e _ h1 h2 ih =>
  intro y hy;have hD:M.getD k []=r:=by rw[gDq,h1];rfl
  have s1:=hneg e (ih e (by rw[hD];exact h2))
  have he:e∈M.flatten:=mFq.mpr ⟨r,mGq h1,h2⟩;obtain⟨r',hr',her'⟩:=hm.at (hm.hneg e he);have hD':M.getD (K51.plc M (-e)) []=r':=by rw[gDq,hr'];rfl
  rw[hD']at hy;exact hrow r' (mGq hr') _ her' y hy s1
theorem AO{ps:List Nat}{s:Nat}(hm:K51.Mp M) (pc:Pc M s ps) {x:Int}:x∈(ps.map λk=>M.getD k []).flatten↔∃k,sG M s k/\x∈M.getD k []:=by
 rw[mFq];constructor
 .rintro ⟨r,hr,hx⟩;obtain⟨k,hk,rfl⟩:=mMq.mp hr;exact⟨k,(pc.iff k).mp hk,hx⟩
 .rintro ⟨k,hk,hx⟩;exact⟨_,mMq.mpr ⟨k,(pc.iff k).mpr hk,rfl⟩,hx⟩
theorem TZ{S:Int->Prop}{ps:List Nat}{s:Nat}(hm:K51.Mp M) (pc:Pc M s ps) (hneg:∀x,S x->S (-x)) (hrow:∀r∈M,∀x∈r,∀y∈r,S x->S y) {x:Int}(hx:x∈(ps.map λk=>M.getD k []).flatten) (h:S x):∀y∈(ps.map λk=>M.getD k []).flatten,S y:=by
 intro y hy;obtain⟨a,ha,hxa⟩:=(AO hm pc).mp hx;obtain⟨b,hb,hyb⟩:=(AO hm pc).mp hy;exact TM hm hneg hrow ((ha.symm hm).trans hb) (λz hz=>hrow _ (K11.getD_mem hxa) x hxa z hz h) y hyb
theorem O8{ps:List Nat}{s:Nat}(hm:K51.Mp M) (pc:Pc M s ps) {x:Int}(hx:x∈(ps.map λk=>M.getD k []).flatten):-x∈(ps.map λk=>M.getD k []).flatten:=by
 obtain⟨k,hk,hxk⟩:=(AO hm pc).mp hx;have hr:M[k]?=some (M.getD k []):=by
  rw[gDq]at hxk ⊢;cases q:M[k]? with
  |none=>rw[q]at hxk;cases hxk
  |some r=>rfl
 obtain⟨r',hr',her'⟩:=hm.at (hm.hneg x (mFq.mpr ⟨_,mGq hr,hxk⟩));refine(AO hm pc).mpr ⟨_,.step hk hr hxk,?_⟩;rw[gDq,hr'];exact her'
theorem O7{ps:List Nat}{s:Nat}(hm:K51.Mp M) (pc:Pc M s ps) {r:List Int}(hr:r∈M) {x y:Int}(hx:x∈r) (hy:y∈r) (h:x∈(ps.map λk=>M.getD k []).flatten):y∈(ps.map λk=>M.getD k []).flatten:=by
 obtain⟨t,ht,hxt⟩:=mFq.mp h;obtain⟨k,hk,rfl⟩:=mMq.mp ht;have h2:=K11.getD_mem hxt;obtain⟨i,hi⟩:=bb.mp hr;obtain⟨j,hj⟩:=bb.mp h2;have:=Pi hm.hn hi hj hx hxt;subst this;rw[hi]at hj;refine mFq.mpr ⟨_,ht,?_⟩;rw[←aU.inj hj];exact hy
theorem RO(hm:K51.Mp M) (hp:Ps M M.length kn PS):Bp (cls M PS):=by
 have pm:=K12.Ap hp;refine⟨(C8 pm).nodup_iff.mpr hm.hn,λp h=>?_,λp h hb=>?_⟩
 .obtain ⟨ps,hps,rfl⟩:=mMq.mp h;obtain⟨s,hs,pc⟩:=hp.pc ps hps;intro z;have m:s∈ps:=(pc.iff s).mpr .base;rw[List.map_eq_nil_iff.mp z]at m;cases m
 .obtain ⟨ps,hps,rfl⟩:=mMq.mp h;obtain⟨s,hs,pc⟩:=hp.pc ps hps;obtain⟨k,hk,ek⟩:=mMq.mp hb;have hk1:=pc.lt k hk;have hk2:M[k]?=some []:=by
   rw[gDq,gEg hk1]at ek;rw[gEg hk1];exact congrArg some ek
  have only:∀j,sG M k j->j=k:=λj hj=>by
   induction hj with
   |base=>rfl
   |step _ a b ih =>
    rw[ih,hk2]at a;cases a;cases b
  have all:∀j∈ps,j=k:=λj hj=>only j ((((pc.iff k).mp hk).symm hm).trans ((pc.iff j).mp hj))
  have nd:=pc.nd;have e:ps=[k]:=by
   match ps,hk,all,nd with
   | [a],_,all,_=>rw[all a (by simp)]
   |a::b::l,_,all,nd=>exact absurd ((all a (by simp)).trans (all b (by simp)).symm) (λz=>(ax.mp nd).1 (by rw[z];simp))
  rw[e];show [M.getD k []]=[[]];rw[ek]
end
end K17
namespace K52
open PySem L2 Mr Z Xe Zl
open K15 (nx)
open K18 (pp cp PC Cb Dw Ep HV Bx)
open K43 (Aj tF qd)
open K51 (sG)
structure Fm where
 p:Nat
 a:List Int
 d:List Int
 r:List Int
structure Sw where
 st:List Fm
 cl:List Nat
 cb:List (Nat×Int)
 th:List (String×Int)
def frm(M:List (List Int)) (x:Int):List Int:=(M.getD (plc M x) []).drop ((M.getD (plc M x) []).idxOf x+1)++(M.getD (plc M x) []).take ((M.getD (plc M x) []).idxOf x)
def Sw.ks(s:Sw):List Nat:=0::s.cb.map (·.1)
def Fm.tell(f:Fm) (e:Int) (r:List Int):Fm:=⟨f.p,f.a,f.d++[e],r⟩
def stp(M:List (List Int)) (s:Sw):Sw:=match s.st with
 | []=>s
 |f::fs=>match f.r with
  |e::r=>if plc M (-e)∈s.ks then ⟨f.tell e r::fs,s.cl,s.cb,s.th++[("side", e)]⟩
   else ⟨⟨plc M (-e),[-e],[],frm M (-e)⟩::f.tell e r::fs,s.cl,s.cb++[(plc M (-e), -e)],s.th++[("down", e)]⟩
  | []=>match f.a,fs with
   | [x],g::gs=>⟨g::gs,f.p::s.cl,s.cb,s.th++[("up", x)]⟩
   |_,_=>s
def run(M:List (List Int)):Nat->Sw
 |0=>⟨[⟨0,[],[],M.getD 0 []⟩],[],[],[]⟩
 |n+1=>stp M (run M n)
def Fm.c(f:Fm):List Int:=f.a++f.d++f.r
structure MN (M:List (List Int)) (f:Fm):Prop where
 lt:f.p<M.length
 pm:f.c.Perm (M.getD f.p [])
 cy:∀q∈cp f.c,nx M q.1=q.2
def Ta:List Fm->Prop
 | []=>False
 | [f]=>f.a=[]/\f.p=0
 |f::g::fs=>(∃x d,f.a=[x]/\g.d=d++[-x])/\Ta (g::fs)
structure Wi (M:List (List Int)) (s:Sw):Prop where
 ch:Ta s.st
 ok:∀f∈s.st,MN M f
 nd:(s.st.map (·.p)++s.cl).Nodup
 ck:∀t,t∈s.ks↔t∈s.st.map (·.p)++s.cl
 cv:∀f∈s.st,∀x,f.a=[x]->(f.p,x)∈s.cb
 kn:s.ks.Nodup
 lc:∀p∈s.cl,p<M.length
 tl:(s.th.map (·.2)).Perm (s.st.flatMap (·.d)++s.cl.flatMap λp=>M.getD p [])
 out:∀x∈s.th.map (·.2),plc M (-x)∈s.ks
section
variable {M:List (List Int)}{s:Sw}{f:Fm}{fs:List Fm}{x e:Int}
theorem Ta.top{g:Fm}:∀{fs:List Fm},Ta (f::fs)->g.a=f.a->g.p=f.p->Ta (g::fs)
 | [],h,ha,hp=>⟨by rw[ha];exact h.1,by rw[hp];exact h.2⟩
 |k::fs,h,ha,hp=>⟨by rw[ha];exact h.1,h.2⟩
theorem BZ(hm:Mp M) (hx:x∈M.flatten):plc M x<M.length/\x∈M.getD (plc M x) []:=by
 obtain⟨r,h1,h2⟩:=hm.at hx;refine⟨(gSq.mp h1).1,?_⟩;rw[gDq,h1];exact h2
theorem K7(hm:Mp M) (hx:x∈M.flatten):MN M ⟨plc M x,[x],[],frm M x⟩:=by
 obtain⟨h1,h2⟩:=BZ hm hx;have hr:=qd h1;have key:∀r:List Int,x∈r->∃X Y,r=X++x::Y/\r.drop (r.idxOf x+1)++r.take (r.idxOf x)=Y++X:=λr h=>by
  have lt:=List.idxOf_lt_length_of_mem h;refine⟨r.take (r.idxOf x),r.drop (r.idxOf x+1),?_,rfl⟩;have e:r[r.idxOf x]=x:=fB lt
  conv=>lhs;rw[←bA (r.idxOf x) r,aK lt,e]
 obtain⟨X,Y,q1,q2⟩:=key _ h2;have ec:(⟨plc M x,[x],[],frm M x⟩:Fm).c=x::Y++X:=by
  show [x]++[]++frm M x=_;unfold frm;rw[q2];rfl
 refine⟨h1,?_,λq hq=>?_⟩
 .rw [ec,q1];exact bj
 .rw [ec]at hq;refine HV hm.hn (Bx hr ?_);rw[q1];have:=eF.mpr hq;rw[Ep]at this;exact eF.mp this
theorem MN.mem(hm:Mp M) (h:MN M f) (hx:x∈f.c):x∈M.flatten/\plc M x=f.p:=by
 have hr:=qd h.lt;have:=h.pm.mem_iff.mp hx;exact⟨mFq.mpr ⟨_,mGq hr,this⟩,plc_eq hm.hn hr this⟩
theorem Lm{r:List Int}(h:f.r=e::r):(f.tell e r).c=f.c:=by
 unfold Fm.tell Fm.c;rw[h];simp
theorem MN.tell{r:List Int}(h:MN M f) (hr:f.r=e::r):MN M (f.tell e r):=⟨h.lt,by rw[Lm hr];exact h.pm,by rw[Lm hr];exact h.cy⟩
theorem XR(hm:Mp M) (h0:0<M.length):Wi M (run M 0):=by
 have hr:=qd h0;refine⟨⟨rfl,rfl⟩,λf hf=>?_,by simp[run],λt=>?_,λf hf x h=>?_,by simp[run,Sw.ks],λp hp=>(by cases hp),by simp[run],λx hx=>(by cases hx)⟩
 .rw [mSq.mp hf];refine⟨h0,.refl _,λq hq=>HV hm.hn (Bx hr hq)⟩
 .show t∈[0]↔t∈[0]++[];rw[aNq]
 .rw [mSq.mp hf]at h;cases h
theorem HX(hm:Mp M) (h:Wi M s):Wi M (stp M s):=by
 obtain⟨st,cl,cb,th⟩:=s;cases st with
 |nil=>exact h.ch.elim
 |cons f fs =>
  have hf:=h.ok f (au ..);cases q:f.r with
  |cons e r =>
   have ce:e∈f.c:=by unfold Fm.c;rw[q];simp
   obtain⟨eM,pe⟩:=hf.mem hm ce;have ft:=hf.tell q;have oks:∀g∈f.tell e r::fs,MN M g:=λg hg=>by
    rcases aj.mp hg with z|z
    .rw [z];exact ft
    .exact h.ok g (mCo _ z)
   have cht:Ta (f.tell e r::fs):=h.ch.top rfl rfl;have tl:(th.map (·.2)++[e]).Perm ((f.tell e r::fs).flatMap (·.d)++cl.flatMap λp=>M.getD p []):=by
    refine(h.tl.append_right [e]).trans ?_;show ((f.d++fs.flatMap (·.d))++_++[e]).Perm (((f.d++[e])++fs.flatMap (·.d))++_);rw[ah,ah,ah,ah];refine aQ.append_left _ ?_;rw[←ah];exact bj
   by_cases c:plc M (-e)∈(⟨f::fs,cl,cb,th⟩:Sw).ks
   .have es:stp M ⟨f::fs,cl,cb,th⟩=⟨f.tell e r::fs,cl,cb,th++[("side", e)]⟩:=by
     unfold stp;simp only[q];rw[oz c]
    rw[es];refine⟨cht,oks,h.nd,h.ck,λg hg x hx=>?_,h.kn,h.lc,by rw[mBq];exact tl,λx hx=>?_⟩
    .rcases aj.mp hg with z|z
     .rw [z]at hx ⊢;exact h.cv f (au ..) x hx
     .exact h.cv g (mCo _ z) x hx
    .rw [mBq]at hx;rcases mAq.mp hx with z|z
     .exact h.out x z
     .rw [mSq.mp z];exact c
   .have es:stp M ⟨f::fs,cl,cb,th⟩=⟨⟨plc M (-e),[-e],[],frm M (-e)⟩::f.tell e r::fs,cl,cb++[(plc M (-e), -e)],th++[("down", e)]⟩:=by
     unfold stp;simp only[q];rw[oB c]
    rw[es];have c2:plc M (-e)∉(f::fs).map (·.p)++cl:=λz=>c ((h.ck _).mpr z)
    have ek:(⟨⟨plc M (-e),[-e],[],frm M (-e)⟩::f.tell e r::fs,cl,cb++[(plc M (-e), -e)],th++[("down", e)]⟩:Sw).ks=(⟨f::fs,cl,cb,th⟩:Sw).ks++[plc M (-e)]:=by
     unfold Sw.ks;rw[mBq];rfl
    refine⟨⟨⟨-e,f.d,rfl,by rw[gm];rfl⟩,cht⟩,λg hg=>?_,ax.mpr ⟨c2,h.nd⟩,λt=>?_,λg hg x hx=>?_,?_,h.lc,by rw[mBq];exact tl,λx hx=>?_⟩
    .rcases aj.mp hg with z|z
     .rw [z];exact K7 hm (hm.hneg e eM)
     .exact oks g z
    .rw [ek,mAq,mSq,h.ck];show _↔t∈plc M (-e)::((f::fs).map (·.p)++cl);rw[aj];exact Or.comm
    .rcases aj.mp hg with z|z
     .rw [z]at hx ⊢;cases hx;exact ar _ (mSq.mpr rfl)
     .refine bp _ ?_;rcases aj.mp z with w|w
      .rw [w]at hx ⊢;exact h.cv f (au ..) x hx
      .exact h.cv g (mCo _ w) x hx
    .rw [ek];exact nAq.mpr ⟨h.kn,by simp,λa ha b hb z=>c (by rw[mSq.mp hb]at z;exact z ▸ ha)⟩
    .rw [ek];rw[mBq]at hx;rcases mAq.mp hx with z|z
     .exact bp _ (h.out x z)
     .rw [mSq.mp z];exact ar _ (mSq.mpr rfl)
  |nil =>
   cases fs with
   |nil =>
    have:stp M ⟨[f],cl,cb,th⟩=⟨[f],cl,cb,th⟩:=by
     have ha:f.a=[]:=h.ch.1;unfold stp;simp only[q,ha]
    rw[this];exact h
   |cons g gs =>
    obtain⟨⟨x,d,ea,ed⟩,ch⟩:=h.ch;have es:stp M ⟨f::g::gs,cl,cb,th⟩=⟨g::gs,f.p::cl,cb,th++[("up", x)]⟩:=by
     unfold stp;simp only[q,ea]
    rw[es];have pm:((f::g::gs).map (·.p)++cl).Perm ((g::gs).map (·.p)++f.p::cl):=List.perm_middle.symm;have hg:=h.ok g (by simp)
    refine⟨ch,λk hk=>h.ok k (mCo _ hk),pm.nodup_iff.mp h.nd,λt=>(h.ck t).trans pm.mem_iff,λk hk=>h.cv k (mCo _ hk),h.kn,λp hp=>?_,?_,λy hy=>?_⟩
    .rcases aj.mp hp with z|z
     .rw [z];exact hf.lt
     .exact h.lc p z
    .rw [mBq];refine(h.tl.append_right [x]).trans ?_;have row:(f.d++[x]).Perm (M.getD f.p []):=by
      refine bj.trans ?_;have:=hf.pm;unfold Fm.c at this;rw[ea,q,aNq]at this;exact this
     show ((f.d++(g::gs).flatMap (·.d))++cl.flatMap (λp=>M.getD p [])++[x]).Perm ((g::gs).flatMap (·.d)++(M.getD f.p []++cl.flatMap λp=>M.getD p []))
     generalize (g::gs).flatMap (·.d)=A;generalize (cl.flatMap λp=>M.getD p [])=B
     refine aQ.trans ?_ (aQ.append_left A (aQ.append_right B row));rw[ah,ah,←ah A B];refine(fA f.d (A++B) [x]).trans ?_;rw[ah];exact aQ.append_left A bj
    .rw [mBq]at hy;rcases mAq.mp hy with z|z
     .exact h.out y z
     .rw [mSq.mp z];have:-x∈g.c:=by unfold Fm.c;rw[ed];simp
      refine(h.ck _).mpr ?_;rw[(hg.mem hm this).2];simp
theorem xv(hm:Mp M) (h0:0<M.length):∀n,Wi M (run M n)
 |0=>XR hm h0
 |n+1=>HX hm (xv hm h0 n)
def Fin(s:Sw):Prop:=∃f,s.st=[f]/\f.r=[]
theorem PJ{P:List Nat}(nd:P.Nodup) (lt:∀p∈P,p<M.length):∃Q:List Nat,P.Perm Q/\(Q.flatMap λp=>M.getD p []).Sublist M.flatten:=by
 refine⟨(aN M.length).filter λk=>decide (k∈P),(bF nd (dU.filter _)).mpr λk=>?_,?_⟩
 .rw [bQ,bO,decide_eq_true_iff];exact⟨λh=>⟨lt k h,h⟩,λh=>h.2⟩
 .rw [gY];have:=K17.Bz ((fv (p:=λk=>decide (k∈P)) (l:=aN M.length)).map λk=>M.getD k [])
  rwa [tF]at this
theorem Hr(st:List Fm):(st.flatMap Fm.c).Perm (st.flatMap (·.d)++st.flatMap λf=>f.a++f.r):=by
 induction st with
 |nil=>exact .refl _
 |cons f fs ih =>
  show (f.a++f.d++f.r++fs.flatMap Fm.c).Perm ((f.d++fs.flatMap (·.d))++((f.a++f.r)++fs.flatMap λf=>f.a++f.r))
  refine(aQ.append_left _ ih).trans ?_;generalize fs.flatMap (·.d)=A;generalize (fs.flatMap λf=>f.a++f.r)=B
  rw[fu];intro z;simp only[cAq];lia
theorem Wi.full(h:Wi M s):∃F:List Int,F.Sublist M.flatten/\(s.th.map (·.2)++s.st.flatMap λf=>f.a++f.r).Perm F:=by
 have lt:∀p∈s.st.map (·.p)++s.cl,p<M.length:=λp hp=>by
  rcases mAq.mp hp with z|z
  .obtain ⟨f,hf,rfl⟩:=mMq.mp z;exact(h.ok f hf).lt
  .exact h.lc p z
 obtain⟨Q,pq,sub⟩:=PJ h.nd lt;refine⟨_,sub,?_⟩;have rows:∀st:List Fm,(∀f∈st,MN M f)->(st.flatMap Fm.c).Perm ((st.map (·.p)).flatMap λp=>M.getD p []):=λst=>by
  induction st with
  |nil=>intro _;exact .refl _
  |cons f fs ih =>
   intro ok;exact aQ.append (ok f (au ..)).pm (ih λg hg=>ok g (mCo _ hg))
 have p1:=(Hr s.st).symm.trans (rows s.st h.ok);have p2:((s.st.map (·.p)++s.cl).flatMap λp=>M.getD p []).Perm (Q.flatMap λp=>M.getD p []):=aQ.flatMap_right _ pq
 refine aQ.trans ?_ p2;rw[fy];refine aQ.trans ?_ (aQ.append_right _ p1);refine(aQ.append_right _ h.tl).trans ?_;rw[ah,ah];exact aQ.append_left _ bj
theorem Wi.less(h:Wi M s) (nf:¬ Fin s):s.th.length<M.flatten.length:=by
 obtain⟨F,sub,pm⟩:=h.full;have l1:=sub.length_le;have l2:=pm.length_eq;rw[lAq,lMq]at l2
 suffices (s.st.flatMap λf=>f.a++f.r)≠[] by
  have:=dY.mpr this;lia
 intro q;have em:∀f∈s.st,f.a++f.r=[]:=List.flatMap_eq_nil_iff.mp q;have hch:=h.ch
 match e:s.st,hch with
 | [f],_=>exact nf ⟨f,e,(dE.mp (em f (by rw[e];simp))).2⟩
 |f::g::fs,hc =>
  obtain⟨⟨x,d,ea,_⟩,_⟩:=hc;have:=em f (by rw[e];simp)
  rw[ea]at this;cases this
theorem Wi.whole(hm:Mp M) (h:Wi M s) (fin:Fin s) (one:∀k,k<M.length->sG M 0 k):s.th.length=M.flatten.length/\s.ks.length=M.length/\(s.th.map (·.2)).Perm M.flatten:=by
 obtain⟨f,e,er⟩:=fin;have hch:=h.ch;rw[e]at hch;have hf:=h.ok f (by rw[e];simp)
 have told:∀k∈s.ks,∀x∈M.getD k [],x∈s.th.map (·.2):=λk hk x hx=>by
  rw[h.ck,e]at hk;refine h.tl.mem_iff.mpr ?_;rcases mAq.mp hk with z|z
  .have z:=mSq.mp z;rw[z]at hx;have:=hf.pm.mem_iff.mpr hx;unfold Fm.c at this;rw[hch.1,er,aNq]at this;refine bp _ ?_;rw[e];exact bp _ this
  .exact ar _ (cH.mpr ⟨k,z,hx⟩)
 have all:∀k,sG M 0 k->k∈s.ks:=λk hk=>by
  induction hk with
  |base=>exact au ..
  | @step k r x _ hr hx ih =>
   refine h.out x (told k ih x ?_);rw[gDq,hr];exact hx
 have kp:s.ks.Perm (aN M.length):=(bF h.kn dU).mpr λk=>by
  rw[bO];refine⟨λhk=>?_,λhk=>all k (one k hk)⟩
  rcases mAq.mp ((h.ck k).mp hk) with z|z
  .obtain ⟨g,hg,rfl⟩:=mMq.mp z;exact(h.ok g hg).lt
  .exact h.lc k z
 have pmk:(s.st.map (·.p)++s.cl).Perm s.ks:=(bF h.nd h.kn).mpr λk=>(h.ck k).symm
 have tp:(s.th.map (·.2)).Perm M.flatten:=by
  refine h.tl.trans ?_;have e1:s.st.flatMap (·.d)=f.c:=by
   rw[e];show f.d++[]=f.a++f.d++f.r;rw[hch.1,er];rfl
  rw[e1];refine(aQ.append_right _ hf.pm).trans ?_;have:(M.getD f.p []++s.cl.flatMap λp=>M.getD p [])=(s.st.map (·.p)++s.cl).flatMap λp=>M.getD p []:=by
   rw[e];rfl
  rw[this];refine(aQ.flatMap_right _ (pmk.trans kp)).trans ?_;rw[gY,tF]
 refine⟨?_,?_,tp⟩
 .have:=tp.length_eq
  rwa [lMq]at this
 .have:=kp.length_eq
  rwa [aT]at this
end
end K52
--ZQ3 --ZQ4 --ZQ5 --ZQ6 --ZQ8 --ZQ9
namespace K52
open PySem L2 Mr Z Xe Zl
open K15 (nx yO)
open K18 (pp cp PC Cb Dw Ep HV Bx)
open K43 (Aj qd)
open K51 (sG Aa)
def Sw.cur(s:Sw):Int:=match s.st with
 | []=>0
 |f::_=>(f.r++f.a).headD 0
section
variable {M:List (List Int)}{s:Sw}{f:Fm}{fs:List Fm}{x e:Int}
theorem MN.nxt(h:MN M f) {L:List Int}{y:Int}(hy:f.a++f.d=L++[y]) (ne:f.r++f.a≠[]):nx M y=(f.r++f.a).headD 0:=by
 have ec:f.c=L++[y]++f.r:=by unfold Fm.c;rw[hy]
 cases q:f.r with
 |nil =>
  rw[q,dv]at ne;rw[q,aNq]at ec;obtain⟨z,l,ez⟩:=K18.zi ne;have hc:f.c=z::(l++f.d++f.r):=by unfold Fm.c;rw[ez];simp
  have:=h.cy (y,z) (by rw[Dw ec hc];simp)
  rw[ez];exact this
 |cons z r =>
  rw[q]at ec;have:f.c≠[]:=by rw[ec];simp
  obtain⟨w,l,ew⟩:=K18.zi this;have e1:cp f.c=pp (f.c++[w]):=by rw[ew];rfl
  have e2:f.c++[w]=L++y::z::(r++[w]):=by rw[ec];simp
  exact h.cy (y,z) (by rw[e1,e2,Cb];simp)
def Bv(s:Sw):List (oy×D):=(.inl 0,.non)::s.cb.map λp=>(.inl (p.1:Int),.int p.2)
theorem IJ(kn:s.ks.Nodup) {p:Nat}(h:(p,x)∈s.cb):Z.getD (Bv s) (.inl (p:Int))=some (.int x):=by
 have key:∀cb:List (Nat×Int),(cb.map (·.1)).Nodup->(p,x)∈cb->Z.getD (cb.map λp=>((.inl (p.1:Int):oy),D.int p.2)) (.inl (p:Int))=some (.int x):=λcb=>by
  induction cb with
  |nil=>intro _ h;cases h
  |cons c cb ih =>
   intro nd h;rw[aC]at nd;obtain⟨n1,n2⟩:=ax.mp nd;unfold Z.getD;rw[aC,cP];rcases aj.mp h with z|z
   .subst z;rw[decide_eq_true rfl];rfl
   .have ne:¬ ((aG (c.1:Int):oy) = .inl (p:Int)):=λq=>n1 (by
     have:c.1=p:=by have:=aG.inj q;lia
     rw[this];exact mMq.mpr ⟨_,z,rfl⟩)
    rw[decide_eq_false ne];exact ih n2 z
 obtain⟨n1,n2⟩:=ax.mp kn;have p0:¬ ((aG 0:oy) = .inl (p:Int)):=λq=>n1 (by
  have:p=0:=by have:=aG.inj q;lia
  rw[←this];exact mMq.mpr ⟨_,h,rfl⟩)
 have:=key s.cb n2 h;unfold Z.getD Bv at *;rw[cP,decide_eq_false p0];exact this
theorem Iv(s:Sw) (t:Nat):(Z.getD (Bv s) (.inl (t:Int))).isSome=decide (t∈s.ks):=by
 unfold Z.getD;rw[cc,bR,dJ,decide_eq_true_iff];constructor
 .rintro ⟨q,hq,h⟩;have h:q.1=(aG (t:Int):oy):=of_decide_eq_true h;rcases aj.mp hq with z|z
  .rw [z]at h;have:t=0:=by have:=aG.inj h;lia
   rw[this];exact au ..
  .obtain ⟨c,hc,rfl⟩:=mMq.mp z;have:c.1=t:=by have:=aG.inj h;lia
   exact mCo _ (mMq.mpr ⟨c,hc,this⟩)
 .intro h;rcases aj.mp h with z|z
  .exact ⟨_,au ..,decide_eq_true (by rw[z];rfl)⟩
  .obtain ⟨c,hc,rfl⟩:=mMq.mp z;exact⟨_,mCo _ (mMq.mpr ⟨c,hc,rfl⟩),decide_eq_true rfl⟩
theorem Wi.ahead(h:Wi M s) {f:Fm}(hf:f∈s.st) {y:Int}(hy:y∈f.a++f.r) (hn:M.flatten.Nodup):y∉s.th.map (·.2):=by
 obtain⟨F,sub,pm⟩:=h.full;have nd:=pm.nodup_iff.mpr (hn.sublist sub);exact λq=>(nAq.mp nd).2.2 y q y (cH.mpr ⟨f,hf,hy⟩) rfl
def Sw.way(s:Sw):List Int:=(s.st.flatMap (·.a)).reverse
inductive Go (M:List (List Int)) (s t:Sw):Prop
 |up:t.th=s.th++[("up", s.cur)]->t.cb=s.cb->Z.getD (Bv s) (.inl (plc M s.cur:Int))=some (.int s.cur)->s.way=t.way++[s.cur]->(¬ Fin t->t.cur=nx M (-s.cur))->Go M s t
 |down:t.th=s.th++[("down", s.cur)]->t.cb=s.cb++[(plc M (-s.cur), -s.cur)]->plc M (-s.cur)∉s.ks->(∃v,Z.getD (Bv s) (.inl (plc M s.cur:Int))=some v/\C7 (.int s.cur) v=some (.bl false))->t.way=s.way++[-s.cur]->(∀w y,s.way=w++[y]->y≠s.cur)->t.cur=nx M (-s.cur)->Go M s t
 |side:t.th=s.th++[("side", s.cur)]->t.cb=s.cb->plc M (-s.cur)∈s.ks->(∃v,Z.getD (Bv s) (.inl (plc M s.cur:Int))=some v/\C7 (.int s.cur) v=some (.bl false))->t.way=s.way->(∀w y,s.way=w++[y]->y≠s.cur)->(¬ Fin t->t.cur=nx M s.cur)->Go M s t
theorem HM(hm:Mp M) (h:Wi M s) (nf:¬ Fin s):s.cur∈M.flatten/\s.cur∉s.th.map (·.2)/\Go M s (stp M s):=by
 have h':=HX hm h;obtain⟨st,cl,cb,th⟩:=s;cases st with
 |nil=>exact h.ch.elim
 |cons f fs =>
  have hf:=h.ok f (au ..);have nda:f.c.Nodup:=hf.pm.nodup_iff.mpr (hm.hn.sublist (bq (mGq (qd hf.lt))));have aone:f.a=[]/\f.p=0/\fs=[]∨∃x,f.a=[x]/\(f.p,x)∈cb:=by
   cases fs with
   |nil=>exact .inl ⟨h.ch.1,h.ch.2,rfl⟩
   |cons g gs =>
    obtain⟨⟨x,d,ea,_⟩,_⟩:=h.ch;exact .inr ⟨x,ea,h.cv f (au ..) x ea⟩
  cases q:f.r with
  |cons e r =>
   have ec:(⟨f::fs,cl,cb,th⟩:Sw).cur=e:=by show (f.r++f.a).headD 0=e;rw[q];rfl
   have ce:e∈f.c:=by unfold Fm.c;rw[q];simp
   obtain⟨eM,pe⟩:=hf.mem hm ce;have et:=h.ahead (au ..) (y:=e) (by rw[q];simp) hm.hn
   have ft:=hf.tell q;have val:∃v,Z.getD (Bv ⟨f::fs,cl,cb,th⟩) (.inl (plc M e:Int))=some v/\C7 (.int e) v=some (.bl false):=by
    rw[pe];rcases aone with ⟨_,z,_⟩|⟨x,ea,hx⟩
    .rw [z];exact⟨.non,rfl,rfl⟩
    .refine ⟨.int x,IJ h.kn hx,?_⟩;have:e≠x:=λw=>by
      unfold Fm.c at nda;rw[ea,q]at nda;exact(ax.mp nda).1 (by rw[←w];simp)
     rw[Io,decide_eq_false this]
   have wy:∀w y,(⟨f::fs,cl,cb,th⟩:Sw).way=w++[y]->y≠e:=λw y ew z=>by
    have e2:(⟨f::fs,cl,cb,th⟩:Sw).way=(fs.flatMap (·.a)).reverse++f.a.reverse:=by
     show (f.a++fs.flatMap (·.a)).reverse=_;rw[dg]
    rw[e2]at ew;rcases aone with ⟨z1,_,z2⟩|⟨x,ea,_⟩
    .rw [z1,z2]at ew;have:=congrArg bL ew;simp at this
    .rw [ea]at ew;have:=(List.append_inj' ew rfl).2;have:x=y:=by simpa using this
     unfold Fm.c at nda;rw[ea,q]at nda;exact(ax.mp nda).1 (by rw[this,z];simp)
   rw[ec];refine⟨eM,et,?_⟩
   by_cases c:plc M (-e)∈(⟨f::fs,cl,cb,th⟩:Sw).ks
   .have es:stp M ⟨f::fs,cl,cb,th⟩=⟨f.tell e r::fs,cl,cb,th++[("side", e)]⟩:=by
     unfold stp;simp only[q];rw[oz c]
    rw[es];refine .side (by rw[ec]) rfl (by rw[ec];exact c) (by rw[ec];exact val) rfl (by rw[ec];exact wy) λnf2=>?_
    rw[ec];refine(ft.nxt (L:=f.a++f.d) (y:=e) (by show f.a++(f.d++[e])=_;rw[ah]) λz=>nf2 ?_).symm
    have z2:=dE.mp z;rcases aone with ⟨_,_,z3⟩|⟨x,ea,_⟩
    .exact ⟨f.tell e r,by rw[z3],z2.1⟩
    .have z3:f.a=[]:=z2.2;rw[ea]at z3;cases z3
   .have es:stp M ⟨f::fs,cl,cb,th⟩=⟨⟨plc M (-e),[-e],[],frm M (-e)⟩::f.tell e r::fs,cl,cb++[(plc M (-e), -e)],th++[("down", e)]⟩:=by
     unfold stp;simp only[q];rw[oB c]
    rw[es];refine .down (by rw[ec]) (by rw[ec]) (by rw[ec];exact c) (by rw[ec];exact val) ?_ (by rw[ec];exact wy) ?_
    .rw [ec];show ([-e]++(f.a++fs.flatMap (·.a))).reverse=(f.a++fs.flatMap (·.a)).reverse++[-e];rw[dg];rfl
    .rw [ec];exact((K7 hm (hm.hneg e eM)).nxt (L:=[]) (y:=-e) rfl (by simp)).symm
  |nil =>
   cases fs with
   |nil=>exact absurd ⟨f,rfl,q⟩ nf
   |cons g gs =>
    obtain⟨⟨x,d,ea,ed⟩,ch⟩:=h.ch;have ec:(⟨f::g::gs,cl,cb,th⟩:Sw).cur=x:=by show (f.r++f.a).headD 0=x;rw[q,ea];rfl
    have cx:x∈f.c:=by unfold Fm.c;rw[ea];simp
    obtain⟨xM,px⟩:=hf.mem hm cx;have xt:=h.ahead (au ..) (y:=x) (by rw[ea];simp) hm.hn
    have es:stp M ⟨f::g::gs,cl,cb,th⟩=⟨g::gs,f.p::cl,cb,th++[("up", x)]⟩:=by
     unfold stp;simp only[q,ea]
    rw[ec,es];refine⟨xM,xt,.up (by rw[ec]) rfl ?_ ?_ λnf2=>?_⟩
    .rw [ec,px];exact IJ h.kn (h.cv f (au ..) x ea)
    .rw [ec];show (f.a++(g::gs).flatMap (·.a)).reverse=((g::gs).flatMap (·.a)).reverse++[x];rw[ea,dg];rfl
    .rw [ec];refine((h.ok g (by simp)).nxt (L:=g.a++d) (y:=-x) (by rw[ed,ah]) λz=>nf2 ?_).symm
     have z2:=dE.mp z;cases gs with
     |nil=>exact⟨g,rfl,z2.1⟩
     |cons k ks =>
      obtain⟨⟨y,_,ey,_⟩,_⟩:=ch;exact absurd z2.2 (by rw[ey];simp)
theorem vw(hm:Mp M) (h0:0<M.length) (one:∀k,k<M.length->sG M 0 k):∀n,n<=M.flatten.length->(run M n).th.length=n
 |0,_=>rfl
 |n+1,h=>by
  have ih:=vw hm h0 one n (by lia)
  have w:=xv hm h0 n;have nf:¬ Fin (run M n):=λf=>by
   have:=(w.whole hm f one).1;lia
  have e:(run M (n+1)).th.length=(run M n).th.length+1:=by
   rcases (HM hm w nf).2.2 with ⟨a,_⟩|⟨a,_⟩|⟨a,_⟩
   all_goals
    show (stp M (run M n)).th.length=_;rw[a,lAq];rfl
  lia
theorem zZ(hm:Mp M) (h0:0<M.length) (one:∀k,k<M.length->sG M 0 k) {n:Nat}(h:n<M.flatten.length):(run M n).cur∈M.flatten/\(run M n).cur∉(run M n).th.map (·.2)/\Go M (run M n) (run M (n+1))/\¬ Fin (run M n):=by
 have w:=xv hm h0 n;have nf:¬ Fin (run M n):=λf=>by
  have:=(w.whole hm f one).1;have:=vw hm h0 one n (by lia)
  lia
 obtain⟨a,b,c⟩:=HM hm w nf;exact⟨a,b,c,nf⟩
theorem DI(hm:Mp M) (h0:0<M.length) (one:∀k,k<M.length->sG M 0 k):Fin (run M M.flatten.length):=fN λnf=>by
 have:=(xv hm h0 M.flatten.length).less nf;have:=vw hm h0 one M.flatten.length (ag _);lia
def KD(M:List (List Int)) (s:Sw) (e:Int) (v6:Option AV):AS:=[some (.sh (dM M)),some (.owd (oD 0 M)),some (.owd (K51.AL (K51.qE M))),some (.owd (Bv s)),some (.ow (s.th.map Aa)),some (.sh (.int e)),v6]
def XE(N:Nat):AS->Nat
 | [_,_,_,_,some (.ow ts),_,_]=>N-ts.length
 |_=>0
theorem Ou{p:Nat}(h:p∉s.ks) (v:Int):xf (Bv s) (.inl (p:Int)) (.int v)=Bv ⟨s.st,s.cl,s.cb++[(p,v)],s.th⟩:=by
 unfold xf;have:(Bv s).any (λkv=>decide (kv.1=(aG (p:Int):oy)))=false:=by
  rw[gP];intro q;refine h (decide_eq_true_iff.mp ?_);rw[←Iv s p];unfold Z.getD;rw[cc,dJ];obtain⟨x,h1,h2⟩:=dS.mp q;exact⟨x,h1,h2⟩
 rw[this,oB (by simp)]
 unfold Bv;rw[mBq];rfl
theorem Oi(hm:Mp M) {t:Sw}(hc:s.cur∈M.flatten) (g:Go M s t) (hl:s.th.length<=1000) (hk:s.cb.length<=1000) {v6:Option AV}:∃e v6',K51.uF (KD M s s.cur v6)=some (.nx (KD M t e v6'))/\(¬ Fin t->e=t.cur):=by
 have k1:Z.getD (oD 0 M) (.inl s.cur)=some (.int (plc M s.cur:Int)):=(Aj hm).kv hc;have k2:Z.getD (oD 0 M) (.inl (-s.cur))=some (.int (plc M (-s.cur):Int)):=(Aj hm).kv (hm.hneg _ hc);have n1:=yO hm.hn hc;have n2:=yO hm.hn (hm.hneg _ hc);have hs:=Iv s (plc M (-s.cur));have l1:(s.th.map Aa).length<qF:=by rw[lMq];show _<16777216;lia
 have l1':s.th.length<qF:=by show _<16777216;lia
 have l2:(Bv s).length<qF:=by
  show (s.cb.map _).length+1<16777216;rw[lMq];lia
 have ap:∀w:String,s.th.map Aa++[.sh (.tup [.str w,.int s.cur])]=(s.th++[(w,s.cur)]).map Aa:=λw=>by rw[mBq];rfl
 rcases g with ⟨a,b,c,_,d⟩|⟨a,b,c,⟨v,v1,v2⟩,_,_,d⟩|⟨a,b,c,⟨v,v1,v2⟩,_,_,d⟩
 .refine ⟨nx M (-s.cur),some (.sh (.int (plc M (-s.cur):Int))),?_,λnf=>(d nf).symm⟩
  have ed:Bv t=Bv s:=by unfold Bv;rw[b]
  have dq:decide (s.cur=s.cur)=true:=decide_eq_true rfl;have ap:=ap "up";unfold KD;rw[ed,a]
  simp_arith [K51.uF,k1,k2,c,dq,l1,l1',ap,n2]
 .refine ⟨nx M (-s.cur),some (.sh (.int (plc M (-s.cur):Int))),?_,λnf=>d.symm⟩
  rw[decide_eq_false c]at hs;have ed:=Ou c (-s.cur);have ed2:Bv t=Bv ⟨s.st,s.cl,s.cb++[(plc M (-s.cur), -s.cur)],s.th⟩:=by unfold Bv;rw[b]
  have ap:=ap "down";unfold KD;rw[ed2,a,←ed]
  simp_arith [K51.uF,k1,k2,v1,v2,hs,l1,l1',l2,ap,n2]
 .refine ⟨nx M s.cur,some (.sh (.int (plc M (-s.cur):Int))),?_,λnf=>(d nf).symm⟩
  rw[decide_eq_true c]at hs;have ed:Bv t=Bv s:=by unfold Bv;rw[b]
  have ap:=ap "side";unfold KD;rw[ed,a]
  simp_arith [K51.uF,k1,k2,v1,v2,hs,l1,l1',l2,ap,n1]
theorem LD(hm:Mp M) (h:Wi M s):s.cb.length<=M.length:=by
 have:=K51.Ts M.length s.ks h.kn λk hk=>by
  rcases mAq.mp ((h.ck k).mp hk) with z|z
  .obtain ⟨g,hg,rfl⟩:=mMq.mp z;exact(h.ok g hg).lt
  .exact h.lc k z
 unfold Sw.ks at this;rw[lCq,lMq]at this;lia
theorem Of(hm:Mp M) (h0:0<M.length) (one:∀k,k<M.length->sG M 0 k):K51.xj [dM M]=some (.ok (.ow ((run M M.flatten.length).th.map Aa))):=by
 obtain⟨kn,PS,hp,er⟩:=K51.Kc (Aj hm);rw[oz (K51.Jf hp h0 λa b ha hb=>((one a ha).symm (Aj hm)).trans (one b hb))]at er
 have hr:=qd h0;have a0:atI (M.map dI) 0=some (dI (M.getD 0 [])):=si (j:=0) (by rw[gMq,hr];rfl)
 have hl:=hm.hl;have hv:=hm.hr;cases q:M.getD 0 [] with
 |nil =>
  rw[q]at a0 hr;have only:∀k,sG M 0 k->k=0:=λk hk=>by
   induction hk with
   |base=>rfl
   |step _ a b ih =>
    rw[ih,hr]at a;cases a;cases b
  have l1:M.length=1:=by
   have:=only (M.length-1) (one _ (by lia))
   lia
  have em:M=[[]]:=by
   match M,l1,hr with
   | [r],_,hr=>simp at hr;rw[hr]
  have e0:(run M M.flatten.length).th=[]:=by rw[em];rfl
  rw[e0];have d0:decide (((0:Nat):Int)=0)=true:=rfl;have a1:atI (M.map dI) 0=some (.list []):=a0
  simp_arith [K51.xj,K51.Ee,er,dM,a1,d0]
 |cons e0 r0 =>
  rw[q]at a0;have a1:atI (D.int e0::r0.map D.int) 0=some (.int e0):=si (j:=0) rfl;have pa:=uo hm.hn (by lia)
  have nxo:=K51.Nf hm.hn hm.hl;have ln:(K51.AL (K51.qE M)).length=M.flatten.length:=by rw[K51.IB,K51.CW]
  have d0:decide (((r0.length+1:Nat):Int)=0)=false:=decide_eq_false (by lia)
  have c0:(run M 0).cur=e0:=by
   show (M.getD 0 []++[]).headD 0=e0;rw[q];rfl
  have key:=xH (c:=uE (oV Il (vO sm (nO (nH 4) oj)) (vO Am (nO (nH 2) oj)))) (body:=K51.uF) (λS=>∃i e v6,i<=M.flatten.length/\S=KD M (run M i) e v6/\(i<M.flatten.length->e=(run M i).cur)) (XE M.flatten.length) (λS=>∃e v6,S=KD M (run M M.flatten.length) e v6) (by
   rintro S ⟨i,e,v6,hi,rfl,he⟩;have li:=vw hm h0 one i hi;have w:=xv hm h0 i;have lk:=LD hm w;refine⟨decide (i<M.flatten.length),KD M (run M i) e v6,?_,λlt=>?_,λge=>?_⟩
   .have lm:((run M i).th.map Aa).length=i:=by rw[lMq,li]
    have dc:decide ((i:Int)<(M.flatten.length:Int))=decide (i<M.flatten.length):=decide_eq_decide.mpr (by lia)
    unfold KD
    simp_arith [li,ln,dc]
   .have lt:i<M.flatten.length:=of_decide_eq_true lt;obtain⟨g1,g2,g3,g4⟩:=zZ hm h0 one lt;obtain⟨e',v6',w1,w2⟩:=Oi hm g1 g3 (by lia) (by lia) (v6:=v6)
    rw[he lt];refine⟨_,w1,⟨i+1,e',v6',by lia,rfl,λh=>w2 (zZ hm h0 one h).2.2.2⟩,?_⟩
    have l2:=vw hm h0 one (i+1) (by lia)
    show M.flatten.length-((run M (i+1)).th.map Aa).length<M.flatten.length-((run M i).th.map Aa).length;rw[lMq,lMq,l2,li];lia
   .have:i=M.flatten.length:=by
     have:=of_decide_eq_false ge;lia
    subst this;exact⟨e,v6,rfl⟩) 100000 (KD M (run M 0) e0 none) ⟨0,e0,none,by lia,rfl,λ_=>c0.symm⟩ (by
   show M.flatten.length-_<100000;lia)
  obtain⟨S',ew,e,v6,rfl⟩:=key;unfold KD at ew;have t0:(run M 0).th.map Aa=[]:=rfl;have b0:Bv (run M 0)=[(.inl 0,.non)]:=rfl;rw[t0,b0]at ew
  simp_arith [K51.xj,K51.Ee,er,dM,a0,dI,a1,d0,pa,nxo,ew]
end
end K52
--ZQ3 --ZQ4 --ZQ5 --ZQ6 --ZQ8 --ZQ9
namespace K51
open PySem L2 Mr Z Xe Zl
end K51
--ZQ3 --ZQ4 --ZQ5 --ZQ6 --ZQ8 --ZQ9
namespace K51
open PySem L2 Mr Z Xe Zl
theorem z2:((2:Nat):Int)=2:=rfl
end K51
--ZQ3 --ZQ4 --ZQ5 --ZQ6 --ZQ8 --ZQ9
namespace K51
open PySem L2 Mr Z Xe Zl
end K51
--ZQ3 --ZQ4 --ZQ5 --ZQ6 --ZQ8 --ZQ9
namespace K51
open PySem L2 Mr Z Xe Zl
abbrev yp(x:String×Int):D:=.tup [.str x.1,.int x.2]
theorem C1(xs:List (String×Int)):tu [.list (xs.map yp)]=some (.sh (.bl true)):=by
 have key:=tX (x:=1) (body:=vG) (λi S=>∃v1,S=[some (.sh (.list (xs.map yp))),v1]) (ds:=xs.map yp) (S:=[some (.sh (.list (xs.map yp))),none]) ⟨none,rfl⟩ (by
  rintro i d S hd ⟨v1,rfl⟩;rw[gMq]at hd;obtain⟨x,hx,rfl⟩:=oMq.mp hd;have a0:atI [D.str x.1,D.int x.2] 0=some (.str x.1):=rfl;have a1:atI [D.str x.1,D.int x.2] 1=some (.int x.2):=rfl;have z:decide ((2:Int)=2)=true:=rfl;refine⟨_,?_,some (.sh (yp x)),rfl⟩
  simp_arith [vG,yf,BN,a0,a1,z2,z])
 obtain⟨S',e,v1,rfl⟩:=key
 simp_arith [tu,Aq,e]
theorem Pj:PyData.strOk (Str.ofString "down")=true:=by decide +kernel
theorem U1:PyData.strOk (Str.ofString "up")=true:=by decide +kernel
theorem N8:PyData.strOk (Str.ofString "side")=true:=by decide +kernel
end K51
--ZQ3 --ZQ4 --ZQ5 --ZQ6 --ZQ8 --ZQ9 --ZQB --ZQC --ZQD --ZQE --ZQF --ZQG
namespace K52
open PySem L2 Mr Z Xe Zl
open K15 (nx yO G1)
open K43 (Aj qd)
open K51 (sG Aa)
variable {M:List (List Int)}{s:Sw}
theorem Jk(hm:Mp M):uT [dM M]=some (.owd (K51.AL (K51.qE M))):=by
 have hn:=hm.hn;have hl:=hm.hl;have key:=tX (x:=2) (body:=vJ) (λi S=>∃v2 v3 v4,S=[some (.sh (dM M)),some (.owd (K51.AL (K51.qE (M.take i)))),v2,v3,v4]) (ds:=M.map dI) (S:=[some (.sh (dM M)),some (.owd []),none,none,none]) ⟨none,none,none,rfl⟩ (by
  rintro i d S hd ⟨v2,v3,v4,rfl⟩;obtain⟨r,hr,rfl⟩:=DP hd;have hrl:=hm.row hr;have k2:=LG (x:=3) (y:=4) (body:=vB) (k:=0) (λj S=>∃v3 v4,S=[some (.sh (dM M)),some (.owd (K51.AL (K51.qE (M.take i)++(K51.rm r).take j))),some (.sh (dI r)),v3,v4]) (ds:=r.map D.int) (S:=[some (.sh (dM M)),some (.owd (K51.AL (K51.qE (M.take i)))),some (.sh (dI r)),v3,v4]) ⟨v3,v4,by simp⟩ (by
   rintro j d S hd ⟨v3,v4,rfl⟩;rw[bY];have hj:j<r.length:=by
    have:=(gSq.mp hd).1
    rwa [lMq]at this
   rw[gMq,gEg hj]at hd;cases hd;have hz:r[j]?=some r[j]:=gEg hj;have hm2:(j+1) % r.length<r.length:=hZ _ (by lia)
   have hy:(K51.rot r)[j]?=some r[(j+1) % r.length]:=by rw[G1 hj];exact gEg hm2
   have h3:=K51.Dn (j:=j) hl hr;have hput:=K51.EL hn hr hz hy;have md:=rA (i:=(j:Int)+1) (j:=(r.length:Int)) (by lia)
   have em:((j:Int)+1) % (r.length:Int)=(((j+1) % r.length:Nat):Int):=by push_cast;rfl
   rw[em]at md;have a2:atI (r.map D.int) (((j+1) % r.length:Nat):Int)=some (.int r[(j+1) % r.length]):=si (by rw[gMq,gEg hm2];rfl)
   refine⟨_,?_,some (.sh (.int (j:Int))),some (.sh (.int r[j])),rfl⟩
   simp_arith [vB,dI,md,a2,h3,hput])
  obtain⟨S2,e2,w3,w4,rfl⟩:=k2;rw[bY,lMq,←K51.xS,aZ]at e2;refine⟨_,?_,some (.sh (dI r)),w3,w4,rfl⟩;rw[tH hr,K51.BK]
  simp_arith [vJ,dI,e2])
 obtain⟨S',e,v2,v3,v4,rfl⟩:=key;rw[lMq,aZ]at e
 simp_arith [uT,Ax,e]
def Gg(ks:List Int):List (oy×D):=ks.map λz=>((aG z:oy),D.bl true)
theorem Iw(ks:List Int) (t:Int):(Z.getD (Gg ks) (.inl t)).isSome=decide (t∈ks):=by
 unfold Z.getD Gg;rw[cc,bR,dJ,decide_eq_true_iff];constructor
 .rintro ⟨q,hq,h⟩;obtain⟨c,hc,rfl⟩:=mMq.mp hq;have:c=t:=aG.inj (of_decide_eq_true h:(aG c:oy) = .inl t);exact this ▸ hc
 .exact λh=>⟨_,mMq.mpr ⟨t,h,rfl⟩,decide_eq_true rfl⟩
theorem IH{ks:List Int}{t:Int}(h:t∉ks):xf (Gg ks) (.inl t) (.bl true)=Gg (ks++[t]):=by
 unfold xf;have:(Gg ks).any (λkv=>decide (kv.1=(aG t:oy)))=false:=by
  rw[gP];intro q;obtain⟨x,h1,h2⟩:=dS.mp q;obtain⟨c,hc,rfl⟩:=mMq.mp h1;have:c=t:=aG.inj (of_decide_eq_true h2:(aG c:oy) = .inl t);exact h (this ▸ hc)
 rw[this,oB (by simp)]
 unfold Gg;rw[mBq];rfl
def AH(M:List (List Int)) (T:List (String×Int)) (s:Sw) (e:Int) (v8 v9 v10:Option AV):AS:=[some (.sh (dM M)),some (.sh (.list (T.map K51.yp))),some (.owd (oD 0 M)),some (.owd (K51.AL (K51.qE M))),some (.owd (Gg (s.ks.map λk:Nat=>(k:Int)))),some (aI s.way),some (.owd (Gg (s.th.map (·.2)))),some (.sh (.int e)),v8,v9,v10]
theorem O9(hm:Mp M) {t:Sw}{T:List (String×Int)}(hc:s.cur∈M.flatten) (hn:s.cur∉s.th.map (·.2)) (g:Go M s t) (hl:s.th.length<=1000) (hk:s.cb.length<=1000) (hw:s.way.length<=1000) {w:String}(hq:t.th=s.th++[(w,s.cur)]) {v9 v10:Option AV}:∃e v9' v10',oZ (AH M T s s.cur (some (.sh (.tup [.str w,.int s.cur]))) v9 v10)=some (.nx (AH M T t e (some (.sh (.tup [.str w,.int s.cur]))) v9' v10'))/\(¬ Fin t->e=t.cur):=by
 have k1:Z.getD (oD 0 M) (.inl s.cur)=some (.int (plc M s.cur:Int)):=(Aj hm).kv hc;have k2:Z.getD (oD 0 M) (.inl (-s.cur))=some (.int (plc M (-s.cur):Int)):=(Aj hm).kv (hm.hneg _ hc);have n1:=yO hm.hn hc;have n2:=yO hm.hn (hm.hneg _ hc);have h1:=Iw (s.th.map (·.2)) s.cur;rw[decide_eq_false hn]at h1;have p1:=IH hn;have l1:(Gg (s.th.map (·.2))).length<qF:=by unfold Gg;rw[lMq,lMq];show _<16777216;lia
 have l2:(Gg (s.ks.map λk:Nat=>(k:Int))).length<qF:=by
  unfold Gg Sw.ks;rw[lMq,lMq,lCq,lMq];show _<16777216;lia
 have l3:s.way.length<qF:=by show _<16777216;lia
 have dq:decide (s.cur=s.cur)=true:=decide_eq_true rfl;have et:t.th.map (·.2)=s.th.map (·.2)++[s.cur]:=by rw[hq,mBq];rfl
 have inK:∀k:Nat,((k:Int)∈s.ks.map λk:Nat=>(k:Int))↔k∈s.ks:=λk=>by
  constructor
  .intro h;obtain⟨j,hj,e⟩:=mMq.mp h;have:j=k:=by lia
   exact this ▸ hj
  .exact λh=>mMq.mpr ⟨k,h,rfl⟩
 have h2:=Iw (s.ks.map λk:Nat=>(k:Int)) (plc M (-s.cur):Int)
 have ww:∀{a b:String},s.th++[(a,s.cur)]=s.th++[(b,s.cur)]->a=b:=λh=>by
  have:=List.append_cancel_left h;simpa using this
 have i1:∀w:Str,Hj (.tup [.str w,.int s.cur]) (.int 1)=some (.int s.cur):=λw=>rfl
 have i0:∀w:Str,Hj (.tup [.str w,.int s.cur]) (.int 0)=some (.str w):=λw=>rfl
 have dw:∀w:Str,decide (w=w)=true:=λw=>decide_eq_true rfl
 have t0:wL (.list [])=some false:=rfl;have t1:∀(u:List Int) (y:Int),wL (.list ((u++[y]).map D.int))=some true:=λu y=>by cases u <;> rfl
 have top:∀w y,s.way=w++[y]->atI (s.way.map D.int) (-1)=some (.int y):=λw y e=>by
  rw[e,mBq];exact B1 _ _
 rcases g with ⟨a,b,c,c2,d⟩|⟨a,b,c,_,c2,c3,d⟩|⟨a,b,c,_,c2,c3,d⟩
 .have ew:=ww (hq.symm.trans a);subst ew;refine⟨nx M (-s.cur),some (.sh (.int s.cur)),some (.sh (.str "up")),?_,λnf=>(d nf).symm⟩
  have ek:t.ks=s.ks:=by unfold Sw.ks;rw[b]
  have tp:=top _ _ c2;unfold AH;rw[ek,et,←p1];rw[c2]at tp ⊢;have la:((t.way++[s.cur]).map λn=>AV.sh (.int n))[(t.way++[s.cur]).length-1]?=some (.sh (.int s.cur)):=by rw[lAq,lSq,eD,mBq,gYq (by rw[lMq];exact ag _),lMq,bP];rfl
  have ld:((t.way++[s.cur]).map λn=>AV.sh (.int n)).dropLast=t.way.map λn=>.sh (.int n):=by rw[mBq];exact de
  simp_arith [oZ,cU,i0,i1,dw,k1,k2,n1,n2,h1,l1,dq,t1,tp,la,ld]
 .have ew:=ww (hq.symm.trans a);subst ew;refine⟨nx M (-s.cur),some (.sh (.int s.cur)),some (.sh (.str "down")),?_,λnf=>d.symm⟩
  have ek:t.ks=s.ks++[plc M (-s.cur)]:=by unfold Sw.ks;rw[b,mBq];rfl
  have nk:(plc M (-s.cur):Int)∉s.ks.map λk:Nat=>(k:Int):=λh=>c ((inK _).mp h)
  rw[decide_eq_false nk]at h2;have p2:=IH nk;have ek2:t.ks.map (λk:Nat=>(k:Int))=s.ks.map (λk:Nat=>(k:Int))++[(plc M (-s.cur):Int)]:=by rw[ek,mBq];rfl
  have tw:s.way.map (λn=>AV.sh (.int n))++[.sh (.int (-s.cur))]=(s.way++[-s.cur]).map λn=>.sh (.int n):=by rw[mBq];rfl
  unfold AH;rw[ek2,et,←p1,←p2,c2];rcases cF s.way with z|⟨u,y,z⟩
  .rw [z]at tw ⊢;have lz:0<qF:=by show 0<16777216;decide
   simp_arith [oZ,cU,i0,i1,dw,k1,k2,n1,n2,h1,h2,l1,l2,lz,dq,t0,tw]
   rfl
  .rw [cG]at z;have ny:decide (y=s.cur)=false:=decide_eq_false (c3 u y z);have tp:=top _ _ z;have tr:wL (.list (s.way.map D.int))=some true:=by rw[z];exact t1 u y
   simp_arith [oZ,cU,i0,i1,dw,k1,k2,n1,n2,h1,h2,l1,l2,l3,dq,tp,ny,tr,tw]
 .have ew:=ww (hq.symm.trans a);subst ew;refine⟨nx M s.cur,some (.sh (.int s.cur)),some (.sh (.str "side")),?_,λnf=>(d nf).symm⟩
  have ek:t.ks=s.ks:=by unfold Sw.ks;rw[b]
  have nk:(plc M (-s.cur):Int)∈s.ks.map λk:Nat=>(k:Int):=(inK _).mpr c
  rw[decide_eq_true nk]at h2;unfold AH;rw[ek,et,←p1,c2];rcases cF s.way with z|⟨u,y,z⟩
  .rw [z]
   simp_arith [oZ,cU,i0,i1,dw,k1,k2,n1,n2,h1,h2,l1,dq,t0]
  .rw [cG]at z;have ny:decide (y=s.cur)=false:=decide_eq_false (c3 u y z);have tp:=top _ _ z;have tr:wL (.list (s.way.map D.int))=some true:=by rw[z];exact t1 u y
   simp_arith [oZ,cU,i0,i1,dw,k1,k2,n1,n2,h1,h2,l1,dq,tp,ny,tr]
theorem Go.one{t:Sw}(g:Go M s t):∃w,t.th=s.th++[(w,s.cur)]:=by
 rcases g with ⟨a,_⟩|⟨a,_⟩|⟨a,_⟩ <;> exact⟨_,a⟩
theorem FG(hm:Mp M) (h0:0<M.length) (one:∀k,k<M.length->sG M 0 k):∀{j:Nat},j<=M.flatten.length->∀{i:Nat},i<=j->(run M j).th.take i=(run M i).th
 |0,_,i,hi=>by
  have:i=0:=by lia
  subst this;rfl
 |j+1,hj,i,hi=>by
  by_cases c:i=j+1
  .subst c;exact cj (by rw[vw hm h0 one _ hj];exact ag _)
  .obtain ⟨w,e⟩:=(zZ hm h0 one (show j<M.flatten.length by lia)).2.2.1.one
   rw[e,List.take_append_of_le_length (by rw[vw hm h0 one j (by lia)];lia)]
   exact FG hm h0 one (by lia) (by lia)
theorem OG(h:Wi M s):s.way.length<=s.cb.length:=by
 have key:∀st:List Fm,Ta st->(st.flatMap (·.a)).length+1<=(st.map (·.p)).length:=λst=>by
  induction st with
  |nil=>intro h;exact h.elim
  |cons f fs ih =>
   intro h;cases fs with
   |nil =>
    show (f.a++[]).length+1<=1;rw[h.1];exact ag _
   |cons g gs =>
    obtain⟨⟨x,d,ea,_⟩,ch⟩:=h;have:=ih ch;show (f.a++(g::gs).flatMap (·.a)).length+1<=((g::gs).map (·.p)).length+1;rw[ea,lAq,lSq];lia
 have k1:=key s.st h.ch;have pmk:(s.st.map (·.p)++s.cl).Perm s.ks:=(bF h.nd h.kn).mpr λk=>(h.ck k).symm
 have l1:=pmk.length_eq;have l2:s.ks.length=s.cb.length+1:=by unfold Sw.ks;rw[lCq,lMq]
 rw[lAq]at l1;unfold Sw.way;rw[gF];lia
theorem NY:∀(k:Nat) (rs:List (List Int)),(oD k rs).length=rs.flatten.length
 |_,[]=>rfl
 |k,r::rs=>by
  show (sO k r++oD (k+1) rs).length=_;rw[lAq,NY,fCq,lAq];unfold sO;rw[lMq]
theorem FP(hm:Mp M) (h0:0<M.length) (one:∀k,k<M.length->sG M 0 k):qP [dM M,.list ((run M M.flatten.length).th.map K51.yp)]=some (.sh (.bl true)):=by
 have hl:=hm.hl;have hv:=hm.hr;have pa:=uo hm.hn (by lia)
 have fo:=Jk hm;have hr:=qd h0;have a0:atI (M.map dI) 0=some (dI (M.getD 0 [])):=si (j:=0) (by rw[gMq,hr];rfl)
 have wn:=xv hm h0 M.flatten.length;obtain⟨w1,w2,w3⟩:=wn.whole hm (DI hm h0 one) one;have way0:(run M M.flatten.length).way=[]:=by
  obtain⟨f,e,_⟩:=DI hm h0 one;have:=wn.ch;rw[e]at this;unfold Sw.way;rw[e];show (f.a++[]).reverse=[];rw[this.1];rfl
 have key:∀e0:Int,(0<M.flatten.length->e0=(run M 0).cur)->∃e v8 v9 v10,rQ 8 oZ ((run M M.flatten.length).th.map K51.yp) (AH M (run M M.flatten.length).th (run M 0) e0 none none none)=some (.nx (AH M (run M M.flatten.length).th (run M M.flatten.length) e v8 v9 v10)):=λe0 he0=>by
  have key:=tX (x:=8) (body:=oZ) (λi S=>∃e v8 v9 v10,S=AH M (run M M.flatten.length).th (run M i) e v8 v9 v10/\(i<M.flatten.length->e=(run M i).cur)) (ds:=(run M M.flatten.length).th.map K51.yp) (S:=AH M (run M M.flatten.length).th (run M 0) e0 none none none) ⟨e0,none,none,none,rfl,he0⟩ (by
   rintro i d S hd ⟨e,v8,v9,v10,rfl,he⟩;have hi:i<M.flatten.length:=by
    have:=(gSq.mp hd).1
    rwa [lMq,w1]at this
   obtain⟨g1,g2,g3,g4⟩:=zZ hm h0 one hi;obtain⟨w,ew⟩:=g3.one;have li:=vw hm h0 one i (by lia)
   have w':=xv hm h0 i;have lk:=LD hm w';have lw:=OG w';have ti:(run M M.flatten.length).th[i]?=some (w,(run M i).cur):=by
    have t1:=FG hm h0 one (ag M.flatten.length) (show i+1<=M.flatten.length by lia)
    have:((run M M.flatten.length).th.take (i+1))[i]?=some (w,(run M i).cur):=by
     rw[t1,ew,gYq (by lia),li,bP]
     rfl
    rwa [df (by lia)]at this
   rw[gMq,ti]at hd;cases hd;rw[he hi];obtain⟨e',v9',v10',q1,q2⟩:=O9 hm (T:=(run M M.flatten.length).th) g1 g2 g3 (by lia) (by lia) (by lia) ew (v9:=v9) (v10:=v10)
   exact⟨_,q1,e',_,v9',v10',rfl,λh=>q2 (zZ hm h0 one h).2.2.2⟩)
  obtain⟨S',e,e',v8,v9,v10,rfl,_⟩:=key;rw[lMq,w1]at e;exact⟨e',v8,v9,v10,e⟩
 have lT:(Gg ((run M M.flatten.length).th.map (·.2))).length=M.flatten.length:=by unfold Gg;rw[lMq,lMq,w1]
 have lC:(Gg ((run M M.flatten.length).ks.map λk:Nat=>(k:Int))).length=M.length:=by unfold Gg;rw[lMq,lMq,w2]
 have lP:(oD 0 M).length=M.flatten.length:=NY 0 M;have dn:decide (((M.flatten.length:Nat):Int)=((M.flatten.length:Nat):Int))=true:=decide_eq_true rfl;have dm:decide (((M.length:Nat):Int)=((M.length:Nat):Int))=true:=decide_eq_true rfl;have t0:wL (.list [])=some false:=rfl;have e00:∀(T:List (String×Int)) (e:Int),AH M T (run M 0) e none none none=[some (.sh (.list (M.map dI))),some (.sh (.list (T.map K51.yp))),some (.owd (oD 0 M)),some (.owd (K51.AL (K51.qE M))),some (.owd [(.inl 0,.bl true)]),some (.ow []),some (.owd []),some (.sh (.int e)),none,none,none]:=λT e=>rfl
 cases q:M.getD 0 [] with
 |nil =>
  rw[q]at a0 hr;have n0:M.flatten.length=0:=by
   have only:∀k,sG M 0 k->k=0:=λk hk=>by
    induction hk with
    |base=>rfl
    |step _ a b ih =>
     rw[ih,hr]at a;cases a;cases b
   have l1:M.length=1:=by
    have:=only (M.length-1) (one _ (by lia))
    lia
   match M,l1,hr with
   | [r],_,hr=>simp at hr;rw[hr];rfl
  obtain⟨e,v8,v9,v10,el⟩:=key 0 (λh=>by lia)
  have a1:atI (M.map dI) 0=some (.list []):=a0;rw[e00]at el;unfold AH at el;rw[way0]at el
  simp_arith [qP,vH,pa,fo,dM,a1,t0,el,lT,lC,lP,dn,dm,NT]
 |cons z0 r0 =>
  rw[q]at a0;have a1:atI (D.int z0::r0.map D.int) 0=some (.int z0):=si (j:=0) rfl;have t1:wL (.list (D.int z0::r0.map D.int))=some true:=rfl;obtain⟨e,v8,v9,v10,el⟩:=key z0 (λ_=>by show z0=(M.getD 0 []++[]).headD 0;rw[q];rfl)
  rw[e00]at el;unfold AH at el;rw[way0]at el
  simp_arith [qP,vH,pa,fo,dM,a0,dI,a1,t1,t0,el,lT,lC,lP,dn,dm,NT]
end K52
namespace K41
open PySem L2 Mr Z
end K41
namespace K44
open PySem L2 Mr Z
end K44
namespace K46
open PySem L2 Mr Z
end K46
namespace K45
open PySem L2 Mr Z
end K45
--ZQ3 --ZQ4 --ZQ5 --ZQ6 --ZQ8 --ZQ9 --ZQB --ZQC --ZQD --ZQE --ZQF --ZQG
namespace K41
open PySem L2 Mr Z Xe Zl
def thn(g t:List Int):List Int:=t.filter λe=>!decide (e∈g)
def WI(g:List Int) (M:List (List Int)):List (List Int):=M.map (thn g)
variable {M:List (List Int)}
end K41
--ZQ3 --ZQ4 --ZQ5 --ZQ6 --ZQ8 --ZQ9 --ZQB --ZQC --ZQD --ZQE --ZQF --ZQG
namespace K41
open PySem L2 Mr Z Xe Zl
open K51 (sG Pc)
def ab(i:Int):Int:=if i<0 then -i else i
variable {M:List (List Int)}{p:Nat}{r:List Int}
end K41
--ZQ3 --ZQ4 --ZQ5 --ZQ6 --ZQ8 --ZQ9 --ZQB --ZQC --ZQD --ZQE --ZQF --ZQG
namespace K41
open PySem L2 Mr Z Xe Zl K31
variable {M:List (List Int)}{p:Nat}{r:List Int}
def X7(n:Nat) (g:Nat->List (List Int)):List Int:=((aN n).filter λk=>decide (2<=(g k).length)).map λk:Nat=>(k:Int)
end K41
--ZQ3 --ZQ4 --ZQ5 --ZQ6 --ZQ8 --ZQ9 --ZQB --ZQC --ZQD --ZQE --ZQF --ZQG
namespace K41
open PySem L2 Mr Z Xe Zl K31
end K41
--ZQ3 --ZQ4 --ZQ5 --ZQ6 --ZQ8 --ZQ9 --ZQB --ZQC --ZQD --ZQE --ZQF --ZQG
namespace K45
open PySem L2 Mr Z Xe Zl K31
end K45
--ZQ3 --ZQ4 --ZQ5 --ZQ6 --ZQ8 --ZQ9 --ZQB --ZQC --ZQD --ZQE --ZQF --ZQG
namespace K45
open PySem L2 Mr Z Xe Zl K31 K41
end K45
--ZQ3 --ZQ4 --ZQ5 --ZQ6 --ZQ8 --ZQ9 --ZQB --ZQC --ZQD --ZQE --ZQF --ZQG
namespace K45
open PySem L2 Mr Z Xe Zl K31 K41
end K45
--ZQ3 --ZQ4 --ZQ5 --ZQ6 --ZQ8 --ZQ9 --ZQB --ZQC --ZQD --ZQE --ZQF --ZQG
namespace K45
open PySem L2 Mr Z Xe Zl K31 K41
open K51 (sG Pc)
end K45
--ZQ3 --ZQ4 --ZQ5 --ZQ6 --ZQ8 --ZQ9 --ZQB --ZQC --ZQD --ZQE --ZQF --ZQG
namespace K45
open PySem L2 Mr Z Xe Zl K31 K41
open K51 (sG Pc)
def gr(r:List Int):List Int:=(r.map ab)++(r.map ab).map λz=>-z
def VA(M:List (List Int)) (z:Int) (a:Nat):Prop:=∃e row,M[a]?=some row/\e∈row/\ab e=z
variable {M:List (List Int)}{p:Nat}{r:List Int}
def Lk(M:List (List Int)) (r:List Int) (p:Nat) (z z':Int):Prop:=∃a b,a≠p/\b≠p/\VA M z a/\VA M z' b/\sG (WI (gr r) M) a b
end K45
--ZQ3 --ZQ4 --ZQ5 --ZQ6 --ZQ8 --ZQ9 --ZQB --ZQC --ZQD --ZQE --ZQF --ZQG
namespace K45
open PySem L2 Mr Z Xe Zl K31 K41
open K51 (sG Pc)
structure WX (E:Int->Int->Prop) (U:List Int) (X:List (List Int)):Prop where
 so:∀x∈X,rS x=x
 ne:∀x∈X,x≠[]
 fl:X.flatten.Perm U
 eq:∀x∈X,∀z∈x,∀z'∈x,E z z'
 on:∀x∈X,∀y∈X,∀z∈x,∀z'∈y,E z z'->x=y
variable {M:List (List Int)}{p:Nat}{r:List Int}
end K45
namespace K46
open PySem L2 Mr Z Xe Zl
open K15 (nx fw)
open K16 (LR)
open K18 (cp PC Ln nL)
open K41 (ab WI thn)
open K45 (gr VA Lk WX)
open K51 (sG Ps)
variable {M:List (List Int)}{p:Nat}{r:List Int}
end K46
namespace K18
open PySem L2 Mr Z
end K18
--ZQ3 --ZQ4 --ZQ5 --ZQ6 --ZQ8 --ZQ9 --ZQB --ZQC --ZQD --ZQE --ZQF --ZQG
namespace K18
open PySem L2 Mr Z Xe Zl
open K12 (cN aP zQ DL HR)
end K18
--ZQ3 --ZQ4 --ZQ5 --ZQ6 --ZQ8 --ZQ9 --ZQB --ZQC --ZQD --ZQE --ZQF --ZQG
namespace K18
open PySem L2 Mr Z Xe Zl
open K12 (cN aP Ur vv Nm)
open K11 (B0 Cn)
def Wl(last:List (List Int)):Nat->List Nat->Prop
 |_,[]=>True
 |h,p::rest=>(p<h/\∃e p0 n0,last[p]?=some (p0++[e])/\last[h]?=some (-e::n0))/\Wl last p rest
end K18
--ZQ3 --ZQ4 --ZQ5 --ZQ6 --ZQ8 --ZQ9 --ZQB --ZQC --ZQD --ZQE --ZQF --ZQG
namespace K44
open PySem L2 Mr Z Xe Zl
open K18 (Wl Ln nL AW)
open K31 (Wd N0 Uv sg Wq AG w0)
end K44
--ZQ3 --ZQ4 --ZQ5 --ZQ6 --ZQ8 --ZQ9 --ZQB --ZQC --ZQD --ZQE --ZQF
namespace K19
open PySem L2 Mr Z Xe Zl K15 K16
end K19
--ZQ3 --ZQ4 --ZQ5 --ZQ6 --ZQ8 --ZQ9 --ZQB --ZQC --ZQD --ZQE --ZQF
namespace K19
open PySem L2 Mr Z Xe Zl K15 K16
end K19
--ZQ3 --ZQ4 --ZQ5 --ZQ6 --ZQ8 --ZQ9 --ZQB --ZQC --ZQD --ZQE --ZQF --ZQG
namespace K17
open PySem L2 Mr Z Xe Zl
open K15 (nx fw)
open K25 (Rt)
open K43 (Aj rds)
open K51 (sG Ps Pc)
section
variable {M N:List (List Int)}{S:Int->Prop}
theorem Ry{q:List (List Int)}(cn:K11.Cn q) (hneg:∀x,S x->S (-x)) (hrow:∀r∈q,∀x∈r,∀y∈r,S x->S y) {x:Int}(hx:x∈q.flatten) (h:S x):∀y∈q.flatten,S y:=by
 have up:∀k,k<q.length->∀x∈q.getD k [],S x->∀y∈q.getD 0 [],S y:=by
  intro k
  induction k using hV with
  |_ k ih =>
   intro hk x hx h y hy
   by_cases c:0<k
   .obtain ⟨j,e,h1,h2,h3⟩:=cn.tr k c hk;have s:=hneg _ (hrow _ (K11.getD_mem hx) x hx _ h3 h);rw[gm]at s;exact ih j h1 (by lia) e h2 s y hy
   .have:k=0:=by lia
    subst this;exact hrow _ (K11.getD_mem hx) x hx y hy h
 obtain⟨r,hr,hxr⟩:=mFq.mp hx;obtain⟨i,hi⟩:=bb.mp hr;have hD:∀{i:Nat}{r:List Int},q[i]?=some r->q.getD i []=r:=λh=>by rw[gDq,h];rfl
 have h0:=up i (gSq.mp hi).1 x (by rw[hD hi];exact hxr) h
 have down:∀k,k<q.length->∀y∈q.getD k [],S y:=by
  intro k
  induction k using hV with
  |_ k ih =>
   intro hk y hy
   by_cases c:0<k
   .obtain ⟨j,e,h1,h2,h3⟩:=cn.tr k c hk;exact hrow _ (K11.getD_mem hy) _ h3 y hy (hneg e (ih j h1 (by lia) e h2))
   .have:k=0:=by lia
    subst this;exact h0 y hy
 intro y hy;obtain⟨t,ht,hyt⟩:=mFq.mp hy;obtain⟨j,hj⟩:=bb.mp ht;exact down j (gSq.mp hj).1 y (by rw[hD hj];exact hyt)
theorem GR:∀rs:List (List Int),(rs.map qZ).count []=rs.count []
 | []=>rfl
 | []::rs=>by rw[aC,L8,gC,gC,GR rs]
 | (x::r)::rs=>by
  have hg:qZ (x::r)≠[]:=λq=>by
   have:=congrArg bL q;rw[Fi]at this;cases this
  rw[aC,gn hg,gn (by simp),GR rs]
theorem Eb{P:List (List (List Int))}(hn:P.flatten.flatten.Nodup) (cn:∀p∈P,K11.Cn p) (hm:Mp (zK (P.flatten.map qZ))) {kn:List Nat}{PS:List (List Nat)}(hp:Ps (zK (P.flatten.map qZ)) (zK (P.flatten.map qZ)).length kn PS):PS.length=P.length:=by
 have pm:=K12.Ap hp;have fl:(zK (P.flatten.map qZ)).flatten.Perm P.flatten.flatten:=(wB (tV _)).trans (rO uH _);have pnd:∀p∈P,p.flatten.Nodup:=λp h=>by
  rw[gB]at hn;exact hn.sublist (bq (mMq.mpr ⟨p,h,rfl⟩))
 have bB:Bp P:=⟨hn,λp h=>(cn p h).ne,λp h hb=>K11.JF (cn p h) hb (pnd p h)⟩
 have rowM:∀r∈zK (P.flatten.map qZ),∃p∈P,∃t∈p,∀x,x∈r↔x∈t:=λr hr=>by
  obtain⟨t,ht,rfl⟩:=mMq.mp ((tV _).mem_iff.mp hr);obtain⟨p,h1,h2⟩:=mFq.mp ht;exact⟨p,h1,t,h2,λx=>(uH t).mem_iff⟩
 have:=JL (RO (Aj hm) hp) bB (λx=>(C8 pm).mem_iff.trans fl.mem_iff) (λp h q hq x hx hx' y=>by
  obtain⟨ps,hps,rfl⟩:=mMq.mp h;obtain⟨s,_,pc⟩:=hp.pc ps hps;refine⟨TZ (S:=(· ∈ q.flatten)) (Aj hm) pc (λz hz=>(cn q hq).clo z hz) (λr hr a ha b hb h=>?_) hx hx' y,Ry (S:=(· ∈ (ps.map λk=>(zK (P.flatten.map qZ)).getD k []).flatten)) (cn q hq) (λz hz=>O8 (Aj hm) pc hz) (λr hr a ha b hb h=>?_) hx' hx y⟩
  .obtain ⟨p',hp',t,ht,qq⟩:=rowM r hr;have:=K11.Fq hn hp' hq (mFq.mpr ⟨t,ht,(qq a).mp ha⟩) h;subst this;exact mFq.mpr ⟨t,ht,(qq b).mp hb⟩
  .exact O7 (Aj hm) pc (r:=qZ r) ((tV _).mem_iff.mpr (mMq.mpr ⟨r,mFq.mpr ⟨q,hq,hr⟩,rfl⟩)) ((uH r).mem_iff.mpr ha) ((uH r).mem_iff.mpr hb) h) (by rw[pm.count_eq,(tV _).count_eq,GR])
 rwa [lMq]at this
end
end K17
--ZQ3 --ZQ4 --ZQ5 --ZQ6 --ZQ8 --ZQ9 --ZQB --ZQC --ZQD --ZQE --ZQF --ZQG
namespace K17
open PySem L2 Mr Z Xe Zl
open K43 (Aj rds)
open K51 (sG Ps Pc)
end K17
--ZQ3 --ZQ4 --ZQ5 --ZQ6 --ZQ8 --ZQ9 --ZQB --ZQC --ZQD --ZQE --ZQF --ZQG
namespace K44
open PySem L2 Mr Z Xe Zl
open K15 (nx fw yO Rd)
open K16 (U3)
open K18 (Ln nL)
open K43 (TH)
open K51 (sG Ps Pc)
def Wg(L:List (List Int)):List (Int×Int):=L.flatMap λl=>l.map λx=>(x,l.headD 0)
end K44
--ZQ3 --ZQ4 --ZQ5 --ZQ6 --ZQ8 --ZQ9 --ZQB --ZQC --ZQD --ZQE --ZQF --ZQG
namespace K44
open PySem L2 Mr Z Xe Zl
open K15 (Rd kI)
open K16 (U3 pm)
open K18 (Ln nL)
def fl(P:List (Int×Int)) (x:Int):Int:=match Z.getD (U3 P) (.inl x) with
 |some (.int y)=>y
 |_=>0
structure Mt (T:List (List Int)):Prop where
 nd:T.flatten.Nodup
 ng:∀z∈T.flatten, -z∈T.flatten
 nz:∀z∈T.flatten,z≠0
 le:T.flatten.length<=60
 lt:T.length<=64
def Pn(T:List (List Int)):Prop:=K11.Cn T/\∃LL u,Ln T LL/\nL T LL+T.length=u+2/\T.flatten.length=2*u
end K44
--ZQ3 --ZQ4 --ZQ5 --ZQ6 --ZQ8 --ZQ9 --ZQB --ZQC --ZQD --ZQE --ZQF --ZQG
namespace K43
open PySem L2 Mr Z Xe Zl K31
open K51 (sG Ps Pc)
end K43
--ZQ3 --ZQ4 --ZQ5 --ZQ6 --ZQ8 --ZQ9 --ZQB --ZQC --ZQD --ZQE --ZQF --ZQG
namespace K44
open PySem L2 Mr Z Xe Zl
open K15 (fw)
open K16 (U3)
open K18 (Ln nL)
open K31 (AG Nm Wm Xh)
open K43 (TH rds)
open K51 (Ps)
end K44
--ZQ3 --ZQ4 --ZQ5 --ZQ6 --ZQ8 --ZQ9 --ZQB --ZQC --ZQD --ZQE --ZQF --ZQG
namespace K46
open PySem L2 Mr Z Xe Zl
open K15 (nx fw)
open K16 (U3)
open K18 (Ln nL PC)
open K31 (Nm Xh)
open K41 (ab X7)
open K44 (Wg fl Mt Pn)
open K45 (Lk WX)
open K51 (sG Ps)
section
variable {M L:List (List Int)}
theorem Ru{x:AV}{ds:List D}(h:nU x = .list ds):UZ x=some ds:=by
 cases x with
 |sh d =>
  rw[pH]at h;subst h;rfl
 |ow avs =>
  rw[qT]at h;rw[Ml];exact congrArg some (D.list.inj h)
 |owd kvs=>rw[yk]at h;cases h
 |owl kvs=>cases h
theorem JN(x:AV):nU (Vu x)=nU x:=by
 cases x with
 |ow avs =>
  rw[M3,qT,qT,mPq];exact congrArg D.list (List.map_id' (avs.map nU))
 |_=>rfl
end
end K46
--ZQ3 --ZQ4 --ZQ5 --ZQ6 --ZQ8 --ZQ9 --ZQB --ZQC --ZQD --ZQE --ZQF --ZQG
namespace K52
open PySem L2 Mr Z Xe Zl
open K43 (Aj qd tF)
open K51 (sG)
section
variable {M:List (List Int)}{g:Nat->Int}
structure Sj (M:List (List Int)) (E:List Int) (g:Nat->Int):Prop where
 snd:∀a b,g a=g b->sG M a b
 cmp:∀e∈E,g (plc M e)=g (plc M (-e))
def JH(g:Nat->Int) (o1 o2:Int) (k:Nat):Int:=if g k=o2 then o1 else g k
theorem Sj.step(hm:Mp M) {E:List Int}(h:Sj M E g) {e:Int}(he:e∈M.flatten):Sj M (E++[e]) (JH g (g (plc M e)) (g (plc M (-e)))):=by
 have er:sG M (plc M e) (plc M (-e)):=by
  obtain⟨r,h1,h2⟩:=hm.at he;exact .step .base h1 h2
 have one:∀a b,g a=g (plc M (-e))->g (plc M e)=g b->sG M a b:=λa b h1 h2=>(h.snd _ _ h1).trans ((er.symm (Aj hm)).trans (h.snd _ _ h2))
 refine⟨λa b q=>?_,λx hx=>?_⟩
 .unfold JH at q
  by_cases c:g a=g (plc M (-e)) <;> by_cases d:g b=g (plc M (-e))
  .exact h.snd a b (c.trans d.symm)
  .rw [oz c,oB d]at q;exact one a b c q
  .rw [oB c,oz d]at q;exact(one b a d q.symm).symm (Aj hm)
  .rw [oB c,oB d]at q;exact h.snd a b q
 .rcases mAq.mp hx with z|z
  .unfold JH;rw[h.cmp x z]
  .rw [mSq.mp z];unfold JH;rw[oz (c:=g (plc M (-e))=g (plc M (-e))) rfl];split
   .rfl
   .rfl
def zI(M:List (List Int)) (g:Nat->Int) (o:Int):List (List Int):=((aN M.length).filter λk=>decide (g k=o)).map λk=>M.getD k []
theorem RC(hm:Mp M) (h:Sj M M.flatten g) {k0:Nat}(hk:k0<M.length):Mp (zI M g (g k0))/\0<(zI M g (g k0)).length/\(∀e∈(zI M g (g k0)).flatten,e∈M.flatten)/\∀k,k<(zI M g (g k0)).length->sG (zI M g (g k0)) 0 k:=by
 have memQ:∀{k:Nat},k∈(aN M.length).filter (λk=>decide (g k=g k0))↔k<M.length/\g k=g k0:=λ{k}=>by
  rw[bQ,bO,decide_eq_true_iff]
 have sub:(zI M g (g k0)).flatten.Sublist M.flatten:=by
  have:=K17.Bz ((fv (p:=λk=>decide (g k=g k0)) (l:=aN M.length)).map λk=>M.getD k [])
  rwa [tF]at this
 have lQ:(zI M g (g k0)).length=((aN M.length).filter λk=>decide (g k=g k0)).length:=lMq _
 have lle:(zI M g (g k0)).length<=M.length:=by
  rw[lQ];have:=List.length_filter_le (λk=>decide (g k=g k0)) (aN M.length)
  rwa [aT]at this
 have inP:∀{e:Int},e∈M.flatten->g (plc M e)=g k0->e∈(zI M g (g k0)).flatten:=λ{e} he q=>by
  obtain⟨h1,h2⟩:=BZ hm he;exact mFq.mpr ⟨_,mMq.mpr ⟨plc M e,memQ.mpr ⟨h1,q⟩,rfl⟩,h2⟩
 have ofP:∀{e:Int},e∈(zI M g (g k0)).flatten->g (plc M e)=g k0:=λ{e} he=>by
  obtain⟨r,hr,h2⟩:=mFq.mp he;obtain⟨k,hk,rfl⟩:=mMq.mp hr;obtain⟨k1,k2⟩:=memQ.mp hk;rw[plc_eq hm.hn (qd k1) h2];exact k2
 have mp:Mp (zI M g (g k0)):=⟨hm.hn.sublist sub,by have:=sub.length_le;have:=hm.hl;lia,by have:=hm.hr;lia,λe he=>inP (hm.hneg e (sub.subset he)) (by rw[←h.cmp e (sub.subset he)];exact ofP he)⟩
 have at':∀{j k:Nat},((aN M.length).filter λk=>decide (g k=g k0))[j]?=some k->(zI M g (g k0))[j]?=some (M.getD k []):=λ{j k} e=>by
  show (List.map _ _)[j]?=_;rw[gMq,e];rfl
 have go:∀{i k k':Nat},((aN M.length).filter λk=>decide (g k=g k0))[i]?=some k->sG M k k'->∃j,((aN M.length).filter λk=>decide (g k=g k0))[j]?=some k'/\sG (zI M g (g k0)) i j:=λ{i k k'} hi r=>by
  induction r with
  |base=>exact⟨i,hi,.base⟩
  | @step k1 row e r1 hk1 he ih =>
   obtain⟨j,hj,rj⟩:=ih;have eM:e∈M.flatten:=mFq.mpr ⟨row,mGq hk1,he⟩;have q1:g (plc M (-e))=g k0:=by
    rw[←h.cmp e eM,plc_eq hm.hn hk1 he];exact(memQ.mp (mGq hj)).2
   obtain⟨h1,h2⟩:=BZ hm (hm.hneg e eM);obtain⟨j',hj'⟩:=bb.mp (memQ.mpr ⟨h1,q1⟩);have rj2:sG (zI M g (g k0)) i (plc (zI M g (g k0)) (-e)):=.step rj (at' hj) (by rw[gDq,hk1];exact he)
   rw[plc_eq mp.hn (at' hj') h2]at rj2;exact⟨j',hj',rj2⟩
 have pos:0<(zI M g (g k0)).length:=by
  rw[lQ];exact eQ (memQ.mpr ⟨hk,rfl⟩)
 refine⟨mp,pos,λe he=>sub.subset he,λk hk'=>?_⟩
 rw[lQ]at hk' pos;have e0:=gEg pos;have ek:=gEg hk';have g0:=(memQ.mp (mGq e0)).2;have gk:=(memQ.mp (mGq ek)).2;obtain⟨j,hj,r⟩:=go e0 (h.snd _ _ (g0.trans gk.symm));have nd:((aN M.length).filter λk=>decide (g k=g k0)).Nodup:=dU.filter _
 have:j=k:=by
  have l1:=(gSq.mp hj).1;exact(List.getElem?_inj l1 nd).mp (hj.trans ek.symm)
 rw[←this];exact r
theorem zF{tf:MT}{te:MK}{cap:AS}(p:D×D->Bool) (f:D×D->AV):∀{l:List (D×D)},(∀d∈l,∃S1,tf (some (.sh d.1)::some (.sh d.2)::cap)=some (p d,S1)/\(p d=true->∃S',te S1=some (f d,S')))->uq tf te cap l=some ((l.filter p).map f)
 | [],_=>rfl
 |d::l,h=>by
  obtain⟨S1,e1,e2⟩:=h d (au ..);have ih:=zF (tf:=tf) (te:=te) (cap:=cap) p f (l:=l) λx hx=>h x (mCo _ hx)
  unfold uq;rw[e1,fR];cases c:p d with
  |true =>
   obtain⟨S',e3⟩:=e2 c;rw[oz rfl,e3,fR,ih,List.filter_cons_of_pos c];rfl
  |false =>
   rw[oB (by simp),ih,List.filter_cons_of_neg (by rw[c];simp)]
def pJ(M:List (List Int)) (g:Nat->Int):List Int:=(aN M.length).map g
def IF(M:List (List Int)) (P:List Int) (v3 v4 v5 v6 v7:Option AV):AS:=[some (.sh (dM M)),some (.owd (oD 0 M)),some (aI P),v3,v4,v5,v6,v7]
theorem Do{k:Nat}(h:k<M.length):atI ((pJ M g).map D.int) (k:Int)=some (.int (g k)):=si (by
 unfold pJ;rw[gMq,gMq,dh h];rfl)
theorem IW(hm:Mp M) {e:Int}(he:e∈M.flatten) {v3 v5 v6:Option AV}:sP (IF M (pJ M g) v3 (some (.sh (.int e))) v5 v6 none)=some (.nx (IF M (pJ M (JH g (g (plc M e)) (g (plc M (-e))))) v3 (some (.sh (.int e))) (some (.sh (.int (g (plc M e))))) (some (.sh (.int (g (plc M (-e)))))) none)):=by
 have k1:Z.getD (oD 0 M) (.inl e)=some (.int (plc M e:Int)):=(Aj hm).kv he;have k2:Z.getD (oD 0 M) (.inl (-e))=some (.int (plc M (-e):Int)):=(Aj hm).kv (hm.hneg e he);have a1:=Do (g:=g) (BZ hm he).1;have a2:=Do (g:=g) (BZ hm (hm.hneg e he)).1;generalize g (plc M e)=o1 at *;generalize g (plc M (-e))=o2 at *;have mc:uh xn (kSc (oV Cc (rOf (tI (oA (oS 0) (oA (oS 1) pQ)))) (vO E5 (nO (oV C7 (nH 0) (nH 2)) oj)))) [some (.sh (.int o1)),some (.sh (.int o2))] ((pJ M g).map D.int)=some ((pJ M (JH g o1 o2)).map λn=>.sh (.int n)):=by
  rw[Z.vW (λd=>match d with|.int i=>AV.sh (.int (if i=o2 then o1 else i))|_=>.sh .non)]
  .unfold pJ;rw[mPq,mPq,mPq];rfl
  .intro d hd;obtain⟨i,hi,rfl⟩:=mMq.mp hd;refine⟨[some (.sh (.int i)),some (.sh (.int o1)),some (.sh (.int o2))],?_⟩;show _=some (AV.sh (.int (if i=o2 then o1 else i)),_)
   by_cases c:i=o2
   .have dc:decide (i=o2)=true:=decide_eq_true c;have at1:atI [D.int i,D.int o1] 1=some (.int o1):=si (j:=1) rfl;rw[oz c]
    simp_arith [dc,L7,at1]
   .have dc:decide (i=o2)=false:=decide_eq_false c;have at0:atI [D.int i,D.int o1] 0=some (.int i):=si (j:=0) rfl;rw[oB c]
    simp_arith [dc,L7,at0]
 have lm:(pJ M g).length<=qF:=vF (by unfold pJ;rw[lMq,aT];have:=hm.hr;lia)
 unfold IF
 simp_arith [sP,k1,k2,a1,a2,mc,lm]
theorem JB(hm:Mp M) {i:Nat}{r:List Int}(hr:M[i]?=some r) {E:List Int}(h:Sj M E g) {v4 v5 v6:Option AV}:∃g' v4' v5' v6',rQ 4 sP (r.map D.int) (IF M (pJ M g) (some (.sh (dI r))) v4 v5 v6 none)=some (.nx (IF M (pJ M g') (some (.sh (dI r))) v4' v5' v6' none))/\Sj M (E++r) g':=by
 have key:=tX (x:=4) (body:=sP) (λj S=>∃g v4 v5 v6,S=IF M (pJ M g) (some (.sh (dI r))) v4 v5 v6 none/\Sj M (E++r.take j) g) (ds:=r.map D.int) (S:=IF M (pJ M g) (some (.sh (dI r))) v4 v5 v6 none) ⟨g,v4,v5,v6,rfl,by rw[gq,aNq];exact h⟩ (by
  rintro j d S hd ⟨g,v4,v5,v6,rfl,h⟩;rw[gMq]at hd;obtain⟨e,he,rfl⟩:=oMq.mp hd;have et:r.take (j+1)=r.take j++[e]:=by rw[bw,he];rfl
  have eM:e∈M.flatten:=mFq.mpr ⟨r,mGq hr,mGq he⟩;refine⟨_,IW hm eM,_,_,_,_,rfl,?_⟩;rw[et,←ah];exact h.step hm eM)
 obtain⟨S',e,g',v4',v5',v6',rfl,h'⟩:=key;rw[lMq,aZ]at h';exact⟨g',v4',v5',v6',e,h'⟩
theorem J8(hm:Mp M):∃g v3 v4 v5 v6,rQ 3 ur (M.map dI) (IF M (pJ M λk=>(k:Int)) none none none none none)=some (.nx (IF M (pJ M g) v3 v4 v5 v6 none))/\Sj M M.flatten g:=by
 have key:=tX (x:=3) (body:=ur) (λi S=>∃g v3 v4 v5 v6,S=IF M (pJ M g) v3 v4 v5 v6 none/\Sj M (M.take i).flatten g) (ds:=M.map dI) (S:=IF M (pJ M λk=>(k:Int)) none none none none none) ⟨λk=>(k:Int),none,none,none,none,rfl,⟨λa b q=>by
  have:a=b:=by lia
  rw[this];exact .base,λe he=>by cases he⟩⟩ (by
  rintro i d S hd ⟨g,v3,v4,v5,v6,rfl,h⟩;rw[gMq]at hd;obtain⟨r,hr,rfl⟩:=oMq.mp hd;have et:(M.take (i+1)).flatten=(M.take i).flatten++r:=by rw[bw,hr,fAq];show _++(r++[])=_;rw[aNq]
  obtain⟨g',v4',v5',v6',e1,h1⟩:=JB hm hr h (v4:=v4) (v5:=v5) (v6:=v6);refine⟨IF M (pJ M g') (some (.sh (dI r))) v4' v5' v6' none,?_,g',_,_,_,_,rfl,by rw[et];exact h1⟩
  unfold IF at e1 ⊢
  simp_arith [ur,e1,dI])
 obtain⟨S',e,g,v3,v4,v5,v6,rfl,h⟩:=key;rw[lMq,aZ]at h;exact⟨g,v3,v4,v5,v6,e,h⟩
theorem MD(o:Int):uq (uE (oV C7 (nH 1) (nH 2))) (oS 0) [some (.sh (.int o))] ((M.map dI).zip ((pJ M g).map D.int))=some ((zI M g o).map λr=>.sh (dI r)):=by
 have ez:(M.map dI).zip ((pJ M g).map D.int)=(aN M.length).map λk=>(dI (M.getD k []),D.int (g k)):=by
  have:M.map dI=(aN M.length).map λk=>dI (M.getD k []):=by
   conv=>lhs;rw[←tF M]
   rw[mPq];rfl
  rw[this];unfold pJ;rw[mPq,List.zip_map'];rfl
 rw[ez,zF (λd=>match d.2 with|.int i=>decide (i=o)|_=>false) λd=>.sh d.1]
 .unfold zI;rw[List.filter_map,mPq,mPq];rfl
 .intro d hd;obtain⟨k,hk,rfl⟩:=mMq.mp hd;refine⟨[some (.sh (dI (M.getD k []))),some (.sh (.int (g k))),some (.sh (.int o))],?_,λ_=>⟨_,rfl⟩⟩
  show _=some (decide (g k=o),_)
  simp_arith []
def oL(L:List (List (List Int))):AV:=.ow (L.map λN=>.ow (N.map λr=>.sh (.list (r.map D.int))))
theorem Ni(hm:Mp M) {P:List Int}(hP:P.length<=1000) {x:AV}(hx:nU x=dI (pJ M g)) {v1 v3 v4 v6:Option AV}{v5:Option AV}:∃x' v5',rQ 5 uw (P.map D.int) [some (.sh (dM M)),v1,some x,v3,v4,v5,v6,some (.ow [])]=some (.nx [some (.sh (dM M)),v1,some x',v3,v4,v5',v6,some (oL (P.map (zI M g)))]):=by
 have key:=tX (x:=5) (body:=uw) (λj S=>∃x v5,S=[some (.sh (dM M)),v1,some x,v3,v4,v5,v6,some (oL ((P.take j).map (zI M g)))]/\nU x=dI (pJ M g)) (ds:=P.map D.int) (S:=[some (.sh (dM M)),v1,some x,v3,v4,v5,v6,some (.ow [])]) ⟨x,v5,rfl,hx⟩ (by
  rintro j d S hd ⟨x,v5,rfl,hx⟩;rw[gMq]at hd;obtain⟨o,ho,rfl⟩:=oMq.mp hd;have et:P.take (j+1)=P.take j++[o]:=by rw[bw,ho];rfl
  have zc:=MD (M:=M) (g:=g) o;have lm:(M.map dI).length=((pJ M g).map D.int).length:=by unfold pJ;rw[lMq,lMq,lMq,aT]
  have lm2:M.length=(pJ M g).length:=by unfold pJ;rw[lMq,aT]
  have l1:M.length<=qF:=vF (by have:=hm.hr;lia)
  have lt:=List.length_take_le' j P;have l2:(P.take j).length<qF:=by show _<16777216;lia
  refine⟨[some (.sh (dM M)),v1,some (.sh (dI (pJ M g))),v3,v4,some (.sh (.int o)),v6,some (oL ((P.take (j+1)).map (zI M g)))],?_,_,_,rfl,pH _⟩;rw[et,mBq];have ap:((P.take j).map (zI M g)).map (λN=>AV.ow (N.map λr=>.sh (.list (r.map D.int))))++[.ow ((zI M g o).map λr=>.sh (.list (r.map D.int)))]=((P.take j).map (zI M g)++[o].map (zI M g)).map λN=>AV.ow (N.map λr=>.sh (.list (r.map D.int))):=by rw[mBq];rfl
  unfold oL
  simp_arith [uw,OM,hx,dM,dI,zc,lm,←lm2,l1,l2,ap,true_and])
 obtain⟨S',e,x',v5',rfl,_⟩:=key;rw[lMq,aZ]at e;exact⟨x',v5',e⟩
theorem MQ(L:List (List (List Int))):nU (oL L) = .list (L.map dM):=by
 unfold oL;rw[qT,mPq];refine congrArg D.list (mCq λN _=>?_)
 show nU (.ow _)=_;rw[qT,mPq];exact congrArg D.list (mCq λr _=>pH _)
structure U6 (N:List (List Int)):Prop where
 mp:Mp N
 pos:0<N.length
 one:∀k,k<N.length->sG N 0 k
theorem NN(hm:Mp M):∃(x:AV) (L:List (List (List Int))),tx [dM M]=some x/\nU x = .list (L.map dM)/\0<L.length/\L.length<=1000/\∀N∈L,U6 N:=by
 obtain⟨g,v3,v4,v5,v6,e1,sj⟩:=J8 hm;have pa:=uo hm.hn (by have:=hm.hl;lia)
 have hr:=hm.hr;have rg:=yc (n:=M.length) (by lia)
 have rl:(oU 0 M.length).length<=qF:=vF (by rw[oI];lia)
 have lP:(pJ M g).length=M.length:=by unfold pJ;rw[lMq,aT]
 have lD:(rS (Ms.dd (pJ M g))).length<=M.length:=by
  rw[(uA _).length_eq];have:=Ms.Gp (pJ M g);lia
 obtain⟨x',v5',e2⟩:=Ni hm (g:=g) (P:=rS (Ms.dd (pJ M g))) (by lia) (x:=aI (pJ M g)) (oR _) (v1:=some (.owd (oD 0 M))) (v3:=v3) (v4:=v4) (v5:=v5) (v6:=v6)
 have l4:(pJ M g).length<=4000:=by lia
 have l4':M.length<=4000:=by lia
 have r0:(oU 0 M.length).map AV.sh=(pJ M λk=>(k:Int)).map λn=>.sh (.int n):=by
  rw[xK];unfold pJ;rw[mPq,mPq];rfl
 unfold IF at e1;have ll:(oU 0 M.length).length=M.length:=oI 0 M.length;have la:M.length<=qF:=vF (by lia)
 by_cases c:(rS (Ms.dd (pJ M g))).map (zI M g)=[]
 .refine ⟨.ow [.ow [.ow []]],[[[]]],?_,rfl,by simp,by simp,λN hN=>?_⟩
  .rw [c]at e2
   simp_arith [tx,yT,pa,dM,rg,D1,r0,ll,la,e1,K3,l4,l4',lP,e2,Qr,oL]
   rfl
  .rw [mSq.mp hN];exact⟨⟨by simp,by simp,by simp,by simp⟩,by simp,λk hk=>by
    have:k=0:=by simpa using hk
    rw[this];exact .base⟩
 .refine ⟨oL ((rS (Ms.dd (pJ M g))).map (zI M g)),_,?_,MQ _,dY.mpr c,by rw[lMq];lia,λN hN=>?_⟩
  .generalize (rS (Ms.dd (pJ M g))).map (zI M g)=L at e2 c;have ne:(L.map λN=>AV.ow (N.map λr=>.sh (.list (r.map D.int)))).isEmpty=false:=by
    cases L with
    |nil=>exact absurd rfl c
    |cons a l=>rfl
   simp_arith [tx,yT,pa,dM,rg,D1,r0,ll,la,e1,K3,l4,l4',lP,e2,Qr,oL,ne]
  .obtain ⟨o,ho,rfl⟩:=mMq.mp hN;obtain⟨k,hk,rfl⟩:=mMq.mp (Ms.RT.mp ((uA _).mem_iff.mp ho));obtain⟨p1,p2,_,p4⟩:=RC hm sj (bO.mp hk);exact⟨p1,p2,p4⟩
end
end K52
--ZQ3 --ZQ4 --ZQ5 --ZQ6 --ZQ8 --ZQ9 --ZQB --ZQC --ZQD --ZQE --ZQF --ZQG
namespace K52
open PySem L2 Mr Z Xe Zl
open K31 (zk Mv Wd N0 AG BP B2)
open K12 (cN zQ DL HR EF vv zO A6)
def QT:List Nat->MS:=(ES 3 (yM (nH 1)) (EB 3 (C6 10 (O4 zX (yv 1) (oV Eh (rC (.int 1)) (oV zX (rC (.int 2)) (oV tK (oV AJ (nH 6) (rC (.int 7))) (rC (.int 2))))))) (λpath=>oa ((IK 3 (oS 10)) path) (zJ (uE (oV Il (nH 7) (rC (.int 2)))) (oa (wR 4 (kSc (vO sm (nO (nH 3) oj)))) (wR 3 (tI (oA (kSc (DC vg (nH 10))) pQ)))) (wR 5 (oS 10))))) (λ_=>qM))
def Kl:List Nat->MS:=(ES 3 (Bj (uE (oV Il (rC (.int 4)) (nH 7))) (yM (nH 5))) (EB 3 (ox 9 (kSc (oV Eh (vO sm (nO (nH 5) oj)) (rC (.int 1))))) (EB 3 (zJ (uE (nH 2)) (ox 9 (kSc (oV tK (oV AJ (nH 6) (rC (.int 7))) (vO sm (nO (nH 5) oj))))) qM) (DM 3 (KN vg (zb 5 (nH 9)))))) (ES 3 (Bj (uE (O2 Il Il (rC (.int 1)) (nH 7) (rC (.int 4)))) (uE (oV Qs (vO sm (nO (nH 4) oj)) (rC (.int 1))))) (λ_=>(Bk (yv 4))) QT))
theorem NP:qR=(oa (ox 7 (kSc (oV tK (nH 6) (rC (.int 7))))) (Pg 8 3 (UX 3 (LI 3) (oV Cc (nH 4) (DC vg (rC (.int 1))))) Kl)):=rfl
def vt(v0:Option AV) (b:Bool) (T:List (List Int)) (t0:List Nat) (h:Nat) (op rd:List Int) (v6 v7 v8 v9 v10:Option AV):AS:=[v0,some (aI rd),some (.sh (.bl b)),some (.ow (T.map aI)),some (aI (cN (t0++[h]))),some (aI op),v6,v7,v8,v9,v10]
section
variable {T:List (List Int)}{t0:List Nat}{h:Nat}{op rd r:List Int}{c k:Int}{b:Bool}{v0 v7 v8 v9 v10:Option AV}
theorem Lr:wL (.list [])=some false:=rfl
theorem Mx(u:List Int) (y:Int):wL (.list ((u++[y]).map D.int))=some true:=by cases u <;> rfl
theorem V7{u:List Int}(h:u≠[]):wL (.list (u.map D.int))=some true:=by
 cases u with
 |nil=>exact absurd rfl h
 |cons a l=>rfl
theorem Rp(hr:T[h]?=some r):qR (vt v0 b T t0 h op rd (some (.sh (.int c))) v7 v8 v9 v10)=Kl [h] (vt v0 b T t0 h op rd (some (.sh (.int c))) (some (.sh (.int (c % 7)))) none v9 v10):=by
 have hh:h<T.length:=(gSq.mp hr).1;have n1:=zk hr;have iL:E1 T.length (h:Int)=some h:=HY hh;have sl:=oR (cN (t0++[h]));have at4:atI ((cN (t0++[h])).map D.int) (-1)=some (.int (h:Int)):=by
  unfold K12.cN;rw[mBq,mBq];exact B1 _ _
 have m7:=rA (i:=c) (j:=7) (by decide)
 have q:((8:Nat)≠3/\8<11)=True:=by simp
 rw[NP]
 simp_arith [vt,m7,n1,iL,sl,dI,at4,q]
def CS(b:Bool) (c:Int) (op:List Int):Nat:=if b then (c / 7 % op.length).toNat else op.length-1
def EH(c x:Int):Int:=x*(1-2*(c / 7 % 2))
theorem Md(hne:op≠[]):CS b c op<op.length:=by
 have hpos:0<op.length:=dY.mpr hne;unfold CS;have b0:0<=c / 7 % (op.length:Int):=bo _ (by lia)
 have b1:c / 7 % (op.length:Int)<(op.length:Int):=bh _ (by lia)
 split <;> lia
theorem Te(hr:T[h]?=some r) (hrl:r.length<500000) (hll:op.length<500000) (hk:4<k) (hne:op≠[]):∃v9',Kl [h] (vt v0 b T t0 h op rd (some (.sh (.int c))) (some (.sh (.int k))) v8 v9 v10)=some (.nx (vt v0 b (T.set h (r++[-(op.getD (CS b c op) 0)])) t0 h (op.eraseIdx (CS b c op)) rd (some (.sh (.int c))) (some (.sh (.int k))) v8 v9' v10)):=by
 have hpos:0<op.length:=dY.mpr hne;have d7:=yP (i:=c) (j:=7) (by decide) (by decide)
 have ml:=rA (i:=c / 7) (j:=(op.length:Int)) (by lia)
 have n1:=zk hr;have l1:r.length<qF:=by show _<16777216;lia
 have sl:=oR op;have dk:decide (4<k)=true:=decide_eq_true hk;have tr:=V7 hne;have hlt:=Md (b:=b) (c:=c) hne;have ll:op.length<=qF:=by show _<=16777216;lia
 have g1:(op.map λn=>AV.sh (.int n))[CS b c op]?=some (.sh (.int (op.getD (CS b c op) 0))):=by
  rw[gMq,gEg hlt,gDq,gEg hlt];rfl
 have g2:(op.map λn=>AV.sh (.int n)).eraseIdx (CS b c op)=(op.eraseIdx (CS b c op)).map λn=>.sh (.int n):=EF _ _ _
 have p2:=Mv (r':=r++[-(op.getD (CS b c op) 0)]) hr;have a1:=zQ r (-(op.getD (CS b c op) 0));have q:(0<=((CS b c op:Nat):Int)/\((CS b c op:Nat):Int)<(op.length:Int)/\op.length<=qF)=True:=by simp[ll,hlt]
 have tn:((CS b c op:Nat):Int).toNat=CS b c op:=aX _;refine⟨some (.sh (.int (CS b c op:Nat))),?_⟩;cases b with
 |true =>
  have ea:c / 7 % (op.length:Int)=((CS true c op:Nat):Int):=by
   have b0:0<=c / 7 % (op.length:Int):=bo _ (by lia)
   show _=(((c / 7 % (op.length:Int)).toNat:Nat):Int);lia
  simp_arith [Kl,vt,dk,tr,n1,sl,dI,d7,ml,ea,q,tn,g1,g2,l1,a1,p2,true_and,KJ]
 |false =>
  have ea:(op.length:Int)-1=((CS false c op:Nat):Int):=by
   show _=((op.length-1:Nat):Int);lia
  simp_arith [Kl,vt,dk,tr,n1,sl,dI,ea,q,tn,g1,g2,l1,a1,p2,true_and,KJ]
theorem RF{t:List Nat}{h':Nat}(hr:T[h]?=some r) (h1:1<k) (h4:k<4):Kl [h] (vt v0 b T (t++[h']) h op rd (some (.sh (.int c))) (some (.sh (.int k))) v8 v9 v10)=some (.nx (vt v0 b T t h' op rd (some (.sh (.int c))) (some (.sh (.int k))) v8 v9 v10)):=by
 have n1:=zk hr;have sl:=oR (cN (t++[h']++[h]));have cl:=B2 (t++[h']++[h]);have k1:(1:Int)<((t++[h']++[h]).length:Int):=by simp;lia
 have dk:decide (4<k)=false:=decide_eq_false (by lia)
 have d1:decide (1<k)=true:=decide_eq_true h1;have d4:decide (k<4)=true:=decide_eq_true h4;have ec:(cN (t++[h']++[h])).map (λn=>AV.sh (.int n))=(cN (t++[h'])).map (λn=>AV.sh (.int n))++[.sh (.int (h:Int))]:=(HR (t++[h']) h).symm
 have p1:((cN (t++[h'])).map (λn=>AV.sh (.int n))++[AV.sh (.int (h:Int))])[((cN (t++[h'])).map (λn=>AV.sh (.int n))++[AV.sh (.int (h:Int))]).length-1]?=some (.sh (.int (h:Int))):=by
  rw[lAq,lSq,gYq (by lia)]
  simp
 have p2:((cN (t++[h'])).map (λn=>AV.sh (.int n))++[AV.sh (.int (h:Int))]).dropLast=(cN (t++[h'])).map (λn=>AV.sh (.int n)):=de
 simp_arith [Kl,vt,dk,FF,d1,d4,n1,sl,dI,cl,k1,eq_self,ec,p1,p2]
theorem N7(hr:T[h]?=some r) (h1:¬ (4<k/\op≠[])) (h2:¬ ((1<k/\k<4)/\t0≠[])):Kl [h] (vt v0 b T t0 h op rd (some (.sh (.int c))) (some (.sh (.int k))) v8 v9 v10)=QT [h] (vt v0 b T t0 h op rd (some (.sh (.int c))) (some (.sh (.int k))) v8 v9 v10):=by
 have n1:=zk hr;have sl:=oR op;have sw:=oR (cN (t0++[h]));have cl:=B2 (t0++[h]);have q2:1<k/\k<4->decide ((1:Int)<((t0++[h]).length:Int))=false:=λhh=>by
  by_cases hn:t0=[]
  .subst hn;simp
  .exact absurd ⟨hh,hn⟩ h2
 by_cases e1:4<k
 .have eo:op=[]:=fN λz=>h1 ⟨e1,z⟩
  subst eo;have dk:decide (4<k)=true:=decide_eq_true e1;have d1:decide (1<k)=true:=decide_eq_true (by lia)
  have d4:decide (k<4)=false:=decide_eq_false (by lia)
  simp_arith [Kl,vt,dk,Lr,FF,d1,d4,n1,sl,sw,cl,dI]
 .have dk:decide (4<k)=false:=decide_eq_false e1
  by_cases e2:1<k
  .have d1:decide (1<k)=true:=decide_eq_true e2
   by_cases e3:k<4
   .have d4:decide (k<4)=true:=decide_eq_true e3;have q2':=q2 ⟨e2,e3⟩
    simp_arith [Kl,vt,dk,FF,d1,d4,n1,sl,sw,cl,dI,q2']
   .have d4:decide (k<4)=false:=decide_eq_false e3
    simp_arith [Kl,vt,dk,FF,d1,d4,n1,sl,sw,cl,dI]
  .have d1:decide (1<k)=false:=decide_eq_false e2
   simp_arith [Kl,vt,dk,FF,d1,n1,sl,sw,cl,dI]
theorem Rb(hr:T[h]?=some r):QT [h] (vt v0 b T t0 h op [] (some (.sh (.int c))) (some (.sh (.int k))) v8 v9 v10)=some (.nx (vt v0 b T t0 h op [] (some (.sh (.int c))) (some (.sh (.int k))) v8 v9 v10)):=by
 have n1:=zk hr;have sl:=oR []
 simp_arith [QT,vt,n1,sl,dI,Lr]
theorem RY{x:Int}(hr:T[h]?=some r) (hrl:r.length<500000) (hTl:T.length<500000) (htl:t0.length<500000) (hol:op.length<500000):QT [h] (vt v0 b T t0 h op (rd++[x]) (some (.sh (.int c))) (some (.sh (.int k))) v8 v9 v10)=some (.nx (if k<2 then vt v0 b (T.set h (r++[EH c x])++[[-(EH c x)]]) (t0++[h]) T.length op rd (some (.sh (.int c))) (some (.sh (.int k))) v8 v9 (some (.sh (.int (EH c x)))) else vt v0 b (T.set h (r++[EH c x])) t0 h (op++[EH c x]) rd (some (.sh (.int c))) (some (.sh (.int k))) v8 v9 (some (.sh (.int (EH c x)))))):=by
 have d7:=yP (i:=c) (j:=7) (by decide) (by decide)
 have m2:=rA (i:=c / 7) (j:=2) (by decide)
 have b0:0<=c / 7 % 2:=bo _ (by decide)
 have b1:c / 7 % 2<2:=bh _ (by decide)
 have c1:=Qg (i:=2) (j:=c / 7 % 2) (by lia) (by lia)
 have c2:=P5 (i:=x) (j:=1-2*(c / 7 % 2)) (by lia) (by lia)
 have n1:=zk hr;have sl:=oR (rd++[x]);have tr:=Mx rd x;have l1:r.length<qF:=by show _<16777216;lia
 have es:x*(1-2*(c / 7 % 2))=EH c x:=rfl;have a1:=zQ r (EH c x);have p2:=Mv (r':=r++[EH c x]) hr;have lT:(T.set h (r++[EH c x])).length=T.length:=lZq;have l2:T.length<qF:=by show _<16777216;lia
 have a3:=DL (T.set h (r++[EH c x])) (-(EH c x));have lw:(t0++[h]).length<qF:=by rw[lAq,lSq];show t0.length+1<16777216;lia
 have lo:op.length<qF:=by show _<16777216;lia
 have a2:=HR (t0++[h]) T.length;have a4:op.map (λn=>AV.sh (.int n))++[.sh (.int (EH c x))]=(op++[EH c x]).map λn=>.sh (.int n):=by rw[mBq];rfl
 have cl:=B2 (t0++[h]);have la:((rd++[x]).map λn=>AV.sh (.int n))[(rd++[x]).length-1]?=some (.sh (.int x)):=by rw[lAq,lSq,eD,mBq,gYq (by rw[lMq];exact ag _),lMq,bP];rfl
 have ld:((rd++[x]).map λn=>AV.sh (.int n)).dropLast=rd.map λn=>.sh (.int n):=by rw[mBq];exact de
 by_cases e:k<2
 .have dk:decide (k<2)=true:=decide_eq_true e;rw[oz e]
  simp_arith [QT,vt,dk,d7,m2,c1,c2,n1,sl,dI,tr,la,ld,es,l1,a1,p2,lT,l2,a3,cl,lw,a2]
 .have dk:decide (k<2)=false:=decide_eq_false e;rw[oB e]
  simp_arith [QT,vt,dk,d7,m2,c1,c2,n1,sl,dI,tr,la,ld,es,l1,a1,p2,lT,lo,a4]
abbrev wd(T:List (List Int)) (t0:List Nat) (h:Nat) (op rd:List Int):Wd:=⟨T,t0,h,op.map λz=>-z,rd⟩
theorem IV(a c x:Int):[EH c x].count a+[-(EH c x)].count a=[x, -x].count a:=by
 have b0:0<=c / 7 % 2:=bo _ (by decide)
 have b1:c / 7 % 2<2:=bh _ (by decide)
 rw[show [x, -x]=[x]++[-x] from rfl,cAq]
 unfold EH;have h:c / 7 % 2=0∨c / 7 % 2=1:=by lia
 rcases h with h|h
 .rw [h,show (1:Int)-2*0=1 from rfl,gQ]
 .rw [h,show (1:Int)-2*1 = -1 from rfl,Int.mul_neg,gQ,gm]
  lia
theorem Lv(x:Int) (l:List Int) (a:Int):(AG (l++[x])).count a=(AG l).count a+[x, -x].count a:=by
 unfold K31.AG;rw[fy,cAq];rfl
theorem J4{nm:List Int}{n:Nat}(w:N0 nm (wd T t0 h op rd) n) (hn:n<1000) (hm:nm.length<=1000):∃T' t0' h' op' rd' v7' v8' v9' v10',qR (vt v0 b T t0 h op rd (some (.sh (.int c))) v7 v8 v9 v10)=some (.nx (vt v0 b T' t0' h' op' rd' (some (.sh (.int c))) v7' v8' v9' v10'))/\N0 nm (wd T' t0' h' op' rd') (n+1):=by
 have hlen:=w.len;obtain⟨hh,ht,lw,lT,lf,cnt,tr⟩:=w;simp only at hh ht lw lT lf cnt tr hlen;have hr:T[h]?=some (T.getD h []):=by rw[gDq,gEg hh];rfl
 have hrl:=A6 hr;generalize T.getD h []=r at hr hrl;have lo:op.length<=2000:=by rw[lMq]at hlen;lia
 rw[Rp hr]
 by_cases q1:4<c % 7/\op≠[]
 .obtain ⟨v9',e⟩:=Te (b:=b) (v0:=v0) (t0:=t0) (rd:=rd) (c:=c) (v8:=none) (v9:=v9) (v10:=v10) hr (by lia) (by lia) q1.1 q1.2
  refine⟨_,_,_,_,_,_,_,_,_,e,?_,?_,?_,?_,lf,λa=>?_,?_⟩
  .simp only [lZq];exact hh
  .simp only [lZq];exact ht
  .simp only;lia
  .simp only [lZq];lia
  .simp only;have hlt:=Md (b:=b) (c:=c) q1.2;have ce:=zO a (l:=op.map λz=>-z) (j:=CS b c op) (by rw[lMq];exact hlt)
   rw[EF]at ce;have gd:(op.map λz=>-z).getD (CS b c op) 0 = -(op.getD (CS b c op) 0):=by
    rw[gDq,gMq,gEg hlt,gDq,gEg hlt];rfl
   rw[gd]at ce;rw[vv a hr,←cnt a,←ce];lia
  .exact tr.set hr
 .by_cases q2:(1<c % 7/\c % 7<4)/\t0≠[]
  .rcases cF t0 with z|⟨t,h',z⟩
   .exact absurd z q2.2
   .rw [cG]at z;subst z;rw[lAq,lSq]at lw;exact⟨_,_,_,_,_,_,_,_,_,RF hr q2.1.1 q2.1.2,ht _ (by simp),λk hk=>ht k (by simp[hk]),(by simp only;lia),(by simp only;lia),lf,cnt,tr⟩
  .rw [N7 hr q1 q2];rcases cF rd with z|⟨rd',x,z⟩
   .subst z;exact⟨_,_,_,_,_,_,_,_,_,Rb hr,hh,ht,(by simp only;lia),(by simp only;lia),lf,cnt,tr⟩
   .rw [cG]at z;subst z;rw[lAq,lSq]at lf;have cx:=λa=>Lv x rd' a
    rw[RY hr (by lia) (by lia) (by lia) (by lia)]
    by_cases e:c % 7<2
    .rw [oz e];refine⟨_,_,_,_,_,_,_,_,_,rfl,?_,?_,?_,?_,(by simp only;lia),λa=>?_,?_⟩
     .simp only [lAq,lZq,lSq];lia
     .intro k hk;simp only[lAq,lZq,lSq]at hk ⊢;rcases mAq.mp hk with hk|hk
      .have:=ht k hk;lia
      .rw [mSq.mp hk];lia
     .simp only [lAq,lSq];lia
     .simp only [lAq,lZq,lSq];lia
     .simp only;rw[fAq,bg,cAq,vv a hr];have:=cnt a;rw[cx a,←IV a c x]at this;lia
     .exact (tr.set hr).add (by rw[lZq];exact hh) (K11.DW hr (by simp))
    .rw [oB e];refine⟨_,_,_,_,_,_,_,_,_,rfl,?_,?_,?_,?_,(by simp only;lia),λa=>?_,?_⟩
     .simp only [lZq];exact hh
     .simp only [lZq];exact ht
     .simp only;lia
     .simp only [lZq];lia
     .simp only;rw[vv a hr,mBq,cAq];have:=cnt a;rw[cx a,←IV a c x]at this;show _+(_+[-(EH c x)].count a)+_=_;lia
     .exact tr.set hr
theorem GJ{nm cs:List Int}(hc:cs.length<=63) (hm:nm.length<=1000):∃T t0 h op rd v6 v7 v8 v9 v10,rQ 6 qR (cs.map D.int) (vt v0 b [[]] [] 0 [] nm none none none none none)=some (.nx (vt v0 b T t0 h op rd v6 v7 v8 v9 v10))/\N0 nm (wd T t0 h op rd) cs.length:=by
 have key:=tX (x:=6) (body:=qR) (λi S=>∃T t0 h op rd v6 v7 v8 v9 v10,S=vt v0 b T t0 h op rd v6 v7 v8 v9 v10/\N0 nm (wd T t0 h op rd) i) (ds:=cs.map D.int) (S:=vt v0 b [[]] [] 0 [] nm none none none none none) ⟨_,_,_,_,_,_,_,_,_,_,rfl,K31.TK nm⟩ (by
  rintro i d S hd ⟨T,t0,h,op,rd,v6,v7,v8,v9,v10,rfl,w⟩;rw[gMq]at hd;obtain⟨c,hc',rfl⟩:=oMq.mp hd;have hi:i<cs.length:=(gSq.mp hc').1;obtain⟨T',t0',h',op',rd',v7',v8',v9',v10',e,w'⟩:=J4 (v0:=v0) (b:=b) (c:=c) (v7:=v7) (v8:=v8) (v9:=v9) (v10:=v10) w (by lia) hm
  exact⟨_,e,_,_,_,_,_,_,_,_,_,_,rfl,w'⟩)
 obtain⟨S',e,T,t0,h,op,rd,v6,v7,v8,v9,v10,rfl,w⟩:=key;rw[lMq]at w;exact⟨T,t0,h,op,rd,v6,v7,v8,v9,v10,e,w⟩
end
end K52
--ZQ3 --ZQ4 --ZQ5 --ZQ6 --ZQ8 --ZQ9 --ZQB --ZQC --ZQD --ZQE --ZQF --ZQG
namespace K72
open PySem L2 Mr Z Xe Zl
def AF(n:Nat):List Int:=(aN n).map λk:Nat=>(k:Int)
theorem FM(n:Nat):oU 0 n=(AF n).map D.int:=by
 unfold oU AF;rw[mPq];refine mCq λk _=>?_
 show D.int (0+(k:Int))=D.int (k:Int);rw[fV]
def hs(cs:List Int) (c t:Int):Bool:=decide (t<(cs.length:Int)) && decide (cs.getD t.toNat 0=c)
end K72
--ZQ3 --ZQ4 --ZQ5 --ZQ6 --ZQ8 --ZQ9 --ZQB --ZQC --ZQD --ZQE --ZQF --ZQG
namespace K72
open PySem L2 Mr Z Xe Zl
end K72
--ZQ3 --ZQ4 --ZQ5 --ZQ6 --ZQ8 --ZQ9 --ZQB --ZQC --ZQD --ZQE --ZQF --ZQG
namespace K72
open PySem L2 Mr Z Xe Zl
end K72
--ZQ3 --ZQ4 --ZQ5 --ZQ6 --ZQ8 --ZQ9 --ZQB
namespace K61
open PySem L2 Mr Z Xe Zl
end K61
--ZQ3 --ZQ4 --ZQ5 --ZQ6 --ZQ8 --ZQ9 --ZQB --ZQC --ZQD --ZQE --ZQF --ZQG
namespace K72
open PySem L2 Mr Z Xe Zl
theorem Jd{r:List Int}(hl:r.length<=1000) {v0 v3:Option AV}{X:List (List Int)}(hX:X.length<=1000):∃v2' v3',ud [v0,some (.ow (X.map λr=>.sh (dI r))),some (.sh (dI r)),v3]=some (.nx [v0,some (.ow ((X++[qZ r]).map λr=>.sh (dI r))),v2',v3']):=by
 have lX:X.length<qF:=aF (show X.length<2000 by lia) (by decide)
 cases r with
 |nil =>
  have hg:qZ []=[]:=rfl;have dt:wL (.list [])=some false:=rfl;have q:(X.map λr=>AV.sh (dI r))++[AV.sh (.list [])]=(X++[qZ []]).map λr=>.sh (dI r):=by rw[mBq];rfl
  refine⟨some (.sh (dI [])),v3,?_⟩
  simp_arith [ud,dI,dt,lX,q]
 |cons n ns =>
  obtain⟨h1,h2⟩:=Jl (n:=n) (ns:=ns);have e:=FW h1 h2;have hle:=GN (n::ns);have dt:wL (dI (n::ns))=some true:=rfl;have hm:PZ [dI (n::ns)]=some (.int (ns.foldl min n)):=by
   show (rR ((n::ns).map D.int)).bind (λns=>(IS ns).map D.int)=_
   rw[uY];rfl
  have hx:zN (dI (n::ns)) [.int (ns.foldl min n)]=some (.int (pK (n::ns) (n::ns).length:Nat)):=by
   show (rR ((n::ns).map D.int)).bind _=_;rw[uY];show (if _ then _ else _)=_
   rw[oz h1,e]
  generalize hN:n::ns=N at *;have hlen:(N.drop (pK N N.length)).length+(N.take (pK N N.length)).length<=qF:=by rw[aS,lTq];show _<=16777216;lia
  have hg:qZ N=N.drop (pK N N.length)++N.take (pK N N.length):=rfl;have q:(X.map λr=>AV.sh (dI r))++[AV.sh (.list ((N.drop (pK N N.length)++N.take (pK N N.length)).map D.int))]=(X++[qZ N]).map λr=>.sh (dI r):=by rw[mBq (l₁:=X) (l₂:=[qZ N])];rfl
  refine⟨some (.sh (dI (qZ N))),some (.sh (.int (pK N N.length:Nat))),?_⟩
  simp_arith [ud,dt,hm,hx,xG,HU N _ hle,Dk N _ hle,hlen,←mBq,H0,lX,q,hg]
theorem IM{T:List (List Int)}(hT:∀r∈T,r.length<=1000) (hl:T.length<=1000):uL [dM T]=some (.ow ((zK (T.map qZ)).map λr=>.sh (dI r))):=by
 have key:=tX (x:=2) (body:=ud) (λi S=>∃v2 v3,S=[some (.sh (dM T)),some (.ow (((T.take i).map qZ).map λr=>.sh (dI r))),v2,v3]) (ds:=T.map dI) (S:=[some (.sh (dM T)),some (.ow []),none,none]) ⟨none,none,by simp⟩ (by
  rintro i d S hd ⟨v2,v3,rfl⟩;rw[gMq]at hd;obtain⟨r,hr,rfl⟩:=oMq.mp hd;have et:(T.take (i+1)).map qZ=(T.take i).map qZ++[qZ r]:=by rw[bw,hr,mBq];rfl
  obtain⟨v2',v3',e⟩:=Jd (hT r (mGq hr)) (v0:=some (.sh (dM T))) (v3:=v3) (X:=(T.take i).map qZ) (by rw[lMq,lTq];lia)
  refine⟨_,e,v2',v3',by rw[et]⟩)
 obtain⟨S',e,v2,v3,rfl⟩:=key;rw[lMq,aZ]at e;have sX:((T.map qZ).map λr=>AV.sh (dI r)).map nU=(T.map qZ).map dI:=by rw[mPq];exact mCq λr _=>pH _
 generalize T.map qZ=X at e sX
 simp_arith [uL,Dv,dM,dI,e,sX]
end K72
--ZQ3 --ZQ4 --ZQ5 --ZQ6 --ZQ8 --ZQ9 --ZQB --ZQC --ZQD --ZQE --ZQF --ZQG
namespace K72
open PySem L2 Mr Z Xe Zl
end K72
--ZQ3 --ZQ4 --ZQ5 --ZQ6 --ZQ8 --ZQ9 --ZQB --ZQC --ZQD --ZQE --ZQF --ZQG
namespace K72
open PySem L2 Mr Z Xe Zl
section
variable {mo:Nat}{ns l:List Int}{m:Nat}{f x:Int}{a5 v6 v7 v8 v10 v11 v12:Option AV}{T:List (List Int)}{i a b:Nat}
end
theorem pm_nodup:∀{l:List Int},l.Nodup->(∀x∈l,1<=x)->(l.flatMap λx=>[x, -x]).Nodup
 | [],_,_=>aW
 |x::l,hn,hp=>by
  obtain⟨n1,n2⟩:=ax.mp hn;have i:=pm_nodup n2 λy hy=>hp y (mCo _ hy)
  have hx:=hp x (au ..);have hm:∀z∈l.flatMap λx=>[x, -x],z≠x/\z ≠ -x:=λz hz=>by
   obtain⟨y,hy,hz⟩:=cH.mp hz;have:=hp y (mCo _ hy);have hne:y≠x:=λe=>n1 (e ▸ hy)
   simp only[aj,cD,or_false]at hz;rcases hz with z|z <;> constructor <;> lia
  rw[cZ];show (x :: -x::l.flatMap λx=>[x, -x]).Nodup
  refine ax.mpr ⟨λh=>?_,ax.mpr ⟨λh=>(hm _ h).2 rfl,i⟩⟩
  rcases aj.mp h with z|z
  .lia
  .exact (hm _ z).1 rfl
end K72
--ZQ3 --ZQ4 --ZQ5 --ZQ6 --ZQ8 --ZQ9 --ZQB --ZQC --ZQD --ZQE --ZQF --ZQG
namespace K72
open PySem L2 Mr Z Xe Zl
theorem JW(k:Nat):uh xn (tI pQ) [] (oU 0 k)=some ((aO k ([]:List Int)).map aI):=by
 rw[Z.vW λ_=>AV.ow []]
 .rw [List.map_replicate,List.map_const',oI];rfl
 .intro d hd;refine⟨[some (.sh d)],?_⟩
  simp_arith []
end K72
--ZQ3 --ZQ4 --ZQ5 --ZQ6 --ZQ8 --ZQ9 --ZQB --ZQC --ZQD --ZQE --ZQF --ZQG
namespace K75
open PySem L2 Mr Z Xe Zl K72
theorem Dm{α β:Type}(g:α->β):∀(l:List α) (z:Nat),(l.eraseIdx z).map g=(l.map g).eraseIdx z
 | [],_=>rfl
 |x::l,0=>rfl
 |x::l,z+1=>by
  show g x::(l.eraseIdx z).map g=g x::(l.map g).eraseIdx z;rw[Dm g l z]
theorem erase_perm{l:List Int}{z:Nat}{x:Int}(h:l[z]?=some x):(x::l.eraseIdx z).Perm l:=by
 induction l generalizing z with
 |nil=>simp at h
 |cons y l ih =>
  cases z with
  |zero =>
   simp only[List.getElem?_cons_zero,aU.injEq]at h;subst h;exact .refl _
  |succ z =>
   rw[bX];exact(aQ.swap ..).trans (aQ.cons _ (ih (by simpa using h)))
theorem Ky(c:Int) {n:Nat}(hn:n<=100):∃o,vT [.int c,.int (n:Int)]=some (aI o)/\o.Perm (AF n):=by
 have key:=tX (x:=4) (body:=wM) (λi S=>∃c l o v4,S=[some (.sh (.int c)),some (.sh (.int (n:Int))),some (aI l),some (aI o),v4]/\(o++l).Perm (AF n)/\o.length=i) (ds:=oU 0 n) (S:=[some (.sh (.int c)),some (.sh (.int (n:Int))),some (aI (AF n)),some (.ow []),none]) ⟨c,AF n,[],none,rfl,.refl _,rfl⟩ (by
  rintro i d S hd ⟨c,l,o,v4,rfl,hp,ho⟩;have hi:i<n:=by
   have:=(gSq.mp hd).1
   rwa [oI]at this
  have hl:=hp.length_eq;unfold AF at hl;rw[lAq,lMq,aT]at hl;have hpos:0<(l.length:Int):=by lia
  have m1:=rA (i:=c) (j:=(l.length:Int)) hpos;have z0:=bo c (b:=(l.length:Int)) (by lia)
  have z1:=bh c hpos;obtain⟨z,hz⟩:∃z:Nat,c % (l.length:Int)=(z:Int):=⟨(c % (l.length:Int)).toNat,by lia⟩
  rw[hz]at m1 z1;have hzl:z<l.length:=by lia
  have hx:=gEg hzl;generalize l[z]=x at hx;have sl:=oR l;have ea:(l.map λn=>AV.sh (.int n))[z]?=some (.sh (.int x)):=by rw[gMq,hx];rfl
  have ee:(l.map λn=>AV.sh (.int n)).eraseIdx z=(l.eraseIdx z).map λn=>AV.sh (.int n):=(Dm _ l z).symm
  have l1:l.length<=qF:=vF (by lia)
  have le:(l.eraseIdx z).length=l.length-1:=List.length_eraseIdx_of_lt hzl;have se:=oR (l.eraseIdx z);have d1:=yP (i:=c) (j:=((l.eraseIdx z).length:Int)+1) (by lia) (by lia)
  have l2:o.length<qF:=aF (show o.length<2000 by lia) (by decide)
  have ap:o.map (λn=>AV.sh (.int n))++[.sh (.int x)]=(o++[x]).map λn=>.sh (.int n):=by rw[mBq];rfl
  have zz:((z:Nat):Int).toNat=z:=aX z;refine⟨[some (.sh (.int (c / (((l.eraseIdx z).length:Int)+1)))),some (.sh (.int (n:Int))),some (aI (l.eraseIdx z)),some (aI (o++[x])),some (.sh d)],?_,_,_,_,_,rfl,?_,by rw[lAq,lSq,ho]⟩
  .simp_arith [wM,sl,m1,z1,zz,ea,ee,l1,P8,se,d1,l2,ap,Int.natCast_nonneg,true_and,and_true]
  .rw [ah];exact(aQ.append_left o (erase_perm hx)).trans hp)
 obtain⟨S',e,c',l,o,v4,rfl,hp,ho⟩:=key;rw[oI]at ho;have hl:=hp.length_eq;unfold AF at hl;rw[lAq,lMq,aT]at hl;have hl0:l=[]:=bZ.mp (by lia)
 subst hl0;rw[aNq]at hp;refine⟨o,?_,hp⟩;have r:=yc (n:=n) (by lia)
 have lr:(oU 0 n).length<=qF:=by rw[oI];exact vF (by lia)
 have er:(oU 0 n).map AV.sh=(AF n).map λz=>AV.sh (.int z):=by rw[FM,mPq];rfl
 simp_arith [vT,Cf,D1,r,lr,er,e]
theorem V0{i j:Int}(h0:0<j) (h1:j<2 ^ 250):M4 (.int i) (.int j)=some (.int (i / j)):=by
 refine tO ⟨h0,?_⟩ _;have h2:j.natAbs<2 ^ 250:=by
  have:((j.natAbs:Nat):Int)=j:=Int.natAbs_of_nonneg (by lia)
  have h3:((j.natAbs:Nat):Int)<((2 ^ 250:Nat):Int):=by rw[this];exact h1
  exact Int.ofNat_lt.mp h3
 exact aF ((Nat.log2_lt (by lia)).mpr h2) (by decide)
theorem Kd(ns:List Int) {n:Nat}(hn:n<=30):∃N,vb [.scr ns,.int (n:Int)]=some (aI N)/\N.length=n/\N.Nodup/\∀x∈N,1<=x:=by
 have hB:(100:Int)<10 ^ 60:=by decide
 have hB2:(10:Int) ^ 60<2 ^ 250:=by decide
 have key:=tX (x:=5) (body:=vE) (λi S=>∃c N nm v5 v6,S=[some (.sh (.scr ns)),some (.sh (.int (n:Int))),some (.sh (.int c)),some (aI N),some (.sh (.int nm)),v5,v6]/\N.length=i/\N.Nodup/\(∀x∈N,1<=x/\x<=nm)/\0<=nm/\nm<10 ^ 60-(n:Int)+(i:Int)) (ds:=oU 0 n) (S:=[some (.sh (.scr ns)),some (.sh (.int (n:Int))),some (.sh (.int (cell ns 2))),some (.ow []),some (.sh (.int 0)),none,none]) ⟨cell ns 2,[],0,none,none,rfl,rfl,aW,(λx h=>by cases h),gS _,by lia⟩ (by
  rintro i d S hd ⟨c,N,nm,v5,v6,rfl,hN,hnd,hx,h0,h1⟩;have hi:i<n:=by
   have:=(gSq.mp hd).1
   rwa [oI]at this
  rw[wN hi]at hd;cases hd;rw[fV];have hr0:0<10 ^ 60-(n:Int)+(i:Int)-nm:=by lia
  have hr1:10 ^ 60-(n:Int)+(i:Int)-nm<2 ^ 250:=Int.lt_of_le_of_lt (show 10 ^ 60-(n:Int)+(i:Int)-nm<=10 ^ 60 by lia) hB2
  have hr2:nm+(10 ^ 60-(n:Int)+(i:Int)-nm)<10 ^ 60-(n:Int)+((i+1:Nat):Int):=by lia
  have ps:E9 (.int 10) (.int 60)=some (.int (10 ^ 60)):=by simp_arith []
  generalize hR:10 ^ 60-(n:Int)+(i:Int)-nm=R at hr0 hr1 hr2;have m1:=rA (i:=c) (j:=R) hr0;have a0:=bo c (b:=R) (by lia)
  have a1:=bh c hr0;have dB:=V0 (i:=c) hr0 hr1;have l2:N.length<qF:=aF (show N.length<2000 by lia) (by decide)
  have ap:N.map (λn=>AV.sh (.int n))++[.sh (.int (nm+1+c % R))]=(N++[nm+1+c % R]).map λn=>.sh (.int n):=by rw[mBq];rfl
  refine⟨[some (.sh (.scr ns)),some (.sh (.int (n:Int))),some (.sh (.int (c / R))),some (aI (N++[nm+1+c % R])),some (.sh (.int (nm+1+c % R))),some (.sh (.int (i:Int))),some (.sh (.int R))],?_,_,_,_,_,_,rfl,by rw[lAq,lSq,hN],?_,?_,by lia,by lia⟩
  .simp_arith [vE,hR,m1,dB,l2,ap]
  .refine nAq.mpr ⟨hnd,by simp,λa ha b hb e=>?_⟩
   rw[mSq.mp hb]at e;have:=(hx a ha).2;lia
  .intro x hx';rcases mAq.mp hx' with z|z
   .have:=hx x z;lia
   .rw [mSq.mp z];lia)
 obtain⟨S',e,c,N,nm,v5,v6,rfl,hN,hnd,hx,_⟩:=key;rw[oI]at hN;refine⟨N,?_,hN,hnd,λx h=>(hx x h).1⟩
 have r:=yc (n:=n) (by lia)
 have c2:nV [.scr ns,.int 2]=some (.sh (.int (cell ns 2))):=vq ns (by decide)
 simp_arith [vb,Au,c2,r,e]
end K75
--ZQ3 --ZQ4 --ZQ5 --ZQ6 --ZQ8 --ZQ9 --ZQB --ZQC --ZQD --ZQE --ZQF --ZQG
namespace K75
open PySem L2 Mr Z Xe Zl K72
def kI(ks:List Int):List (oy×D):=ks.map λk=>((aG k:oy),D.bl true)
theorem LY(ks:List Int) (t:Int):(kI ks).any (λkv=>decide (kv.1=(aG t:oy)))=decide (t∈ks):=by
 induction ks with
 |nil=>simp[kI]
 |cons k ks ih =>
  unfold kI at ih ⊢;rw[aC,eX,ih]
  by_cases h:t=k
  .subst h;simp
  .have h':¬ (aG k:oy)=aG t:=λq=>h (aG.inj q).symm
   simp[h',h]
theorem RE(ks:List Int) (t:Int):(Z.getD (kI ks) (aG t)).isSome=decide (t∈ks):=by
 unfold Z.getD;rw[cc,←LY,bR,dJ,dS]
theorem RL{ks:List Int}{t:Int}(h:t∉ks):xf (kI ks) (aG t) (.bl true)=kI (ks++[t]):=by
 unfold xf;rw[LY,decide_eq_false h,oB (by simp)]
 simp[kI]
theorem RX(ks:List Int):(kI ks).length=ks.length:=by unfold kI;rw[lMq]
def qQ(N:List Int):List Int:=N.flatMap λx=>[x,0-x]
theorem We{N:List Int}(hN:N.length<=30) {s0 s1 s2:Option AV}:∃v4,rQ 4 wC (N.map D.int) [s0,s1,s2,some (.ow []),none,none,none,none,none,none,none]=some (.nx [s0,s1,s2,some (aI (qQ N)),v4,none,none,none,none,none,none]):=by
 have key:=tX (x:=4) (body:=wC) (λi S=>∃v4,S=[s0,s1,s2,some (aI (qQ (N.take i))),v4,none,none,none,none,none,none]) (ds:=N.map D.int) (S:=[s0,s1,s2,some (.ow []),none,none,none,none,none,none,none]) ⟨none,rfl⟩ (by
  rintro i d S hd ⟨v4,rfl⟩;rw[gMq]at hd;obtain⟨x,hx,rfl⟩:=oMq.mp hd;have et:qQ (N.take (i+1))=qQ (N.take i)++[x,0-x]:=by
   unfold qQ;rw[bw,hx,fy];rfl
  have ll:(qQ (N.take i)).length+2<=qF:=by
   have:∀l:List Int,(qQ l).length=2*l.length:=λl=>by
    unfold qQ
    induction l with
    |nil=>rfl
    |cons x l ih=>rw[cZ,lAq,ih,lCq];simp only[lCq,cW];lia
   rw[this,lTq];exact vF (by lia)
  have ap:(qQ (N.take i)).map (λn=>AV.sh (.int n))++[.sh (.int x),.sh (.int (0-x))]=(qQ (N.take i)++[x,0-x]).map λn=>.sh (.int n):=by rw[mBq];rfl
  refine⟨_,?_,some (.sh (.int x)),by rw[et]⟩
  generalize qQ (N.take i)=E at ll ap
  simp_arith [wC,ll,ap])
 obtain⟨S',e,v4,rfl⟩:=key;rw[lMq,aZ]at e;exact⟨v4,e⟩
def XB(N:Nat):AS->Nat
 | [_,_,_,_,_,_,_,_,_,some (.ow l),_]=>N+1-l.length
 |_=>0
theorem VN{E o:List Int}{kn:List Int}{s0 s1 s2 s4 s6 s8:Option AV}(hE:E.Nodup) (hl:E.length<=60) (ho:o.Perm (AF E.length)) (hk:kn.Nodup) (hs:∀x∈kn,x∈E) {e:Int}(he:e∈E):∃t z,rV (uE (tN (nH 10) (nH 7))) wV 100000 [s0,s1,s2,some (.sh (dI E)),s4,some (aI o),s6,some (.owd (kI kn)),s8,some (.ow []),some (.sh (.int e))]=some (.nx [s0,s1,s2,some (.sh (dI E)),s4,some (aI o),s6,some (.owd (kI (kn++t))),s8,some (aI t),some (.sh (.int z))])/\(kn++t).Nodup/\(∀x∈kn++t,x∈E)/\e∈kn++t:=by
 have key:=xH (c:=uE (tN (nH 10) (nH 7))) (body:=wV) (λS=>∃t z,S=[s0,s1,s2,some (.sh (dI E)),s4,some (aI o),s6,some (.owd (kI (kn++t))),s8,some (aI t),some (.sh (.int z))]/\z∈E/\(kn++t).Nodup/\(∀x∈kn++t,x∈E)/\(z=e∨e∈kn++t)) (XB 60) (λS=>∃t z,S=[s0,s1,s2,some (.sh (dI E)),s4,some (aI o),s6,some (.owd (kI (kn++t))),s8,some (aI t),some (.sh (.int z))]/\(kn++t).Nodup/\(∀x∈kn++t,x∈E)/\e∈kn++t) (by
  rintro S ⟨t,z,rfl,hz,hn,hsub,hor⟩;have hg:=RE (kn++t) z;have hle:=QN _ _ hn hsub;rw[lAq]at hle
  by_cases c:z∈kn++t
  .rw [decide_eq_true c]at hg;refine⟨false,[s0,s1,s2,some (.sh (dI E)),s4,some (aI o),s6,some (.owd (kI (kn++t))),s8,some (aI t),some (.sh (.int z))],?_,λq=>(nomatch q),λ_=>⟨t,z,rfl,hn,hsub,?_⟩⟩
   .simp_arith [hg]
   .rcases hor with q|q
    .rw [←q];exact c
    .exact q
  .rw [decide_eq_false c]at hg;have hp:=RL c;rw[ah]at hp;have hol:=ho.length_eq;unfold AF at hol;rw[lMq,aT]at hol;have hi:E.idxOf z<E.length:=dZ.mpr hz;have hi2:E.idxOf z<o.length:=by lia
   have hx:zN (dI E) [.int z]=some (.int (E.idxOf z:Nat)):=by
    show (rR (E.map D.int)).bind _=_;rw[uY];show (if _ then _ else _)=_
    rw[oz hz]
   generalize E.idxOf z=k at hi hi2 hx;have h1:=gEg hi2;obtain⟨j,hj,hjo⟩:∃j:Nat,j<E.length/\o[k]=(j:Int):=by
    have:=ho.mem_iff.mp (gRq hi2);obtain⟨j,hj,e⟩:=mMq.mp this;exact⟨j,bO.mp hj,e.symm⟩
   rw[hjo]at h1;have at1:atI (o.map D.int) (k:Int)=some (.int (j:Int)):=si (by rw[gMq,h1];rfl)
   have at2:atI (E.map D.int) (j:Int)=some (.int E[j]):=si (by rw[gMq,gEg hj];rfl)
   have hy:E[j]∈E:=gRq hj;generalize E[j]=y at at2 hy;have so:=oR o;have hn2:(kn++(t++[z])).Nodup:=by
    rw[←ah,nAq];exact⟨hn,by simp,λa ha b hb q=>c (by rw[mSq.mp hb]at q;exact q ▸ ha)⟩
   have hs2:∀x∈kn++(t++[z]),x∈E:=λx hx=>by
    rw[←ah]at hx;rcases mAq.mp hx with q|q
    .exact hsub x q
    .rw [mSq.mp q];exact hz
   have hle2:=QN _ _ hn2 hs2;rw[lAq,lAq,lSq]at hle2;have l1:(kI (kn++t)).length<qF:=by rw[RX,lAq];show _<16777216;lia
   have l2:t.length<qF:=by show _<16777216;lia
   have ap:t.map (λn=>AV.sh (.int n))++[.sh (.int z)]=(t++[z]).map λn=>.sh (.int n):=by rw[mBq];rfl
   refine⟨true,[s0,s1,s2,some (.sh (dI E)),s4,some (aI o),s6,some (.owd (kI (kn++t))),s8,some (aI t),some (.sh (.int z))],?_,λ_=>⟨[s0,s1,s2,some (.sh (dI E)),s4,some (aI o),s6,some (.owd (kI (kn++(t++[z])))),s8,some (aI (t++[z])),some (.sh (.int y))],?_,⟨t++[z],y,rfl,hy,hn2,hs2,?_⟩,?_⟩,λq=>(nomatch q)⟩
   .simp_arith [hg]
   .simp_arith [wV,l1,hp,l2,ap,hx,so,at1,at2]
   .refine .inr ?_;rcases hor with q|q
    .rw [←q];simp
    .rw [←ah];exact mAq.mpr (.inl q)
   .show 60+1-_<60+1-_;simp only[lMq,lAq,lSq];lia)
 obtain⟨S',ew,t,z,rfl,h1,h2,h3⟩:=key 100000 [s0,s1,s2,some (.sh (dI E)),s4,some (aI o),s6,some (.owd (kI kn)),s8,some (.ow []),some (.sh (.int e))] ⟨[],e,by simp,he,by simpa using hk,by simpa using hs,.inl rfl⟩ (by
  show 60+1-0<100000;lia)
 exact⟨t,z,ew,h1,h2,h3⟩
theorem Wh{E o:List Int}{s0 s1 s2 s4:Option AV}(hE:E.Nodup) (hl:E.length<=60) (ho:o.Perm (AF E.length)) {avs:List AV}{T0:List (List Int)}(h0:avs.map nU=T0.map dI) (l0:T0.length<=10) (f0:T0.flatten=[]):∃(avs':List AV) (TT:List (List Int)) (v7 v8 v9 v10:Option AV),rQ 8 va (E.map D.int) [s0,s1,s2,some (.sh (dI E)),s4,some (aI o),some (.ow avs),some (.owd []),none,none,none]=some (.nx [s0,s1,s2,some (.sh (dI E)),s4,some (aI o),some (.ow avs'),v7,v8,v9,v10])/\avs'.map nU=TT.map dI/\TT.flatten.Perm E/\TT.length<=70:=by
 have key:=tX (x:=8) (body:=va) (λi S=>∃avs' TT kn v8 v9 v10,S=[s0,s1,s2,some (.sh (dI E)),s4,some (aI o),some (.ow avs'),some (.owd (kI kn)),v8,v9,v10]/\avs'.map nU=TT.map dI/\TT.flatten=kn/\kn.Nodup/\(∀x∈kn,x∈E)/\(∀x∈E.take i,x∈kn)/\TT.length<=10+i) (ds:=E.map D.int) (S:=[s0,s1,s2,some (.sh (dI E)),s4,some (aI o),some (.ow avs),some (.owd []),none,none,none])
  ⟨avs,T0,[],none,none,none,rfl,h0,f0,aW,(λ_ h=>by cases h),(λ_ h=>by cases h),l0⟩ (by
  rintro i d S hd ⟨avs,TT,kn,v8,v9,v10,rfl,hst,hf,hk,hs,ha,hT⟩;rw[gMq]at hd;obtain⟨e,he,rfl⟩:=oMq.mp hd;have hi:i<E.length:=(gSq.mp he).1;have heE:=mGq he;obtain⟨t,z,ew,h1,h2,h3⟩:=VN (s0:=s0) (s1:=s1) (s2:=s2) (s4:=s4) (s6:=some (.ow avs)) (s8:=some (.sh (.int e))) hE hl ho hk hs heE;have ha2:∀x∈E.take (i+1),x∈kn++t:=λx hx=>by
   rw[bw,he]at hx;rcases mAq.mp hx with q|q
   .exact mAq.mpr (.inl (ha x q))
   .have:x=e:=by simpa using q
    rw[this];exact h3
  have hla:avs.length=TT.length:=by simpa using congrArg bL hst
  by_cases c:t=[]
  .subst c;have t0:wL (dI [])=some false:=rfl;refine⟨[s0,s1,s2,some (.sh (dI E)),s4,some (aI o),some (.ow avs),some (.owd (kI (kn++[]))),some (.sh (.int e)),some (aI []),some (.sh (.int z))],?_,avs,TT,kn++[],_,_,_,rfl,hst,by rw[aNq];exact hf,h1,h2,ha2,by lia⟩
   have s0:=oR []
   simp_arith [va,ew,s0,t0]
  .have t1:wL (dI t)=some true:=by
    cases t with
    |nil=>exact absurd rfl c
    |cons x t=>rfl
   have st:=oR t;have l1:avs.length<qF:=by show _<16777216;lia
   refine⟨[s0,s1,s2,some (.sh (dI E)),s4,some (aI o),some (.ow (avs++[.sh (dI t)])),some (.owd (kI (kn++t))),some (.sh (.int e)),some (.sh (dI t)),some (.sh (.int z))],?_,avs++[.sh (dI t)],TT++[t],kn++t,_,_,_,rfl,by rw[mBq,mBq,hst];simp,by rw[fAq,hf,bg],h1,h2,ha2,by rw[lAq,lSq];lia⟩
   simp_arith [va,ew,st,t1,l1])
 obtain⟨S',e,avs',TT,kn,v8,v9,v10,rfl,hst,hf,hk,hs,ha,hT⟩:=key;rw[lMq]at hT ha;rw[aZ]at ha;refine⟨avs',TT,_,v8,v9,v10,e,hst,?_,by lia⟩
 rw[hf];exact(bF hk hE).mpr λx=>⟨hs x,ha x⟩
structure Rw (M:List (List Int)):Prop where
 nd:M.flatten.Nodup
 len:M.flatten.length<=134
 lr:M.length<=100
 neg:∀e∈M.flatten, -e∈M.flatten
theorem Rw.mp{M:List (List Int)}(h:Rw M):Mp M:=⟨h.nd,by have:=h.len;lia,by have:=h.lr;lia,h.neg⟩
theorem Rx(ns:List Int):∃M,yj [.scr ns,.int 30]=some (.ow (M.map λr=>.sh (dI r)))/\Rw M:=by
 have m31:=rA (i:=cell ns 1) (j:=30+1) (by decide)
 have b0:=bo (cell ns 1) (b:=30+1) (by decide)
 have b1:=bh (cell ns 1) (b:=30+1) (by decide)
 obtain⟨n,hn⟩:∃n:Nat,cell ns 1 % (30+1)=(n:Int):=⟨(cell ns 1 % (30+1)).toNat,by lia⟩
 rw[hn]at m31 b1;obtain⟨N,eN,lN,ndN,pN⟩:=Kd ns (n:=n) (by lia)
 have sN:=oR N;obtain⟨v4,e0⟩:=We (N:=N) (by lia) (s0:=some (.sh (.scr ns))) (s1:=some (.sh (.int 30))) (s2:=some (.sh (.int (n:Int))))
 have eE:qQ N=N.flatMap λx=>[x, -x]:=by
  unfold qQ;congr 1;funext x;rw[Int.zero_sub]
 have hE:(qQ N).Nodup:=by rw[eE];exact pm_nodup ndN pN
 have lE:(qQ N).length=2*N.length:=by
  unfold qQ;have:∀l:List Int,(l.flatMap λx=>[x,0-x]).length=2*l.length:=λl=>by
   induction l with
   |nil=>rfl
   |cons x l ih=>rw[cZ,lAq,ih,lCq];simp only[lCq,cW];lia
  exact this N
 have negE:∀z∈qQ N, -z∈qQ N:=λz h=>by
  rw[eE]at h ⊢;obtain⟨y,hy,q⟩:=cH.mp h;refine cH.mpr ⟨y,hy,?_⟩;simp only[aj,cD,or_false]at q ⊢;lia
 generalize qQ N=E at e0 hE lE negE;have sE:=oR E;have c4:nV [.scr ns,.int 4]=some (.sh (.int (cell ns 4))):=vq ns (by decide)
 have c1:nV [.scr ns,.int 1]=some (.sh (.int (cell ns 1))):=vq ns (by decide)
 obtain⟨o,eo,po⟩:=Ky (cell ns 4) (n:=E.length) (by lia)
 have d31:=yP (i:=cell ns 1) (j:=30+1) (by decide) (by decide)
 have m4:=rA (i:=cell ns 1 / (30+1)) (j:=4) (by decide)
 have a0:=bo (cell ns 1 / (30+1)) (b:=4) (by decide)
 have a1:=bh (cell ns 1 / (30+1)) (b:=4) (by decide)
 obtain⟨k,hk⟩:∃k:Nat,cell ns 1 / (30+1) % 4=(k:Int):=⟨(cell ns 1 / (30+1) % 4).toNat,by lia⟩
 rw[hk]at m4 a1;have rk:=yc (n:=k) (by lia)
 have nk:=JW k;have rd:=oI 0 k;have lk:k<=qF:=vF (by lia)
 have sK:((aO k ([]:List Int)).map aI).map nU=(aO k ([]:List Int)).map dI:=by rw[mPq];exact mCq λr _=>oR r
 obtain⟨avs,TT,v7,v8,v9,v10,e3,hst,pT,lT⟩:=Wh (s0:=some (.sh (.scr ns))) (s1:=some (.sh (.int 30))) (s2:=some (.sh (.int (n:Int)))) (s4:=v4) hE (by lia) po sK (by rw[dF];lia) (by simp)
 have fl:TT.flatten.length=E.length:=pT.length_eq;have gd:=IM (T:=TT) (λr hr=>by have:=MZ hr;lia) (by lia)
 have pf:=Jz TT;refine⟨zK (TT.map qZ),?_,⟨pf.nodup_iff.mpr (pT.nodup_iff.mpr hE),by rw[pf.length_eq];lia,by rw[BX,lMq];lia,λe he=>pf.mem_iff.mpr (pT.mem_iff.mpr (negE e (pT.mem_iff.mp (pf.mem_iff.mp he))))⟩⟩
 simp_arith [yj,Ga,c1,c4,m31,eN,sN,e0,sE,eo,d31,m4,rk,nk,rd,lk,e3,hst,gd]
end K75
--ZQ3 --ZQ4 --ZQ5 --ZQ6 --ZQ8 --ZQ9 --ZQB --ZQC --ZQD --ZQE --ZQF --ZQG
namespace K52
open PySem L2 Mr Z Xe Zl
open K31 (zk Mv Wd N0 AG B2)
open K12 (cN zQ vv A6)
open K43 (Aj qd)
open K51 (sG Ps)
section
variable {T:List (List Int)}{t0:List Nat}{h:Nat}{op rd r:List Int}{b:Bool}{v0 v6 v7 v8 v9 v10:Option AV}
def CD(l:List Int):List Int:=l.map λz=>-z
theorem Jt(hr:T[h]?=some r) (hl:r.length+op.length<=10000) :
  rV (yM (nH 5)) uy 100000 (vt v0 b T t0 h op rd v6 v7 v8 v9 v10)=some (.nx (vt v0 b (T.set h (r++CD op.reverse)) t0 h [] rd v6 v7 v8 v9 v10)):=by
 have hh:h<T.length:=(gSq.mp hr).1;obtain⟨S',e,l2,rfl,z⟩:=xH (c:=yM (nH 5)) (body:=uy)
  (λS=>∃l1 l2,S=vt v0 b (T.set h (r++CD l2)) t0 h l1 rd v6 v7 v8 v9 v10/\op=l1++l2.reverse)
  (λS=>match S with|[_,_,_,_,_,some (.ow l),_,_,_,_,_]=>l.length|_=>0)
  (λS'=>∃l2,S'=vt v0 b (T.set h (r++CD l2)) t0 h [] rd v6 v7 v8 v9 v10/\op=l2.reverse) (by
   rintro S ⟨l1,l2,rfl,hz⟩;have hzl:=congrArg bL hz;rw[lAq,gF]at hzl;rcases cF l1 with rfl|⟨l,x,rfl⟩
   .refine ⟨false,vt v0 b (T.set h (r++CD l2)) t0 h [] rd v6 v7 v8 v9 v10,?_,λq=>(nomatch q),λ_=>⟨l2,rfl,by rw[hz];rfl⟩⟩
    have sl:=oR []
    simp_arith [vt,sl,dI,Lr]
   .rw [cG]at hz hzl ⊢;have lng:(CD l2).length=l2.length:=lMq _;have hr2:(T.set h (r++CD l2))[h]?=some (r++CD l2):=aJ hh;have n1:=zk hr2;have iL:E1 T.length (h:Int)=some h:=HY hh;have lT:(T.set h (r++CD l2)).length=T.length:=lZq;have sw:=oR (cN (t0++[h]));have at4:atI ((cN (t0++[h])).map D.int) (-1)=some (.int (h:Int)):=by
     unfold K12.cN;rw[mBq,mBq];exact B1 _ _
    have sl:=oR (l++[x]);have tr:=Mx l x;have la:((l++[x]).map λn=>AV.sh (.int n))[(l++[x]).length-1]?=some (.sh (.int x)):=by rw[lAq,lSq,eD,mBq,gYq (by rw[lMq];exact ag _),lMq,bP];rfl
    have ld:((l++[x]).map λn=>AV.sh (.int n)).dropLast=l.map λn=>.sh (.int n):=by rw[mBq];exact de
    have pp:=Mv (r':=r++CD l2++[-x]) hr2;have a1:=zQ (r++CD l2) (-x);have l1':(r++CD l2).length<qF:=by
     rw[lAq,lSq]at hzl;rw[lAq,lng];show _<16777216;lia
    have ess:(T.set h (r++CD l2)).set h (r++CD l2++[-x])=T.set h (r++CD (l2++[x])):=by
     rw[fm,ah];unfold CD;rw[mBq];rfl
    refine⟨true,vt v0 b (T.set h (r++CD l2)) t0 h (l++[x]) rd v6 v7 v8 v9 v10,?_,λ_=>⟨vt v0 b (T.set h (r++CD (l2++[x]))) t0 h l rd v6 v7 v8 v9 v10,?_,⟨l,l2++[x],rfl,by rw[hz];simp⟩,?_⟩,λq=>(nomatch q)⟩
    .simp_arith [vt,sl,dI,tr]
    .simp_arith [uy,vt,n1,iL,lT,sw,dI,at4,la,ld,l1',a1,pp,ess,KJ,eq_self,true_and]
    .show (l.map _).length<((l++[x]).map _).length;rw[lMq,lMq,lAq,lSq];lia) 100000 (vt v0 b T t0 h op rd v6 v7 v8 v9 v10) ⟨op,[],by show _=vt v0 b (T.set h (r++[])) t0 h op rd v6 v7 v8 v9 v10;rw[aNq,Z.ED hr],by simp⟩ (by
   show (op.map _).length<100000;rw[lMq];lia)
 rw[e,z,fh]
theorem LW{nm:List Int}(hn:K31.Nm nm) (w:K31.Wm nm T):U6 (zK (T.map qZ)):=by
 have pG:(zK (T.map qZ)).flatten.Perm T.flatten:=(wB (tV _)).trans (rO uH _);have lG:(zK (T.map qZ)).length=T.length:=by rw[BX,lMq]
 have hl:=w.le;have h1:=hn.len;have h2:=w.len;have h3:=w.pos;have mp:Mp (zK (T.map qZ)):=⟨pG.nodup_iff.mpr (w.nodup hn),by rw[pG.length_eq];lia,by lia,λe he=>pG.mem_iff.mpr (w.neg hn (pG.mem_iff.mp he))⟩
 refine⟨mp,by lia,λk hk=>?_⟩
 obtain⟨kn,PS,hp,_⟩:=K51.DF (Aj mp);have f1:[T].flatten=T:=bg;have e1:=K17.Eb (P:=[T]) (by rw[f1];exact w.nodup hn) (λp hp=>by
  rw[mSq.mp hp];exact⟨λq=>(by rw[q]at h3;cases h3),λz hz=>w.neg hn hz,w.tr⟩) (by rw[f1];exact mp) (kn:=kn) (PS:=PS) (by rw[f1];exact hp)
 have e1:PS.length=1:=e1;obtain⟨ps,eps⟩:=List.length_eq_one_iff.mp e1;obtain⟨s,_,pc⟩:=hp.pc ps (by rw[eps];exact mSq.mpr rfl)
 have inn:∀j,j<(zK (T.map qZ)).length->sG (zK (T.map qZ)) s j:=λj hj=>by
  obtain⟨q,hq,hjq⟩:=hp.mem j (hp.all j hj);rw[eps]at hq;rw[mSq.mp hq]at hjq;exact(pc.iff j).mp hjq
 exact((inn 0 (by lia)).symm (Aj mp)).trans (inn k hk)
theorem KG{cs nm:List Int}(hc:cs.length<=63) (hn:K31.Nm nm):∃M,tL [aI cs,aI nm,.sh (.bl b)]=some (.ow (M.map λr=>.sh (dI r)))/\U6 M:=by
 have hnl:=hn.len;obtain⟨T,t0,h,op,rd,v6,v7,v8,v9,v10,e1,w⟩:=GJ (v0:=some (.sh (dI cs))) (b:=b) (nm:=nm) hc (by lia)
 have hlen:=w.len;obtain⟨hh,ht,lw,lT,lf,cnt,tr⟩:=w;simp only at hh ht lw lT lf cnt tr hlen;have hr:T[h]?=some (T.getD h []):=by rw[gDq,gEg hh];rfl
 have hrl:=A6 hr;generalize T.getD h []=r at hr hrl;rw[lMq]at hlen;have e2:=Jt (b:=b) (v0:=some (.sh (dI cs))) (t0:=t0) (op:=op) (rd:=rd) (v6:=v6) (v7:=v7) (v8:=v8) (v9:=v9) (v10:=v10) hr (by lia)
 have ngc:∀a,(CD op.reverse).count a=(op.map λz=>-z).count a:=λa=>by
  unfold CD;rw[List.map_reverse];exact(List.reverse_perm _).count_eq a
 have wm:K31.Wm nm (T.set h (r++CD op.reverse)):=⟨⟨rd,λa=>by
  rw[vv a hr,ngc];exact cnt a⟩,tr.set hr,by rw[lZq];lia,by rw[lZq];lia⟩
 generalize T.set h (r++CD op.reverse)=T' at e2 wm;have wl:=wm.le;have wl2:=wm.len;have go:=K72.IM (T:=T') (λr hr=>by have:=MZ hr;lia) (by lia)
 have sT:(T'.map aI).map nU=T'.map dI:=by rw[mPq];exact mCq λr _=>oR r
 have sc:=oR cs;refine⟨zK (T'.map qZ),?_,LW hn wm⟩;have e1':rQ 6 qR (cs.map D.int) [some (.sh (.list (cs.map D.int))),some (aI nm),some (.sh (.bl b)),some (.ow [.ow []]),some (.ow [.sh (.int 0)]),some (.ow []),none,none,none,none,none]=some (.nx (vt (some (.sh (dI cs))) b T t0 h op rd v6 v7 v8 v9 v10)):=e1;unfold vt at e1' e2;simp -implicitDefEqProofs only [Z.W0,ir,iu,gV,gW,gw,↓reduceIte,reduceCtorEq,dI]at e1' e2
 simp_arith [tL,BL,Jw,sc,dI,e1',e2,sT,go]
end
end K52
--ZQ3 --ZQ4 --ZQ5 --ZQ6 --ZQ8 --ZQ9 --ZQB --ZQC --ZQD --ZQE --ZQF --ZQG
namespace K52
open PySem L2 Mr Z Xe Zl
open K51 (Aa yp C1)
def pd(x:String×Int):PyData:=.tuple [.str (Str.ofString x.1),.int x.2]
theorem Ri(xs:List (String×Int)):Gh (xs.map yp)=some (xs.map pd):=by
 induction xs with
 |nil=>simp[Gh]
 |cons x xs ih=>simp[Gh,py,ih,pd]
theorem OV{xs:List (String×Int)}(h:∀x∈xs,PyData.strOk (Str.ofString x.1)=true):PyData.canLayAll0 (xs.map pd)=true:=by
 induction xs with
 |nil=>rfl
 |cons x xs ih =>
  have h1:=h x (au ..);have h2:=ih λy hy=>h y (mCo _ hy)
  simp[PyData.canLayAll0,PyData.canLay0,pd,h1]at h2 ⊢;exact h2
theorem JA(xs:List (String×Int)):PyData.depthAll (xs.map pd)<=8:=by
 induction xs with
 |nil=>simp[PyData.depthAll]
 |cons x xs ih =>
  simp[PyData.depthAll,PyData.depth,pd]at ih ⊢;lia
theorem Pu(xs:List (String×Int)):SeqAt.noMixAll (xs.map pd) (xs.map pd)=true:=by
 induction xs with
 |nil=>simp[SeqAt.noMixAll]
 |cons x xs ih =>
  simp[SeqAt.noMixAll,SeqAt.noMix,pd]at ih ⊢;exact ih
theorem QU(xs:List (String×Int)):PySem.Spec.sameAll (xs.map pd) (xs.map pd)=true:=by
 induction xs with
 |nil=>simp[PySem.Spec.sameAll]
 |cons x xs ih =>
  simp[PySem.Spec.sameAll,PySem.Spec.same,pd]at ih ⊢;exact ih
theorem K4{xs:List (String×Int)}(h:∀x∈xs,PyData.strOk (Str.ofString x.1)=true):yL (.list (xs.map yp)) (.list (xs.map yp))=some (.bl true):=by
 have h1:=Ri xs;have h2:=OV h;have h3:=JA xs;have h4:=Pu xs;have h5:=QU xs;have p:py (.list (xs.map yp))=some (.list (xs.map pd)):=by simp only[py,h1];rfl
 have sh:SeqAt.shaped (.list (xs.map pd))=true:=by
  show (PyData.canLay0 _ && decide (PyData.depth _<=64))=true;rw[dR];refine⟨by simp only[PyData.canLay0];exact h2,decide_eq_true ?_⟩
  simp only[PyData.depth];lia
 unfold yL;rw[p];show (if _ then _ else _)=_
 rw[oz ⟨sh,sh,by simp only[SeqAt.noMix];exact h4⟩]
 simp only[PySem.Spec.same,h5]
theorem C0{M:List (List Int)}(p:U6 M):∀n,n<=M.flatten.length->∀x∈(run M n).th,PyData.strOk (Str.ofString x.1)=true
 |0,_,x,hx=>by cases hx
 |n+1,hn,x,hx=>by
  have ih:=C0 p n (by lia)
  rcases (zZ p.mp p.pos p.one (show n<M.flatten.length by lia)).2.2.1 with ⟨a,_⟩|⟨a,_⟩|⟨a,_⟩
  all_goals
   rw[a]at hx;rcases mAq.mp hx with z|z
   .exact ih x z
   .rw [mSq.mp z]
    first|exact K51.U1|exact K51.Pj|exact K51.N8
def Ss:MS:=(oa (ox 3 (qL K51.wq (oA (oS 1) pQ)))
 (oa (ox 4 (qL (okX K51.xj) (oA (oS 3) pQ)))
 (oa (zJ (FZ (yx (uE (rP K51.tu (nO (nH 4) oj)))) (yx (uE (rP K52.qP (nO (nH 1) (nO (nH 4) oj)))))) (su (kSc (rC (.bl false)))) qM)
 (oa (ox 5 (zG (vh 4)))
 (su (kSc (D9 (oV yL (rOf (qL (okX K51.xj) (oA (oS 3) pQ))) (nH 5)) (D9 (oV yL (nH 4) (nH 5)) (oV yL (nH 3) (nH 1))))))))))
theorem Im{M:List (List Int)}(p:U6 M) {x:AV}(hx:nU x=dM M) {v0 v2:Option AV}:Ss [v0,some x,v2,none,none,none]=some (.rt (.sh (.bl true))):=by
 have cp:=K51.PL (rs:=M) (by have:=p.mp.hr;lia)
 have wk:=Of p.mp p.pos p.one;have fo:=FP p.mp p.pos p.one;have w1:=(xv p.mp p.pos M.flatten.length).whole p.mp (DI p.mp p.pos p.one) p.one;have hw:=C0 p M.flatten.length (ag _);generalize (run M M.flatten.length).th=th at wk fo w1 hw;have tk:=C1 th;have ds:=K4 hw;have sM:(M.map aI).map nU=M.map dI:=by rw[mPq];exact mCq λr _=>oR r
 have sD:(th.map Aa).map nU=th.map yp:=by rw[mPq];exact mCq λr _=>pH _
 have dM':yL (dM M) (dM M)=some (.bl true):=by rw[RK];simp
 have lt:th.length<=qF:=vF (by have:=p.mp.hl;lia)
 simp_arith [Ss,hx,cp,UE,wk,WC,sM,sD,tk,fo,ds,dM',lt]
theorem Q5{ns:List Int}(hns:ns.length<=63):Ih [.scr ns]=some (.sh (.bl true)):=by
 obtain⟨st,sh,a,b,h1,h1',h2,h2',h3,h4,h5,h6,er⟩:=K51.Nr ns;have hn:(K51.rds st sh a b).Nodup:=K51.Ja h1 h3 h4;have hp:∀z∈K51.rds st sh a b,1<=z:=λz hz=>K51.Oh h1 h2 hz
 have hR:(K51.rds st sh a b).length=67:=K51.OU st sh a b;generalize K51.rds st sh a b=R at er hn hp hR;have nm:K31.Nm R:=⟨by lia,hn,hp⟩
 have hcs:yr ns (some 3) (some 66)=(ns.drop 3).take 63:=NQ ns 3 66;have hl:((ns.drop 3).take 63).length<=63:=by rw[lTq];exact Nat.min_le_left ..
 generalize (ns.drop 3).take 63=cs at hcs hl;obtain⟨M,em,pm⟩:=KG (b:=decide (cell ns 1 % 2=0)) hl nm;have em':tL [.ow (cs.map λn=>.sh (.int n)),.ow (R.map λn=>.sh (.int n)),.sh (.bl (decide (cell ns 1 % 2=0)))]=some (.ow (M.map λr=>.sh (dI r))):=em
 have c0:nV [.scr ns,.int 0]=some (.sh (.int (cell ns 0))):=vq ns (by decide)
 have c1:nV [.scr ns,.int 1]=some (.sh (.int (cell ns 1))):=vq ns (by decide)
 have m2:=rA (i:=cell ns 1) (j:=2) (by decide)
 have m20:=rA (i:=cell ns 0) (j:=2) (by decide)
 have sM:∀N:List (List Int),nU (.ow (N.map λr=>.sh (dI r)))=dM N:=λN=>by rw[qT,mPq];exact congrArg D.list (mCq λr _=>pH _)
 have sM':∀N:List (List Int),(N.map λr=>AV.sh (dI r)).map nU=N.map dI:=λN=>by rw[mPq];exact mCq λr _=>pH _
 have lw:KW=(oa (ox 1 (Ea K52.tL (oA (Qb (vh 0) (yz (rC (.int 3))) (yz (rC (.int 66)))) (oA (qL K51.tq (oA (oS 0) pQ)) (oA (kSc (oV C7 (oV tK (rP Zl.nV (nO (nH 0) (nO (rC (.int 1)) oj))) (rC (.int 2))) (rC (.int 0)))) pQ)))))
  (oa (zJ (uE (oV C7 (oV tK (rP Zl.nV (nO (nH 0) (nO (rC (.int 0)) oj))) (rC (.int 2))) (rC (.int 1)))) (oa (ox 2 (qL K52.tx (oA (qL K75.yj (oA (oS 0) (oA (kSc (rC (.int 30))) pQ))) pQ))) (ox 1 (Qx (vh 2) (oV tK (oV AJ (rP Zl.nV (nO (nH 0) (nO (rC (.int 1)) oj))) (rC (.int 124))) (vO sm (nO (nH 2) oj)))))) qM) Ss)):=rfl
 by_cases q:cell ns 0 % 2=1
 .have dq:decide (cell ns 0 % 2=1)=true:=decide_eq_true q;obtain⟨A,ea,rw'⟩:=K75.Rx ns;obtain⟨x,L,es,sx,lp,ll,pl⟩:=NN rw'.mp;have d124:=yP (i:=cell ns 1) (j:=124) (by decide) (by decide)
  have ml:=rA (i:=cell ns 1 / 124) (j:=(L.length:Int)) (by lia)
  have p0:0<=cell ns 1 / 124 % (L.length:Int):=bo _ (by lia)
  have p1:cell ns 1 / 124 % (L.length:Int)<(L.length:Int):=bh _ (by lia)
  obtain⟨i,hi⟩:∃i:Nat,cell ns 1 / 124 % (L.length:Int)=(i:Int):=⟨(cell ns 1 / 124 % (L.length:Int)).toNat,by lia⟩
  rw[hi]at ml p1;have hil:i<L.length:=by lia
  have eN:L[i]?=some L[i]:=gEg hil;have pN:=pl L[i] (gRq hil);generalize L[i]=N at eN pN;have at1:atI (L.map dM) (i:Int)=some (dM N):=si (by rw[gMq,eN];rfl)
  have lq:=K46.Ru sx;have sh':=(K46.JN x).trans sx;have lL:(L.map dM).length=L.length:=lMq _;have fin:=λv0 v2=>Im pN (x:=.sh (dM N)) (pH _) (v0:=v0) (v2:=v2)
  simp_arith [Ih,lw,Ie,hcs,xG,er,c0,c1,m2,em',m20,dq,ea,sM',es,sx,lq,sh',d124,lL,ml,at1,fin]
 .have dq:decide (cell ns 0 % 2=1)=false:=decide_eq_false q;have fin:=λv0 v2=>Im pm (x:=.ow (M.map λr=>.sh (dI r))) (sM M) (v0:=v0) (v2:=v2)
  simp_arith [Ih,lw,Ie,hcs,xG,er,c0,c1,m2,em',m20,dq,fin]
end K52
namespace K52
open PySem L2 Mr Z Xe
theorem To{l:W.OpenLaw}{w:iU}{K:W.Frag}{h:Heap}{mg:Str->Option Value}{fa:Addr}(X:K.In h) (G:h.Ns iS mg) (hfa:mg "law" = some (.ref fa))
  {M:Addr}
  {rZ:Addr}
  (a0:At K "places_at" sC f0 fd0)
  (a1:At K "nexts" zu f1 fd1)
  (a2:At K "reached" we f2 fd2)
  (a3:At K "pieces" xU f3 fd3)
  (a4:At K "refuse_not_one_piece" pL f4 fd4)
  (a5:At K "walk" Bq f5 fd5)
  (a6:At K "_law_cell" tZ f6 fd6)
  (a7:At K "_law_roads" wx f7 fd7)
  (a8:At K "_law_good" wu f8 fd8)
  (a9:At K "_law_piece" wt f9 fd9)
  (a10:At K "_law_copy" xV f10 fd10)
  (a11:At K "_law_whole" vV f11 fd11)
  (a12:At K "_law_things" uO f12 fd12)
  (a13:At K "_law_follow" uS f13 fd13)
  (a14:At K "_law_places" tJ f14 fd14)
  (a15:At K "_law_followed" sS f15 fd15)
  (a16:At K "_law_order" vS f16 fd16)
  (a17:At K "_law_called" uW f17 fd17)
  (a18:At K "_law_any" yY f18 fd18)
  (a19:At K "_law_split" wa f19 fd19)
  (a20:W.nsIn K iS "law" = some (some (.ref f20))) (l20:K.lookup f20=some ⟨oc20,od20,.func (W.fnOf "law" "law" (uv yt) (sL yt) (og yt) .none kV20 dc20 pm20 an20 cd20 ct20),sl20⟩) (c20:W.codeIn K cd20 "law" = true) (k20:W.keepIn K (.ref f20)=true)
  (aM:W.nsIn K iS "MapError" = some (some (.ref M))) (xM:AI K "MapError" M DN=true)
  (CH:W.nsIn K iS "NotOnePiece" = some (some (.ref rZ))) (CI:AI K "NotOnePiece" rZ (.ref M::DN)=true) (Cu:Wt K rZ=true)
  (CJ:W.findIn K (.ref rZ) "__init__" = some (some (.builtin "ValueError.__init__"))) (BC:W.keepIn K (.ref rZ)=true)
  (btu:W.nsIn K iS "tuple" = some none)
  (bx_set:W.nsIn K iS "set" = some none)
  (z0:W.nsIn K iS "len" = some none) (z1:W.nsIn K iS "min" = some none) (z2:W.nsIn K iS "max" = some none) (z3:W.nsIn K iS "abs" = some none) (z4:W.nsIn K iS "all" = some none) (z5:W.nsIn K iS "sorted" = some none) (z6:W.nsIn K iS "isinstance" = some none) (z7:W.nsIn K iS "list" = some none) (z8:W.nsIn K iS "int" = some none) (z9:W.nsIn K iS "bool" = some none) (z10:W.nsIn K iS "str" = some none) (z11:W.nsIn K iS "dict" = some none) (z12:W.nsIn K iS "zip" = some none) (z13:W.nsIn K iS "enumerate" = some none) (z14:W.nsIn K iS "range" = some none) (z15:W.nsIn K iS "reversed" = some none) :
  ∃fd:ja,(∀(s:Shared) (v:Value),lO s fd ⟨[v],[]⟩ [("_law_script", v)])/\∀base:Heap,K.In base->base.Ns iS mg->yW l.prog w K mg base Si 6 fa fd ["_law_script"] (Iz K):=by
 have e:=hfa.symm.trans (W.mg_of X G a20);cases e;have B:Bt mg:=⟨W.mg_none_of X G z0,W.mg_none_of X G z1,W.mg_none_of X G z2,W.mg_none_of X G z3,W.mg_none_of X G z4,W.mg_none_of X G z5,W.mg_none_of X G z6,W.mg_none_of X G z7,W.mg_none_of X G z8,W.mg_none_of X G z9,W.mg_none_of X G z10,W.mg_none_of X G z11,W.mg_none_of X G z12,W.mg_none_of X G z13,W.mg_none_of X G z14,W.mg_none_of X G z15⟩;have D20:AE K mg "law" yt ["_law_script"] _ _:=⟨G2 l20 c20 k20,W.mg_of X G a20,b1 (G2 l20 c20 k20) λ_ _ _ _ _ _ _=>rfl⟩
 refine⟨W.fnOf "law" "law" (uv yt) (sL yt) (og yt) .none kV20 dc20 pm20 an20 cd20 ct20,λs v=>.of_eq rfl,λbase kb nb=>?_⟩
 have bTU:=W.mg_none_of X G btu;have bX_set:=W.mg_none_of X G bx_set;have R8:=OR X G aM xM;have CL:=Tf CH aM CI xM Cu;have rX:=Pq X G CL CJ BC;have F0:=El (P:=l.prog) (w:=w) (base:=base) (CP X G a0 (b1 a0.F λ_ _ _ _ _ _ _=>rfl)) B
 have F1:=L0 (P:=l.prog) (w:=w) (base:=base) (CP X G a1 (b1 a1.F λ_ _ _ _ _ _ _=>rfl)) B
 have F2:=GT (CP X G a2 (b2 a2.F λ_ _ _ _ _ _ _ _=>rfl)) B F0
 have F3:=J5 (CP X G a3 (b1 a3.F λ_ _ _ _ _ _ _=>rfl)) B F2
 have F4:=vP (CP X G a4 (b1 a4.F λ_ _ _ _ _ _ _=>rfl)) B rX F3
 have F5:=Ot (CP X G a5 (b1 a5.F λ_ _ _ _ _ _ _=>rfl)) B F4 F0 F1
 have F6:=Jy (P:=l.prog) (w:=w) (base:=base) (CP X G a6 (b2 a6.F λ_ _ _ _ _ _ _ _=>rfl)) B
 have F7:=GK (CP X G a7 (b1 a7.F λ_ _ _ _ _ _ _=>rfl)) B F6
 have F8:=JV (P:=l.prog) (w:=w) (base:=base) (CP X G a8 (b1 a8.F λ_ _ _ _ _ _ _=>rfl)) B
 have F9:=Gi (CP X G a9 (b3 a9.F λ_ _ _ _ _ _ _ _ _=>rfl)) B F8
 have F10:=JO (P:=l.prog) (w:=w) (base:=base) (CP X G a10 (b1 a10.F λ_ _ _ _ _ _ _=>rfl)) B
 have F11:=Hd (P:=l.prog) (w:=w) (base:=base) (CP X G a11 (b1 a11.F λ_ _ _ _ _ _ _=>rfl)) B
 have F12:=EJ (CP X G a12 (b1 a12.F λ_ _ _ _ _ _ _=>rfl)) B bTU F11
 have F13:=E8 (P:=l.prog) (w:=w) (base:=base) (CP X G a13 (b1 a13.F λ_ _ _ _ _ _ _=>rfl)) B
 have F14:=FT (P:=l.prog) (w:=w) (base:=base) (CP X G a14 (b1 a14.F λ_ _ _ _ _ _ _=>rfl)) B
 have F15:=CG (CP X G a15 (b2 a15.F λ_ _ _ _ _ _ _ _=>rfl)) B F14 F13
 have F16:=HD (P:=l.prog) (w:=w) (base:=base) (CP X G a16 (b2 a16.F λ_ _ _ _ _ _ _ _=>rfl)) B
 have F17:=Fc (CP X G a17 (b2 a17.F λ_ _ _ _ _ _ _ _=>rfl)) B F6
 have F18:=NH (CP X G a18 (b2 a18.F λ_ _ _ _ _ _ _ _=>rfl)) B F17 F16 F8 F6
 have F19:=GL (CP X G a19 (b1 a19.F λ_ _ _ _ _ _ _=>rfl)) B bX_set F14
 have F20:=RZ D20 B F9 F10 F5 F7 F19 F6 F18 F12 F15;exact F20.ok.imp (PD λns h=>Q5 h)
theorem Ws{l:W.OpenLaw}{q:iT}{loose:List Str}{XP:(Str->Option Value)->Heap->Prop}{YP:iU->Heap->Prop}{d:DefRec}{K:Params->W.Frag}(hn:l.most=some 63) (hdf:d.params.defaults=[])
  (hY:∀(w:iU) (h:Heap),YP w h->(K w.params).In h)
  (F:∀(w:iU) (mg:Str->Option Value) (fa:Addr) (h:Heap),(K w.params).In h->h.Ns iS mg->mg d.name=some (.ref fa) ->
   ∃fd:ja,(∀(s:Shared) (u:Value),lO s fd ⟨[u],[]⟩ [("_law_script", u)])/\∀base:Heap,(K w.params).In base->base.Ns iS mg->yW l.prog w (K w.params) mg base Si 6 fa fd ["_law_script"] (Iz (K w.params))) :
  W.WalkO q loose XP YP l.row.toRowW d [] (λf vs=>PySem.call f vs) :=
 L2.Od (n:=63) (k:=6) (x := "_law_script") (CX:=λ_=>Si) (sp:=λw=>Iz (K w.params)) hn (by decide) hdf ⟨rfl,by decide,by decide⟩ hY F (λ_ _ a ns hl _ hS=>⟨a,ns,rfl,hS,hl,λ_=>rfl⟩) λ_ _ _ _ _ z=>z
end K52
structure PySem.W.Fast:Prop where(tw15441675602464092270 tw11255728279785582617 tw1344305316894728191 tw16695064484170476468 tw11868303087163288973 tw17495060104011017832 tw12064437342195117562 tw9678125741196174201 tw7817646223465386908 tw506085032232507219 tw1612019166965822662 tw12527898903771383144 tw10285472562502966733 tw17333668169056458921 tw5831534360688192852 tw15445566990687561680 tw16281023179048384295 tw15468088798039341484 tw6626062804430065458 tw17196995020104608177 tw17241987364503920207 tw10618277297052627829 tw3667177352312458271 tw11420023386339646427 tw1138012280192239764 tw2372390855184897847 tw15421674969715377272 tw9858325601645822349 tw18314710383717633735 tw78102968456520314 tw17652308237578507415 tw6851128168681623560 tw2899029794981624561 tw5259425379396363550 tw7217437205885670195 tw13535456769158620234 tw17322743262957060682 tw11752132636864420763 tw12997442276445243499 tw18186359149209557419 tw16241429582870088263 tw5599989798649272201 tw14733630949421723910 tw17587992103442311887 tw11802416025901244553 tw14186635222528662330 tw10614656437065994922 tw2391095516649143575 tw16832844923250671110 tw4475116891355847488 tw7507211194213565446 tw15115298447240621443 tw6418556254392751796 tw6887488530449256595 tw11353033108973384618 tw10687160612321323582 tw1740365141304597123 tw3253745945686355343 tw12009331696664484828 tw672511547483344770 tw10318839879569429732 tw5390432517249000634 tw2116602532393920083 tw10232860238277468886 tw14876237207648497306 tw7507169956903503283 tw2695814322716686198 tw17191786770343734792 tw17116778908998166397 tw13881743430519641131 tw7711190513385917181 tw4166897860501856431 tw17956695457821440409 tw2811119446102249284 tw5752553477820778977 tw13685316427728559280 tw15861770948311885913 tw5465633358986770930 tw6315910535732054785 tw12809887306408388690 tw11337359583702641142 tw9435957591739694816 tw11516438388879434104 tw13799657628836666797 tw777224316080463337 tw15225515193918884996 tw14114792439374484783 tw10720923244971013908 tw5003738318055737713 tw2886848741318211340 tw4520803633997681124 tw15951406170579007526 tw6473692278116500020 tw6699877031424828233 tw4341853485311468632 tw7129230822933522434 tw8986193493272934527 tw1793238676145901015 tw2483686908429185423 tw5238298834720047138 tw1519407302615918311 tw10703249527772902996 tw11288713312540604057 tw11827085391040430876 tw15181404817914746378 tw11132366335135072513 tw1476692225817079629 tw13178813078207379122 tw14804923661293329071 tw13427484674756548975 tw8980776483816836504 tw577779138760198904 tw1049895727117307002 tw16479432296363627603:True)
open PySem PySem.W PyProof.Rows
set_option maxRecDepth 100000 in
set_option maxHeartbeats 0 in
theorem PySem.Challenge.cw_mapround_k52_whole_walk_followed_holds : PySem.Challenge.rw_mapround_k52_whole_walk_followed.Holds := by
 w_on;o_law;k_head;(case hw=>w_witness2)
 k_fill
 refine K52.Ws (l:=PySem.Challenge.rw_mapround_k52_whole_walk_followed) rfl rfl (λw h Y=>W.kIn_of Y) ?F
 case F =>
  intro w mg fa h KX G hmg;apply K52.To KX G hmg
  all_goals first|exact Mr.Ug (by k_is) (by k_is) (by k_is) (by k_is)|exact Mr.atM_mk (by k_is) (by k_is) (by k_is) (by k_is) (by k_is)|k_is|kernel_rfl

import PyProof.Rows.All
import Wide.All
import OpenK.AllK
import Wide.FinOn
import Lean
import PyProof.EqAt
import PyProof.EqKinds
import PyProof.TupleCall
import KE.KIntText
import PyProof.ConsumeWalk
import KE.KSortTup
import KE.KNestM
import KE.KMinKey
import KE.KSortKey
import KE.KLam
import PySem.Challenge.RW_mapround_k37_laid_from_the_least
set_option Elab.async false
set_option linter.all false
set_option maxRecDepth 100000
set_option maxHeartbeats 4000000
open Option renaming bind_eq_some_iff->oBq,map_eq_some_iff->oMq
open List renaming getElem?_eq_some_iff->gSq,getElem?_eq_getElem->gEg,getD_eq_getElem?_getD->gDq,length_append->lAq,length_map->lMq,mem_append->mAq,mem_flatten->mFq,mem_map->mMq,getElem?_map->gMq,mem_of_getElem?->mGq,map_congr_left->mCq,getElem_mem->gRq,length_singleton->lSq,mem_singleton->mSq,length_take->lTq,nodup_append->nAq,append_nil->aNq,flatten_append->fAq,getElem?_append_right->gYq,getElem?_append_left->gZq,length_cons->lCq,map_map->mPq,map_append->mBq,mem_cons_of_mem->mCo,length_set->lZq,flatten_cons->fCq,count_append->cAq,mem_cons->ah,mem_cons_self->aj,size_toArray->ak,map_cons->ar,sublist_flatten_of_mem->au,drop_eq_getElem_cons->aw,mem_append_right->ay,getElem?_set_ne->aA,nodup_cons->aC,mem_iff_getElem?->aD,getElem?_set_self->aH,pairwise_map->aJ,replicate->aL,nodup_nil->aN,length_eq_zero_iff->aU,flatten_singleton->aX,length->bb,zipWith->bh,length_drop->bj,getElem?_set->bp,drop_eq_nil_of_le->bw,getElem?_eq_none->bz,take_length->bA,find?_cons_of_neg->bC,drop_of_length_le->bD,take_append_drop->bG,append_assoc->bH,Pairwise->bJ,length_nil->bK,Sublist->bL,mem_iff_getElem->bM,not_mem_nil->bN,find?_cons_of_pos->bO,range->bQ,pairwise_iff_getElem->bR,count_pos_iff->bU,map_id->bV,foldl_cons->bY,length_pos_iff->bZ,nodup_iff_pairwise_ne->cg,mem_flatMap->cw,pairwise_cons->cy,mem_append_left->cB,nodup_iff_count->cC,flatten_flatten->cE,length_range->cF,flatMap_cons->cG,getElem?_replicate->cH,eraseIdx_cons_succ->cJ,take_sublist->cU,getElem?_zip_eq_some->cW,exists_mem_of_ne_nil->cX,mem_of_mem_take->cY,dropLast_concat->cZ,take_succ_eq_append_getElem->de,eq_of_mem_replicate->df,mem_range->dh,flatMap_append->dq,Perm->dr,pairwise_singleton->dt,find?_cons->du,length_replicate->dw,ext_getElem?->dz,getElem?_zipWith->dA,eq_nil_or_concat->dB,concat_eq_append->dD,length_eraseIdx->dF,lookup_cons->dJ,eq_append_cons_of_mem->dO,perm_iff_count->dQ,idxOf_lt_length_iff->dR,set_cons_zero->dS,set_cons_succ->dU,pairwise_mergeSort->dX,eraseIdx_cons_zero->dZ,length_pos_of_mem->eh,take_of_length_le->eA,findIdx_lt_length_of_exists->eC,eraseIdxIfInBounds_toArray->eF,any_cons->eG,perm_append_comm->eI,set_getElem_self->eK,drop_length->eM,getElem?_toArray->eO,reduceReplicate->eU,pairwise_append->eV,of_mem_zip->eW,count_eq_zero_of_not_mem->eX,map_nil->eY,set_set->eZ,filterMap_cons->fc,mergeSort_perm->fe,toList_toArray->fg,take_succ_cons->fi,drop_zero->fq,zip_cons_cons->fu,forIn_toArray->fv,count_eq_zero->fw,perm_ext_iff_of_nodup->fy,getElem?_eq_none_iff->fE,foldl_append->fF,any_eq_true->fK,map_flatten->fL,nodup_range->fM,flatten->fP,getLast?_singleton->fU,nil_append->fW,flatMap_singleton->fY,idxOf_cons->gb,take_zero->gk,findIdx_getElem->gu,getLast?_append->gv,idxOf_cons_self->gw,mem_of_mem_drop->gA,replicate_succ->gD,getElem?_range->gE,length_zipWith->gG,perm_singleton->gJ,length_flatten->gK,mem_filterMap->gL,getElem_idxOf->gP,getElem?_drop->gQ,map_replicate->gT,map_id'->gW,take_add_one->hV,find?_isSome->hX,drop_sublist->ib,ext_getElem->ik,cons_append->ir,all_eq_true->iu,zip_toArray->iw,getElem_zip->iz,mem_filter->iC,forIn_cons->iF,countP_map->iG,length_zip->iJ,forIn_nil->iM,map_take->iS,map_drop->iT,sum_cons->iU,any_map->iV
open And renaming intro->aa
open PySem.Heap renaming get?_push_of_some->ab,lt_size->ag,get?_push_size->aB,get?_update_ne->aV,size_update->aW,get?_update_other->bq,SameBut->bS,get?_push_ne->bW,get?_update_self->eN,size_push->fj,ExtBut->gg
open Nat renaming le_refl->ae,ne_of_lt->ao,lt_of_lt_of_le->aE,zero_le->aG,zero_add->aK,le_trans->aS,le_succ->aT,ne_of_gt->aZ,lt_succ_of_lt->ba,le_of_lt->bB,not_lt_zero->bT,lt_irrefl->cu,le_of_eq->cK,lt_succ_iff_lt_or_eq->dg,le_add_right->dn,min_eq_left->dv,sub_self->dE,le_of_not_lt->dG,lt_succ_self->dH,lt_add_right->dN,add_lt_add_left->dP,succ_le_succ->eE,reduceAdd->fD,reduceEqDiff->fH,reduceLeDiff->fJ,sub_zero->fN,strongRecOn->fZ,reduceSub->gF,lt_of_le_of_lt->gN,lt_or_eq_of_le->gO,min_self->gU,le_of_lt_succ->gX,lt_trichotomy->gY,max_eq_right->ie,succ_ne_self->ij,min_eq_right->iq,max_eq_left->iD,add_zero->iW,add_comm->iX
open PySem.Value renaming ref->ai,none->fb,type->fG,int->gd,notImplemented->gn,bool->gB,isStrOf->iQ,str->iR,isInt->iY
open PySem.F renaming plainAttrs_list->aq,slot_list_append->aO,type_list_append->aQ,plain_min_loop->bP,slot_list_extend->cz,type_list_extend->cA,slot_list_pop->cQ,type_list_pop->cT,slot_list_index->dW,entry_min_loop->eB,slot_list_count->fO,type_list_index->fR,slot_list_lt->gq
open Array renaming getElem?_eq_getElem->ax,length_toList->bf,getElem?_toList->cP,size_map->ed,toArray_toList->eS,mem_iff_getElem?->fX,Perm->gC,toList_append->gH,forIn_toList->gR,getElem_mem->gZ,toList_map->ip,size_push->iH
open Sum renaming inl->az,inr->fB
open Bool renaming false_ne_true->aF,false_eq_true->bx,eq_iff_iff->bX,not_eq_true->cM,not_eq_true'->eg,and_eq_true->eJ,eq_false_iff->hW,or_eq_true->iE,false_and->iK
open Option renaming some->aM,getD_some->bo,bind_some->bE,isSome_map->ee,map_some->fV,isSome_some->gM,getD_none->ic,some_or->iN,none->iZ
open Int renaming emod_lt_of_pos->aR,emod_nonneg->aY,toNat_natCast->cV,mul_one->eD,neg_neg->fx,le_refl->gf,toNat->gj,zero_add->gV,mul_neg->iA
open PyProof.Rows renaming boot_sorted->bF,callWith_type1->bI,boot_list->cO,boot_tuple->dY,boot_isinstance->fh,boot_min->gh,callWith_builtin1->iB,eq_dataH_same->iO,ne_dataH_same->iP,boot_sum->ja,lt_int->jb
open Classical renaming propDecidable->cL
open Prod renaming ext->fA
open PySem renaming wpAny_bind->jc,wpAny->jd,model->jf,wpAny_pure->jg,Program->jj,sizeLine->jk,mainGlobals->jn,World->jo,starEach->jr,sizeLine_eq->jt,wpAny_mono->jv,cLine->jw,wpAny_holding->jy,codeAny_builtin->jz,plainId_quiet->jC,FuncData->jE,wpAny_tryCatch->jI,wpAny_seqItems->jL,call_isinstance->jM,wpAny_truthy_bool->jN,wpAny_newList->jO,wpAny_letGo->jP,Scope->jQ,wpAny_Call_Name_kw->jR,compareOp->jS,wpAny_updateSeq->jT,wpAny_passesOwn->jU,isinstance_true->jV,sysModules->jW,builtinsNs->jX,backTo->jY,codeAny->jZ,argBest->ka,call_meets->kf,pyNext->kh,IsPair->ki,wpAny_typeOf->ko,bootBuiltins->kr,wpAny_call_entry->ku,ZipApart->ky,sliceBounds->kz,richCompare->kB,codeAny_mono->kC,wpAny_field->kG,behindInMarks->kI,binaryOp->kJ,wpAny_callSpecialIfBound?_slot->kL,wpAny_execs_nil->kM,letOwnedTupleGo->kN,rawInt->kR,wpAny_newTuple->kX,relabel->lg,callerA->lh,tupleKind_room_in1->lq,seqItems?->lu,codeAmong->lx,wpAny_attempt->ly,wpAny_pyIter_list->lD,foldedSetIterable->lF,typeLookup->lH,assignEach->lI,valueAt->lJ,BindsTo->lM,wpAny_comprehension_free->lN,wpAny_pyIter_zip->lO,wpAny_callSpecial?_slot->lW,updateSeq->lX,tupleKind->lY,Arguments->lZ,atKey->md,wpAny_nextOf_list_item->mh,richCompare_meets_room->mj,subscripted->mn,wpAny_pyNext_zip_item->mr,wpAny_isTrue_Compare1->mv,builtinLookup_eq_fast->mw,isSubtype_type->mz,getItem->mC,Result->mD,PlainL->mE,wpAny_pyNext_zip_end->mF,wpAny_newFunctionEnv->mG,wpAny_loadName_local->mH,lookup_relabel_local->mI,closureFor->mJ,checkCount->mK,bindArgs->mL,wpAny_loadName_cell->mN,swapsWith->mQ,seqIndex?->mR,holding->mS,unsupported->mT
open PyProof.Rows renaming Keyed->je,seqObj->jh,arrOf->ji,wpS_bind->jm,wpS_pure->jq,setArr->ju,getElem?_mirror_all->jx,IntsAre->jA,SortKind->jB,get?_update_seq->jD,listUpdate_at->jF,pairsOf->jG,wpS_forRange->jH,pairsOf_size->jJ,wpS_mono->jK,size_push'->ke,seqEpoch_at->kj,oneType'->km,sortedHeap->kx,keyKind'->kD,mirror->kE,wpS_get->kF,reverseSlice'->kH,AllBare->kK,getElem?_bubble->kO,entry_list_sort->kP,wpS_modify->kQ,envOfC->kT,bubble->kW,slot_list_sort->kY,keyLt'_oneType->kZ,tuples'->lK,plain_sorted->lR,listItems_at->lU,entry_sorted->lV,subscriptTail_builtinR->mi,kind_sorted->mq,args_list_sort->mB,subscriptTail->mM,collect_list->mO,args_sorted1->mP
noncomputable section
open Array renaming mem_of_getElem?->aQq
local macro_rules|`(tactic|trivial)=>`(tactic|first|exact Or.inl rfl|exact Or.inr rfl|exact Or.inr (Or.inl rfl)|exact Or.inr (Or.inr rfl)|exact⟨rfl,rfl,rfl,by decide +kernel,rfl,by decide +kernel,by decide +kernel⟩|fail)
theorem oQ{c:Prop}{_:Decidable c}(h:c){α}{t e:α}:ite c t e=t:=if_pos h
theorem oT{c:Prop}{_:Decidable c}(h:¬c){α}{t e:α}:ite c t e=e:=if_neg h
namespace L2
open PySem PySem.Spec PyProof.Rows
abbrev oJ:=Sum Int Str
def DC:oJ->Value->Bool
 | .inl k,v=>iY k v
 | .inr x,v=>iQ x v
def Wr(w:jo):oJ->Int
 | .inl k=>hashInt k
 | .inr x=>hashStr w x
theorem qv:∀{k:oJ}{v:Value},DC k v=true->(∃i t,k=az i/\v=gd i t)∨(∃x t,k=fB x/\v=iR x t)
 | .inl i,v,h=>by
  obtain⟨t,e⟩:=Value.isInt_shape (k:=i) (v:=v) h;exact .inl ⟨i,t,rfl,e⟩
 | .inr x,v,h=>by
  obtain⟨t,e⟩:=Value.isStrOf_shape (x:=x) (v:=v) h;exact .inr ⟨x,t,rfl,e⟩
theorem K0(i:Int) (t:Tok):DC (.inl i) (.int i t)=true:=by simp[DC,iY]
theorem LV(x:Str) (t:Tok):DC (.inr x) (.str x t)=true:=by simp[DC,iQ]
theorem TB(a b:Int):decide ((az a:oJ)=az b)=(a == b):=by
 by_cases e:a=b
 .subst e;simp
 .have h:¬ (az a:oJ)=az b:=λq=>e (az.inj q)
  rw[decide_eq_false h];exact(beq_eq_false_iff_ne.mpr e).symm
theorem R7(a b:Str):decide ((fB a:oJ)=fB b)=decide (a=b):=by
 by_cases e:a=b
 .subst e;simp
 .have h:¬ (fB a:oJ)=fB b:=λq=>e (fB.inj q)
  rw[decide_eq_false h,decide_eq_false e]
theorem TU(a:Int) (b:Str):decide ((az a:oJ)=fB b)=false:=decide_eq_false (λq=>nomatch q)
theorem T8(a:Str) (b:Int):decide ((fB a:oJ)=az b)=false:=decide_eq_false (λq=>nomatch q)
def qN(prog:jj) (w:jo):PySem.KeyKind prog w oJ where
 is:=DC
 hash:=Wr w
 inj:=λv a b ha hb=>by
  rcases qv ha with ⟨i,t,rfl,rfl⟩|⟨x,t,rfl,rfl⟩
  .rcases qv hb with ⟨j,u,rfl,e⟩|⟨y,u,rfl,e⟩
   .injection e with e1 _;rw[e1]
   .exact nomatch e
  .rcases qv hb with ⟨j,u,rfl,e⟩|⟨y,u,rfl,e⟩
   .exact nomatch e
   .injection e with e1 _;rw[e1]
 byValue:=λk v h=>by
  rcases qv h with ⟨i,t,rfl,rfl⟩|⟨x,t,rfl,rfl⟩ <;> rfl
 pyHash:=λhv h=>by
  rcases qv hv with ⟨i,t,rfl,rfl⟩|⟨x,t,rfl,rfl⟩
  .exact wpAny_pyHash_int h
  .exact wpAny_pyHash_str h
 eqBool:=λhu hv h=>by
  rcases qv hu with ⟨i,t,rfl,rfl⟩|⟨x,t,rfl,rfl⟩
  .rcases qv hv with ⟨j,u,rfl,rfl⟩|⟨y,u,rfl,rfl⟩
   .rw [TB]at h;exact wpAny_eqBool_int h
   .rw [TU]at h;exact SeqAt.EqAt.int_str i t y u _ _ _ _ h
  .rcases qv hv with ⟨j,u,rfl,rfl⟩|⟨y,u,rfl,rfl⟩
   .rw [T8]at h;exact SeqAt.EqAt.str_int x t j u _ _ _ _ h
   .rw [R7]at h;exact wpAny_eqBool_str h
 «strs»:=λk x t v h=>by
  rcases qv h with ⟨i,u,rfl,e⟩|⟨y,u,rfl,e⟩
  .exact nomatch e
  .injection e with e1 _
   subst e1;cases v <;> rfl
theorem Ho(prog:jj) (w:jo) (i:Int) (t:Tok):(qN prog w).is (.inl i) (.int i t)=true:=K0 i t
theorem FF(prog:jj) (w:jo) (x:Str) (t:Tok):(qN prog w).is (.inr x) (.str x t)=true:=LV x t
inductive V where
 |non|bl (b:Bool)|int (i:Int)|str (x:Str)|byt (b:Array UInt8)|flt (b:UInt64)|ref (a:Addr)|ty (n:String)
 deriving DecidableEq
def pQ:V->Value->Prop
 | .non,u=>u=fb
 | .bl b,u=>u=gB b
 | .int i,u=>∃t,u=gd i t
 | .str x,u=>∃t,u=iR x t
 | .byt b,u=>∃t,u=Value.bytes b t
 | .flt b,u=>∃t,u=Value.float b t
 | .ref a,u=>u=ai a
 | .ty n,u=>u=fG n
abbrev oW:List V->List Value->Prop:=Paired pQ
theorem oW.length{xs:List V}{us:List Value}(r:oW xs us):xs.length=us.length:=Paired.length r
theorem oW.get:∀{xs:List V}{us:List Value}{i:Nat}{x:V},oW xs us->xs[i]?=some x->∃u,us[i]?=some u/\pQ x u
 |_,_,_,_,.nil,e=>by simp at e
 |_,_,0,_,.cons r _,e=>by simp at e;subst e;exact⟨_,rfl,r⟩
 |_,_,i+1,x,.cons _ t,e=>by
  obtain⟨u,h1,h2⟩:=oW.get (i:=i) (x:=x) t (by simpa using e)
  exact⟨u,by simpa using h1,h2⟩
theorem oW.set{x:V}{u:Value}(r:pQ x u):∀{xs:List V}{us:List Value}(i:Nat),oW xs us->oW (xs.set i x) (us.set i u)
 |_,_,_,.nil=>.nil
 |_,_,0,.cons _ t=>.cons r t
 |_,_,i+1,.cons q t=>.cons q (oW.set r i t)
theorem oW.append:∀{xs ys:List V}{us ws:List Value},oW xs us->oW ys ws->oW (xs++ys) (us++ws)
 |_,_,_,_,.nil,s=>s
 |_,_,_,_,.cons r t,s=>.cons r (oW.append t s)
theorem oW.take:∀{xs:List V}{us:List Value}(n:Nat),oW xs us->oW (xs.take n) (us.take n)
 |_,_,0,_=>.nil
 |_,_,_+1,.nil=>.nil
 |_,_,n+1,.cons r t=>.cons r (oW.take n t)
theorem oW.drop:∀{xs:List V}{us:List Value}(n:Nat),oW xs us->oW (xs.drop n) (us.drop n)
 |_,_,0,r=>r
 |_,_,_+1,.nil=>.nil
 |_,_,n+1,.cons _ t=>oW.drop n t
def Dg:Option V->Option Value->Prop
 |some v,some u=>pQ v u
 |none,none=>True
 |_,_=>False
def KV{κ:Type}:List (κ×V)->List (κ×Value)->Prop:=Paired λ(p:κ×V) (q:κ×Value)=>p.1=q.1/\pQ p.2 q.2
def kV:oJ->V
 | .inl i=>.int i
 | .inr x=>.str x
inductive HO where
 /-- a list -/
 |lst (xs:List V)
 /-- a tuple (never changes) -/
 |tup (xs:List V)
 /-- a dict whose keys are ints and texts;one whose keys are tuples of ints and texts (the empty one is both) -/
 |dK (kvs:List (oJ×V))|dT (kvs:List (List oJ×V))
 /-- a set of ints: its members,its size -/
 |set (S:Int->Bool) (n:Nat)
 /-- an instance of the class at C,its dict at dx,its attributes -/
 |ins (C dx:Addr) (fs:List (Str×V))
 /-- the dict of the instance at x -/
 |own (x:Addr)
 /-- the dict of an exception -/
 |xd (fs:List (Str×V))
 /-- a bound method,f of x -/
 |met (f x:Addr)
 /-- a range object lo,lo+1,.. below hi -/
 |rng (lo hi:Int)
 /-- a thing that is known to the object (the script;a dict while a loop walks it): read,never written while it is so -/
 |frz (o:Obj) (u:HO)
 /-- a code object's table -/
 |tbl (q:Str)
 /-- any other thing,by what is true of its one object (a def of one's own: SetO a S n:=HO.ext λh=>..) -/
 |ext (φ:Heap->Prop)
abbrev Hp:=Addr->Option HO
def qr(H:Hp) (a:Addr) (o:HO):Hp:=λb=>if b=a then some o else H b
theorem oz{H:Hp}{a:Addr}{o:HO}:qr H a o a=some o:=by unfold qr;rw[oQ rfl]
theorem nX{H:Hp}{a b:Addr}{o:HO}(h:b≠a):qr H a o b=H b:=by unfold qr;rw[oT h]
theorem Vw{H:Hp}{a b:Addr}{o u:HO}(h:H a=some o) (h':H b=some u) (d:o≠u):a≠b:=by
 intro e;subst e;rw[h]at h';exact d (aM.inj h')
theorem pX{H:Hp}{a b:Addr}{o:HO}(h:H a=some o) (h':H b=none):a≠b:=by
 intro e;subst e;rw[h]at h';cases h'
section
variable (P:jj) (w:jo)
def qp(H:Hp) (h:Heap) (a:Addr):HO->Prop
 | .lst xs=>xs.length<=jk/\∃(its:List Value) (n:Nat),oW xs its/\h.get? a=some { cls:=.type "list", data:=.seq its.toArray n }
 | .tup xs=>xs.length<=jk/\∃its:List Value,oW xs its/\IsTup h a its.toArray
 | .dK kvs=>kvs.length<=jk/\(a == jW)=false/\∃vs,KV kvs vs/\h.DictOf (qN P w) a vs
 | .dT kvs=>kvs.length<=jk/\(a == jW)=false/\∃xs:List (List oJ×Addr×Value),
   Paired (λ(p:List oJ×V) (q:List oJ×Addr×Value)=>p.1=q.1/\H q.2.1=some (.tup (p.1.map kV))/\pQ p.2 q.2.2) kvs xs /\
   ∃o es ep,h.get? a=some o/\o.ExactDict/\o.data = .dict es ep/\es.toList=xs.map (entryOfKey (lY (qN P w)))/\(xs.map (·.1)).Nodup
 | .set S n=>h.SetOf (intKind P w) a S n
 | .ins C dx fs=>H dx=some (.own a)/\fs.length<=1000/\dx≠a/\h.get? a=some (W.instObj C dx) /\
   ∃mA,h.Ns1 dx mA/\(∀f,Dg (fs.lookup f) (mA f))/\PySem.Within mA (fs.map (·.1))
 | .own _=>∃o,h.get? a=some o
 | .xd fs=>∃mA,h.Ns1 a mA/\∀f,Dg (fs.lookup f) (mA f)
 | .rng lo hi=>∃t u v,h.get? a=some { cls:=.type "range", data:=.fields #[.int lo t,.int hi u,.int 1 v] }
 | .frz o u=>h.get? a=some o/\qp H h a u
 | .tbl q=>∃ps:Array Value,h.get? a=some { cls:=.none,data:=.fields ps }/\PySem.TriplesOk ps.toList/\∀p cv,lx p ps.toList=some cv->∃b oc vs tq,cv = .ref b/\H b=some (.frz oc (.own a))/\oc.data = .fields vs/\vs[1]?=some (.str q tq)
 | .met f x=>h.get? a=some (W.methodObj (.ref f) (.ref x))
 | .ext φ=>φ h/\(∃o,h.get? a=some o)/\∀h1 h2:Heap,φ h1->(∀o,h1.get? a=some o->h2.get? a=some o)->φ h2
def zC(H:Hp) (h:Heap):Prop:=∀a o,H a=some o->qp P w H h a o
end
section
variable {P:jj}{w:jo}{H H':Hp}{h h':Heap}{a:Addr}{o:HO}
theorem qp.lt(x:qp P w H h a o):a<h.objs.size:=by
 cases o with
 |lst xs=>obtain⟨_,_,_,_,e⟩:=x;exact ag e
 |tup xs=>obtain⟨_,_,_,p⟩:=x;exact p.lt
 |dK kvs=>obtain⟨_,_,_,_,o,_,_,e,_⟩:=x;exact ag e
 |dT kvs=>obtain⟨_,_,_,_,o,_,_,e,_⟩:=x;exact ag e
 |set S n=>obtain⟨o,_,_,_,e,_⟩:=x;exact ag e
 |ins C dx fs=>obtain⟨_,_,_,e,_⟩:=x;exact ag e
 |own y=>obtain⟨_,e⟩:=x;exact ag e
 |xd fs=>obtain⟨_,⟨_,_,_,e,_⟩,_⟩:=x;exact ag e
 |rng lo hi=>obtain⟨_,_,_,e⟩:=x;exact ag e
 |frz ob u=>obtain⟨e,_⟩:=x;exact ag e
 |tbl q=>obtain⟨_,e,_⟩:=x;exact ag e
 |met f y=>exact ag (show h.get? a=some _ from x)
 |ext φ=>obtain⟨_,⟨_,e⟩,_⟩:=x;exact ag e
theorem Paired.mapP{α β:Type}{F G:α->β->Prop}:∀{l₁:List α}{l₂:List β},Paired F l₁ l₂->(∀a b,F a b->G a b)->Paired G l₁ l₂
 |_,_,.nil,_=>.nil
 |_,_,.cons r t,f=>.cons (f _ _ r) (Paired.mapP t f)
theorem qp.stay(x:qp P w H h a o) (k:∀b u,(b=a∨H b=some (.own a))->h.get? b=some u->h'.get? b=some u)
  (ho:∀b,H b=some (.own a)->H' b=some (.own a)) (ht:∀b xs,H b=some (.tup xs)->H' b=some (.tup xs)) (hz:∀b ob,H b=some (.frz ob (.own a))->H' b=some (.frz ob (.own a))):qp P w H' h' a o:=by
 induction o with
 |lst xs=>obtain⟨z,its,n,r,e⟩:=x;exact⟨z,its,n,r,k _ _ (.inl rfl) e⟩
 |tup xs=>obtain⟨z,its,r,ob,e,c⟩:=x;exact⟨z,its,r,ob,k _ _ (.inl rfl) e,c⟩
 |dK kvs=>obtain⟨z,y,vs,r,ob,es,ep,e,c⟩:=x;exact⟨z,y,vs,r,ob,es,ep,k _ _ (.inl rfl) e,c⟩
 |dT kvs =>
  obtain⟨z,y,xs,r,ob,es,ep,e,c⟩:=x;exact⟨z,y,xs,Paired.mapP r λp q z=>⟨z.1,ht _ _ z.2.1,z.2.2⟩,ob,es,ep,k _ _ (.inl rfl) e,c⟩
 |set S n=>obtain⟨ob,es,ep,t,e,c⟩:=x;exact⟨ob,es,ep,t,k _ _ (.inl rfl) e,c⟩
 |ins C dx fs =>
  obtain⟨d,z,ne,e,mA,⟨od,es,ep,e2,c⟩,r⟩:=x;exact⟨ho _ d,z,ne,k _ _ (.inl rfl) e,mA,⟨od,es,ep,k _ _ (.inr d) e2,c⟩,r⟩
 |own y=>obtain⟨ob,e⟩:=x;exact⟨ob,k _ _ (.inl rfl) e⟩
 |xd fs=>obtain⟨mA,⟨od,es,ep,e,c⟩,r⟩:=x;exact⟨mA,⟨od,es,ep,k _ _ (.inl rfl) e,c⟩,r⟩
 |rng lo hi=>obtain⟨t,u,v,e⟩:=x;exact⟨t,u,v,k _ _ (.inl rfl) e⟩
 |frz ob u ih=>obtain⟨e,q⟩:=x;exact⟨k _ _ (.inl rfl) e,ih q⟩
 |tbl q =>
  obtain⟨ps,e,t,r⟩:=x;refine⟨ps,k _ _ (.inl rfl) e,t,λp cv hc=>?_⟩
  obtain⟨b,oc,vs,tq,e1,e2,e4⟩:=r p cv hc;exact⟨b,oc,vs,tq,e1,hz _ _ e2,e4⟩
 |met f y =>
  have e:h.get? a=some (W.methodObj (.ref f) (.ref y)):=x;show h'.get? a=some (W.methodObj (.ref f) (.ref y));exact k a _ (.inl rfl) e
 |ext φ=>obtain⟨p,⟨o,e⟩,st⟩:=x;exact⟨st _ _ p λo q=>k _ _ (.inl rfl) q,⟨o,k _ _ (.inl rfl) e⟩,st⟩
theorem zC.lt(x:zC P w H h) (e:H a=some o):a<h.objs.size:=(x a o e).lt
theorem zC.fresh(x:zC P w H h) (e:h.objs.size<=a):H a=none:=by
 cases q:H a with
 |none=>rfl
 |some u=>exact absurd (aE (x.lt q) e) (cu _)
theorem zC.kept(x:zC P w H h) (k:∀b u,h.get? b=some u->h'.get? b=some u):zC P w H h':=λa o e =>
 (x a o e).stay (λb u _ q=>k b u q) (λ_ q=>q) (λ_ _ q=>q) λ_ _ q=>q
theorem zC.laid(x:zC P w H h) (k:∀b u,h.get? b=some u->h'.get? b=some u) (hp:h.objs.size<=a) (new:qp P w (qr H a o) h' a o):zC P w (qr H a o) h':=λb u e=>by
 have hn:=x.fresh hp
 by_cases hb:b=a
 .subst hb;rw[oz]at e;cases e;exact new
 .rw [nX hb]at e;exact(x b u e).stay (λc v _ q=>k c v q) (λc q=>by rw[nX (pX q hn)];exact q) (λc xs q=>by rw[nX (pX q hn)];exact q) λc xs q=>by rw[nX (pX q hn)];exact q
end
def Rd(H:Hp) (a:Addr) (u:HO):Prop:=H a=some u∨∃o,H a=some (.frz o u)
theorem Rd.ok{P:jj}{w:jo}{H:Hp}{h:Heap}{a:Addr}{u:HO}(r:Rd H a u) (x:zC P w H h):qp P w H h a u:=by
 rcases r with r|⟨o,r⟩
 .exact x a u r
 .obtain ⟨_,q⟩:=x a _ r;exact q
def UG:Option HO->Prop
 |some (.lst _)=>True
 |some (.dK _)=>True
 |some (.dT _)=>True
 |some (.set _ _)=>True
 |some (.ins _ _ _)=>True
 |some (.ext _)=>True
 |_=>False
section
variable {P:jj}{w:jo}{H:Hp}{h h':Heap}{x e:Addr}{o':HO}
theorem zC.write(ok:zC P w H h) (mu:UG (H x)) (he:e=x∨H e=some (.own x)) (k:∀b u,b≠e->h.get? b=some u->h'.get? b=some u) (heo:∃u,h'.get? e=some u)
  (new:qp P w (qr H x o') h' x o'):zC P w (qr H x o') h':=λb u q=>by
 have nown:∀c y,H c=some (.own y)->c≠x:=λc y r z=>by subst z;rw[r]at mu;exact mu
 have ntup:∀c xs,H c=some (.tup xs)->c≠x:=λc xs r z=>by subst z;rw[r]at mu;exact mu
 by_cases hb:b=x
 .subst hb;rw[oz]at q;cases q;exact new
 .rw [nX hb]at q
  by_cases hbe:b=e
  .have q':H b=some (.own x):=by
    rcases he with z|z
    .exact absurd (hbe.trans z) hb
    .rw [hbe];exact z
   rw[q]at q';cases q';obtain⟨v,hv⟩:=heo;exact⟨v,by rw[hbe];exact hv⟩
  .refine (ok b u q).stay (λc v hc r=>k c v ?_ r) (λc r=>by rw[nX (nown c b r)];exact r) (λc xs r=>by rw[nX (ntup c xs r)];exact r) λc ob r=>by rw[nX (show c≠x from λz=>by subst z;rw[r]at mu;exact mu)];exact r
   rcases hc with rfl|hc
   .exact hbe
   .rintro rfl;rcases he with z|z
    .exact nown c b hc z
    .rw [hc]at z;cases z;exact hb rfl
end
structure Un (fs ex:List Addr) (H H':Hp) (h h':Heap):Prop where
 keep:∀b o,h.get? b=some o->H b=none->b∉fs->b∉ex->h'.get? b=some o
 slot:∀b o,h.get? b=some o->H b=none->b∈fs->b∉ex->∃sl,h'.get? b=some { o with slots:=sl }
 free:∀b o,h.get? b=some o->H b=none->b∉ex->H' b=none
 there:∀b o,h.get? b=some o->b∉ex->∃o',h'.get? b=some o'
 tups:∀b xs,H b=some (.tup xs)->H' b=some (.tup xs)
 frzs:∀b o u,H b=some (.frz o u)->H' b=some (.frz o u)
 tbls:∀b q,H b=some (.tbl q)->H' b=some (.tbl q)
section
variable {fs fs' ex ex':List Addr}{H H1 H2:Hp}{h h1 h2 h':Heap}{a x e:Addr}{o:HO}
theorem Un.any(u:Un fs ex H H1 h h1) {b:Addr}{ob:Obj}(q:h.get? b=some ob) (n:H b=none) (hx:b∉ex):∃sl,h1.get? b=some { ob with slots:=sl }:=by
 by_cases hb:b∈fs
 .exact u.slot b ob q n hb hx
 .exact ⟨ob.slots,u.keep b ob q n hb hx⟩
theorem Un.kept(k:∀b u,h.get? b=some u->h'.get? b=some u):Un fs ex H H h h' :=
 ⟨λb ob q _ _ _=>k b ob q,λb ob q _ _ _=>⟨ob.slots,k b ob q⟩,λ_ _ _ n _=>n,λb ob q _=>⟨ob,k b ob q⟩,λ_ _ q=>q,λ_ _ _ q=>q,λ_ _ q=>q⟩
theorem Un.refl:Un fs ex H H h h:=Un.kept λ_ _ q=>q
theorem Un.laid(k:∀b u,h.get? b=some u->h'.get? b=some u) (hp:h.objs.size<=a) (hn:H a=none):Un fs ex H (qr H a o) h h' where
 keep:=λb u q _ _ _=>k b u q
 slot:=λb u q _ _ _=>⟨u.slots,k b u q⟩
 free:=λb u q n _=>by rw[nX (ao (aE (ag q) hp))];exact n
 there:=λb u q _=>⟨u,k b u q⟩
 tups:=λb xs q=>by rw[nX (pX q hn)];exact q
 frzs:=λb u xs q=>by rw[nX (pX q hn)];exact q
 tbls:=λb _ q=>by rw[nX (pX q hn)];exact q
theorem Un.write(mu:UG (H x)) (he:e=x∨H e=some (.own x)) (k:∀b u,b≠e->h.get? b=some u->h'.get? b=some u) (heo:∃u,h'.get? e=some u):Un fs ex H (qr H x o) h h':=by
 have hx:∀b,H b=none->b≠x:=λb n z=>by subst z;rw[n]at mu;exact mu
 have hb:∀b,H b=none->b≠e:=λb n z=>by
  subst z;rcases he with r|r
  .exact hx b n r
  .rw [n]at r;cases r
 have hm:∀b u,H b=some u->¬ UG (some u)->b≠x:=λb u q nm z=>by subst z;rw[q]at mu;exact nm mu
 refine⟨λb u q n _ _=>k b u (hb b n) q,λb u q n _ _=>⟨u.slots,k b u (hb b n) q⟩,λb u q n _=>by rw[nX (hx b n)];exact n,λb u q _=>?_,
  λb xs q=>by rw[nX (hm b _ q λz=>z)];exact q,λb u xs q=>by rw[nX (hm b _ q λz=>z)];exact q,λb _ q=>by rw[nX (hm b _ q λz=>z)];exact q⟩
 by_cases hbe:b=e
 .subst hbe;exact heo
 .exact ⟨u,k b u hbe q⟩
end
def VY(h:Heap) (H:Hp):List Addr:=(bQ h.objs.size).filter λa=>(H a).isSome
def G4(h:Heap) (H:Hp):Heap:=W.hideAll h (VY h H)
theorem LF(h:Heap) (H:Hp):(G4 h H).objs.size=h.objs.size:=W.hideAll_size _ _
theorem CJ{h:Heap}{H:Hp}{b:Addr}{o:Obj}(e:h.get? b=some o) (n:H b=none):(G4 h H).get? b=some o :=
 W.hideAll_get _ e λhm=>by
  have q:(H b).isSome=true:=(iC.mp hm).2;rw[n]at q;simp at q
theorem Qd{h:Heap}{H:Hp}{b:Addr}{o:Obj}(e:(G4 h H).get? b=some o):h.get? b=some o/\H b=none:=by
 have e':h.get? b=some o:=W.of_hideAll (VY h H) e;refine⟨e',?_⟩;cases q:H b with
 |none=>rfl
 |some x =>
  have hm:b∈VY h H:=iC.mpr ⟨dh.mpr (ag e'),by simp[q]⟩
  have z:(G4 h H).get? b=none:=W.hideAll_none (VY h H) hm;rw[z]at e;cases e
def QM(g h:Heap) (L:Addr):List (Addr×Obj):=(bQ h.objs.size).filterMap λa=>if a=L∨(g.get? a).isSome=true then none else (h.get? a).map λo=>(a,o)
def sH(g h:Heap) (L d:Addr):List (Addr×Obj):=(QM g h L).filter λp=>decide (p.1≠d)
def Ng:List Str:=["least_round", "rarest"]
def Uq(K:W.Frag) (o:Obj):Option (Addr×Str):=match o.data with
 | .func fd=>if Ng.contains fd.name then (match fd.code with
  | .ref c=>(match K.lookup c with
   |some oc=>(match oc.data with
    | .fields vs=>(match (vs[11]?:Option Value) with
     |some (.ref P)=>some (P,fd.qualname ++ ".<locals>." ++ "<lambda>")
     |_=>none)
    |_=>none)
   |none=>none)
  |_=>none) else none
 |_=>none
def uc(K:W.Frag):List (Addr×Str):=K.filterMap λp=>Uq K p.2
def Q6(K:W.Frag) (H:Hp):Prop:=∀q∈uc K,H q.1=some (.tbl q.2)
structure Mod (K:W.Frag) (mg:Str->Option Value) (base:Heap):Prop where
 kin:K.In base
 glob:base.Ns jn mg
 blt:∃mb,base.Ns jX mb/\∀x:Str,x ≠ "__name__" -> mb x=kr x
 nolimit:base.NoLimit
 bmod:∃bm o,mg "__builtins__" = some (.ref bm)/\bm≠jX/\base.get? bm=some o/\o.cls = .type "module" /\ o.dict=some jX/\o.data = .plain
structure Cx where
 prog:jj
 w:jo
 K:W.Frag
 mg:Str->Option Value
 base:Heap
 A:Around
 N:List Str
 s₀:Shared
 H₀:Hp
 env:Env
 outer:List Env
 stack:List Env
 ex:List Addr
 fn:Str->Bool
 calm:Bool
 pn:List (Addr×Obj)
 xe:Value->Shared->Prop
def L6(l:List Env):List Addr:=l.filterMap (·.frame)
abbrev Cx.fs(X:Cx):List Addr:=L6 X.outer
def Uv(sc:jQ) (x:Str):Prop:=sc.names.lookup x=some .local∨sc.names.lookup x=some .cell∨sc.names.lookup x=some .free
def Ue(sc:jQ) (x:Str):Prop:=sc.names.lookup x=some .local∨sc.names.lookup x=some .cell
def Wl(env:Env) (h:Heap) (m:Str->Option Value) (x:Str) (u:Value):Prop :=
 (env.kindOf x=some .local/\m x=some u)∨((env.kindOf x=some .cell∨env.kindOf x=some .free)/\∃c,env.cells.lookup x=some c/\h.IsCell c (some u))
structure Cx.Ok (X:Cx):Prop where
 mod:Mod X.K X.mg X.base
 kind:X.env.scope.kind = .function
 glob:X.env.globals=jn
 blt:X.env.builtins=jX
 above:X.s₀.heap.objs.size<=X.env.locals
 inj:∀x y c,X.env.cells.lookup x=some c->X.env.cells.lookup y=some c->x=y
 has:∀x,(X.env.kindOf x=some .cell∨X.env.kindOf x=some .free)->∃c,X.env.cells.lookup x=some c
 cab:∀x c,X.fn x=true->X.env.cells.lookup x=some c->X.s₀.heap.objs.size<=c
 hd:X.calm=true->X.A.handled=none
 frames:X.A.frames=some X.stack
 stk:X.stack=X.outer∨(X.stack=X.env::X.outer/\X.env.frame=some X.env.locals)
 exf:∀b∈X.ex,b≠X.env.locals/\∀x c,X.env.cells.lookup x=some c->c≠b
 bs:∀b o,X.base.get? b=some o->X.s₀.heap.get? b=some o/\X.H₀ b=none
 bsz:X.base.objs.size<=X.s₀.heap.objs.size
 noex:∀b o,X.base.get? b=some o->b∉X.ex
 exfs:∀b∈X.ex,b∉X.fs
 funs:X.s₀.heap.FunFrames X.base X.outer
 frf:∀b∈X.fs,X.H₀ b=none
 tb:Q6 X.K X.H₀
structure Inv (X:Cx) (nF:List (Addr×Obj)) (σ:List (Option V)) (H:Hp) (s:Shared):Prop where
 ok:X.Ok
 os:s.os=X.s₀.os
 bare:kK s.gens
 base:Un X.fs X.ex X.H₀ H X.s₀.heap s.heap
 loc:∃m,s.heap.Ns X.env.locals m/\∀(i:Nat) (x:Str) (v:V),X.N[i]?=some x->σ[i]?=some (some v)->Uv X.env.scope x->∃u,pQ v u/\Wl X.env s.heap m x u
 cell:∀x c,X.env.cells.lookup x=some c->∃v,s.heap.IsCell c v
 free:H X.env.locals=none
 freeC:∀x c,X.env.cells.lookup x=some c->H c=none
 pin:∀p∈X.pn++nF,s.heap.get? p.1=some p.2/\H p.1=none/\p.1≠X.env.locals/\p.1∉X.fs/\∀v,p.2.data ≠ .cell v
 hok:zC X.prog X.w H s.heap
 len:σ.length=X.N.length
section
variable {X:Cx}{nF:List (Addr×Obj)}{σ:List (Option V)}{H H':Hp}{s:Shared}{h':Heap}
theorem Cx.Ok.nofr(ok:X.Ok) {b:Addr}{o:Obj}(e:X.base.get? b=some o):b∉X.fs:=λhb=>by
 have:=(ok.funs.mem hb).1;rw[e]at this;cases this
theorem Inv.bs(I:Inv X nF σ H s):∀b o,X.base.get? b=some o->s.heap.get? b=some o/\H b=none:=λb o e =>
 ⟨I.base.keep b o (I.ok.bs b o e).1 (I.ok.bs b o e).2 (I.ok.nofr e) (I.ok.noex b o e),I.base.free b o (I.ok.bs b o e).1 (I.ok.bs b o e).2 (I.ok.noex b o e)⟩
theorem Inv.bk(I:Inv X nF σ H s):∀b o,X.base.get? b=some o->s.heap.get? b=some o:=λb o e=>(I.bs b o e).1
theorem Inv.tb(I:Inv X nF σ H s):Q6 X.K H:=λq hq=>I.base.tbls _ _ (I.ok.tb q hq)
theorem Inv.mod(I:Inv X nF σ H s):Mod X.K X.mg X.base:=I.ok.mod
theorem Inv.kIn(I:Inv X nF σ H s):X.K.In s.heap:=I.ok.mod.kin.keeps I.bk
theorem Inv.nolimit(I:Inv X nF σ H s):s.heap.NoLimit:=I.ok.mod.nolimit.keeps I.bk
theorem Inv.lt(I:Inv X nF σ H s):X.env.locals<s.heap.objs.size:=let ⟨_,hn,_⟩:=I.loc;hn.lt
theorem Inv.sz(I:Inv X nF σ H s):X.s₀.heap.objs.size<=s.heap.objs.size:=aS I.ok.above (bB I.lt)
theorem Inv.nofs(I:Inv X nF σ H s) {a:Addr}(h:s.heap.objs.size<=a):a∉X.fs:=λhb=>by
 obtain⟨_,o,ho,_⟩:=I.ok.funs.mem hb;exact absurd (aE (ag ho) (aS I.sz h)) (cu _)
theorem Inv.cne(I:Inv X nF σ H s):∀x c,X.env.cells.lookup x=some c->c≠X.env.locals:=λx c e z=>by
 obtain⟨v,o,ho,hd⟩:=I.cell x c e;obtain⟨m,⟨o',es,ep,ho',hd',_⟩,_⟩:=I.loc;rw[z,ho']at ho;cases ho;rw[hd']at hd;cases hd
theorem Inv.funs(I:Inv X nF σ H s):s.heap.FunFrames X.base X.outer:=by
 have all:∀(l:List Env),(∀b∈L6 l,b∈X.fs)->X.s₀.heap.FunFrames X.base l->s.heap.FunFrames X.base l:=by
  intro l
  induction l with
  |nil=>intro _ _;trivial
  |cons env r ih =>
   intro hs hl;obtain⟨hk,⟨L,o,hf,hn,ho,hd⟩,hr⟩:=hl;have hL:L∈X.fs:=hs L (by unfold L6;rw[fc,hf];exact aj)
   obtain⟨sl,e⟩:=I.base.slot L o ho (I.ok.frf L hL) hL λz=>I.ok.exfs L z hL
   exact⟨hk,⟨L,_,hf,hn,e,hd⟩,ih (λb hb=>hs b (by unfold L6;rw[fc,hf];exact mCo _ hb)) hr⟩
 exact all X.outer (λ_ hb=>hb) I.ok.funs
theorem Inv.stack(I:Inv X nF σ H s):s.heap.FunFrames X.base X.stack:=by
 rcases I.ok.stk with e|⟨e,hf⟩
 .rw [e];exact I.funs
 .rw [e];obtain⟨m,hn,_⟩:=I.loc;refine .cons (by rw[I.ok.kind];decide) hf hn ?_ I.funs
  exact Heap.get?_none_of_le (aS I.ok.bsz I.ok.above)
theorem Inv.stkSub(I:Inv X nF σ H s):∀b∈L6 X.stack,b∈X.env.locals::X.fs:=λb hb=>by
 rcases I.ok.stk with e|⟨e,hf⟩
 .rw [e]at hb;exact mCo _ hb
 .rw [e]at hb;unfold L6 at hb;rw[fc,hf]at hb;exact hb
theorem Inv.stkFree(I:Inv X nF σ H s):∀b∈L6 X.stack,H b=none:=λb hb=>by
 rcases ah.mp (I.stkSub b hb) with e|hb
 .rw [e];exact I.free
 .obtain ⟨_,o,ho,_⟩:=I.ok.funs.mem hb;exact I.base.free b o ho (I.ok.frf b hb) λz=>I.ok.exfs b z hb
theorem Inv.step{g':Array GenState}{t':Nat}{d':Drawn}{ch:List Addr}(I:Inv X nF σ H s)
  (hch:∀b∈ch,(b∈X.ex∨X.s₀.heap.objs.size<=b)/\b≠X.env.locals/\(∀x c,X.env.cells.lookup x=some c->c≠b)/\∀p∈X.pn++nF,p.1≠b)
  (keep:∀b o,b≠X.env.locals->b∉X.fs->b∉ch->s.heap.get? b=some o->H b=none->h'.get? b=some o)
  (slot:∀b o,b≠X.env.locals->b∈X.fs->b∉ch->s.heap.get? b=some o->H b=none->∃sl,h'.get? b=some { o with slots:=sl }) (free:∀b o,b∉ch->s.heap.get? b=some o->H b=none->H' b=none)
  (there:∀b o,b∉ch->s.heap.get? b=some o->∃o',h'.get? b=some o')
  (tups:∀b xs,H b=some (.tup xs)->H' b=some (.tup xs)) (frzs:∀b o u,H b=some (.frz o u)->H' b=some (.frz o u)) (tbls:∀b q,H b=some (.tbl q)->H' b=some (.tbl q))
  (ns:∀m,s.heap.Ns X.env.locals m->h'.Ns X.env.locals m) (hok:zC X.prog X.w H' h') (hg:kK g') :
  Inv X nF σ H' { s with heap:=h',gens:=g',drawn:=d',toks:=t' }:=by
 have neL:∀b o,X.s₀.heap.get? b=some o->b≠X.env.locals:=λb o e=>ao (aE (ag e) I.ok.above)
 have neC:∀b o,X.s₀.heap.get? b=some o->b∉X.ex->b∉ch:=λb o e hx hb=>by
  rcases (hch b hb).1 with z|z
  .exact hx z
  .exact absurd (aE (ag e) z) (cu _)
 have cellK:∀x c,X.env.cells.lookup x=some c->∀v,s.heap.IsCell c v->h'.IsCell c v:=λx c e v ⟨o,ho,hd⟩=>by
  have nch:c∉ch:=λz=>(hch c z).2.2.1 x c e rfl
  by_cases hc:c∈X.fs
  .obtain ⟨sl,q⟩:=slot c o (I.cne x c e) hc nch ho (I.freeC x c e);exact⟨_,q,hd⟩
  .exact ⟨o,keep c o (I.cne x c e) hc nch ho (I.freeC x c e),hd⟩
 refine⟨I.ok,I.os,hg,⟨λb o e n hb hx=>?_,λb o e n hb hx=>?_,λb o e n hx=>?_,λb o e hx=>?_,λb xs e=>tups b xs (I.base.tups b xs e),λb o xs e=>frzs b o xs (I.base.frzs b o xs e),λb q e=>tbls b q (I.base.tbls b q e)⟩,?_,λx c e=>?_,?_,λx c e=>?_,λp hp=>?_,hok,I.len⟩
 .exact keep b o (neL b o e) hb (neC b o e hx) (I.base.keep b o e n hb hx) (I.base.free b o e n hx)
 .obtain ⟨sl,e1⟩:=I.base.slot b o e n hb hx;obtain⟨sl',e2⟩:=slot b _ (neL b o e) hb (neC b o e hx) e1 (I.base.free b o e n hx);exact⟨sl',e2⟩
 .obtain ⟨o',e1⟩:=I.base.there b o e hx;exact free b o' (neC b o e hx) e1 (I.base.free b o e n hx)
 .obtain ⟨o',e1⟩:=I.base.there b o e hx;exact there b o' (neC b o e hx) e1
 .obtain ⟨m,hn,hl⟩:=I.loc;refine⟨m,ns m hn,λi x v e1 e2 e3=>?_⟩
  obtain⟨u,r,l⟩:=hl i x v e1 e2 e3;refine⟨u,r,?_⟩;rcases l with l|⟨k,c,e,z⟩
  .exact .inl l
  .exact .inr ⟨k,c,e,cellK x c e _ z⟩
 .obtain ⟨v,z⟩:=I.cell x c e;exact⟨v,cellK x c e v z⟩
 .obtain ⟨m,⟨o,_,_,ho,_⟩,_⟩:=I.loc;exact free _ o (λz=>(hch _ z).2.1 rfl) ho I.free
 .obtain ⟨v,o,ho,hd⟩:=I.cell x c e;exact free c o (λz=>(hch c z).2.2.1 x c e rfl) ho (I.freeC x c e)
 .obtain ⟨e,n,ne,nf,d⟩:=I.pin p hp;have nch:p.1∉ch:=λz=>(hch p.1 z).2.2.2 p hp rfl
  exact⟨keep p.1 p.2 ne nf nch e n,free p.1 p.2 nch e n,ne,nf,d⟩
theorem Inv.un{t':Nat}(I:Inv X nF σ H s) (u:Un X.fs [] H H' s.heap h') (hok:zC X.prog X.w H' h'):Inv X nF σ H' { s with heap:=h',toks:=t' }:=by
 obtain⟨m,⟨o,es,ep,ho,r⟩,_⟩:=id I.loc;obtain⟨sl,hL⟩:=u.any ho I.free (by simp)
 exact I.step (g':=s.gens) (d':=s.drawn) (ch:=[]) (λ_ z=>nomatch z) (λb o _ hb _ e n=>u.keep b o e n hb (by simp)) (λb o _ hb _ e n=>u.slot b o e n hb (by simp)) (λb o _ e n=>u.free b o e n (by simp)) (λb o _ e=>u.there b o e (by simp)) u.tups u.frzs u.tbls (λm' hm=>by
  obtain⟨o',es',ep',ho',r'⟩:=hm;rw[ho]at ho';cases ho';exact⟨_,es',ep',hL,r'⟩) hok I.bare
theorem Inv.call{g':Array GenState}{t':Nat}{d':Drawn}{ch:List Addr}(I:Inv X nF σ H s) (u:Un (L6 X.stack) ch H H' s.heap h') (hok:zC X.prog X.w H' h') (hg:kK g')
  (hch:∀b∈ch,(b∈X.ex∨X.s₀.heap.objs.size<=b)/\b≠X.env.locals/\(∀x c,X.env.cells.lookup x=some c->c≠b)/\∀p∈X.pn++nF,p.1≠b) :
  Inv X nF σ H' { s with heap:=h',gens:=g',drawn:=d',toks:=t' }:=by
 obtain⟨m,⟨o,es,ep,ho,r⟩,_⟩:=id I.loc;obtain⟨sl,hL⟩:=u.any ho I.free λz=>(hch _ z).2.1 rfl
 exact I.step (ch:=ch) hch (λb o hL hb hc e n=>u.keep b o e n (λz=>(ah.mp (I.stkSub b z)).elim hL hb) hc) (λb o _ _ hc e n=>u.any e n hc) (λb o hc e n=>u.free b o e n hc) (λb o hc e=>u.there b o e hc) u.tups u.frzs u.tbls (λm' hm=>by
  obtain⟨o',es',ep',ho',r'⟩:=hm;rw[ho]at ho';cases ho';exact⟨_,es',ep',hL,r'⟩) hok hg
theorem Inv.turned{t':Nat}{it:Addr}(I:Inv X nF σ H s) (k:∀b o,b≠it->s.heap.get? b=some o->h'.get? b=some o) (hn:H it=none) (hL:it≠X.env.locals)
  (h1:it∈X.ex∨X.s₀.heap.objs.size<=it) (h2:∀x c,X.env.cells.lookup x=some c->c≠it) (h3:∀p∈X.pn++nF,p.1≠it):Inv X nF σ H { s with heap:=h',toks:=t' }:=by
 have nit:∀b u,H b=some u->b≠it:=λb u e z=>by rw[z,hn]at e;cases e
 refine I.step (g':=s.gens) (d':=s.drawn) (ch:=[it]) (λb hb=>?_) (λb o _ _ hc e _=>k b o (λz=>hc (by simp[z])) e) (λb o _ _ hc e _=>⟨o.slots,k b o (λz=>hc (by simp[z])) e⟩) (λ_ _ _ _ n=>n)
  (λb o hc e=>⟨o,k b o (λz=>hc (by simp[z])) e⟩) (λ_ _ e=>e) (λ_ _ _ e=>e) (λ_ _ e=>e) (λm hm=>?_) (λb u e=>?_) I.bare
 .have e:b=it:=by simpa using hb
  subst e;exact⟨h1,hL,h2,h3⟩
 .obtain ⟨o,es,ep,ho,r⟩:=hm;exact⟨o,es,ep,k _ o (Ne.symm hL) ho,r⟩
 .refine (I.hok b u e).stay (λc v hc q=>k c v ?_ q) (λ_ q=>q) (λ_ _ q=>q) λ_ _ q=>q
  rcases hc with z|z
  .rw [z];exact nit b u e
  .exact nit c _ z
theorem Inv.tok(I:Inv X nF σ H s) (t:Nat):Inv X nF σ H { s with toks:=t }:=I.un (h':=s.heap) (t':=t) Un.refl I.hok
theorem Inv.kept{t':Nat}(I:Inv X nF σ H s) (k:∀b u,s.heap.get? b=some u->h'.get? b=some u):Inv X nF σ H { s with heap:=h',toks:=t' }:=I.un (Un.kept k) (I.hok.kept k)
theorem Inv.laid{a:Addr}{o:HO}{t':Nat}(I:Inv X nF σ H s) (k:∀b u,s.heap.get? b=some u->h'.get? b=some u) (hp:s.heap.objs.size<=a) (new:qp X.prog X.w (qr H a o) h' a o) :
  Inv X nF σ (qr H a o) { s with heap:=h',toks:=t' }:=I.un (Un.laid k hp (I.hok.fresh hp)) (I.hok.laid k hp new)
theorem Inv.write{x e:Addr}{o:HO}{t':Nat}(I:Inv X nF σ H s) (mu:UG (H x)) (he:e=x∨H e=some (.own x)) (k:∀b u,b≠e->s.heap.get? b=some u->h'.get? b=some u) (heo:∃u,h'.get? e=some u)
  (new:qp X.prog X.w (qr H x o) h' x o):Inv X nF σ (qr H x o) { s with heap:=h',toks:=t' }:=I.un (Un.write mu he k heo) (I.hok.write mu he k heo new)
theorem Inv.pins_of{pins':List (Addr×Obj)}(I:Inv X nF σ H s) (h:∀p∈pins',s.heap.get? p.1=some p.2/\H p.1=none/\p.1≠X.env.locals/\p.1∉X.fs/\∀v,p.2.data ≠ .cell v):Inv X pins' σ H s :=
 ⟨I.ok,I.os,I.bare,I.base,I.loc,I.cell,I.free,I.freeC,λp hp=>(mAq.mp hp).elim (λz=>I.pin p (cB _ z)) (h p),I.hok,I.len⟩
theorem FP{N:List Str}(hN:N.Nodup) {i j:Nat}{x:Str}(a:N[i]?=some x) (b:N[j]?=some x):i=j:=by
 obtain⟨h1,e1⟩:=gSq.mp a;obtain⟨h2,e2⟩:=gSq.mp b;exact(List.getElem_inj hN).mp (e1.trans e2.symm)
theorem LD{M:Model}{A:Around}{E:Value->Shared->Prop}{i:Nat}{x:Str}{v:V}{u:Value}{Q:Unit->Shared->Prop}(I:Inv X nF σ H s) (hN:X.N.Nodup) (hi:X.N[i]?=some x) (hx:Ue X.env.scope x) (r:pQ v u)
  (h:∀s',Inv X nF (σ.set i (some v)) H s'->(∃a,bS a s.heap s'.heap/\(a=X.env.locals∨X.env.cells.lookup x=some a))->Q () s') (hf:X.fn x=true∨X.env.scope.names.lookup x=some .local:=by trivial):jd M A (storeName X.env x u) Q E s:=by
 obtain⟨m,hn,hl⟩:=id I.loc;have hcls:(X.env.scope.kind == .class || (X.env.scope.kind == .module && X.env.locals != X.env.globals))=false:=by rw[I.ok.kind];rfl
 have hiσ:i<σ.length:=by rw[I.len];exact(gSq.mp hi).1
 have cne:=I.cne;have tracked:∀{a:Addr}{h':Heap},(∃o,s.heap.get? a=some o/\H a=none)->bS a s.heap h'->zC X.prog X.w H h':=λ{a h'} ha hs b ob e=>by
  obtain⟨_,_,hfree⟩:=ha;refine(I.hok b ob e).stay (λc w' hc q=>(hs.2 c ?_).trans q) (λ_ q=>q) (λ_ _ q=>q) λ_ _ q=>q
  rintro rfl;rcases hc with rfl|hc
  .rw [hfree]at e;cases e
  .rw [hfree]at hc;cases hc
 rcases hx with hk|hk
 .refine wpAny_storeName_local hk hn (λh' hn' hs=>?_) hcls
  obtain⟨oL,_,_,hoL,_⟩:=id hn;refine h _ ⟨I.ok,I.os,I.bare,⟨λb o e n hb hx=>?_,λb o e n hb hx=>?_,I.base.free,λb o e hx=>?_,I.base.tups,I.base.frzs,I.base.tbls⟩,⟨_,hn',λj y v' e1 e2 e3=>?_⟩,λy c e=>?_,I.free,I.freeC,λp hp=>?_,tracked ⟨oL,hoL,I.free⟩ hs,by simpa using I.len⟩ ⟨_,hs,.inl rfl⟩
  .exact (hs.2 b (ao (aE (ag e) I.ok.above))).trans (I.base.keep b o e n hb hx)
  .obtain ⟨sl,e1⟩:=I.base.slot b o e n hb hx;exact⟨sl,(hs.2 b (ao (aE (ag e) I.ok.above))).trans e1⟩
  .obtain ⟨o',e1⟩:=I.base.there b o e hx;exact⟨o',(hs.2 b (ao (aE (ag e) I.ok.above))).trans e1⟩
  .by_cases hj:j=i
   .subst hj;rw[hi]at e1;cases e1;rw[aH hiσ]at e2;cases e2;exact⟨u,r,.inl ⟨hk,by simp⟩⟩
   .rw [aA (Ne.symm hj)]at e2;obtain⟨u',r',q⟩:=hl j y v' e1 e2 e3;refine⟨u',r',?_⟩;rcases q with ⟨k,e⟩|⟨k,c,e,z⟩
    .refine .inl ⟨k,?_⟩;have:y≠x:=λe=>hj (FP hN e1 (e ▸ hi))
     simp[this,e]
    .exact .inr ⟨k,c,e,z.sameBut hs (cne y c e)⟩
  .obtain ⟨w',z⟩:=I.cell y c e;exact⟨w',z.sameBut hs (cne y c e)⟩
  .obtain ⟨e,n,ne,nf,d⟩:=I.pin p hp;exact⟨(hs.2 p.1 ne).trans e,n,ne,nf,d⟩
 .have hfn:X.fn x=true:=by
   rcases hf with z|z
   .exact z
   .rw [z]at hk;cases hk
  obtain⟨c,hc⟩:=I.ok.has x (.inl hk);obtain⟨w',z⟩:=I.cell x c hc;refine wpAny_storeName_cell I.ok.kind hk hc z (λh' hc' hs=>?_)
  obtain⟨oc,hoc,hocd⟩:=id z;refine h { s with heap:=h' } ⟨I.ok,I.os,I.bare,⟨λb o e n hb hx=>?_,λb o e n hb hx=>?_,I.base.free,λb o e hx=>?_,I.base.tups,I.base.frzs,I.base.tbls⟩,⟨m,hn.sameBut hs (Ne.symm (cne x c hc)),λj y v' e1 e2 e3=>?_⟩,λy c' e=>?_,I.free,I.freeC,λp hp=>?_,tracked ⟨oc,hoc,I.freeC x c hc⟩ hs,by simpa using I.len⟩ ⟨c,hs,.inr hc⟩
  .exact (hs.2 b (ao (aE (ag e) (I.ok.cab x c hfn hc)))).trans (I.base.keep b o e n hb hx)
  .obtain ⟨sl,e1⟩:=I.base.slot b o e n hb hx;exact⟨sl,(hs.2 b (ao (aE (ag e) (I.ok.cab x c hfn hc)))).trans e1⟩
  .obtain ⟨o',e1⟩:=I.base.there b o e hx;exact⟨o',(hs.2 b (ao (aE (ag e) (I.ok.cab x c hfn hc)))).trans e1⟩
  .by_cases hj:j=i
   .subst hj;rw[hi]at e1;cases e1;rw[aH hiσ]at e2;cases e2;exact⟨u,r,.inr ⟨.inl hk,c,hc,hc'⟩⟩
   .rw [aA (Ne.symm hj)]at e2;obtain⟨u',r',q⟩:=hl j y v' e1 e2 e3;refine⟨u',r',?_⟩;rcases q with q|⟨k,c',e,z'⟩
    .exact .inl q
    .refine .inr ⟨k,c',e,z'.sameBut hs ?_⟩;rintro rfl;exact hj (FP hN e1 (I.ok.inj _ _ _ e hc ▸ hi))
  .by_cases hcc:c'=c
   .subst hcc;exact⟨_,hc'⟩
   .obtain ⟨w2,z2⟩:=I.cell y c' e;exact⟨w2,z2.sameBut hs hcc⟩
  .obtain ⟨e,n,ne,nf,d⟩:=I.pin p hp;refine⟨(hs.2 p.1 ?_).trans e,n,ne,nf,d⟩;intro q;rw[q,hoc]at e;have q':oc=p.2:=aM.inj e;exact d w' (by rw[←q'];exact hocd)
theorem CD{M:Model}{A:Around}{E:Value->Shared->Prop}{i:Nat}{x:Str}{v:V}{u:Value}{Q:Unit->Shared->Prop}(I:Inv X nF σ H s) (hN:X.N.Nodup) (hi:X.N[i]?=some x) (hx:Ue X.env.scope x) (r:pQ v u)
  (h:∀s',Inv X nF (σ.set i (some v)) H s'->Q () s') (hf:X.fn x=true∨X.env.scope.names.lookup x=some .local:=by trivial):jd M A (storeName X.env x u) Q E s :=
 LD I hN hi hx r (λs' I' _=>h s' I') hf
theorem Inv.call'{s':Shared}{ch:List Addr}(I:Inv X nF σ H s) (ho:s'.os=s.os) (u:Un (L6 X.stack) ch H H' s.heap s'.heap) (hok:zC X.prog X.w H' s'.heap) (hg:kK s'.gens)
  (hch:∀b∈ch,(b∈X.ex∨X.s₀.heap.objs.size<=b)/\b≠X.env.locals/\(∀x c,X.env.cells.lookup x=some c->c≠b)/\∀p∈X.pn++nF,p.1≠b):Inv X nF σ H' s':=by
 obtain⟨h',g',d',t',o'⟩:=s';have e:o'=s.os:=ho;subst e;exact I.call (g':=g') (t':=t') (d':=d') u hok hg hch
end
abbrev XK:=Value->Option Addr->Hp->Prop
abbrev St:=List (Option V)
abbrev VK:=V->Hp->Prop
abbrev TE:=St->Hp->VK->Prop
abbrev TT:=St->Hp->(Bool->Hp->Prop)->Prop
abbrev TA:=St->Hp->(List V->Hp->Prop)->Prop
structure zy where
 nx:St->Hp->Prop
 rt:VK
 bk:St->Hp->Prop:=λ_ _=>False
 ct:St->Hp->Prop:=λ_ _=>False
abbrev TS:=zy->St->Hp->Prop
def EP(X:Cx) (nF:List (Addr×Obj)) (σ:St) (Q:VK) (u:Value) (s':Shared):Prop:=∃v H',Inv X nF σ H' s'/\pQ v u/\Q v H'
def TP(X:Cx) (nF:List (Addr×Obj)) (σ:St) (Q:Bool->Hp->Prop) (b:Bool) (s':Shared):Prop:=∃H',Inv X nF σ H' s'/\Q b H'
def AP(X:Cx) (nF:List (Addr×Obj)) (σ:St) (Q:List V->Hp->Prop) (us:List Value) (s':Shared):Prop:=∃vs H',Inv X nF σ H' s'/\oW vs us/\Q vs H'
def SP(X:Cx) (nF:List (Addr×Obj)) (D:zy) (f:Flow) (s':Shared):Prop :=
 match f with
 | .next=>∃σ' H',Inv X nF σ' H' s'/\D.nx σ' H'
 | .brk=>∃σ' H',Inv X nF σ' H' s'/\D.bk σ' H'
 | .cont=>∃σ' H',Inv X nF σ' H' s'/\D.ct σ' H'
 | .ret u=>∃v σ' H',Inv X nF σ' H' s'/\pQ v u/\D.rt v H'
def PE(X:Cx) (e:Expr) (t:TE):Prop :=
 ∀(nF:List (Addr×Obj)) (s:Shared) (σ:St) (H:Hp) (Q:VK),Inv X nF σ H s->t σ H Q->jd (jf X.prog X.w) X.A (eval e X.env) (EP X nF σ Q) X.xe s
def PT(X:Cx) (e:Expr) (t:TT):Prop :=
 ∀(nF:List (Addr×Obj)) (s:Shared) (σ:St) (H:Hp) (Q:Bool->Hp->Prop),Inv X nF σ H s->t σ H Q->jd (jf X.prog X.w) X.A (isTrue e X.env (eval e X.env)) (TP X nF σ Q) X.xe s
def PW(X:Cx) (e:Expr) (t:TT):Prop :=
 ∀(whole:Sem Value) (nF:List (Addr×Obj)) (s:Shared) (σ:St) (H:Hp) (Q:Bool->Hp->Prop),Inv X nF σ H s->t σ H Q->jd (jf X.prog X.w) X.A (isTrue e X.env whole) (TP X nF σ Q) X.xe s
theorem PW.pt{X:Cx}{e:Expr}{t:TT}(h:PW X e t):PT X e t:=h _
def PA(X:Cx) (es:List Expr) (t:TA):Prop :=
 ∀(pos:Pos) (nF:List (Addr×Obj)) (s:Shared) (σ:St) (H:Hp) (Q:List V->Hp->Prop),Inv X nF σ H s->t σ H Q->jd (jf X.prog X.w) X.A (spliced (jY pos (jr es X.env))) (AP X nF σ Q) X.xe s
def PS(X:Cx) (st:Stmt) (t:TS):Prop :=
 ∀(nF:List (Addr×Obj)) (s:Shared) (σ:St) (H:Hp) (D:zy),Inv X nF σ H s->t D σ H->jd (jf X.prog X.w) X.A (exec st X.env) (SP X nF D) X.xe s
def Kc(X:Cx) (st:List Stmt) (t:TS):Prop :=
 ∀(nF:List (Addr×Obj)) (s:Shared) (σ:St) (H:Hp) (D:zy),Inv X nF σ H s->t D σ H->jd (jf X.prog X.w) X.A (execs st X.env) (SP X nF D) X.xe s
theorem rM{α:Type}{t:Sem α}{Q Q':α->Shared->Prop}{M:Model}{A:Around}{E:Value->Shared->Prop}{s:Shared}(h:jd M A t Q E s) (hQ:∀a s,Q a s->Q' a s):jd M A t Q' E s:=jv h hQ λ_ _ x=>x
section
variable {X:Cx}
def yN(i:Nat):TE:=λσ H Q=>∃v,σ[i]?=some (some v)/\Q v H
def tC(v:V):TE:=λ_ H Q=>Q v H
theorem Sm{i:Nat}{x:Str}{pos:Pos}(hN:X.N[i]?=some x) (hv:Uv X.env.scope x) (hd:(x == ("__debug__" : Str))=false:=by decide) (hcd:(x == ("__classdict__" : Str))=false:=by decide):PE X (.Name x pos) (yN i):=by
 intro nF s σ H Q I h;obtain⟨v,e,h⟩:=h;obtain⟨m,hn,hl⟩:=I.loc;obtain⟨u,r,l⟩:=hl i x v hN e hv;have fin:EP X nF σ Q u s:=⟨v,H,I,r,h⟩;rcases l with ⟨hk,hm⟩|⟨hk,c,hc,hcell⟩
 .exact wpAny_Name (mH I.ok.kind hk hn hm fin) hd
 .rcases hk with hk|hk
  .exact wpAny_Name (mN I.ok.kind hk hc hcell fin) hd
  .exact wpAny_Name (wpAny_loadName_free I.ok.kind hk hc hcell fin hcd) hd
theorem nQ{i j pos}:PE X (.Constant (.int i) j pos) (tC (.int i)):=λ_ _ _ H _ I h=>wpAny_Constant_int ⟨.int i,H,I.tok _,⟨_,rfl⟩,h⟩
theorem Bm{b j pos}:PE X (.Constant (.bool b) j pos) (tC (.bl b)):=λ_ _ _ H _ I h=>Constant_bool ⟨.bl b,H,I,rfl,h⟩
theorem NK{x j pos}:PE X (.Constant (.str x) j pos) (tC (.str x)):=λ_ _ _ H _ I h=>Calls.Constant_str ⟨.str x,H,I.tok _,⟨_,rfl⟩,h⟩
def Gl(X:Cx) (x:Str):Prop:=X.env.kindOf x=some .globalImplicit
theorem JW{E:Value->Shared->Prop}{nF:List (Addr×Obj)}{s:Shared}{σ:St}{H:Hp}{x:Str}{u:Value}{pos:Pos}{Q:Value->Shared->Prop}(I:Inv X nF σ H s) (hg:Gl X x) (hm:X.mg x=some u) (h:Q u s)
  (hd:(x == ("__debug__" : Str))=false:=by decide):jd (jf X.prog X.w) X.A (eval (.Name x pos) X.env) Q E s :=
 Calls.Name_function_global I.ok.kind hg (Calls.loadGlobal_global (by rw[I.ok.glob];exact I.mod.glob.keeps I.bk) hm h) hd
theorem wg{E:Value->Shared->Prop}{nF:List (Addr×Obj)}{s:Shared}{σ:St}{H:Hp}{x:Str}{u:Value}{pos:Pos}{Q:Value->Shared->Prop}(I:Inv X nF σ H s) (hg:Gl X x) (hm:X.mg x=none) (hv:kr x=some u) (h:Q u s)
  (hn:x ≠ "__name__" := by decide) (hd:(x == ("__debug__" : Str))=false:=by decide):jd (jf X.prog X.w) X.A (eval (.Name x pos) X.env) Q E s:=by
 obtain⟨mb,h1,h2⟩:=I.mod.blt;exact Calls.Name_function_global I.ok.kind hg (Calls.loadGlobal_builtin (by rw[I.ok.glob];exact I.mod.glob.keeps I.bk) hm (by rw[I.ok.blt];exact h1.keeps I.bk) ((h2 x hn).trans hv) h) hd
theorem JL{x:Str}{v:V}{u:Value}{pos:Pos}(hg:Gl X x) (hm:X.mg x=none) (hv:kr x=some u) (r:pQ v u) (hn:x ≠ "__name__" := by decide) (hd:(x == ("__debug__" : Str))=false:=by decide):PE X (.Name x pos) (tC v) :=
 λ_ _ _ H _ I h=>wg I hg hm hv ⟨v,H,I,r,h⟩ hn hd
variable {a b:Expr}{ta tb:TE}{pos:Pos}
def PC(X:Cx) (op:CmpOp) (a b:Expr) (t:TE):Prop :=
 ∀(nF:List (Addr×Obj)) (s:Shared) (σ:St) (H:Hp) (Q:VK),Inv X nF σ H s->t σ H Q ->
  jd (jf X.prog X.w) X.A (eval a X.env) (λv s₁=>jd (jf X.prog X.w) X.A (eval b X.env) (λu s₂=>jd (jf X.prog X.w) X.A (jS op v u) (EP X nF σ Q) X.xe s₂) X.xe s₁) X.xe s
def tB(t:TE):TT:=λσ H Q=>t σ H λx H1=>∃c,x = .bl c/\Q c H1
theorem Ec{op:CmpOp}{t:TE}(h:PC X op a b t) (h1:kI op b=false:=by first|exact nobehind _ (by decide) (by decide)|rfl):PT X (.Compare a [op] [b] pos) (tB t):=by
 intro nF s σ H Q I hw;refine mv (rM (h nF s σ H _ I hw) λv s1 h1=>rM h1 λu s2 h2=>rM h2 λc s3 hz1=>?_) h1
 obtain⟨x,H1,I1,r1,q1⟩:=hz1;obtain⟨d,rfl,q⟩:=q1;cases r1;exact jN ⟨H1,I1,q⟩
theorem Ig{e:Expr}{t:TE}(h:PE X e t) (he:∀whole,isTrue e X.env whole=(do let v ←whole;standAt e.pos;mS [v] (truthy v)):=by intro _;rfl):PT X e (tB t):=by
 intro nF s σ H Q I hw;refine isTrue_plain (rM (h nF s σ H _ I hw) λv s1 hz1=>?_) (he _)
 obtain⟨x,H1,I1,r1,q1⟩:=hz1;obtain⟨d,rfl,q⟩:=q1;cases r1;exact jN ⟨H1,I1,q⟩
variable {tA tB':TT}{sH:List Expr}
def VB(t u:TT):TT:=λσ H Q=>t σ H λc H1=>if c=true then u σ H1 Q else Q false H1
def Xo(t u:TT):TT:=λσ H Q=>t σ H λc H1=>if c=true then Q true H1 else u σ H1 Q
def Uz(t:TT):TT:=λσ H Q=>t σ H λc H1=>Q (!c) H1
theorem Fq(ha:PT X a tA):PW X (.BoolOp .And [a] pos) tA:=by
 intro wh nF s σ H Q I h;refine isTrue_and (rM (ha nF s σ H Q I h) λc s1 e=>?_)
 cases c with
 |true=>exact isTrue_and_nil e
 |false=>exact e
theorem NZ(ha:PT X a tA):PW X (.BoolOp .Or [a] pos) tA:=by
 intro wh nF s σ H Q I h;refine isTrue_or (rM (ha nF s σ H Q I h) λc s1 e=>?_)
 cases c with
 |false=>exact isTrue_or_nil e
 |true=>exact e
theorem Iw(ha:PT X a tA) (hb:PW X (.BoolOp .And (b::sH) pos) tB'):PW X (.BoolOp .And (a::b::sH) pos) (VB tA tB'):=by
 intro wh nF s σ H Q I h;refine isTrue_and (rM (ha nF s σ H _ I h) λc s1 hz1=>?_)
 obtain⟨H1,I1,q1⟩:=hz1;cases c with
 |true=>exact hb wh nF s1 σ H1 Q I1 q1
 |false=>exact⟨H1,I1,q1⟩
theorem JO(ha:PT X a tA) (hb:PW X (.BoolOp .Or (b::sH) pos) tB'):PW X (.BoolOp .Or (a::b::sH) pos) (Xo tA tB'):=by
 intro wh nF s σ H Q I h;refine isTrue_or (rM (ha nF s σ H _ I h) λc s1 hz1=>?_)
 obtain⟨H1,I1,q1⟩:=hz1;cases c with
 |true=>exact⟨H1,I1,q1⟩
 |false=>exact hb wh nF s1 σ H1 Q I1 q1
theorem L8(ha:PT X a tA):PT X (.UnaryOp .Not a pos) (Uz tA):=by
 intro nF s σ H Q I h;exact isTrue_not (ha nF s σ H (λc H1=>Q (!c) H1) I h)
end
def qw(K:W.Frag) (H:Hp) (a:Addr) (xs:List V):Prop :=
 Rd H a (.lst xs) ∨
  ∃(o:Obj) (its:Array Value) (n:Nat),K.lookup a=some o/\o.cls = .type "list" /\ o.dict=none/\o.data = .seq its n/\its.size<=jk/\oW xs its.toList
def As(K:W.Frag) (H:Hp) (a:Addr) (xs:List V):Prop :=
 Rd H a (.tup xs) ∨
  ∃(o:Obj) (its:Array Value) (n:Nat),K.lookup a=some o/\o.cls = .type "tuple" /\ o.data = .seq its n/\its.size<=jk/\oW xs its.toList
def WI:Value->Option V
 | .none=>some .non
 | .bool b=>some (.bl b)
 | .int i _=>some (.int i)
 | .str x _=>some (.str x)
 | .bytes b _=>some (.byt b)
 | .float b _=>some (.flt b)
 | .ref a=>some (.ref a)
 | .type n=>some (.ty n)
 |_=>none
theorem pQ.abs{x:V}{u:Value}(r:pQ x u):WI u=some x:=by
 cases x with
 |non=>cases r;rfl
 |bl _=>cases r;rfl
 |int _=>obtain⟨t,rfl⟩:=r;rfl
 |str _=>obtain⟨t,rfl⟩:=r;rfl
 |byt _=>obtain⟨t,rfl⟩:=r;rfl
 |flt _=>obtain⟨t,rfl⟩:=r;rfl
 |ref _=>cases r;rfl
 |ty _=>cases r;rfl
theorem pQ.inj{x y:V}{u:Value}(r:pQ x u) (q:pQ y u):x=y:=aM.inj (r.abs.symm.trans q.abs)
theorem oW.inj:∀{xs ys:List V}{us:List Value},oW xs us->oW ys us->xs=ys
 |_,_,_,.nil,.nil=>rfl
 |_,_,_,.cons r t,.cons r' t'=>by rw[r.inj r',oW.inj t t']
section
variable {X:Cx}{nF:List (Addr×Obj)}{σ:St}{H:Hp}{s:Shared}{a:Addr}{xs ys:List V}
theorem qw.of{K:W.Frag}(h:H a=some (.lst xs)):qw K H a xs:=.inl (.inl h)
theorem As.of{K:W.Frag}(h:H a=some (.tup xs)):As K H a xs:=.inl (.inl h)
theorem Inv.list(I:Inv X nF σ H s) (h:qw X.K H a xs):∃its:List Value,oW xs its/\mE s.heap a its.toArray/\xs.length<=jk:=by
 rcases h with h|⟨o,its,n,hk,hc,hd,hs,hz,r⟩
 .obtain ⟨z,its,n,r,e⟩:=h.ok I.hok;exact⟨its,r,⟨_,n,e,rfl,rfl,rfl⟩,z⟩
 .refine ⟨its.toList,r,⟨o,n,I.kIn a o hk,hc,hd,by simpa using hs⟩,?_⟩
  have e:=r.length;simp only[bf]at e;lia
theorem Inv.tuple(I:Inv X nF σ H s) (h:As X.K H a xs):∃its:List Value,oW xs its/\IsTup s.heap a its.toArray/\xs.length<=jk:=by
 rcases h with h|⟨o,its,n,hk,hc,hs,hz,r⟩
 .obtain ⟨z,its,r,p⟩:=h.ok I.hok;exact⟨its,r,p,z⟩
 .refine ⟨its.toList,r,⟨o,I.kIn a o hk,hc,n,by simpa using hs⟩,?_⟩
  have e:=r.length;simp only[bf]at e;lia
theorem Inv.list_inj(I:Inv X nF σ H s) (h:qw X.K H a xs) (h':qw X.K H a ys):xs=ys:=by
 obtain⟨its,r,⟨o,n,e,_,_,d⟩,_⟩:=I.list h;obtain⟨its',r',⟨o',n',e',_,_,d'⟩,_⟩:=I.list h';rw[e]at e';cases e';rw[d]at d';injection d' with d1 _
 have:its=its':=by simpa using congrArg Array.toList d1
 subst this;exact r.inj r'
end
abbrev Cx.wish(X:Cx) (E:Value->Shared->Prop):Cx:={ X with xe:=E }
abbrev Cx.nox(X:Cx):Cx:=X.wish λ_ _=>False
theorem Cx.Ok.wish{X:Cx}(ok:X.Ok) (E:Value->Shared->Prop):(X.wish E).Ok :=
 ⟨ok.mod,ok.kind,ok.glob,ok.blt,ok.above,ok.inj,ok.has,ok.cab,ok.hd,ok.frames,ok.stk,ok.exf,ok.bs,ok.bsz,ok.noex,ok.exfs,ok.funs,ok.frf,ok.tb⟩
theorem Cx.Ok.unwish{X:Cx}{E:Value->Shared->Prop}(ok:(X.wish E).Ok):X.Ok :=
 ⟨ok.mod,ok.kind,ok.glob,ok.blt,ok.above,ok.inj,ok.has,ok.cab,ok.hd,ok.frames,ok.stk,ok.exf,ok.bs,ok.bsz,ok.noex,ok.exfs,ok.funs,ok.frf,ok.tb⟩
section
variable {X:Cx}{nF:List (Addr×Obj)}{σ:St}{H:Hp}{s:Shared}{E:Value->Shared->Prop}
theorem Inv.wish(I:Inv X nF σ H s) (E:Value->Shared->Prop):Inv (X.wish E) nF σ H s:=⟨I.ok.wish E,I.os,I.bare,I.base,I.loc,I.cell,I.free,I.freeC,I.pin,I.hok,I.len⟩
theorem Inv.unwish(I:Inv (X.wish E) nF σ H s):Inv X nF σ H s:=⟨I.ok.unwish,I.os,I.bare,I.base,I.loc,I.cell,I.free,I.freeC,I.pin,I.hok,I.len⟩
theorem SP.unwish{D:zy}{f:Flow}{s':Shared}(h:SP (X.wish E) nF D f s'):SP X nF D f s':=by
 cases f with
 |next=>obtain⟨σ',H',I,q⟩:=h;exact⟨σ',H',I.unwish,q⟩
 |brk=>obtain⟨σ',H',I,q⟩:=h;exact⟨σ',H',I.unwish,q⟩
 |cont=>obtain⟨σ',H',I,q⟩:=h;exact⟨σ',H',I.unwish,q⟩
 |ret u=>obtain⟨v,σ',H',I,r,q⟩:=h;exact⟨v,σ',H',I.unwish,r,q⟩
theorem Kc.nox{st:List Stmt}{t:TS}(h:Kc X.nox st t):Kc X st t:=λnF s σ H D I hw =>
 jv (h nF s σ H D (I.wish _) hw) (λ_ _ q=>q.unwish) λ_ _ z=>False.elim z
end
section
variable {X:Cx}{st:Stmt}{sH:List Stmt}{t u:TS}{e:Expr}{te:TE}{pos:Pos}
def RM:TS:=λD σ H=>D.nx σ H
def O3(t u:TS):TS:=λD σ H=>t { D with nx:=u D } σ H
theorem qV:Kc X [] RM:=λ_ _ σ H _ I h=>kM ⟨σ,H,I,h⟩
theorem nJ(h1:PS X st t) (h2:Kc X sH u):Kc X (st::sH) (O3 t u):=by
 intro nF s σ H D I h;refine wpAny_execs_cons (rM (h1 nF s σ H { D with nx:=u D } I h) λf s1 q=>?_)
 cases f with
 |next =>
  obtain⟨σ',H',I',q⟩:=q;exact h2 nF s1 σ' H' D I' q
 |ret v=>exact q
 |brk=>exact q
 |cont=>exact q
theorem nS(h1:PS X st t):Kc X [st] t:=by
 intro nF s σ H D I h;refine wpAny_execs_cons (rM (h1 nF s σ H D I h) λf s1 q=>?_)
 cases f with
 |next=>exact kM q
 |ret v=>exact q
 |brk=>exact q
 |cont=>exact q
theorem Inv.quiet{nF:List (Addr×Obj)}{σ:St}{H:Hp}{s:Shared}(I:Inv X nF σ H s):interactive X.env=false:=by simp[interactive,I.ok.kind]
def A3(te:TE):TS:=λD σ H=>te σ H λ_ H1=>D.nx σ H1
theorem qP(he:PE X e te) (hs:mQ e none pos.line X.env=pure false:=by rfl):PS X (.Expr e pos) (A3 te):=by
 intro nF s σ H D I h;refine wpAny_Expr_any (rM (he nF s σ H _ I h) λv s1 hz1=>?_) I.quiet hs
 obtain⟨x,H1,I1,r1,q1⟩:=hz1;exact⟨σ,H1,I1,q1⟩
def Vv(te:TE):TS:=λD σ H=>te σ H D.rt
theorem oY(he:PE X e te):PS X (.Return (some e) pos) (Vv te):=by
 intro nF s σ H D I h;refine wpAny_Return_some (rM (he nF s σ H _ I h) λv s1 hz1=>?_)
 obtain⟨x,H1,I1,r1,q1⟩:=hz1;exact⟨x,σ,H1,I1,r1,q1⟩
def Ri(c:TT) (t u:TS):TS:=λD σ H=>c σ H λb H1=>if b=true then t D σ H1 else u D σ H1
theorem tW{c:Expr}{a b:List Stmt}{tc:TT}(hc:PT X c tc) (ha:Kc X a t) (hb:Kc X b u):PS X (.If c a b pos) (Ri tc t u):=by
 intro nF s σ H D I h;refine wpAny_If (rM (hc nF s σ H _ I h) λd s1 hz1=>?_)
 obtain⟨H1,I1,q1⟩:=hz1;cases d with
 |true=>exact ha nF s1 σ H1 D I1 q1
 |false=>exact hb nF s1 σ H1 D I1 q1
def MV:TS:=λ_ _ _=>False
theorem zN:PS X st MV:=λ_ _ _ _ _ _ h=>h.elim
end
abbrev TG:=V->St->Hp->(St->Hp->Prop)->Prop
abbrev SN:=List V->St->Hp->(St->Hp->Prop)->Prop
def PG(X:Cx) (target:Expr) (t:TG):Prop :=
 ∀(nF:List (Addr×Obj)) (s:Shared) (σ:St) (H:Hp) (v:V) (u:Value) (Q:St->Hp->Prop),Inv X nF σ H s->pQ v u->t v σ H Q ->
  jd (jf X.prog X.w) X.A (assign target X.env u) (λ_ s'=>∃σ' H',Inv X nF σ' H' s'/\Q σ' H') X.xe s
def V1(X:Cx) (ts:List Expr) (t:SN):Prop :=
 ∀(nF:List (Addr×Obj)) (s:Shared) (σ:St) (H:Hp) (vs:List V) (us:List Value) (Q:St->Hp->Prop),Inv X nF σ H s->oW vs us->t vs σ H Q ->
  jd (jf X.prog X.w) X.A (assignInOrder ((lI ts X.env).map (·.2)) us) (λ_ s'=>∃σ' H',Inv X nF σ' H' s'/\Q σ' H') X.xe s
abbrev VW:=V->V->Hp->VK->Prop
def Xf(X:Cx) (op:Operator) (t:VW):Prop :=
 ∀(nF:List (Addr×Obj)) (s:Shared) (σ:St) (H:Hp) (x y:V) (v u:Value) (Q:VK),Inv X nF σ H s->pQ x v->pQ y u->t x y H Q ->
  jd (jf X.prog X.w) X.A (inplaceOp op v u) (EP X nF σ Q) X.xe s
section
variable {X:Cx}{pos:Pos}
def sP(i:Nat):TG:=λv σ H Q=>Q (σ.set i (some v)) H
theorem qk{i:Nat}{x:Str}(hN:X.N.Nodup) (hi:X.N[i]?=some x) (hx:Ue X.env.scope x) (hf:X.fn x=true∨X.env.scope.names.lookup x=some .local:=by trivial):PG X (.Name x pos) (sP i):=by
 intro nF s σ H v u Q I r h;exact wpAny_assign_Name (CD I hN hi hx r (λs' I'=>⟨_,H,I',h⟩) hf)
def Lo:SN:=λvs σ H Q=>vs=[]/\Q σ H
def xK(t:TG) (u:SN):SN:=λvs σ H Q=>∃v r,vs=v::r/\t v σ H λσ' H'=>u r σ' H' Q
theorem BE:V1 X [] Lo:=by
 intro nF s σ H vs us Q I r h;obtain⟨e,h⟩:=h;subst e;cases r;exact assignInOrder_nil ⟨σ,H,I,h⟩
theorem uG{e:Expr}{es:List Expr}{t:TG}{u:SN}(h1:PG X e t) (h2:V1 X es u)
  (hs:(lI (e::es) X.env).map (·.2)=assign e X.env::(lI es X.env).map (·.2):=by rfl):V1 X (e::es) (xK t u):=by
 intro nF s σ H vs us Q I r h;obtain⟨v,vr,e1,h⟩:=h;subst e1;cases r with
 |cons r rr =>
  rw[hs];refine assignInOrder_cons (rM (h1 nF s σ H _ _ _ I r h) λ_ s1 hz1=>?_)
  obtain⟨σ1,H1,I1,q1⟩:=hz1;exact h2 nF s1 σ1 H1 _ _ Q I1 rr q1
def KZ(K:W.Frag) (n:Nat) (t:SN):TG:=λv σ H Q=>∃a xs,v = .ref a/\As K H a xs/\xs.length=n/\t xs σ H Q
theorem Ep{es:List Expr}{k:Nat}{t:SN}{n:Nat}(hc:X.calm=true) (h:V1 X es t)
  (hn:(lI es X.env).length=n:=by rfl) (hst:(lI es X.env).findIdx? (·.1)=none:=by rfl):PG X (.Tuple es k pos) (KZ X.K n t):=by
 intro nF s σ H v u Q I r hw;obtain⟨a,xs,e1,hq,hl,hw⟩:=hw;subst e1;cases r;obtain⟨its,rv,ht,hz⟩:=I.tuple hq;refine assign_Tuple_tuple (I.ok.hd hc) ht (by simp[hn,←hl,rv.length]) hst λh' hx=>?_
 have I1:Inv X nF σ H { s with heap:=h' }:=I.kept (t':=s.toks) λb o e=>hx b o (ao (ag e)) e
 exact h nF _ σ H xs _ Q I1 (by simpa using rv) hw
def HB(te:TE) (g:TG):TS:=λD σ H=>te σ H λx H1=>g x σ H1 D.nx
theorem oq{i:Nat}{x:Str}{e:Expr}{te:TE}{pos':Pos}(hN:X.N.Nodup) (hi:X.N[i]?=some x) (hx:Ue X.env.scope x) (he:PE X e te) (hs:mQ e (some (.Name x pos')) pos.line X.env=pure false:=by rfl) (hf:X.fn x=true∨X.env.scope.names.lookup x=some .local:=by trivial) :
  PS X (.Assign [.Name x pos'] e pos) (HB te (sP i)):=by
 intro nF s σ H D I h;refine wpAny_Assign_Name (rM (he nF s σ H _ I h) λv s1 hz1=>?_) hs
 obtain⟨y,H1,I1,r1,q1⟩:=hz1;exact CD I1 hN hi hx r1 (λs2 I2=>⟨_,H1,I2,q1⟩) hf
def Vl(i:Nat) (te:TE) (ti:VW):TS:=λD σ H=>∃x,σ[i]?=some (some x)/\te σ H λy H1=>ti x y H1 λz H2=>D.nx (σ.set i (some z)) H2
theorem SY{i:Nat}{x:Str}{e:Expr}{te:TE}{op:Operator}{ti:VW}{pos':Pos}(hN:X.N.Nodup) (hi:X.N[i]?=some x) (hx:Ue X.env.scope x) (he:PE X e te) (ho:Xf X op ti) (hf:X.fn x=true∨X.env.scope.names.lookup x=some .local:=by trivial) :
  PS X (.AugAssign (.Name x pos') op e pos) (Vl i te ti):=by
 intro nF s σ H D I h;obtain⟨v,e1,h⟩:=h;obtain⟨m,hn,hl⟩:=I.loc;have vis:Uv X.env.scope x:=by rcases hx with k|k;exact .inl k;exact .inr (.inl k)
 obtain⟨u,r,l⟩:=hl i x v hi e1 vis;refine wpAny_AugAssign_Name ?_;have go:jd (jf X.prog X.w) X.A (eval e X.env) (λw s₂=>jd (jf X.prog X.w) X.A (inplaceOp op u w) (λr s₃=>jd (jf X.prog X.w) X.A (storeName X.env x r) (λ_=>SP X nF D .next) X.xe s₃) X.xe s₂) X.xe s:=by
  refine rM (he nF s σ H _ I h) λw s1 hz1=>?_
  obtain⟨y,H1,I1,r1,q1⟩:=hz1;refine rM (ho nF s1 σ H1 v y u w _ I1 r r1 q1) λz s2 hz1=>?_
  obtain⟨zv,H2,I2,r2,q2⟩:=hz1;exact CD I2 hN hi hx r2 (λs3 I3=>⟨_,H2,I3,q2⟩) hf
 rcases l with ⟨hk,hm⟩|⟨hk,c,hc,hcell⟩
 .exact mH I.ok.kind hk hn hm go
 .rcases hk with hk|hk
  .exact mN I.ok.kind hk hc hcell go
  .rcases hx with k|k
   .have:X.env.scope.names.lookup x=some .free:=hk;rw[k]at this;cases this
   .have:X.env.scope.names.lookup x=some .free:=hk;rw[k]at this;cases this
def Ww(f:Int->Int->Int):VW:=λx y H Q=>∃i j,x = .int i/\y = .int j/\Q (.int (f i j)) H
theorem Tt:Xf X .Add (Ww λi j=>i+j):=by
 intro nF s σ H x y v u Q I r1 r2 h;obtain⟨i,j,e1,e2,q⟩:=h;subst e1;subst e2;obtain⟨t,rfl⟩:=r1;obtain⟨t',rfl⟩:=r2;exact iadd_int ⟨.int _,H,I.tok _,⟨_,rfl⟩,q⟩
end
section
variable {X:Cx}{pos:Pos}
def NS(c:TT) (tb:TS):TS:=λD σ H=>∃W:Nat->St->Hp->Prop,(∃m,W m σ H)/\∀m σ H,W m σ H ->
 c σ H λb H1=>if b=true then ∃N:St->Hp->Prop,(∀σ' H',N σ' H'->∃m',m'<m/\W m' σ' H')/\tb { D with nx:=N,ct:=N,bk:=D.nx } σ H1 else D.nx σ H1
theorem Cu{c:Expr}{body:List Stmt}{tc:TT}{tb:TS}(hp:PassesOwn (jf X.prog X.w) X.A X.env X.xe) (hc:PT X c tc) (hb:Kc X body tb):PS X (.While c body [] pos) (NS tc tb):=by
 intro nF s σ H D I h;obtain⟨W,⟨m0,w0⟩,turn⟩:=h;refine wpAny_While (codeAny_whileLoop (λn s'=>∃σ' H',Inv X nF σ' H' s'/\W n σ' H') ?_ m0 ⟨σ,H,I,w0⟩)
 rintro n s1 ⟨σ1,H1,I1,w1⟩;refine jU hp (rM (hc nF s1 σ1 H1 _ I1 (turn n σ1 H1 w1)) λb s2 hz1=>?_)
 obtain⟨H2,I2,q2⟩:=hz1;cases b with
 |true =>
  obtain⟨N,hN,q2⟩:=q2;rw[oQ rfl];refine jU hp (rM (hb nF s2 σ1 H2 _ I2 q2) λf s3 q3=>?_)
  cases f with
  |next =>
   obtain⟨σ3,H3,I3,n3⟩:=q3;obtain⟨m',hm,w3⟩:=hN σ3 H3 n3;exact⟨m',hm,σ3,H3,I3,w3⟩
  |cont =>
   obtain⟨σ3,H3,I3,n3⟩:=q3;obtain⟨m',hm,w3⟩:=hN σ3 H3 n3;exact⟨m',hm,σ3,H3,I3,w3⟩
  |brk=>exact q3
  |ret v=>exact q3
 |false =>
  rw[oT aF];exact kM ⟨σ1,H2,I2,q2⟩
end
structure It where
 go:Nat->Hp->Prop
 yld:Nat->Hp->V->Hp->Prop
 stop:Nat->Hp->Prop
def uf(X:Cx) (nF:List (Addr×Obj)) (H:Hp) (b:Addr):Prop :=
 H b=none/\b≠X.env.locals/\b∉X.fs/\(b∈X.ex∨X.s₀.heap.objs.size<=b)/\(∀x c,X.env.cells.lookup x=some c->c≠b)/\∀p∈X.pn++nF,p.1≠b
theorem Inv.fpOk{X:Cx}{nF:List (Addr×Obj)}{σ:St}{H H':Hp}{s:Shared}{b:Addr}(I:Inv X nF σ H s) (hb:s.heap.objs.size<=b) (hn:H' b=none):uf X nF H' b:=by
 refine⟨hn,aZ (aE I.lt hb),I.nofs hb,.inr (aS I.sz hb),λx c e z=>?_,λp hp z=>?_⟩
 .obtain ⟨v,q⟩:=I.cell x c e;exact absurd (aE q.lt (by rw[z];exact hb)) (cu _)
 .exact absurd (aE (ag (I.pin p hp).1) (by rw[z];exact hb)) (cu _)
structure Lm (P:jj) (w:jo) (K:W.Frag) (tg:Expr) (J:It) (fp:List Addr) (it:Addr) (tn:Nat->Heap->Prop):Prop where
 mem:it∈fp
 obj:∀i h,tn i h->∀b∈fp,∃o,h.get? b=some o/\∀v,o.data ≠ .cell v
 keep:∀i h h',tn i h->(∀b∈fp,∀o,h.get? b=some o->h'.get? b=some o)->tn i h'
 item:∀(X:Cx),X.prog=P->X.w=w->X.K=K->X.calm=true->∀(i:Nat) (nF:List (Addr×Obj)) (s:Shared) (σ:St) (H:Hp) (E:Value->Shared->Prop),Inv X nF σ H s->(∀b∈fp,uf X nF H b)->tn i s.heap->J.go i H ->
  jd (jf P w) X.A (kh (.ref it)) (λr s1=>∃u,r=some u /\
   jd (jf P w) X.A (kN tg (.ref it) u) (λ_ s2=>∃x H',Inv X nF σ H' s2/\pQ x u/\J.yld i H x H'/\tn (i+1) s2.heap/\∀b∈fp,H' b=none) E s1) E s
 done:∀(X:Cx),X.prog=P->X.w=w->X.K=K->X.calm=true->∀(i:Nat) (nF:List (Addr×Obj)) (s:Shared) (σ:St) (H:Hp) (E:Value->Shared->Prop),Inv X nF σ H s->(∀b∈fp,uf X nF H b)->tn i s.heap->J.stop i H ->
  jd (jf P w) X.A (kh (.ref it)) (λr s1=>r=none/\Inv X nF σ H s1) E s
 self:∀(A:Around) (i:Nat) (s:Shared) (Q:Value->Shared->Prop) (E:Value->Shared->Prop),tn i s.heap->Q (.ref it) s->jd (jf P w) A (pyIter (.ref it)) Q E s
abbrev TI:=St->Hp->(It->Hp->Prop)->Prop
def Xk(X:Cx) (nF:List (Addr×Obj)) (σ:St) (tg:Expr) (R:It->Hp->Prop) (itv:Value) (s2:Shared):Prop :=
 ∃(it:Addr) (fp:List Addr) (tn:Nat->Heap->Prop) (J:It) (H':Hp),itv = .ref it/\Inv X nF σ H' s2/\Lm X.prog X.w X.K tg J fp it tn/\tn 0 s2.heap/\(∀b∈fp,uf X nF H' b)/\R J H'
def PI(X:Cx) (tg iter:Expr) (wi:TI):Prop :=
 ∀(nF:List (Addr×Obj)) (s:Shared) (σ:St) (H:Hp) (R:It->Hp->Prop),Inv X nF σ H s->wi σ H R ->
  jd (jf X.prog X.w) X.A (eval iter X.env) (λv s1=>jd (jf X.prog X.w) X.A (pyIter v) (Xk X nF σ tg R) X.xe s1) X.xe s
theorem RC{M:Model}{A:Around}{E:Value->Shared->Prop}{s:Shared}{tg:Expr}{it:Addr}{u:Value}{o:Obj}{n:String}{vs:Array Value}{Q:Unit->Shared->Prop}(ho:s.heap.get? it=some o) (hc:o.cls = .type n) (hd:o.data = .fields vs)
    (hn:["enumerate", "zip", "dict_itemiterator", "dict_reverseitemiterator", "odict_iterator", "itertools.zip_longest", "itertools.pairwise"].contains n=false) (hQ:Q () s):jd M A (kN tg (.ref it) u) Q E s:=by
  unfold kN;cases tg <;> first
    |exact jg hQ
    | (cases u <;> first
        |exact jg hQ
        | (refine jc (wpAny_load ho ?_)
           rw[hc,hd];show jd M A (if (["enumerate", "zip", "dict_itemiterator", "dict_reverseitemiterator", "odict_iterator", "itertools.zip_longest", "itertools.pairwise"].contains n && vs[0]? == some (kR _))=true then _ else _) Q E s
           rw[oT (by intro h;rw[hn,iK]at h;cases h)]
           exact jg hQ))
def Uy(K:W.Frag) (a:Addr):It :=
 ⟨λi H=>∃xs x,qw K H a xs/\xs[i]?=some x,λi H x H'=>H'=H/\∀xs,qw K H a xs->xs[i]?=some x,λi H=>∃xs,qw K H a xs/\xs.length<=i⟩
def Qi(lo:Int) (n:Nat):It:=⟨λi _=>i<n,λi H x H'=>H'=H/\x = .int (lo+i),λi _=>n<=i⟩
theorem Lq{P:jj}{w:jo}{K:W.Frag}{tg:Expr}(a it:Addr):Lm P w K tg (Uy K a) [it] it (λi h=>h.IsListIter it a i) where
 mem:=by simp
 obj:=λi h st b hb=>by
  have e:b=it:=by simpa using hb
  subst e;obtain⟨o,e,c,d⟩:=st;exact⟨o,e,λv z=>by rw[d]at z;cases z⟩
 keep:=λi h h' st k=>st.at λo e=>k it (by simp) o e
 item:=by
  intro X hP hw hK hc i nF s σ H E I hf st hg;subst hP hw hK;obtain⟨xs,x,hq,hx⟩:=hg;obtain⟨its,rv,p,hz⟩:=I.list hq;obtain⟨u,hu,ru⟩:=rv.get hx;obtain⟨f0,f1,f2,f3,f4,f5⟩:=hf it (by simp)
  refine wpAny_pyNext_list_item st p.isList (x:=u) (by simpa using hu) λh' st' sb=>?_
  have I1:Inv X nF σ H { s with heap:=h' }:=I.turned (t':=s.toks) (λb o hb e=>(sb.2 b hb).trans e) f0 f1 f3 f4 f5
  obtain⟨o,e,c,d⟩:=id st';exact⟨u,rfl,RC (s:={ s with heap:=h' }) e c d (by decide) ⟨x,H,I1,ru,⟨rfl,λys hy=>by rw[I.list_inj hy hq];exact hx⟩,st',λb hb=>(hf b hb).1⟩⟩
 done:=by
  intro X hP hw hK hc i nF s σ H E I hf st hg;subst hP hw hK;obtain⟨xs,hq,hx⟩:=hg;obtain⟨its,rv,p,hz⟩:=I.list hq;obtain⟨f0,f1,f2,f3,f4,f5⟩:=hf it (by simp)
  have hl:=rv.length;exact wpAny_pyNext_list_end (I.ok.hd hc) st p.isList (by simp;lia) λh' eb=>⟨rfl,I.turned (t':=s.toks) (λb o hb e=>eb b o hb e) f0 f1 f3 f4 f5⟩
 self:=λ_ _ _ _ _ st h=>wpAny_pyIter_listiter st h
theorem II{P:jj}{w:jo}{K:W.Frag}{tg:Expr}(it:Addr) (lo:Int) (n:Nat):Lm P w K tg (Qi lo n) [it] it (λi h=>IsRangeIter h it (lo+(i:Nat)*1) ((n:Int)-(i:Nat)) 1) where
 mem:=by simp
 obj:=λi h st b hb=>by
  have e:b=it:=by simpa using hb
  subst e;exact⟨_,st,λv z=>by
   have z':Data.fields _=Data.cell v:=z;cases z'⟩
 keep:=λi h h' st k=>k it (by simp) _ st
 item:=by
  intro X hP hw hK hc i nF s σ H E I hf st hg;subst hP hw hK;obtain⟨f0,f1,f2,f3,f4,f5⟩:=hf it (by simp)
  have W:=Walks.range (prog:=X.prog) (w:=X.w) (I.ok.hd hc) it lo 1 n;refine W.item i s _ _ hg st λv h' tk hv st' kk=>?_
  obtain⟨t,rfl⟩:=hv;have I1:Inv X nF σ H { s with heap:=h',toks:=tk }:=I.turned (λb o hb e=>kk b o (by simpa using hb) e) f0 f1 f3 f4 f5
  refine⟨_,rfl,RC (s:={ s with heap:=h',toks:=tk }) (n := "range_iterator") st' rfl rfl (by decide) ⟨.int (lo+i),H,I1,⟨t,?_⟩,⟨rfl,rfl⟩,st',λb hb=>(hf b hb).1⟩⟩
  rw[eD]
 done:=by
  intro X hP hw hK hc i nF s σ H E I hf st hg;subst hP hw hK;obtain⟨f0,f1,f2,f3,f4,f5⟩:=hf it (by simp)
  exact wpAny_pyNext_range_end (I.ok.hd hc) st (by have:n<=i:=hg;lia) λh' eb=>⟨rfl,I.turned (t':=s.toks) (λb o hb e=>eb b o hb e) f0 f1 f3 f4 f5⟩
 self:=λ_ _ _ _ _ st h=>wpAny_pyIter_rangeiter st h
section
variable {X:Cx}{tg:Expr}
def Og(K:W.Frag) (tl:TE):TI:=λσ H R=>tl σ H λx H1=>∃a,x = .ref a/\(∃xs,qw K H1 a xs)/\R (Uy K a) H1
theorem qi{l:Expr}{tl:TE}(hl:PE X l tl):PI X tg l (Og X.K tl):=by
 intro nF s σ H R I h;refine rM (hl nF s σ H _ I h) λv s1 hz1=>?_
 obtain⟨x,H1,I1,r1,q1⟩:=hz1;obtain⟨a,e,⟨xs,hq⟩,q⟩:=q1;subst e;cases r1;obtain⟨its,rv,p,hz⟩:=I1.list hq;refine lD p.isList ?_;refine⟨s1.heap.objs.size,[s1.heap.objs.size],_,_,H1,rfl,I1.kept (t':=s1.toks) λb o e=>ab _ e,Lq a _,⟨_,aB _ rfl,rfl,rfl⟩,λb hb=>?_,q⟩
 have e:b=s1.heap.objs.size:=by simpa using hb
 subst e;exact I1.fpOk (ae _) (I1.hok.fresh (ae _))
theorem O0{nF:List (Addr×Obj)}{σ:St}{H:Hp}{s:Shared}{R:It->Hp->Prop}{E:Value->Shared->Prop}{lo hi:Int}{t u v:Tok}{tk:Nat}(I:Inv X nF σ H s) (h1:-(2 ^ 62)<=lo) (h2:lo<2 ^ 62) (h3:-(2 ^ 62)<=hi) (h4:hi<2 ^ 62)
  (q:R (Qi lo (hi-lo).toNat) H):jd (jf X.prog X.w) X.A (pyIter (.ref s.heap.objs.size)) (Xk X nF σ tg R) E { s with heap:=s.heap.push { cls:=.type "range", data:=.fields #[.int lo t,.int hi u,.int 1 v] },toks:=tk }:=by
 refine wpAny_pyIter_range (IsRange.new ..) (small_one h1 h2 h3 h4) ?_;have I1:Inv X nF σ H { s with heap:=s.heap.push { cls:=.type "range", data:=.fields #[.int lo t,.int hi u,.int 1 v] },toks:=tk }:=I.kept λb o e=>ab _ e
 refine⟨(s.heap.push { cls:=.type "range", data:=.fields #[.int lo t,.int hi u,.int 1 v] }).objs.size,[(s.heap.push { cls:=.type "range", data:=.fields #[.int lo t,.int hi u,.int 1 v] }).objs.size],_,_,H,rfl,
  I1.kept (t':=tk) λb o e=>ab _ e,II _ lo (hi-lo).toNat,?_,λb hb=>?_,q⟩
 .have e1:lo+((0:Nat):Int)*1=lo:=by simp
  have e2:(((hi-lo).toNat:Nat):Int)-((0:Nat):Int)=Builtin.Range.rangeSize lo hi 1:=by rw[rangeSize_one];split <;> lia
  show IsRangeIter _ _ (lo+((0:Nat):Int)*1) ((((hi-lo).toNat:Nat):Int)-((0:Nat):Int)) 1;rw[e1,e2];exact aB _ rfl
 .have e:b=(s.heap.push { cls:=.type "range", data:=.fields #[.int lo t,.int hi u,.int 1 v] }).objs.size:=by simpa using hb
  subst e;exact I1.fpOk (ae _) (I1.hok.fresh (ae _))
def N0(ta:TA):TI:=λσ H R=>ta σ H λvs H1=>∃j:Int,vs=[.int j]/\-(2 ^ 62)<=j/\j<2 ^ 62/\R (Qi 0 j.toNat) H1
theorem wY{a:Expr}{ta:TA}{p pos:Pos}(hg:Gl X "range") (hm:X.mg "range" = none) (ha:PA X [a] ta) (hs:jr [a] X.env=[(false,eval a X.env)]:=by rfl):PI X tg (.Call (.Name "range" p) [a] [] pos) (N0 ta):=by
 intro nF s σ H R I h;refine Call_ (wg I hg hm boot_range (bI (rM (ha pos nF s σ H _ I h) λus s1 hz1=>?_) hs rfl))
 obtain⟨vs,H1,I1,r1,q1⟩:=hz1;obtain⟨j,e,q1,q2,q⟩:=q1;subst e;cases r1 with
 |cons r rr =>
  cases rr;obtain⟨t,rfl⟩:=r;exact call_range_1 (O0 I1 (by lia) (by lia) q1 q2 (by simpa using q))
def M8(wi:TI) (g:TG) (tb:TS):TS:=λD σ H=>wi σ H λJ H1=>∃W:Nat->Nat->St->Hp->Prop,(∃m,W 0 m σ H1)/\∀i m σ H,W i m σ H ->
 (J.stop i H/\D.nx σ H)∨(J.go i H/\∃N:St->Hp->Prop,(∀σ' H',N σ' H'->∃m',m'<m/\W (i+1) m' σ' H')/\∀x H',J.yld i H x H'->g x σ H' λσ2 H2=>tb { D with nx:=N,ct:=N,bk:=D.nx } σ2 H2)
def C5(fp:List Addr) (h:Heap):List (Addr×Obj):=fp.filterMap λb=>(h.get? b).map λo=>(b,o)
theorem xk{fp:List Addr}{h:Heap}{b:Addr}{o:Obj}(hb:b∈fp) (e:h.get? b=some o):(b,o)∈C5 fp h:=gL.mpr ⟨b,hb,by rw[e];rfl⟩
theorem LM{fp:List Addr}{h:Heap}{p:Addr×Obj}(hp:p∈C5 fp h):p.1∈fp/\h.get? p.1=some p.2:=by
 obtain⟨b,hb,e⟩:=gL.mp hp;cases q:h.get? b with
 |none=>rw[q]at e;cases e
 |some o =>
  rw[q]at e;have e':(b,o)=p:=aM.inj e;subst e';exact⟨hb,q⟩
theorem Inv.pinned{nF:List (Addr×Obj)}{σ:St}{H:Hp}{s:Shared}{fp:List Addr}(I:Inv X nF σ H s) (hf:∀b∈fp,uf X nF H b) (ho:∀b∈fp,∃o,s.heap.get? b=some o/\∀v,o.data ≠ .cell v):Inv X (nF++C5 fp s.heap) σ H s :=
 I.pins_of λp hp=>(mAq.mp hp).elim (λz=>I.pin p (ay _ z)) λz=>by
  obtain⟨hb,e⟩:=LM z;obtain⟨f0,f1,f2,_⟩:=hf p.1 hb;obtain⟨o,e',d⟩:=ho p.1 hb;rw[e]at e';cases e';exact⟨e,f0,f1,f2,d⟩
theorem Inv.unpinned{nF pl:List (Addr×Obj)}{σ:St}{H:Hp}{s:Shared}(I:Inv X (nF++pl) σ H s):Inv X nF σ H s:=I.pins_of λp hp=>I.pin p (ay _ (cB _ hp))
theorem ue{iter:Expr}{body:List Stmt}{wi:TI}{g:TG}{tb:TS}{pos:Pos}(hp:PassesOwn (jf X.prog X.w) X.A X.env X.xe) (hc:X.calm=true) (hi:PI X tg iter wi) (hg:PG X tg g) (hb:Kc X body tb)
  (hs:∀x,lF iter X.env x=pure x:=by intro _;rfl):PS X (.For tg iter body [] pos) (M8 wi g tb):=by
 intro nF s σ H D I h;refine wpAny_For (rM (hi nF s σ H _ I h) λv s1 h1=>rM h1 λitv s2 h2=>?_) hs
 obtain⟨it,fp,tn,J,H2,e,I2,T,zK,f2,W,⟨m0,w0⟩,turn⟩:=h2;subst e;have stat:∀{H':Hp},(∀b∈fp,H' b=none)->∀b∈fp,uf X nF H' b:=λhn b hb=>⟨hn b hb,(f2 b hb).2⟩
 refine codeAny_forLoop_any (λn s'=>∃i σ' H',Inv X nF σ' H' s'/\tn i s'.heap/\(∀b∈fp,H' b=none)/\W i n σ' H') ?_ m0 ⟨0,σ,H2,I2,zK,λb hb=>(f2 b hb).1,w0⟩
 rintro n s3 ⟨i,σ3,H3,I3,V5,fr3,w3⟩;rcases turn i n σ3 H3 w3 with ⟨stop,qn⟩|⟨go,N,hN,step⟩
 .refine jU hp (rM (T.done X rfl rfl rfl hc i nF s3 σ3 H3 X.xe I3 (stat fr3) V5 stop) λr s4 hz1=>?_)
  obtain⟨hr,I4⟩:=hz1;subst hr;exact kM ⟨σ3,H3,I4,qn⟩
 .refine jU hp (rM (T.item X rfl rfl rfl hc i nF s3 σ3 H3 X.xe I3 (stat fr3) V5 go) λr s4 hz1=>?_)
  obtain⟨u,hr,h4⟩:=hz1;subst hr;refine jU hp (rM h4 λ_ s5 hz1=>?_)
  obtain⟨x,H5,I5,r5,y5,st5,fr5⟩:=hz1;have I5':=I5.pinned (stat fr5) (T.obj _ _ st5);refine jU hp (rM (hg _ s5 σ3 H5 x u _ I5' r5 (step x H5 y5)) λ_ s6 hz1=>?_)
  obtain⟨σ6,H6,I6,q6⟩:=hz1;refine jU hp (rM (hb _ s6 σ6 H6 _ I6 q6) λf s7 q7=>?_)
  have again:∀{σ7:St}{H7:Hp},Inv X (nF++C5 fp s5.heap) σ7 H7 s7->N σ7 H7->∃m,m<n/\∃i σ' H',Inv X nF σ' H' s7/\tn i s7.heap/\(∀b∈fp,H' b=none)/\W i m σ' H':=λ{σ7 H7} I7 n7=>by
   obtain⟨m',hm,w7⟩:=hN σ7 H7 n7;refine⟨m',hm,i+1,σ7,H7,I7.unpinned,T.keep _ _ _ st5 λb hb o e=>(I7.pin (b,o) (ay _ (ay _ (xk hb e)))).1,λb hb=>?_,w7⟩
   obtain⟨o,e,d⟩:=T.obj _ _ st5 b hb;exact(I7.pin (b,o) (ay _ (ay _ (xk hb e)))).2.1
  cases f with
  |next=>obtain⟨σ7,H7,I7,n7⟩:=q7;exact again I7 n7
  |cont=>obtain⟨σ7,H7,I7,n7⟩:=q7;exact again I7 n7
  |brk=>obtain⟨σ7,H7,I7,q7⟩:=q7;exact⟨σ7,H7,I7.unpinned,q7⟩
  |ret v=>obtain⟨x7,σ7,H7,I7,r7,q7⟩:=q7;exact⟨x7,σ7,H7,I7.unpinned,r7,q7⟩
end
theorem NM{K:W.Frag}{a:Addr}{xs:List V}{g:TG}{tb:TS}{D:zy}{σ:St}{H:Hp}(Pv:Nat->St->Hp->Prop) (h0:Pv 0 σ H) (hl:∀i σ H,i<=xs.length->Pv i σ H->qw K H a xs)
  (hs:∀i x σ H,xs[i]?=some x->Pv i σ H->g x σ H λσ2 H2=>tb { D with nx:=Pv (i+1),ct:=Pv (i+1),bk:=D.nx } σ2 H2) (hd:∀σ H,Pv xs.length σ H->D.nx σ H) :
  ∃W:Nat->Nat->St->Hp->Prop,(∃m,W 0 m σ H)/\∀i m σ H,W i m σ H ->
   ((Uy K a).stop i H/\D.nx σ H)∨((Uy K a).go i H/\∃N:St->Hp->Prop,(∀σ' H',N σ' H'->∃m',m'<m/\W (i+1) m' σ' H')/\∀x H',(Uy K a).yld i H x H'->g x σ H' λσ2 H2=>tb { D with nx:=N,ct:=N,bk:=D.nx } σ2 H2):=by
 refine⟨λi m σ H=>m=xs.length-i/\i<=xs.length/\Pv i σ H,⟨xs.length,by simp,aG _,h0⟩,?_⟩
 rintro i m σ H ⟨rfl,hi,p⟩;have q:=hl i σ H hi p
 by_cases hlt:i<xs.length
 .refine .inr ⟨⟨xs,xs[i],q,by simp[hlt]⟩,Pv (i+1),λσ' H' p'=>⟨xs.length-(i+1),by lia,rfl,hlt,p'⟩,λx H' y=>?_⟩
  obtain⟨e,y⟩:=y;subst e;exact hs i x σ _ (y xs q) p
 .have e:i=xs.length:=by lia
  subst e;exact .inl ⟨⟨xs,q,ae _⟩,hd σ H p⟩
theorem KY{lo:Int}{n:Nat}{g:TG}{tb:TS}{D:zy}{σ:St}{H:Hp}(Pv:Nat->St->Hp->Prop) (h0:Pv 0 σ H)
  (hs:∀i σ H,i<n->Pv i σ H->g (.int (lo+i)) σ H λσ2 H2=>tb { D with nx:=Pv (i+1),ct:=Pv (i+1),bk:=D.nx } σ2 H2) (hd:∀σ H,Pv n σ H->D.nx σ H) :
  ∃W:Nat->Nat->St->Hp->Prop,(∃m,W 0 m σ H)/\∀i m σ H,W i m σ H ->
   ((Qi lo n).stop i H/\D.nx σ H)∨((Qi lo n).go i H/\∃N:St->Hp->Prop,(∀σ' H',N σ' H'->∃m',m'<m/\W (i+1) m' σ' H')/\∀x H',(Qi lo n).yld i H x H'->g x σ H' λσ2 H2=>tb { D with nx:=N,ct:=N,bk:=D.nx } σ2 H2):=by
 refine⟨λi m σ H=>m=n-i/\i<=n/\Pv i σ H,⟨n,by simp,aG _,h0⟩,?_⟩
 rintro i m σ H ⟨rfl,hi,p⟩
 by_cases hlt:i<n
 .refine .inr ⟨hlt,Pv (i+1),λσ' H' p'=>⟨n-(i+1),by lia,rfl,hlt,p'⟩,λx H' y=>?_⟩
  obtain⟨e,y⟩:=y;subst e y;exact hs i σ _ hlt p
 .have e:i=n:=by lia
  subst e;exact .inl ⟨ae _,hd σ H p⟩
abbrev R2:=V->V->Hp->VK->Prop
def Fo(X:Cx) (f:Value->Value->Sem Value) (r:R2):Prop :=
 ∀(nF:List (Addr×Obj)) (s:Shared) (σ:St) (H:Hp) (x y:V) (v u:Value) (Q:VK),Inv X nF σ H s->pQ x v->pQ y u->r x y H Q ->
  jd (jf X.prog X.w) X.A (f v u) (EP X nF σ Q) X.xe s
def Wi(X:Cx) (f:Value->Sem Value) (r:V->Hp->VK->Prop):Prop :=
 ∀(nF:List (Addr×Obj)) (s:Shared) (σ:St) (H:Hp) (x:V) (v:Value) (Q:VK),Inv X nF σ H s->pQ x v->r x H Q ->
  jd (jf X.prog X.w) X.A (f v) (EP X nF σ Q) X.xe s
def vM(X:Cx) (f:Value) (r:List V->Hp->VK->Prop):Prop :=
 ∀(nF:List (Addr×Obj)) (s:Shared) (σ:St) (H:Hp) (xs:List V) (us:List Value) (Q:VK),Inv X nF σ H s->oW xs us->r xs H Q ->
  jd (jf X.prog X.w) X.A (call f us) (EP X nF σ Q) X.xe s
def Pd(r:R2) (ta tb:TE):TE:=λσ H Q=>ta σ H λx H1=>tb σ H1 λy H2=>r x y H2 Q
def WY(r:V->Hp->VK->Prop) (ta:TE):TE:=λσ H Q=>ta σ H λx H1=>r x H1 Q
def rI(C:Int->Int->Prop) (g:Int->Int->V):R2:=λx y H Q=>∃i j,x = .int i/\y = .int j/\C i j/\Q (g i j) H
def Oj(g:Int->Int->V):R2:=λx y H Q=>∃i j,x = .int i/\y = .int j/\Q (g i j) H
def rU(g:Int->V):V->Hp->VK->Prop:=λx H Q=>∃i,x = .int i/\Q (g i) H
section
variable {X:Cx}{a b c:Expr}{ta tb tc:TE}{pos:Pos}
theorem Tj(ha:PE X a ta) (hb:PE X b tb) {nF:List (Addr×Obj)}{s:Shared}{σ:St}{H:Hp}{R:V->V->Hp->Prop}(I:Inv X nF σ H s)
  (h:ta σ H λx H1=>tb σ H1 λy H2=>R x y H2) {Q:Value->Shared->Prop}{f:Value->Value->Sem Value}
  (hf:∀v u s2 x y H2,Inv X nF σ H2 s2->pQ x v->pQ y u->R x y H2->jd (jf X.prog X.w) X.A (f v u) Q X.xe s2) :
  jd (jf X.prog X.w) X.A (eval a X.env) (λv s₁=>jd (jf X.prog X.w) X.A (eval b X.env) (λu s₂=>jd (jf X.prog X.w) X.A (f v u) Q X.xe s₂) X.xe s₁) X.xe s:=by
 refine rM (ha nF s σ H _ I h) λv s1 hz1=>?_
 obtain⟨x,H1,I1,r1,q1⟩:=hz1;refine rM (hb nF s1 σ H1 _ I1 q1) λu s2 hz1=>?_
 obtain⟨y,H2,I2,r2,q2⟩:=hz1;exact hf v u s2 x y H2 I2 r1 r2 q2
theorem pd{op:Operator}{r:R2}(ho:Fo X (kJ op) r) (ha:PE X a ta) (hb:PE X b tb):PE X (.BinOp a op b pos) (Pd r ta tb):=by
 intro nF s σ H Q I h;exact wpAny_BinOp (Tj ha hb I h λv u s2 x y H2 I2 rx ry q=>ho nF s2 σ H2 x y v u Q I2 rx ry q)
theorem Bg{op:UnaryOp}{r:V->Hp->VK->Prop}(ho:Wi X (unaryOp op) r) (ha:PE X a ta):PE X (.UnaryOp op a pos) (WY r ta):=by
 intro nF s σ H Q I h;refine UnaryOp_ (rM (ha nF s σ H _ I h) λv s1 hz1=>?_)
 obtain⟨x,H1,I1,r1,q1⟩:=hz1;exact ho nF s1 σ H1 x v Q I1 r1 q1
theorem VO{f:Value->Value->Sem Value}{C:Int->Int->Prop}{g:Int->Int->Int}
  (rule:∀(i j:Int) (t u:Tok) (s:Shared) (Q:Value->Shared->Prop) (E:Value->Shared->Prop),C i j->Q (.int (g i j) s.toks) { s with toks:=s.toks+1 }->jd (jf X.prog X.w) X.A (f (.int i t) (.int j u)) Q E s) :
  Fo X f (rI C λi j=>.int (g i j)):=by
 intro nF s σ H x y v u Q I rx ry h;obtain⟨i,j,rfl,rfl,hc,q⟩:=h;obtain⟨t,rfl⟩:=rx;obtain⟨t',rfl⟩:=ry;exact rule i j t t' s _ _ hc ⟨.int (g i j),H,I.tok _,⟨_,rfl⟩,q⟩
theorem VG{f:Value->Value->Sem Value}{g:Int->Int->Int}
  (rule:∀(i j:Int) (t u:Tok) (s:Shared) (Q:Value->Shared->Prop) (E:Value->Shared->Prop),Q (.int (g i j) s.toks) { s with toks:=s.toks+1 }->jd (jf X.prog X.w) X.A (f (.int i t) (.int j u)) Q E s) :
  Fo X f (Oj λi j=>.int (g i j)):=by
 intro nF s σ H x y v u Q I rx ry h;obtain⟨i,j,rfl,rfl,q⟩:=h;obtain⟨t,rfl⟩:=rx;obtain⟨t',rfl⟩:=ry;exact rule i j t t' s _ _ ⟨.int (g i j),H,I.tok _,⟨_,rfl⟩,q⟩
theorem U9{f:Value->Value->Sem Value}{g:Int->Int->Bool}
  (rule:∀(i j:Int) (t u:Tok) (s:Shared) (Q:Value->Shared->Prop) (E:Value->Shared->Prop),Q (.bool (g i j)) s->jd (jf X.prog X.w) X.A (f (.int i t) (.int j u)) Q E s) :
  Fo X f (Oj λi j=>.bl (g i j)):=by
 intro nF s σ H x y v u Q I rx ry h;obtain⟨i,j,rfl,rfl,q⟩:=h;obtain⟨t,rfl⟩:=rx;obtain⟨t',rfl⟩:=ry;exact rule i j t t' s _ _ ⟨.bl (g i j),H,I,rfl,q⟩
def T9(i j:Int):Prop:=0<j/\j<1073741824
def S8(i j:Int):Prop:=0<=j/\j<=1000000/\i.natAbs<2 ^ 64
def M7(i j:Int):Prop:=(-(2 ^ 64)<i/\i<2 ^ 64)∨(-(2 ^ 64)<j/\j<2 ^ 64)
theorem M7.ok{i j:Int}(h:M7 i j):IntMulOk i j:=by
 rcases h with ⟨h1,h2⟩|⟨h1,h2⟩
 .exact .of_left (intBits_le_64 h1 h2)
 .exact .of_right (intBits_le_64 h1 h2)
theorem zj:Fo X (kJ .Add) (Oj λi j=>.int (i+j)):=VG λ_ _ _ _ _ _ _ q=>add_int q
theorem AE:Fo X (kJ .Sub) (Oj λi j=>.int (i-j)):=VG λ_ _ _ _ _ _ _ q=>sub_int q
theorem AD:Fo X (kJ .Mult) (rI M7 λi j=>.int (i*j)):=VO λ_ _ _ _ _ _ _ hc q=>mul_int q hc.ok
theorem uS:Fo X (kJ .FloorDiv) (rI T9 λi j=>.int (i / j)):=VO λi j _ _ _ _ _ hc q=>by
 have h1:(0:Int)<j:=hc.1;have h2:j<1073741824:=hc.2;exact floordiv_int (by lia) (by rw[Int.fdiv_eq_ediv_of_nonneg i (by lia)];exact q) (.inl (PyProof.noPylong_small (by lia)))
theorem sV:Fo X (kJ .Mod) (rI (λ_ j=>0<j) λi j=>.int (i % j)):=VO λi j _ _ _ _ _ hc q=>by
 have h1:(0:Int)<j:=hc;exact mod_int' (by lia) (by rw[Int.fmod_eq_emod_of_nonneg i (by lia)];exact q)
theorem OS:Fo X (kJ .Pow) (rI S8 λi j=>.int (i ^ j.toNat)):=VO λ_ _ _ _ _ _ _ hc q=>pow_int_small hc.1 hc.2.1 hc.2.2 q
theorem XH{f:Value->Sem Value}{g:Int->Int}
  (rule:∀(i:Int) (t:Tok) (s:Shared) (Q:Value->Shared->Prop) (E:Value->Shared->Prop),Q (.int (g i) s.toks) { s with toks:=s.toks+1 }->jd (jf X.prog X.w) X.A (f (.int i t)) Q E s) :
  Wi X f (rU λi=>.int (g i)):=by
 intro nF s σ H x v Q I rx h;obtain⟨i,rfl,q⟩:=h;obtain⟨t,rfl⟩:=rx;exact rule i t s _ _ ⟨.int (g i),H,I.tok _,⟨_,rfl⟩,q⟩
theorem ya:Wi X (unaryOp .USub) (rU λi=>.int (-i)):=XH λ_ _ _ _ _ q=>neg_int q
end
def scal:V->V->Bool
 | .non,.non=>true|.non,.int _=>true|.int _,.non=>true|.non,.bl _=>true|.bl _,.non=>true|.non,.str _=>true|.str _,.non=>true
 | .int _,.int _=>true|.bl _,.bl _=>true|.str _,.str _=>true|.byt _,.byt _=>true
 | .int _,.str _=>true|.str _,.int _=>true|.bl _,.str _=>true|.str _,.bl _=>true
 |_,_=>false
def W8:R2:=λx y H Q=>scal x y=true/\Q (.bl (decide (x=y))) H
def W3:R2:=λx y H Q=>scal x y=true/\Q (.bl (!decide (x=y))) H
theorem Jv{i j:Int}:decide (V.int i=V.int j)=(i == j):=by
 rw[bX];simp
theorem NA{i j:Bool}:decide (V.bl i=V.bl j)=(i == j):=by
 rw[bX];simp
theorem JS{i j:Str}:decide (V.str i=V.str j)=(i == j):=by
 rw[bX];simp
theorem Ka{i j:Array UInt8}:decide (V.byt i=V.byt j)=(i.toList == j.toList):=by
 rw[bX];cases i;cases j;simp
section
variable {X:Cx}{a b c:Expr}{ta tb tc:TE}{pos:Pos}
theorem pL{nF:List (Addr×Obj)}{σ:St}{H:Hp}{s:Shared}{Q:VK}{k k':Bool}(I:Inv X nF σ H s) (q:Q (.bl k) H) (e:k=k'):EP X nF σ Q (.bool k') s:=by
 subst e;exact⟨.bl k,H,I,rfl,q⟩
theorem yf:Fo X (jS .Eq) W8:=by
 intro nF s σ H x y v u Q I rx ry h;obtain⟨hs,q⟩:=h;cases x with
 |non =>
  cases rx;cases y with
  |non=>cases ry;exact PySem.EqNone.eq_none_none (pL I q (by simp))
  |bl j=>cases ry;exact PySem.EqNone.eq_none_bool (pL I q (by simp))
  |int j=>obtain⟨t',rfl⟩:=ry;exact PySem.EqNone.eq_none_int (pL I q (by simp))
  |str j=>obtain⟨t',rfl⟩:=ry;exact PySem.EqNone.eq_none_str (pL I q (by simp))
  |_=>exact absurd (show false=true from hs) aF
 |bl i =>
  cases rx;cases y with
  |non=>cases ry;exact PySem.EqNone.eq_bool_none (pL I q (by simp))
  |bl j=>cases ry;exact eq_bool (pL I q NA)
  |str j=>obtain⟨t',rfl⟩:=ry;exact PySem.EqMixed.eq_bool_str (pL I q (by simp))
  |_=>exact absurd (show false=true from hs) aF
 |int i =>
  obtain⟨t,rfl⟩:=rx;cases y with
  |non=>cases ry;exact PySem.EqNone.eq_int_none (pL I q (by simp))
  |int j=>obtain⟨t',rfl⟩:=ry;exact eq_int (pL I q Jv)
  |str j=>obtain⟨t',rfl⟩:=ry;exact PySem.EqMixed.eq_int_str (pL I q (by simp))
  |_=>exact absurd (show false=true from hs) aF
 |str i =>
  obtain⟨t,rfl⟩:=rx;cases y with
  |non=>cases ry;exact PySem.EqNone.eq_str_none (pL I q (by simp))
  |bl j=>cases ry;exact PySem.EqMixed.eq_str_bool (pL I q (by simp))
  |int j=>obtain⟨t',rfl⟩:=ry;exact PySem.EqMixed.eq_str_int (pL I q (by simp))
  |str j=>obtain⟨t',rfl⟩:=ry;exact eq_str (pL I q JS)
  |_=>exact absurd (show false=true from hs) aF
 |byt i =>
  obtain⟨t,rfl⟩:=rx;cases y with
  |byt j=>obtain⟨t',rfl⟩:=ry;exact W.eq_bytes (pL I q Ka)
  |_=>exact absurd (show false=true from hs) aF
 |_=>cases y <;> exact absurd (show false=true from hs) aF
theorem FX:Fo X (jS .NotEq) W3:=by
 intro nF s σ H x y v u Q I rx ry h;obtain⟨hs,q⟩:=h;cases x with
 |non =>
  cases rx;cases y with
  |non=>cases ry;exact PySem.EqNone.ne_none_none (pL I q (by simp))
  |bl j=>cases ry;exact PySem.EqNone.ne_none_bool (pL I q (by simp))
  |int j=>obtain⟨t',rfl⟩:=ry;exact PySem.EqNone.ne_none_int (pL I q (by simp))
  |str j=>obtain⟨t',rfl⟩:=ry;exact PySem.EqNone.ne_none_str (pL I q (by simp))
  |_=>exact absurd (show false=true from hs) aF
 |bl i =>
  cases rx;cases y with
  |non=>cases ry;exact PySem.EqNone.ne_bool_none (pL I q (by simp))
  |bl j=>cases ry;exact ne_bool (pL I q (congrArg not NA))
  |str j=>obtain⟨t',rfl⟩:=ry;exact PySem.EqMixed.ne_bool_str (pL I q (by simp))
  |_=>exact absurd (show false=true from hs) aF
 |int i =>
  obtain⟨t,rfl⟩:=rx;cases y with
  |non=>cases ry;exact PySem.EqNone.ne_int_none (pL I q (by simp))
  |int j=>obtain⟨t',rfl⟩:=ry;exact ne_int (pL I q (congrArg not Jv))
  |str j=>obtain⟨t',rfl⟩:=ry;exact PySem.EqMixed.ne_int_str (pL I q (by simp))
  |_=>exact absurd (show false=true from hs) aF
 |str i =>
  obtain⟨t,rfl⟩:=rx;cases y with
  |non=>cases ry;exact PySem.EqNone.ne_str_none (pL I q (by simp))
  |bl j=>cases ry;exact PySem.EqMixed.ne_str_bool (pL I q (by simp))
  |int j=>obtain⟨t',rfl⟩:=ry;exact PySem.EqMixed.ne_str_int (pL I q (by simp))
  |str j=>obtain⟨t',rfl⟩:=ry;exact ne_str (pL I q (congrArg not JS))
  |_=>exact absurd (show false=true from hs) aF
 |byt i =>
  obtain⟨t,rfl⟩:=rx;cases y with
  |byt j=>obtain⟨t',rfl⟩:=ry;exact W.ne_bytes (pL I q (congrArg not Ka))
  |_=>exact absurd (show false=true from hs) aF
 |_=>cases y <;> exact absurd (show false=true from hs) aF
theorem Ru:Fo X (jS .Lt) (Oj λi j=>.bl (decide (i<j))):=U9 λ_ _ _ _ _ _ _ q=>lt_int q
theorem D2:Fo X (jS .Gt) (Oj λi j=>.bl (decide (j<i))):=U9 λ_ _ _ _ _ _ _ q=>gt_int q
theorem qg(b:Expr) {op:CmpOp}(h:op ≠ .In:=by decide) (h2:op ≠ .NotIn:=by decide):kI op b=false:=by
 have e1:(op == CmpOp.In)=false:=by cases op <;> first|rfl|exact absurd rfl h
 have e2:(op == CmpOp.NotIn)=false:=by cases op <;> first|rfl|exact absurd rfl h2
 cases b <;> simp[kI,e1,e2]
theorem BG{op:CmpOp}{r:R2}(ho:Fo X (jS op) r) (ha:PE X a ta) (hb:PE X b tb) (hm:kI op b=false):PE X (.Compare a [op] [b] pos) (Pd r ta tb):=by
 intro nF s σ H Q I h;exact wpAny_Compare1 (Tj ha hb I h λv u s2 x y H2 I2 rx ry q=>ho nF s2 σ H2 x y v u Q I2 rx ry q) hm
def Ry(t:TE):TT:=λσ H Q=>t σ H λx H'=>∃k,x = .bl k/\Q k H'
theorem pY{op:CmpOp}{r:R2}(ho:Fo X (jS op) r) (ha:PE X a ta) (hb:PE X b tb) (hm:kI op b=false):PT X (.Compare a [op] [b] pos) (Ry (Pd r ta tb)):=by
 intro nF s σ H Q I h;refine mv (rM (ha nF s σ H _ I h) λv s1 ⟨x,H1,I1,r1,q1⟩=>rM (hb nF s1 σ H1 _ I1 q1) λu s2 ⟨y,H2,I2,r2,q2⟩ =>
  rM (ho nF s2 σ H2 x y v u _ I2 r1 r2 q2) λc s3 ⟨z,H3,I3,r3,k,e,q3⟩=>?_) hm
 subst e;cases r3;exact jN ⟨H3,I3,q3⟩
theorem IX:(jk:Nat)<2 ^ 63:=by rw[jt];decide
theorem uy{x:V}{us:List Value}(r:oW [x] us):∃u,us=[u]/\pQ x u:=by
 cases r with
 |cons r1 r2=>cases r2;exact⟨_,rfl,r1⟩
theorem N5{x y:V}{us:List Value}(r:oW [x,y] us):∃u w',us=[u,w']/\pQ x u/\pQ y w':=by
 cases r with
 |cons r1 r2 =>
  cases r2 with
  |cons r3 r4=>cases r4;exact⟨_,_,rfl,r1,r3⟩
def Ug(K:W.Frag) (x:V) (H:Hp) (n:Nat):Prop :=
 match x with
 | .str y=>y.length<=jk/\n=y.length
 | .byt y=>y.size<=jk/\n=y.size
 | .ref p=>(∃xs,qw K H p xs/\n=xs.length)∨∃xs,As K H p xs/\n=xs.length
 |_=>False
theorem oS:vM X (.builtin "len") (λxs H Q=>∃x n,xs=[x]/\Ug X.K x H n/\Q (.int n) H):=by
 intro nF s σ H xs us Q I r h;obtain⟨x,n,rfl,e,q⟩:=h;obtain⟨u,rfl,rx⟩:=uy r;have hl:=IX;have hs:jk=16777216:=jt;cases x with
 |str y =>
  obtain⟨t,rfl⟩:=rx;obtain⟨hy,e'⟩:y.length<=jk/\n=y.length:=e;subst e';exact len_str (by lia) ⟨.int _,H,I.tok _,⟨_,rfl⟩,q⟩
 |byt y =>
  obtain⟨t,rfl⟩:=rx;obtain⟨hy,e'⟩:y.size<=jk/\n=y.size:=e;subst e';exact W.len_bytes (by lia) ⟨.int _,H,I.tok _,⟨_,rfl⟩,q⟩
 |ref p =>
  cases rx;have e':(∃xs,qw X.K H p xs/\n=xs.length)∨∃xs,As X.K H p xs/\n=xs.length:=e;rcases e' with ⟨xs,hx,e'⟩|⟨xs,hx,e'⟩
  .subst e';obtain⟨its,r',pl,hz⟩:=I.list hx;have hlen:=r'.length;exact Calls.call_len_list pl.isList (by simp only[ak];lia) ⟨.int xs.length,H,I.tok _,⟨_,by simp only[ak];rw[hlen]⟩,q⟩
  .subst e';obtain⟨its,r',pl,hz⟩:=I.tuple hx;have hlen:=r'.length;exact len_tuple pl (by simp only[ak];lia) ⟨.int xs.length,H,I.tok _,⟨_,by simp only[ak];rw[hlen]⟩,q⟩
 |_=>exact(show False from e).elim
end
theorem Dg.some_of{v:V}{o:Option Value}(r:Dg (some v) o):∃u,o=some u/\pQ v u:=by
 cases o with
 |none=>exact(show False from r).elim
 |some u=>exact⟨u,rfl,r⟩
structure rQ (k:Nat) (A:Around):Prop where
 hd:A.handled=none
 dp:A.depth+3*k+5<recursionLimit
 un:A.units+16*k+200<jw
theorem rQ.mono{j k:Nat}{A:Around}(r:rQ k A) (h:j<=k):rQ j A:=⟨r.hd,by have:=r.dp;lia,by have:=r.un;lia⟩
theorem rQ.deeper{k:Nat}{A:Around}(r:rQ (k+1) A) (env:Env):rQ k (A.deeper env) :=
 ⟨r.hd,by have:=r.dp;show A.depth+1+3*k+5<_;lia,by have:=r.un;show A.units+3+16*k+200<_;lia⟩
theorem rQ.in1{k:Nat}{A:Around}(r:rQ (k+1) A):rQ k A.in1 :=
 ⟨r.hd,by have:=r.dp;show A.depth+3*k+5<_;lia,by have:=r.un;show A.units+1+16*k+200<_;lia⟩
theorem rQ.depth{k:Nat}{A:Around}(r:rQ k A):A.depth<recursionLimit:=by have:=r.dp;lia
theorem rQ.units{k:Nat}{A:Around}(r:rQ k A):A.units+64<jw:=by have:=r.un;lia
def vI:TA:=λ_ H Q=>Q [] H
def rY(ta:TE) (tr:TA):TA:=λσ H Q=>ta σ H λx H1=>tr σ H1 λxs H2=>Q (x::xs) H2
section
variable {X:Cx}{e:Expr}{es:List Expr}{te:TE}{t:TA}{pos:Pos}
theorem nI:PA X [] vI:=λ_ _ _ _ H Q I h=>Calls.spliced_nil ⟨[],H,I,.nil,h⟩
theorem nH(ha:PE X e te) (hr:PA X es t) (hs:jr (e::es) X.env=(false,eval e X.env)::jr es X.env:=by rfl):PA X (e::es) (rY te t):=by
 intro pos nF s σ H Q I h;rw[hs];show jd _ _ (spliced ((false,eval e X.env)::jY pos (jr es X.env))) _ _ s;refine Calls.spliced_cons (rM (ha nF s σ H _ I h) λu s1 hz1=>?_)
 obtain⟨x,H1,I1,r1,q1⟩:=hz1;refine rM (hr pos nF s1 σ H1 _ I1 q1) λus s2 hz1=>?_
 obtain⟨xs,H2,I2,r2,q2⟩:=hz1;exact⟨x::xs,H2,I2,.cons r1 r2,q2⟩
def Va(t:TA):TE:=λσ H Q=>t σ H λxs H1=>xs.length<=jk/\∀p,H1 p=none->Q (.ref p) (qr H1 p (.tup xs))
def Vm(t:TA):TE:=λσ H Q=>t σ H λxs H1=>xs.length<=jk/\∀p,H1 p=none->Q (.ref p) (qr H1 p (.lst xs))
theorem Jk{x1} (h:PA X es t):PE X (.Tuple es x1 pos) (Va t):=by
 intro nF s σ H Q I hq;refine wpAny_Tuple_spliced (rM (h pos nF s σ H _ I hq) λus s1 ⟨xs,H1,I1,r,z,q⟩=>⟨by rw[←r.length];exact z,?_⟩)
 have hf:H1 s1.heap.objs.size=none:=I1.hok.fresh (ae _);refine⟨.ref s1.heap.objs.size,qr H1 s1.heap.objs.size (.tup xs),I1.laid (t':=s1.toks) (λb u e=>ab _ e) (ae _) ?_,rfl,q _ hf⟩
 exact⟨z,us,r,⟨_,aB _ rfl,rfl,_,rfl⟩⟩
theorem rR(h:PA X es t):PE X (.List es pos) (Vm t):=by
 intro nF s σ H Q I hq;refine wpAny_List_spliced (rM (h pos nF s σ H _ I hq) λus s1 ⟨xs,H1,I1,r,z,q⟩=>⟨by rw[←r.length];exact z,?_⟩)
 have hf:H1 s1.heap.objs.size=none:=I1.hok.fresh (ae _);refine⟨.ref s1.heap.objs.size,qr H1 s1.heap.objs.size (.lst xs),I1.laid (t':=s1.toks) (λb u e=>ab _ e) (ae _) ?_,rfl,q _ hf⟩
 exact⟨z,us,0,r,aB _ rfl⟩
end
abbrev Sp:=List V->Hp->VK->XK->Prop
abbrev IU:=List Env->Hp->Shared->XK->Value->Shared->Prop
structure Mk (P:jj) (w:jo) (K:W.Frag) (mg:Str->Option Value) (base:Heap) (A:Around) (outer:List Env) (s:Shared) (H:Hp):Prop where
 frames:A.frames=some outer
 mod:Mod K mg base
 bs:∀b o,base.get? b=some o->s.heap.get? b=some o/\H b=none
 bsz:base.objs.size<=s.heap.objs.size
 funs:s.heap.FunFrames base outer
 frf:∀b∈L6 outer,H b=none
 hok:zC P w H s.heap
 bare:kK s.gens
 tb:Q6 K H
def CE(outer:List Env) (P:jj) (w:jo) (H:Hp) (s:Shared) (Q:VK) (u:Value) (s':Shared):Prop :=
 ∃v H',s'.os=s.os/\kK s'.gens/\Un (L6 outer) [] H H' s.heap s'.heap/\zC P w H' s'.heap/\pQ v u/\Q v H'
def CR(CX:IU) (outer:List Env) (P:jj) (w:jo) (H:Hp) (s:Shared) (Q:VK) (E:XK) (r:mD) (s':Shared):Prop :=
 match r with
 | .ok (.ret u)=>CE outer P w H s Q u s'
 | .ok _=>False
 | .error e=>CX outer H s E e s'
structure wU (P:jj) (w:jo) (K:W.Frag) (mg:Str->Option Value) (base:Heap) (CX:IU) (k:Nat) (f:Addr) (fd:jE) (ps:List Str) (sp:Sp):Prop where
 len:∀vs H Q E,sp vs H Q E->vs.length=ps.length
 run:∀(A:Around) (outer:List Env) (s:Shared) (H:Hp) (args:Args) (us:List Value) (vs:List V) (Q:VK) (E:XK),rQ k A->Mk P w K mg base A outer s H->lM s fd args (ps.zip us)->oW vs us->sp vs H Q E ->
  jZ (jf P w) A (.call (.ref f) args) (CR CX outer P w H s Q E) s
theorem wU.imp{P:jj}{w:jo}{K:W.Frag}{mg:Str->Option Value}{base:Heap}{CX:IU}{k:Nat}{f:Addr}{fd:jE}{ps:List Str}{sp sp':Sp}(F:wU P w K mg base CX k f fd ps sp)
  (h:∀vs H Q E,sp' vs H Q E->sp vs H Q E):wU P w K mg base CX k f fd ps sp' :=
 ⟨λvs H Q E q=>F.len vs H Q E (h _ _ _ _ q),λA outer s H args us vs Q E hr he hb hv hs=>F.run A outer s H args us vs Q E hr he hb hv (h _ _ _ _ hs)⟩
section
variable {X:Cx}{nF:List (Addr×Obj)}{σ:St}{H:Hp}{s s':Shared}
theorem Inv.env0(I:Inv X nF σ H s):Mk X.prog X.w X.K X.mg X.base X.A X.stack s H :=
 ⟨I.ok.frames,I.ok.mod,I.bs,aS I.ok.bsz I.sz,I.stack,I.stkFree,I.hok,I.bare,I.tb⟩
theorem Inv.after{Q:VK}{u:Value}(I:Inv X nF σ H s) (h:CE X.stack X.prog X.w H s Q u s'):EP X nF σ Q u s':=by
 obtain⟨v,H',os,bare,un,hok,r,q⟩:=h;obtain⟨hh,g,d,t,os'⟩:=s';obtain rfl:os'=s.os:=os;exact⟨v,H',I.call (h':=hh) (g':=g) (d':=d) (t':=t) (ch:=[]) un hok bare (λb z=>absurd z (by simp)),r,q⟩
end
def Kr(sp:Sp) (dvs:List V) (E:XK) (t:TA):TE:=λσ H Q=>t σ H λvs H1=>sp (vs++dvs) H1 Q E
def uz(K:W.Frag) (fd:jE) (ps:List Str) (ds:List Value):Prop :=
 ∀(s:Shared) (us:List Value),K.In s.heap->(us++ds).length=ps.length->lM s fd ⟨us,[]⟩ (ps.zip (us++ds))
theorem uz.all{K:W.Frag}{fd:jE}{ps:List Str}(h:∀us:List Value,us.length=ps.length->mL fd ⟨us,[]⟩=pure (ps.zip us)):uz K fd ps []:=λs us _ hl=>by
 rw[aNq]at hl ⊢;exact .of_eq (h us hl)
def IG(CX:IU) (X:Cx) (E:XK):Prop:=∀(nF:List (Addr×Obj)) (σ:St) (H:Hp) (s:Shared) (e:Value) (s':Shared),Inv X nF σ H s->CX X.stack H s E e s'->X.xe e s'
section
variable {X:Cx}{CX:IU}{k:Nat}{f C:Addr}{fd:jE}{ps:List Str}{sp:Sp}{dvs:List V}{ds:List Value}{E:XK}{x m:Str}{p pos apos:Pos}{e o:Expr}{es:List Expr}{ta:TE}{t:TA}
theorem Tb{nF:List (Addr×Obj)}{σ:St}{H:Hp}{s:Shared}{Q:VK}{us:List Value}{vs:List V}(F:wU X.prog X.w X.K X.mg X.base CX k f fd ps sp) (hr:rQ k X.A) (hb:uz X.K fd ps ds) (hd:oW dvs ds) (hx:IG CX X E)
  (I:Inv X nF σ H s) (r:oW vs us) (h:sp (vs++dvs) H Q E):jd (jf X.prog X.w) X.A (call (.ref f) us) (EP X nF σ Q) X.xe s:=by
 have r2:oW (vs++dvs) (us++ds):=r.append hd;have hl:(us++ds).length=ps.length:=by rw[←r2.length];exact F.len _ _ _ _ h
 refine wpAny_call (kC (F.run X.A X.stack s H ⟨us,[]⟩ (us++ds) (vs++dvs) Q E hr I.env0 (hb s us I.kIn hl) r2 h) λr s' hq=>?_)
 cases r with
 |error e=>exact hx nF σ H s e s' I hq
 |ok fl =>
  cases fl with
  |ret u=>exact I.after hq
  |next=>exact False.elim hq
  |brk=>exact False.elim hq
  |cont=>exact False.elim hq
theorem Qq(F:wU X.prog X.w X.K X.mg X.base CX k f fd ps sp) (hr:rQ k X.A) (hg:Gl X x) (hm:X.mg x=some (.ref f)) (hk:W.keepIn X.K (.ref f)=true) (hb:uz X.K fd ps ds) (hd:oW dvs ds) (hx:IG CX X E)
  (ha:PA X (e::es) t) (hdb:(x == ("__debug__" : Str))=false:=by decide) (he:jr (e::es) X.env=(false,eval e X.env)::jr es X.env:=by rfl) (hpl:(jY pos (jr es X.env)).any (·.1)=false:=by rfl) :
  PE X (.Call (.Name x p) (e::es) [] pos) (Kr sp dvs E t):=by
 intro nF s σ H Q I h;refine jR (JW I hg hm ?_ hdb);refine W.callWith_K (h₀:=X.base) I.ok.mod.kin hk (rM (ha pos nF s σ H _ I h) λus s1 hz1=>?_) he hpl
 obtain⟨vs,H1,I1,r,q⟩:=hz1;refine⟨I1.kIn,?_⟩;exact Tb F hr hb hd hx I1 r q
end
structure oD (N P:List Str) (sc:jQ):Prop where
 kind:sc.kind = .function
 co:sc.isCoroutine=false
 gen:sc.isGenerator=false
 nd:N.Nodup
 pre:N.take P.length=P
 par:∀x∈P,sc.names.lookup x=some .local∨sc.names.lookup x=some .cell
 nofree:∀y∈sc.names,y.2 ≠ .free
theorem DW{kindOf:Str->Option NameKind}{x:Str}:∀{binds:List (Str×Value)}{m:Str->Option Value},(∀v,(x,v)∉binds)->bindL kindOf binds m x=m x
 | [],_,_=>rfl
 | (n,v)::r,m,h=>by
  unfold bindL;rw[DW λw hw=>h w (mCo _ hw)]
  split
  .have:x≠n:=by rintro rfl;exact h v aj
   simp[this]
  .rfl
theorem DY{kindOf:Str->Option NameKind}{x:Str}:∀{binds:List (Str×Value)}{m:Str->Option Value},(∀v,(x,v)∉binds)->bindC kindOf binds m x=m x
 | [],_,_=>rfl
 | (n,v)::r,m,h=>by
  unfold bindC;rw[DY λw hw=>h w (mCo _ hw)]
  split
  .rfl
  .have:x≠n:=by rintro rfl;exact h v aj
   simp[this]
theorem DV{kindOf:Str->Option NameKind}{x:Str}{v:Value}:∀{P:List Str}{vs:List Value}{i:Nat}{m:Str->Option Value},P.Nodup->P[i]?=some x->vs[i]?=some v->kindOf x=some .local ->
  bindL kindOf (P.zip vs) m x=some v
 | [],_,_,_,_,h,_,_=>by simp at h
 |_::_,[],_,_,_,_,h,_=>by simp at h
 |p::P,w::vs,0,m,nd,h1,h2,hk=>by
  simp at h1 h2;subst h1;subst h2;show bindL kindOf ((p,w)::P.zip vs) m p=_;unfold bindL;rw[DW λv hv=>(aC.mp nd).1 (eW hv).1,oQ hk]
  simp
 |p::P,w::vs,i+1,m,nd,h1,h2,hk=>by
  show bindL kindOf ((p,w)::P.zip vs) m x=_;unfold bindL;exact DV (i:=i) (aC.mp nd).2 (by simpa using h1) (by simpa using h2) hk
theorem DT{kindOf:Str->Option NameKind}{x:Str}{v:Value}:∀{P:List Str}{vs:List Value}{i:Nat}{m:Str->Option Value},P.Nodup->P[i]?=some x->vs[i]?=some v->kindOf x≠some .local ->
  bindC kindOf (P.zip vs) m x=some v
 | [],_,_,_,_,h,_,_=>by simp at h
 |_::_,[],_,_,_,_,h,_=>by simp at h
 |p::P,w::vs,0,m,nd,h1,h2,hk=>by
  simp at h1 h2;subst h1;subst h2;show bindC kindOf ((p,w)::P.zip vs) m p=_;unfold bindC;rw[DY λv hv=>(aC.mp nd).1 (eW hv).1,oT hk]
  simp
 |p::P,w::vs,i+1,m,nd,h1,h2,hk=>by
  show bindC kindOf ((p,w)::P.zip vs) m x=_;unfold bindC;exact DT (i:=i) (aC.mp nd).2 (by simpa using h1) (by simpa using h2) hk
def wV(N:List Str) (vs:List V):St:=vs.map some++aL (N.length-vs.length) none
def HY(CX:IU) (P:jj) (w:jo) (K:W.Frag) (mg:Str->Option Value) (base:Heap) (N:List Str) (qual:Str) (scope:jQ) (f:Addr) (cd:Value) (A:Around) (outer:List Env) (s:Shared) (H:Hp) (E:XK):Cx where
 prog:=P
 w:=w
 K:=K
 mg:=mg
 base:=base
 A:=A.deeper (kT qual scope s.heap.objs.size f cd)
 N:=N
 s₀:=s
 H₀:=H
 env:=kT qual scope s.heap.objs.size f cd
 outer:=outer
 stack:=kT qual scope s.heap.objs.size f cd::outer
 ex:=[]
 calm:=true
 fn:=λ_=>true
 pn:=[]
 xe:=λe s'=>jd (jf P w) (A.deeper (kT qual scope s.heap.objs.size f cd)) (leaving (kT qual scope s.heap.objs.size f cd) e) (λ_ s''=>CX outer H s E e s'') (λe' s''=>CX outer H s E e' s'') s'
theorem Fx{sc:jQ}{n:Nat}{x:Str}(h:sc.names.lookup x=some .cell):∃c,(cellsFrom n sc.names []).lookup x=some c:=by
 have q:=W.cellsFrom_some sc.names n [] (.inl h);exact Option.isSome_iff_exists.mp q
theorem LN{CX:IU}{P:jj}{w:jo}{K:W.Frag}{mg:Str->Option Value}{base:Heap}{N ps:List Str}{qual:Str}{scope:jQ}{f:Addr}{cd:Value}{A:Around}{outer:List Env}{s s1:Shared}{H:Hp}{E:XK}{us:List Value}{vs:List V}
  (S:oD N ps scope) (hd:A.handled=none) (e0:Mk P w K mg base A outer s H) (hl:vs.length=ps.length) (r:oW vs us)
  (x:InCallC s s.heap.objs.size (bindL (kT qual scope s.heap.objs.size f cd).kindOf (ps.zip us) λ_=>none) (cellsFrom (s.heap.objs.size+1) scope.names []) (bindC (kT qual scope s.heap.objs.size f cd).kindOf (ps.zip us) λ_=>none) s1) :
  Inv (HY CX P w K mg base N qual scope f cd A outer s H E) [] (wV N vs) H s1:=by
 have hpl:ps.length<=N.length:=by have:=congrArg bb S.pre;rw[lTq]at this;lia
 obtain⟨h1,tk,rfl,hk⟩:=x.done;have noA:∀b:Addr,b∉(HY CX P w K mg base N qual scope f cd A outer s H E).ex:=λb z=>absurd (show b∈([]:List Addr) from z) (by simp)
 refine⟨⟨e0.mod,S.kind,rfl,rfl,ae _,λy z c h1 h2=>?_,λy hy=>?_,λy c _ h=>?_,λ_=>hd,Around.frames_deeper e0.frames,.inr ⟨rfl,rfl⟩,λb z=>absurd z (noA b),e0.bs,e0.bsz,λb _ _=>noA b,λb z=>absurd z (noA b),e0.funs,e0.frf,e0.tb⟩,
  rfl,e0.bare,Un.kept hk,⟨_,x.toInCall.ns,λi y v h1 h2 h3=>?_⟩,λy c h=>⟨_,x.cell y c h⟩,e0.hok.fresh (ae _),λy c h=>?_,λp hp=>absurd (show p∈([]:List (Addr×Obj)) from hp) (by simp),e0.hok.kept hk,?_⟩
 .exact name_of_addr x.apart (PySem.mem_of_lookup h1) (PySem.mem_of_lookup h2)
 .have hy:scope.names.lookup y=some .cell∨scope.names.lookup y=some .free:=hy;rcases hy with hy|hy
  .exact Fx hy
  .exact absurd rfl (S.nofree _ (PySem.mem_of_lookup hy))
 .exact bB (x.above y c (PySem.mem_of_lookup h))
 .have hi:i<vs.length:=by
   unfold wV at h2
   by_cases hi:i<vs.length
   .exact hi
   .rw [gYq (by simpa using hi)]at h2
    rw[cH]at h2;split at h2 <;> cases h2
  have ha:vs[i]?=some v:=by
   unfold wV at h2;rw[gZq (by simpa using hi),gMq]at h2
   cases e:vs[i]? with
   |none=>rw[e]at h2;cases h2
   |some a=>rw[e]at h2;cases h2;rfl
  obtain⟨u,hu,rv⟩:=r.get ha;have hp:ps[i]?=some y:=by
   rw[←S.pre,List.getElem?_take_of_lt (by lia)];exact h1
  have ndP:ps.Nodup:=by rw[←S.pre];exact S.nd.sublist (cU _ _)
  refine⟨u,rv,?_⟩;rcases S.par y (mGq hp) with k|k
  .exact .inl ⟨k,DV ndP hp hu k⟩
  .obtain ⟨c,e⟩:=Fx (n:=s.heap.objs.size+1) k;refine .inr ⟨.inl k,c,e,?_⟩;have q:=x.cell y c e;rw[DT ndP hp hu (by show scope.names.lookup y≠_;rw[k];decide)]at q
   exact q
 .exact e0.hok.fresh (bB (x.above y c (PySem.mem_of_lookup h)))
 .unfold wV;show _=N.length;rw[lAq,lMq,dw];lia
theorem Rn{CX:IU}{P:jj}{w:jo}{K:W.Frag}{mg:Str->Option Value}{base:Heap}{k:Nat}{f:Addr}{name qual:Str}{params:lZ}{body:List Stmt}{scope:jQ}{dV kV doc pm tQ ct oc:Value}{an od:Option Addr}
  {osl:Array (Option Value)}{N ps:List Str}{sp:Sp}(lk:K.lookup f=some ⟨oc,od,.func (W.fnOf name qual params body scope dV kV doc pm an tQ ct),osl⟩) (hcd:W.codeIn K tQ qual=true) (S:oD N ps scope)
  (len:∀vs H Q E,sp vs H Q E->vs.length=ps.length)
  (hbody:∀(A:Around) (outer:List Env) (s:Shared) (H:Hp) (vs:List V) (Q:VK) (E:XK),rQ k (A.deeper (kT qual scope s.heap.objs.size f tQ))->sp vs H Q E ->
   ∃t,Kc (HY CX P w K mg base N qual scope f tQ A outer s H E) body t/\t { nx:=λ_ H'=>Q .non H',rt:=Q } (wV N vs) H) :
  wU P w K mg base CX (k+1) f (W.fnOf name qual params body scope dV kV doc pm an tQ ct) ps sp:=by
 refine⟨len,λA outer s H args us vs Q E hr e0 hb r hsp=>?_⟩
 have hl:=len _ _ _ _ hsp;have KX:K.In s.heap:=e0.mod.kin.keeps λb o e=>(e0.bs b o e).1
 have lim:s.heap.NoLimit:=e0.mod.nolimit.keeps λb o e=>(e0.bs b o e).1
 have hkind:∀y∈ps.zip us,scope.names.lookup y.1=some .local∨(scope.names.lookup y.1=some .cell/\((cellsFrom (s.heap.objs.size+1) scope.names []).lookup y.1).isSome=true):=λ⟨n,v⟩ hy=>by
  rcases S.par n (eW hy).1 with q|q
  .exact .inl q
  .exact .inr ⟨q,W.cellsFrom_some _ _ _ (.inl q)⟩
 refine codeAny_call_function hr.depth (KX _ _ lk) rfl S.co S.gen rfl (W.codeRec_of KX hcd) (hb _ _ _ _ ?_);refine wpAny_newFunctionEnv_cells S.kind hkind λenv he s1 x=>?_
 subst he;refine⟨lim.keeps x.toInCall.keep,codeAny_func ?_⟩;obtain⟨t,ht,hq⟩:=hbody A outer s H vs Q E (hr.deeper _) hsp;have I:Inv (HY CX P w K mg base N qual scope f tQ A outer s H E) [] (wV N vs) H s1:=LN S hr.hd e0 hl r x;refine jv (ht [] s1 (wV N vs) H _ I hq) (λfl s' hs=>?_) λe s' hs=>hs
 have fin:∀{σ':St}{H':Hp}{v:V}{u:Value},Inv (HY CX P w K mg base N qual scope f tQ A outer s H E) [] σ' H' s'->pQ v u->Q v H'->CE outer P w H s Q u s' :=
  λ{σ' H' v u} J rv q=>⟨v,H',J.os,J.bare,J.base,J.hok,rv,q⟩
 cases fl with
 |ret u =>
  obtain⟨v,σ',H',J,rv,q⟩:=hs;exact fin J rv q
 |next =>
  obtain⟨σ',H',J,q⟩:=hs;exact fin (v:=V.non) (u:=fb) J rfl q
 |brk =>
  obtain⟨_,_,_,q⟩:=hs;exact False.elim q
 |cont =>
  obtain⟨_,_,_,q⟩:=hs;exact False.elim q
section
variable {X:Cx}{x:Str}{p pos:Pos}{e:Expr}{es:List Expr}{t:TA}{id T:String}{r:List V->Hp->VK->Prop}
def JY(r:List V->Hp->VK->Prop) (t:TA):TE:=λσ H Q=>t σ H λvs H1=>r vs H1 Q
theorem om(hc:vM X (.builtin id) r) (hg:Gl X x) (hm:X.mg x=none) (hv:kr x=some (.builtin id)) (ha:PA X (e::es) t) (hn:x ≠ "__name__" := by decide) (hdb:(x == ("__debug__" : Str))=false:=by decide)
  (he:jr (e::es) X.env=(false,eval e X.env)::jr es X.env:=by rfl) (hpl:(jY pos (jr es X.env)).any (·.1)=false:=by rfl):PE X (.Call (.Name x p) (e::es) [] pos) (JY r t):=by
 intro nF s σ H Q I h;refine jR (wg I hg hm hv ?_ hn hdb);refine iB (rM (ha pos nF s σ H _ I h) λus s1 hz1=>?_) he hpl
 obtain⟨vs,H1,I1,r1,q1⟩:=hz1;exact hc nF s1 σ H1 vs us Q I1 r1 q1
theorem vh(hc:vM X (.type T) r) (hg:Gl X x) (hm:X.mg x=none) (hv:kr x=some (.type T)) (ha:PA X (e::es) t) (hn:x ≠ "__name__" := by decide) (hdb:(x == ("__debug__" : Str))=false:=by decide)
  (he:jr (e::es) X.env=(false,eval e X.env)::jr es X.env:=by rfl) (hpl:(jY pos (jr es X.env)).any (·.1)=false:=by rfl):PE X (.Call (.Name x p) (e::es) [] pos) (JY r t):=by
 intro nF s σ H Q I h;refine jR (wg I hg hm hv ?_ hn hdb);refine bI (rM (ha pos nF s σ H _ I h) λus s1 hz1=>?_) he hpl
 obtain⟨vs,H1,I1,r1,q1⟩:=hz1;exact hc nF s1 σ H1 vs us Q I1 r1 q1
end
end L2
namespace HT
open PySem PyProof.Rows
def pR:List Int->List Int->Bool
 | [],[]=>false
 | [],_::_=>true
 |_::_,[]=>false
 |x::xs,y::ys=>if x=y then pR xs ys else decide (x<y)
theorem vP(x y:Int) (xs ys:List Int):pR (x::xs) (y::ys)=if x=y then pR xs ys else decide (x<y):=rfl
theorem yS:pR [] []=false:=rfl
theorem yk(y:Int) (ys:List Int):pR [] (y::ys)=true:=rfl
theorem xR(x:Int) (xs:List Int):pR (x::xs) []=false:=rfl
theorem GE(A:Around) (s:Shared) (a:Int) (t:Tok) (c:Int) (u:Tok):∃e,SeqAt.EqAt A s (.int a t) (.int c u) e/\(e=true↔a=c) :=
 ⟨(a == c),SeqAt.EqAt.int_int a t c u,by simp⟩
theorem GN(A:Around) (s:Shared) (a:Int) (t:Tok) (c:Int) (u:Tok) (prog:jj) (w:jo) (E:Value->Shared->Prop) (Q:Value->Shared->Prop) (h:Q (.bool (decide (a<c))) s) :
  jd (jf prog w) A (kB .Lt (.int a t) (.int c u)) Q E s :=
 (jb h:jd (jf prog w) A (jS .Lt (.int a t) (.int c u)) Q E s)
section
open PySem.SeqAt
open PySem.AutoSeq1 (wpAny_loadPart')
open PySem.MeetsSeq PySem.MeetsSeq2 PySem.MeetsSeq3
theorem Dr(l b:Addr) (items items2:Array Value) (n n2:Nat) (dd dd2:Option Addr) (sl sl2:Array (Option Value)) (ns ms:List Int) (hi:jA items.toList ns) (hj:jA items2.toList ms) :
  Meets (Builtin.«tuple.__lt__» ⟨[.ref l,.ref b],[]⟩)
   (λ_ R s=>s.heap.get? l=some { cls:=.type "tuple", dict:=dd,data:=.seq items n,slots:=sl }/\s.heap.get? b=some { cls:=.type "tuple", dict:=dd2,data:=.seq items2 n2,slots:=sl2 } /\
    R (.ok (.ret (.bool (pR ns ms)))) s) :=
 .of_wp λprog w A R s h=>by
  obtain⟨hp,g,d,tk,os⟩:=s;obtain⟨hl,hb,h⟩:=h;have f2:=AutoSeq1.sub_tuple_tuple;have z1:items.size=ns.length:=by rw[←hi.length];simp
  have z2:items2.size=ms.length:=by rw[←hj.length];simp
  wp_walk using wpAny_loadPart' hl,wpAny_loadPart' hb,wpAny_forIn_list _ (λsH b s'=>b.1=none/\s'=⟨hp,g,d,tk,os⟩/\∃(vs ws:List Value) (ns' ms':List Int),sH=vs.zip ws /\
   jA vs ns'/\jA ws ms'/\ns'.length+items2.size=ms'.length+items.size/\R (.ok (.ret (.bool (pR ns' ms')))) ⟨hp,g,d,tk,os⟩) _
  case turn =>
   rintro⟨y,x⟩ sH b s' ⟨hb',rfl,vs,ws,ns',ms',hz,hvi,hwi,hlen,hR⟩;cases hvi with
   |nil=>rw[List.zip_nil_left]at hz;cases hz
   |cons a t hvi' =>
    cases hwi with
    |nil=>rw[List.zip_nil_right]at hz;cases hz
    |cons c u hwi' =>
     rw[fu]at hz;injection hz with hyx hrest
     injection hyx with hy hx
     subst hy hx;rw[vP]at hR;simp only[lCq]at hlen;obtain⟨e,he,hiff⟩:=GE A.in1 ⟨hp,g,d,tk,os⟩ a t c u;refine jc (he prog w _ _ ?_);cases e with
     |true =>
      rw[oQ (hiff.mp rfl)]at hR
      wp_walk
      exact⟨rfl,rfl,_,_,_,_,hrest,hvi',hwi',by lia,hR⟩
     |false =>
      rw[oT (λq=>absurd (hiff.mpr q) aF)]at hR
      have hri:=GN A.in1 ⟨hp,g,d,tk,os⟩ a t c u prog w
      wp_walk using hri
      exact⟨_,rfl,by simpa using hR⟩
  case fin =>
   rintro⟨b1,b2⟩ s' ⟨hb',rfl,vs,ws,ns',ms',hz,hvi,hwi,hlen,hR⟩;simp only at hb';subst hb';have hv:pR ns' ms'=decide (items.size<items2.size):=by
    cases hvi with
    |nil =>
     cases hwi with
     |nil =>
      simp only[bK]at hlen;rw[yS];exact(decide_eq_false (by lia)).symm
     |cons c u hw =>
      simp only[bK,lCq]at hlen;rw[yk];exact(decide_eq_true (by lia)).symm
    |cons a t hv =>
     cases hwi with
     |nil =>
      simp only[bK,lCq]at hlen;rw[xR];exact(decide_eq_false (by lia)).symm
     |cons c u hw =>
      rw[fu]at hz;cases hz
   rw[hv]at hR
   wp_walk
   exact⟨_,rfl,by simpa [Builtin.Tuple.tupleCompareSizes] using hR⟩
  case h =>
   exact⟨rfl,rfl,items.toList,items2.toList,ns,ms,rfl,hi,hj,by lia,h⟩
end
section
variable {prog:jj}{w:jo}{A:Around}{E:Value->Shared->Prop}{s:Shared}
theorem HK{l b:Addr}{items items2:Array Value}{ns ms:List Int}{Q:Value->Shared->Prop}(hl:IsTup s.heap l items) (hb:IsTup s.heap b items2) (hi:jA items.toList ns) (hj:jA items2.toList ms)
  (hu:A.units<jw) (h:Q (.bool (pR ns ms)) s):jd (jf prog w) A (jS .Lt (.ref l) (.ref b)) Q E s:=by
 obtain⟨⟨cls,dd,data,sl⟩,ho,hc,n,hd⟩:=id hl;obtain⟨⟨cls2,dd2,data2,sl2⟩,ho2,hc2,n2,hd2⟩:=id hb;simp only at hc hd hc2 hd2;subst hc hd hc2 hd2;exact mj (op:=.Lt) ⟨_,ho,rfl⟩ ⟨_,ho2,rfl⟩ PySem.F.slot_tuple_lt PySem.F.entry_tuple_lt (PySem.F.args_tuple_lt_2 _ _) (Dr l b items items2 n n2 dd dd2 sl sl2 ns ms hi hj)
  ⟨ho,ho2,show gB (pR ns ms)≠gn/\Q (.bool (pR ns ms)) s from ⟨(λx=>nomatch x),h⟩⟩ hu
def D5(n d:Nat):Option Int->Nat
 |none=>d
 |some v=>if v<0 then (v+(n:Int)).toNat else min v.toNat n
theorem Gf(n d:Nat):D5 n d none=d:=rfl
theorem BH(n d k:Nat):D5 n d (some (k:Int))=min k n:=by
 show (if (k:Int)<0 then ((k:Int)+(n:Int)).toNat else min (k:Int).toNat n)=min k n
 rw[oT (by lia),cV]
end
end HT
namespace L2
open PySem PySem.Spec PyProof.Rows
abbrev TO:=St->Hp->(Option Int->Hp->Prop)->Prop
def PO(X:Cx) (e:Option Expr) (t:TO):Prop :=
 ∀(nF:List (Addr×Obj)) (s:Shared) (σ:St) (H:Hp) (Q:Option Int->Hp->Prop),Inv X nF σ H s->t σ H Q ->
  jd (jf X.prog X.w) X.A (evalPart e X.env) (λu s'=>∃o H',Inv X nF σ H' s'/\IsPart u o/\Q o H') X.xe s
def Jw:TO:=λ_ H Q=>Q none H
def RN(t:TE):TO:=λσ H Q=>t σ H λx H1=>∃i,x = .int i/\Q (some i) H1
theorem uh{ns:List Int}:∀{us:List Value},oW (ns.map V.int) us->jA us ns:=by
 induction ns with
 |nil=>intro us r;rw[eY]at r;cases r;exact .nil
 |cons n ns ih =>
  intro us r;rw[ar]at r;cases r with
  |cons r1 r2 =>
   obtain⟨t,e⟩:=r1;subst e;exact .cons n t (ih r2)
section
variable {X:Cx}{e:Expr}{te:TE}{lo hi:Option Expr}{tl th:TO}{pos p2:Pos}
theorem ua:PO X none Jw:=by
 intro nF s σ H Q I h;rw[evalPart_none];exact jg ⟨none,H,I,.none,h⟩
theorem rH(h:PE X e te):PO X (some e) (RN te):=by
 intro nF s σ H Q I hw;rw[evalPart_some];refine rM (h nF s σ H _ I hw) λu s1 hz1=>?_
 obtain⟨x,H1,I1,r1,q1⟩:=hz1;obtain⟨i,rfl,q⟩:=q1;obtain⟨t,rfl⟩:=r1;exact⟨some i,H1,I1,.int i t,q⟩
def Xd(X:Cx) (r:V->Option Int->Option Int->Hp->VK->Prop):Prop :=
 ∀(nF:List (Addr×Obj)) (s:Shared) (σ:St) (H:Hp) (x:V) (v vl vu:Value) (lo hi:Option Int) (sl:Addr) (Q:VK),Inv X nF σ H s->pQ x v->s.heap.IsSliceOf sl vl vu .none->IsPart vl lo->IsPart vu hi->r x lo hi H Q ->
  ∃T id,lH (.type T) "__getitem__" = pure (some (.builtin id))/\s.TypeIs v T/\jd (jf X.prog X.w) X.A (mC v (.ref sl)) (EP X nF σ Q) X.xe s
def WS(r:V->Option Int->Option Int->Hp->VK->Prop) (te:TE) (tl th:TO):TE:=λσ H Q=>te σ H λx H1=>tl σ H1 λl H2=>th σ H2 λu H3=>r x l u H3 Q
theorem qZ{r:V->Option Int->Option Int->Hp->VK->Prop}(hr:Xd X r) (he:PE X e te) (hl:PO X lo tl) (hu:PO X hi th):PE X (.Subscript e (.Slice lo hi none p2) pos) (WS r te tl th):=by
 intro nF s σ H Q I h;refine Subscript_ (rM (he nF s σ H _ I h) λv s1 hz1=>?_)
 obtain⟨x,H1,I1,r1,q1⟩:=hz1;refine wpAny_Slice (rM (hl nF s1 σ H1 _ I1 q1) λvl s2 hz1=>?_)
 obtain⟨l,H2,I2,pl,q2⟩:=hz1;refine rM (hu nF s2 σ H2 _ I2 q2) λvu s3 hz2=>?_
 obtain⟨u,H3,I3,pu,q3⟩:=hz2;rw[evalPart_none];refine jg ?_;have I4:Inv X nF σ H3 { s3 with heap:=s3.heap.push { cls:=.type "slice", data:=.fields #[vl,vu,.none] } }:=I3.kept (t':=s3.toks) λb ob q=>ab _ q
 obtain⟨T,id,hT,ht,hg⟩:=hr nF { s3 with heap:=s3.heap.push { cls:=.type "slice", data:=.fields #[vl,vu,.none] } } σ H3 x v vl vu l u s3.heap.objs.size Q I4 r1 (Heap.IsSliceOf.new ..) pl pu q3
 show jd (jf X.prog X.w) X.A (mM e (.Slice lo hi none p2) v (.ref s3.heap.objs.size)) (EP X nF σ Q) X.xe { s3 with heap:=s3.heap.push { cls:=.type "slice", data:=.fields #[vl,vu,.none] } }
 exact tail_any (ops:=[.ref s3.heap.objs.size,v]) ht hT hg (by with_unfolding_all rfl)
def IQ(xs:List V) (lo hi:Option Int):List V:=(xs.drop (HT.D5 xs.length 0 lo)).take (HT.D5 xs.length xs.length hi-HT.D5 xs.length 0 lo)
theorem G9(xs:List V) (lo hi:Option Int):(IQ xs lo hi).length<=xs.length:=by
 unfold IQ;rw[lTq,bj];lia
end
def Hb(n:Nat) (i:Int):Option Nat:=if 0<=i then (if i<n then some i.toNat else none) else if -(n:Int)<=i then some (i+n).toNat else none
def atI{α:Type}(xs:List α) (i:Int):Option α:=(Hb xs.length i).bind λj=>xs[j]?
theorem J0{n:Nat}{i:Int}{j:Nat}(h:Hb n i=some j):mR i n=some j/\j<n/\-(n:Int)<=i/\i<n:=by
 unfold Hb at h
 by_cases h0:0<=i
 .rw [oQ h0]at h
  by_cases h1:i<n
  .rw [oQ h1]at h;have e:i.toNat=j:=aM.inj h;exact⟨by rw[seqIndex_of h0 h1,e],by lia,by lia,h1⟩
  .rw [oT h1]at h;cases h
 .rw [oT h0]at h
  by_cases h1:-(n:Int)<=i
  .rw [oQ h1]at h;have e:(i+n).toNat=j:=aM.inj h;exact⟨by rw[seqIndex_neg (by lia) h1,e],by lia,h1,by lia⟩
  .rw [oT h1]at h;cases h
theorem Kj{α:Type}{xs:List α}{i:Int}{v:α}(h:atI xs i=some v):∃j,mR i xs.length=some j/\xs[j]?=some v/\j<xs.length/\-(xs.length:Int)<=i/\i<xs.length:=by
 unfold atI at h;cases e:Hb xs.length i with
 |none=>rw[e]at h;cases h
 |some j =>
  rw[e]at h;obtain⟨h1,h2,h3,h4⟩:=J0 e;exact⟨j,h1,h,h2,h3,h4⟩
theorem xg{α:Type}{xs:List α}{j:Nat}{v:α}(h:xs[j]?=some v):atI xs (j:Int)=some v:=by
 have hj:j<xs.length:=(gSq.mp h).1;have e:Hb xs.length (j:Int)=some j:=by
  unfold Hb;rw[oQ (by lia),oQ (by lia)];simp
 unfold atI;rw[e];exact h
theorem Ma{α:Type}(xs:List α) (v:α):atI (xs++[v]) (-1)=some v:=by
 have hl:(xs++[v]).length=xs.length+1:=by simp
 have e:Hb (xs++[v]).length (-1)=some xs.length:=by
  unfold Hb;rw[hl,oT (by decide),oQ (by lia)]
  congr 1;lia
 unfold atI;rw[e];show (xs++[v])[xs.length]?=some v;simp
def QW(b:Expr):Prop:=∀o i,mn b false o i=operate [o,i] (mC o i)
def V7(X:Cx) (r:R2):Prop :=
 ∀(value slice:Expr) (nF:List (Addr×Obj)) (s:Shared) (σ:St) (H:Hp) (x y:V) (v u:Value) (Q:VK),Inv X nF σ H s->pQ x v->pQ y u->r x y H Q ->
  mn slice false v u=operate [v,u] (mC v u)->jd (jf X.prog X.w) X.A (mM value slice v u) (EP X nF σ Q) X.xe s
def UX(X:Cx) (id:String) (r:V->List V->Hp->VK->Prop):Prop :=
 ∀(nF:List (Addr×Obj)) (s:Shared) (σ:St) (H:Hp) (x:V) (xs:List V) (v:Value) (us:List Value) (Q:VK),Inv X nF σ H s->pQ x v->oW xs us->r x xs H Q ->
  jd (jf X.prog X.w) X.A (call (.builtin id) (v::us)) (EP X nF σ Q) X.xe s
section
variable {X:Cx}{a b:Expr}{ta tb:TE}{pos:Pos}
theorem qL{r:R2}(hr:V7 X r) (ha:PE X a ta) (hb:PE X b tb) (hs:QW b):PE X (.Subscript a b pos) (Pd r ta tb):=by
 intro nF s σ H Q I h;exact Subscript_ (Tj ha hb I h λv u s2 x y H2 I2 rx ry q=>hr a b nF s2 σ H2 x y v u Q I2 rx ry q (hs _ _))
def P4(K:W.Frag):R2:=λx y H Q=>∃p xs i v,x = .ref p/\y = .int i/\qw K H p xs/\atI xs i=some v/\Q v H
def T6(K:W.Frag):R2:=λx y H Q=>∃p xs i v,x = .ref p/\y = .int i/\As K H p xs/\atI xs i=some v/\Q v H
theorem qH:V7 X (P4 X.K):=by
 intro value slice nF s σ H x y v u Q I rx ry h hs;obtain⟨p,xs,i,z,rfl,rfl,hq,he,q⟩:=h;cases rx;obtain⟨t,rfl⟩:=ry;obtain⟨its,r,pl,hz⟩:=I.list hq;obtain⟨j,h1,h2,h3,h4,h5⟩:=Kj he;obtain⟨w,ew,rw'⟩:=r.get h2;have hl:=r.length;have hn:=IX;have fin:EP X nF σ Q w s:=⟨z,H,I,rw',q⟩
 by_cases h0:0<=i
 .have hj:i.toNat=j:=by
   rw[seqIndex_of h0 h5]at h1;exact aM.inj h1
  exact item_listR pl.isList h0 (by lia) (by rw[hj];simpa using ew) fin hs
 .have hj:(i+(its.toArray.size:Int)).toNat=j:=by
   rw[seqIndex_neg (by lia) h4]at h1
   rw[ak,←hl];exact aM.inj h1
  exact mi (x:=w) pl.isList.typeIs slot_list_getitem.lookup
   (wpAny_getItem_list_neg (Q:=λr s'=>r=w/\EP X nF σ Q r s') pl.isList (by lia) (by rw[ak] <;> lia) (by lia) (by rw[hj];simpa using ew) ⟨rfl,fin⟩) hs
theorem uO:V7 X (T6 X.K):=by
 intro value slice nF s σ H x y v u Q I rx ry h hs;obtain⟨p,xs,i,z,rfl,rfl,hq,he,q⟩:=h;cases rx;obtain⟨t,rfl⟩:=ry;obtain⟨its,r,pl,hz⟩:=I.tuple hq;obtain⟨j,h1,h2,h3,h4,h5⟩:=Kj he;obtain⟨w,ew,rw'⟩:=r.get h2;have hl:=r.length;have hn:=IX;have fin:EP X nF σ Q w s:=⟨z,H,I,rw',q⟩;exact mi (x:=w) pl.typeIs slot_tuple_getitem.lookup
  (getItem_tuple (j:=j) (Q:=λr s'=>r=w/\EP X nF σ Q r s') pl (by lia) (by lia) (by rw[ak,←hl];exact h1) (by simpa using ew) ⟨rfl,fin⟩) hs
theorem Ei(lo hi:Option Int) (n:Nat):(kz lo hi none n).1=((HT.D5 n 0 lo:Nat):Int)/\(kz lo hi none n).2.1=((HT.D5 n n hi:Nat):Int)/\(kz lo hi none n).2.2=1:=by
 refine⟨?_,?_,rfl⟩
 .cases lo with
  |none=>simp[kz,HT.D5]
  |some i =>
   simp only[kz,HT.D5,ic,show (1:Int)>0 by decide,if_true]
   by_cases h:i<0
   .simp only [h,if_true] <;> lia
   .simp only [h,if_false] <;> lia
 .cases hi with
  |none=>simp[kz,HT.D5]
  |some i =>
   simp only[kz,HT.D5,ic,show (1:Int)>0 by decide,if_true]
   by_cases h:i<0
   .simp only [h,if_true] <;> lia
   .simp only [h,if_false] <;> lia
theorem Da(its:List Value) (lo hi:Option Int):slicePick its.toArray lo hi none=((its.drop (HT.D5 its.length 0 lo)).take (HT.D5 its.length its.length hi-HT.D5 its.length 0 lo)).toArray:=by
 obtain⟨h1,h2,h3⟩:=Ei lo hi its.toArray.size;unfold slicePick;rw[h1,h2,h3];simp only[sliceRange_one,pick_run,ak] <;> rfl
def UA(K:W.Frag):V->Option Int->Option Int->Hp->VK->Prop:=λx lo hi H Q=>∃a xs,x = .ref a/\qw K H a xs/\∀p,H p=none->Q (.ref p) (qr H p (.lst (IQ xs lo hi)))
theorem sI:Xd X (UA X.K):=by
 intro nF s σ H x v vl vu lo hi sl Q I rx hs pl pu h;obtain⟨a,xs,rfl,hx,q⟩:=h;cases rx;obtain⟨its,r,ht,hz⟩:=I.list hx;have hlen:=r.length;refine⟨"list", _,slot_list_getitem.lookup,ht.isList.typeIs,?_⟩;refine wpAny_getItem_list_slice ht.isList hs pl pu .none (by simp) ?_ (by rw[ak] <;> lia)
 rw[Da,←hlen];refine⟨.ref s.heap.objs.size,_,I.laid (t':=s.toks) (o:=.lst (IQ xs lo hi)) (λb ob q=>ab _ q) (ae _) ?_,rfl,q _ (I.hok.fresh (ae _))⟩
 exact⟨aS (G9 xs lo hi) hz,_,0,(r.drop (HT.D5 xs.length 0 lo)).take (HT.D5 xs.length xs.length hi-HT.D5 xs.length 0 lo),aB _ rfl⟩
theorem uY:vM X (.type "list") (λxs H Q=>∃p ys,xs=[.ref p]/\(qw X.K H p ys∨As X.K H p ys)/\∀l,H l=none->Q (.ref l) (qr H l (.lst ys))):=by
 intro nF s σ H xs us Q I r h;obtain⟨p,ys,rfl,hq,q⟩:=h;obtain⟨u,rfl,rx⟩:=uy r;cases rx;have fin:∀(its:List Value),oW ys its->ys.length<=jk->∀(h':Heap) (c':Nat),(∀b o',s.heap.get? b=some o'->h'.get? b=some o') ->
   h'.get? s.heap.objs.size=some { cls:=.type "list", dict:=none,data:=.seq its.toArray c',slots:=#[] }->EP X nF σ Q (.ref s.heap.objs.size) { s with heap:=h' }:=λits r' hz h' c' kp e =>
  ⟨.ref s.heap.objs.size,_,I.laid (t':=s.toks) kp (ae _) (show qp X.prog X.w _ h' _ (.lst ys) from ⟨hz,its,c',r',e⟩),rfl,q _ (I.hok.fresh (ae _))⟩
 rcases hq with hq|hq
 .obtain ⟨its,r',pl,hz⟩:=I.list hq;have hlen:=r'.length;obtain⟨o,ho,hc,n,hd⟩:=pl.isList;exact call_list_seq p (.inl rfl) ho hc hd (λh' c' kp e=>fin its r' hz h' c' kp e) (by simp only[ak] <;> lia)
 .obtain ⟨its,r',pl,hz⟩:=I.tuple hq;have hlen:=r'.length;obtain⟨o,ho,hc,n,hd⟩:=pl;exact call_list_seq p (.inr rfl) ho hc hd (λh' c' kp e=>fin its r' hz h' c' kp e) (by simp only[ak] <;> lia)
theorem yR:vM X (.type "tuple") (λxs H Q=>∃p ys,xs=[.ref p]/\((qw X.K H p ys/\∀l,H l=none->Q (.ref l) (qr H l (.tup ys)))∨(As X.K H p ys/\Q (.ref p) H))):=by
 intro nF s σ H xs us Q I r h;obtain⟨p,ys,rfl,h⟩:=h;obtain⟨u,rfl,rx⟩:=uy r;cases rx;rcases h with ⟨hq,q⟩|⟨hq,q⟩
 .obtain ⟨its,r',pl,hz⟩:=I.list hq;have hlen:=r'.length;refine call_tuple_list pl.isList (λh' kp=>?_) (by simp only[ak] <;> lia)
  have I1:Inv X nF σ H { s with heap:=h' }:=I.kept (t':=s.toks) kp
  have I2:Inv X nF σ (qr H h'.objs.size (.tup ys)) { s with heap:=h'.push { cls:=.type "tuple", data:=.seq its.toArray } } :=
   I1.laid (t':=s.toks) (λb o e=>ab _ e) (ae _) (show qp X.prog X.w _ _ _ (.tup ys) from ⟨hz,its,r',IsTup.new _ _⟩)
  exact⟨.ref h'.objs.size,_,I2,rfl,q _ (I1.hok.fresh (ae _))⟩
 .obtain ⟨its,r',pl,hz⟩:=I.tuple hq;exact call_tuple_same pl ⟨.ref p,H,I,rfl,q⟩
def VU(K:W.Frag) (T:String) (x:V) (H:Hp):Prop:=match x with
 | .str _=>T = "str"
 | .int _=>T = "int"
 | .ref p=>(T = "list" /\ ∃xs,qw K H p xs)∨(T = "tuple" /\ ∃o,K.lookup p=some o/\o.cls = .type "tuple" /\ o.dict=none) ∨
   (T = "dict" /\ ((∃kvs,H p=some (.dK kvs))∨∃kvs,H p=some (.dT kvs)))∨(T = "set" /\ ∃S n,H p=some (.set S n))
 |_=>False
theorem NB{nF:List (Addr×Obj)}{σ:St}{H:Hp}{s:Shared}{T:String}{x:V}{v:Value}(I:Inv X nF σ H s) (r:pQ x v) (ty:VU X.K T x H) :
  s.TypeIs v T/\∀a,v = .ref a->∃ob,s.heap.get? a=some ob/\ob.dict=none:=by
 cases x with
 |str z =>
  obtain⟨t,rfl⟩:=r;cases (show T = "str" from ty)
  exact⟨typeIs_str s z t,λ_ e=>nomatch e⟩
 |int i =>
  obtain⟨t,rfl⟩:=r;cases (show T = "int" from ty)
  exact⟨typeIs_int s i t,λ_ e=>nomatch e⟩
 |ref p =>
  cases r;rcases ty with ⟨rfl,xs,hq⟩|⟨rfl,o,hk,hc,hd⟩|⟨rfl,hk⟩|⟨rfl,S,n,hk⟩
  .obtain ⟨its,_,pl,_⟩:=I.list hq;refine⟨pl.isList.typeIs,λa e=>?_⟩
   cases e;obtain⟨o,n,e,c,hd,_⟩:=pl;exact⟨o,e,hd⟩
  .refine ⟨⟨o,I.kIn p o hk,hc⟩,λa e=>?_⟩
   cases e;exact⟨o,I.kIn _ o hk,hd⟩
  .have z:∃o,s.heap.get? p=some o/\o.ExactDict:=by
    rcases hk with ⟨kvs,hk⟩|⟨kvs,hk⟩
    .obtain ⟨_,_,_,_,o,_,_,e,ex,_⟩:=I.hok p _ hk;exact⟨o,e,ex⟩
    .obtain ⟨_,_,_,_,o,_,_,e,ex,_⟩:=I.hok p _ hk;exact⟨o,e,ex⟩
   obtain⟨o,e,ex⟩:=z;refine⟨⟨o,e,ex.1⟩,λa e2=>?_⟩
   cases e2;exact⟨o,e,ex.2.1⟩
  .obtain ⟨o,_,_,_,e,ex,_⟩:=I.hok p _ hk;refine⟨⟨o,e,ex.1⟩,λa e2=>?_⟩
   cases e2;exact⟨o,e,ex.2.1⟩
 |_=>exact False.elim ty
def Vj(K:W.Frag) (T:String) (r:V->List V->Hp->VK->Prop) (to:TE):TE:=λσ H Q=>to σ H λx H1=>VU K T x H1/\r x [] H1 Q
def QL(K:W.Frag) (T:String) (r:V->List V->Hp->VK->Prop) (to:TE) (t:TA):TE:=λσ H Q=>to σ H λx H1=>VU K T x H1/\t σ H1 λxs H2=>r x xs H2 Q
variable {o e:Expr}{es:List Expr}{to:TE}{t:TA}{name:Str}{apos cpos:Pos}{T id:String}{r:V->List V->Hp->VK->Prop}
theorem HH(pa:PlainAttrs T) (slot:Slot T name id) (hty:typeOf (.builtin id)=pure (.type "method_descriptor")) (hm:UX X id r) (ho:PE X o to)
  (hbase:attributeBase o name X.env (eval o X.env)=eval o X.env:=by rfl) (hline:(apos.endLine == cpos.line)=true:=by rfl):PE X (.Call (.Attribute o name apos) [] [] cpos) (Vj X.K T r to):=by
 intro nF s σ H Q I h;refine wpAny_Call_method0_late hbase hline (rM (ho nF s σ H _ I h) λv s1 hz1=>?_)
 obtain⟨x,H1,I1,r1,ty,q1⟩:=hz1;obtain⟨h1,h2⟩:=NB I1 r1 ty;exact⟨T,id,pa,slot,hty,h1,h2,Calls.callWith_builtin rfl (PySem.evalArgs_none (hm nF s1 σ H1 x [] v [] Q I1 r1 .nil q1))⟩
theorem tM(pa:PlainAttrs T) (slot:Slot T name id) (hty:typeOf (.builtin id)=pure (.type "method_descriptor")) (hm:UX X id r) (ho:PE X o to) (ha:PA X (e::es) t)
  (hbase:attributeBase o name X.env (eval o X.env)=eval o X.env:=by rfl)
  (hfew:((jY cpos (jr (e::es) X.env)).all (λx=>!x.1) && (backToKw cpos (keywordEach [] X.env)).all (λx=>x.1.isSome)
   && decide ((e::es).length+([]:List Keyword).length+(if ([]:List Keyword).isEmpty then 0 else 1)<30))=true:=by rfl)
  (hline:(apos.endLine == cpos.line)=true:=by rfl) (hs:jr (e::es) X.env=(false,eval e X.env)::jr es X.env:=by rfl) (hplain:(jY cpos (jr es X.env)).any (·.1)=false:=by rfl) :
  PE X (.Call (.Attribute o name apos) (e::es) [] cpos) (QL X.K T r to t):=by
 intro nF s σ H Q I h;refine wpAny_Call_method_late hbase hfew hline rfl (rM (ho nF s σ H _ I h) λv s1 hz1=>?_)
 obtain⟨x,H1,I1,r1,ty,q1⟩:=hz1;obtain⟨h1,h2⟩:=NB I1 r1 ty;refine⟨T,id,pa,slot,hty,h1,h2,?_⟩;have hA:=ha cpos nF s1 σ H1 _ I1 q1;rw[hs]at hA ⊢;refine Calls.callWith_builtin (by show (false || (jY cpos (jr es X.env)).any (·.1))=false;rw[hplain] <;> rfl) (Calls.evalArgs_plain ?_)
 refine rM hA λus s2 hz1=>?_
 obtain⟨vs,H2,I2,r2,q2⟩:=hz1;exact hm nF s2 σ H2 x vs v us Q I2 r1 r2 q2
/- xs.append(e),list.index on a module's tuple .. are UX facts of 06m -/
end
def V0(X:Cx) (id:String) (r:V->List V->Hp->VK->Prop):Prop :=
 ∀(nF:List (Addr×Obj)) (s:Shared) (σ:St) (H:Hp) (x:V) (xs:List V) (v:Value) (us:List Value) (Q:VK),Inv X nF σ H s->pQ x v->oW xs us->r x xs H Q ->
  jd (jf X.prog X.w) X.A (call (.builtin id) (v::us)) (EP X nF σ Q) X.xe s
theorem oW.one:∀{x:V}{us:List Value},oW [x] us->∃u,us=[u]/\pQ x u
 |_,_,.cons r .nil=>⟨_,rfl,r⟩
theorem oW.zero:∀{us:List Value},oW [] us->us=[]
 |_,.nil=>rfl
theorem oW.dropLast{xs:List V}{us:List Value}(h:oW xs us):oW xs.dropLast us.dropLast:=by
 induction h with
 |nil=>exact .nil
 |cons r t ih =>
  cases t with
  |nil=>exact .nil
  |cons q t'=>exact .cons r ih
theorem oW.eraseIdx:∀{xs:List V}{us:List Value}(i:Nat),oW xs us->oW (xs.eraseIdx i) (us.eraseIdx i)
 |_,_,_,.nil=>.nil
 |_,_,0,.cons _ t=>t
 |_,_,i+1,.cons r t=>.cons r (oW.eraseIdx i t)
theorem zi{α:Type}(l:List α):l.eraseIdx (l.length-1)=l.dropLast:=by
 induction l with
 |nil=>rfl
 |cons a r ih =>
  cases r with
  |nil=>rfl
  |cons b r =>
   have e:(a::b::r).length-1=((b::r).length-1)+1:=by
    have h1:(a::b::r).length=r.length+2:=rfl;have h2:(b::r).length=r.length+1:=rfl;lia
   rw[e,cJ,ih]
   all_goals rfl
theorem DF{α:Type}:∀(l:List α) (i:Nat),(l.eraseIdx i).length<=l.length
 | [],_=>ae _
 |_::_,0=>aT _
 |_::r,i+1=>eE (DF r i)
section
variable {X:Cx}{nF:List (Addr×Obj)}{σ:St}{H:Hp}{s:Shared}{l b:Addr}{xs ys zs:List V}
theorem Inv.lset{its its':List Value}{n:Nat}{f:Array Value->Array Value}{t':Nat}(I:Inv X nF σ H s) (hH:H l=some (.lst xs))
  (e:s.heap.get? l=some { cls:=.type "list", data:=.seq its.toArray n }) (hf:f its.toArray=its'.toArray) (hv:oW ys its') (hz:ys.length<=jk) :
  Inv X nF σ (qr H l (.lst ys)) { s with heap:=s.heap.update l (Obj.mapSeq f),toks:=t' }:=by
 have q:=PySem.IsL.update e f;rw[hf]at q;refine I.write (x:=l) (e:=l) (by rw[hH];exact trivial) (.inl rfl) (λb' u hb hu=>(bq s.heap (Obj.mapSeq f) (Ne.symm hb)).trans hu) ⟨_,q⟩ ?_
 exact⟨hz,its',_,hv,q⟩
theorem Inv.lnew{its:List Value}{t':Nat}(I:Inv X nF σ H s) (hv:oW ys its) (hz:ys.length<=jk) :
  Inv X nF σ (qr H s.heap.objs.size (.lst ys)) { s with heap:=s.heap.push { cls:=.type "list", data:=.seq its.toArray },toks:=t' } :=
 I.laid (λ_ _ q=>ab _ q) (ae _) ⟨hz,its,0,hv,aB _ rfl⟩
theorem Inv.fresh(I:Inv X nF σ H s):H s.heap.objs.size=none:=I.hok.fresh (ae _)
theorem Inv.lstM(I:Inv X nF σ H s) (hH:H l=some (.lst xs)):xs.length<=jk/\∃(its:List Value) (n:Nat),oW xs its/\xs.length=its.length/\s.heap.get? l=some { cls:=.type "list", data:=.seq its.toArray n }:=by
 obtain⟨z,its,n,r,e⟩:=I.hok l _ hH;exact⟨z,its,n,r,r.length,e⟩
theorem NJ{n:Nat}(h:n<=jk):Builtin.List.listTooLong n=false:=by
 unfold Builtin.List.listTooLong;exact decide_eq_false (by lia)
end
section
variable {X:Cx}
def Ab:V->List V->Hp->VK->Prop:=λx vs H Q=>∃l xs y,x = .ref l/\vs=[y]/\H l=some (.lst xs)/\xs.length<jk/\Q .non (qr H l (.lst (xs++[y])))
theorem qX:V0 X "list.append" Ab:=by
 intro nF s σ H x vs v us Q I rx rv h;obtain⟨l,xs,y,rfl,rfl,hH,hz,q⟩:=h;cases rx;obtain⟨u,rfl,ru⟩:=rv.one;obtain⟨z,its,n,r,hl,e⟩:=I.lstM hH;refine kf F.slot_list_append ⟨_,e,rfl⟩ F.entry_list_append (F.args_list_append_2 _ _) (PySem.list_append l its.toArray n u (by rw[ak];lia)) ⟨e,?_⟩
 refine⟨.non,_,I.lset (its':=its++[u]) hH e (by simp) (r.append (.cons ru .nil)) ?_,rfl,q⟩
 rw[lAq,lSq];lia
def JP:V->List V->Hp->VK->Prop:=λx vs H Q=>∃l b xs zs,x = .ref l/\vs=[.ref b]/\H l=some (.lst xs)/\H b=some (.lst zs)/\xs.length+zs.length<=jk/\Q .non (qr H l (.lst (xs++zs)))
theorem wA:V0 X "list.extend" JP:=by
 intro nF s σ H x vs v us Q I rx rv h;obtain⟨l,b,xs,zs,rfl,rfl,hH,hB,hz,q⟩:=h;cases rx;obtain⟨u,rfl,ru⟩:=rv.one;cases ru;obtain⟨z,its,n,r,hl,e⟩:=I.lstM hH;obtain⟨z2,its2,n2,r2,hl2,e2⟩:=I.lstM hB;have hsz:its.toArray.size+its2.toArray.size<=jk:=by rw[ak,ak];lia
 have hlong:¬ (!its.toArray.isEmpty && Builtin.List.listTooLong (its.toArray.size+its2.toArray.size))=true:=by
  rw[NJ hsz,Bool.and_false];exact aF
 refine kf F.slot_list_extend ⟨_,e,rfl⟩ F.entry_list_extend (F.args_list_extend_2 _ _)
  (AutoSeq1.list_extend_list_list_0 l its.toArray n b its2.toArray n2 hlong (by rw[ak];lia) (by lia)) ⟨e,e2,?_⟩
 refine⟨.non,_,I.lset (its':=its++its2) hH e (by simp) (r.append r2) ?_,rfl,q⟩
 rw[lAq];lia
def S6:V->List V->Hp->VK->Prop:=λx vs H Q=>∃l xs y,x = .ref l/\vs=[]/\H l=some (.lst xs)/\xs[xs.length-1]?=some y/\Q y (qr H l (.lst xs.dropLast))
theorem HG:V0 X "list.pop" S6:=by
 intro nF s σ H x vs v us Q I rx rv h;obtain⟨l,xs,y,rfl,rfl,hH,hy,q⟩:=h;cases rx;have hus:=rv.zero;subst hus;obtain⟨z,its,n,r,hl,e⟩:=I.lstM hH;obtain⟨u,hu,ru⟩:=r.get hy;have hy':its.toArray[its.toArray.size-1]?=some u:=by
  show its.toArray[its.length-1]?=some u;rw[←cP,←hl];exact hu
 refine kf F.slot_list_pop ⟨_,e,rfl⟩ F.entry_list_pop (F.args_list_pop_1 _) (MeetsSeq.list_pop_last l its.toArray n u hy' (by rw[ak];lia)) ⟨e,?_⟩
 refine⟨y,_,I.lset (its':=its.dropLast) hH e ?_ r.dropLast ?_,ru,q⟩
 .show its.toArray.eraseIdxIfInBounds (its.toArray.size-1)=its.dropLast.toArray;rw[ak,eF,zi]
 .rw [List.length_dropLast];lia
def Of:V->List V->Hp->VK->Prop:=λx vs H Q=>∃l xs i k y,x = .ref l/\vs=[.int i]/\H l=some (.lst xs)/\-(2 ^ 63)<=i/\i<2 ^ 63/\mR i xs.length=some k/\xs[k]?=some y/\Q y (qr H l (.lst (xs.eraseIdx k)))
theorem FI:V0 X "list.pop" Of:=by
 intro nF s σ H x vs v us Q I rx rv h;obtain⟨l,xs,i,k,y,rfl,rfl,hH,h1,h2,hk,hy,q⟩:=h;cases rx;obtain⟨u,rfl,ru⟩:=rv.one;obtain⟨t,rfl⟩:=ru;obtain⟨z,its,n,r,hl,e⟩:=I.lstM hH;obtain⟨w,hw,rw'⟩:=r.get hy;refine kf F.slot_list_pop ⟨_,e,rfl⟩ F.entry_list_pop (F.args_list_pop_2 _ _)
  (MeetsSeq.list_pop_at l its.toArray n i t k w (fitsIndex_both h1 h2) (by rw[ak,←hl];exact hk) (by rw[←cP];exact hw) (by rw[ak];lia)) ⟨e,?_⟩
 refine⟨y,_,I.lset (its':=its.eraseIdx k) hH e ?_ (r.eraseIdx k) ?_,rw',q⟩
 .show its.toArray.eraseIdxIfInBounds k=(its.eraseIdx k).toArray;rw[eF]
 .have:=DF xs k;lia
def Ut:R2:=λx y H Q=>∃l b xs zs,x = .ref l/\y = .ref b/\H l=some (.lst xs)/\H b=some (.lst zs)/\xs.length+zs.length<=jk/\∀p,H p=none->Q (.ref p) (qr H p (.lst (xs++zs)))
theorem HC:Fo X (kJ .Add) Ut:=by
 intro nF s σ H x y v u Q I rx ry h;obtain⟨l,b,xs,zs,rfl,rfl,hH,hB,hz,q⟩:=h;cases rx;cases ry;obtain⟨z,its,n,r,hl,e⟩:=I.lstM hH;obtain⟨z2,its2,n2,r2,hl2,e2⟩:=I.lstM hB;refine PySem.P.add_list e e2 ?_ (by rw[ak,ak];lia)
 have ea:its.toArray++its2.toArray=(its++its2).toArray:=by simp
 rw[ea];exact⟨.ref _,_,I.lnew (t':=s.toks) (r.append r2) (by rw[lAq];lia),rfl,q _ I.fresh⟩
end
section
variable {κ:Type} [DecidableEq κ]
def zE(kvs:List (κ×V)) (k:κ):Option V:=(kvs.find? λkv=>decide (kv.1=k)).map (·.2)
def xZ(kvs:List (κ×V)) (k:κ) (v:V):List (κ×V) :=
 if (kvs.any λkv=>decide (kv.1=k))=true then kvs.map (λkv=>if kv.1=k then (kv.1,v) else kv) else kvs++[(k,v)]
theorem CP{p:κ×V}{r:List (κ×V)}{k:κ}(e:p.1=k):zE (p::r) k=some p.2:=by simp[zE,du,e]
theorem B0{p:κ×V}{r:List (κ×V)}{k:κ}(e:¬ p.1=k):zE (p::r) k=zE r k:=by simp[zE,du,e]
theorem G0(k:κ):∀kvs:List (κ×V),(kvs.any λkv=>decide (kv.1=k))=(zE kvs k).isSome
 | []=>rfl
 |p::r=>by
  rw[eG]
  by_cases e:p.1=k
  .simp only [CP e,decide_eq_true e,Bool.true_or,gM]
  .rw [B0 e,decide_eq_false e,Bool.false_or];exact G0 k r
theorem yo(kvs:List (κ×V)) (k:κ) (v:V):(xZ kvs k v).length<=kvs.length+1:=by
 unfold xZ;split
 .rw [lMq];lia
 .rw [lAq,lCq,bK];lia
theorem Dg.isSome_eq{o:Option V}{u:Option Value}(r:Dg o u):o.isSome=u.isSome:=by
 cases o with
 |none=>cases u with
  |none=>rfl
  |some _=>exact(show False from r).elim
 |some _=>cases u with
  |none=>exact(show False from r).elim
  |some _=>rfl
theorem KV.val{kvs:List (κ×V)}{vs:List (κ×Value)}(r:KV kvs vs) (k:κ):Dg (zE kvs k) (lJ vs k):=by
 unfold KV at r
 induction r with
 |nil=>exact True.intro
 | @cons p q ps qs h t ih =>
  obtain⟨h1,h2⟩:=h
  by_cases e:p.1=k
  .have e':q.1=k:=h1.symm.trans e;have b:lJ (q::qs) k=some q.2:=by simp[lJ,du,e']
   rw[CP e,b];exact h2
  .have e':¬ q.1=k:=λz=>e (h1.trans z)
   have b:lJ (q::qs) k=lJ qs k:=by simp[lJ,du,e']
   rw[B0 e,b];exact ih
theorem KV.any{kvs:List (κ×V)}{vs:List (κ×Value)}(r:KV kvs vs) (k:κ):(kvs.any λkv=>decide (kv.1=k))=vs.any λkv=>decide (kv.1=k):=by
 unfold KV at r
 induction r with
 |nil=>rfl
 |cons h t ih=>rw[eG,eG,ih,h.1]
theorem KV.repl{kvs:List (κ×V)}{vs:List (κ×Value)}(r:KV kvs vs) (k:κ) {y:V}{u:Value}(ry:pQ y u) :
  KV (kvs.map λkv=>if kv.1=k then (kv.1,y) else kv) (vs.map λkv=>if kv.1=k then (kv.1,u) else kv):=by
 unfold KV at r ⊢
 induction r with
 |nil=>exact .nil
 | @cons p q ps qs h t ih =>
  rw[ar,ar];refine .cons ?_ ih;obtain⟨h1,h2⟩:=h
  by_cases e:p.1=k
  .rw [oQ e,oQ (h1.symm.trans e)];exact⟨h1,ry⟩
  .rw [oT e,oT (λz=>e (h1.trans z))];exact⟨h1,h2⟩
theorem KV.put{kvs:List (κ×V)}{vs:List (κ×Value)}(r:KV kvs vs) (k:κ) {y:V}{u:Value}(ry:pQ y u):KV (xZ kvs k y) (stored vs k u):=by
 unfold xZ stored;rw[r.any k]
 by_cases e:(vs.any λkv=>decide (kv.1=k))=true
 .rw [oQ e,oQ e];exact r.repl k ry
 .rw [oT e,oT e];exact Paired.snoc r ⟨rfl,ry⟩
theorem KV.length{kvs:List (κ×V)}{vs:List (κ×Value)}(r:KV kvs vs):kvs.length=vs.length:=Paired.length r
end
theorem FK{P:jj}{w:jo}{k:oJ}{u:Value}(r:pQ (kV k) u):(qN P w).is k u=true:=by
 cases k with
 |inl i=>obtain⟨t,e⟩:=(show ∃t,u=gd i t from r);subst e;exact Ho P w i t
 |inr x=>obtain⟨t,e⟩:=(show ∃t,u=iR x t from r);subst e;exact FF P w x t
theorem DO{P:jj}{w:jo}:∀{ks:List oJ}{us:List Value},oW (ks.map kV) us->ItemsAre (qN P w) ks us
 | [],_,r=>by rw[eY]at r;cases r;exact .nil
 |k::ks,_,r=>by
  rw[ar]at r;cases r with
  |cons h t=>exact .cons (FK h) (DO t)
abbrev KT(H:Hp):List (List oJ×V)->List (List oJ×Addr×Value)->Prop:=Paired λp q=>p.1=q.1/\H q.2.1=some (.tup (p.1.map kV))/\pQ p.2 q.2.2
theorem KT.val{H:Hp}{kvs:List (List oJ×V)}{xs:List (List oJ×Addr×Value)}(r:KT H kvs xs) (k:List oJ):Dg (zE kvs k) ((md xs k).map (·.2)):=by
 induction r with
 |nil=>exact True.intro
 | @cons p q ps qs h t ih =>
  obtain⟨h1,_,h2⟩:=h
  by_cases e:p.1=k
  .have e':q.1=k:=h1.symm.trans e;have b:md (q::qs) k=some q.2:=by simp[md,du,e']
   rw[CP e,b];exact h2
  .have e':¬ q.1=k:=λz=>e (h1.trans z)
   have b:md (q::qs) k=md qs k:=by simp[md,du,e']
   rw[B0 e,b];exact ih
theorem KT.repl{H:Hp}{kvs:List (List oJ×V)}{xs:List (List oJ×Addr×Value)}(r:KT H kvs xs) (k:List oJ) {y:V}{u:Value}(ry:pQ y u) :
  KT H (kvs.map λkv=>if kv.1=k then (kv.1,y) else kv) (xs.map (putAt k u)):=by
 induction r with
 |nil=>exact .nil
 | @cons p q ps qs h t ih =>
  rw[ar,ar];refine .cons ?_ ih;obtain⟨h1,h2,h3⟩:=h;unfold putAt
  by_cases e:p.1=k
  .rw [oQ e,oQ (h1.symm.trans e)];exact⟨h1,h2,ry⟩
  .rw [oT e,oT (λz=>e (h1.trans z))];exact⟨h1,h2,h3⟩
theorem KT.put{H:Hp}{kvs:List (List oJ×V)}{xs:List (List oJ×Addr×Value)}(r:KT H kvs xs) (k:List oJ) {b:Addr}{y:V}{u:Value}(hb:H b=some (.tup (k.map kV))) (ry:pQ y u) :
  KT H (xZ kvs k y) (storedH xs k b u):=by
 have e:(kvs.any λkv=>decide (kv.1=k))=(md xs k).isSome:=by
  rw[G0,(r.val k).isSome_eq,ee]
 unfold xZ storedH;rw[e]
 by_cases q:(md xs k).isSome=true
 .rw [oQ q,oQ q];exact r.repl k ry
 .rw [oT q,oT q];exact Paired.snoc r ⟨rfl,hb,ry⟩
theorem KT.keeps{H H':Hp}{kvs:List (List oJ×V)}{xs:List (List oJ×Addr×Value)}(r:KT H kvs xs) (ht:∀b ys,H b=some (.tup ys)->H' b=some (.tup ys)):KT H' kvs xs :=
 Paired.mapP r λ_ _ z=>⟨z.1,ht _ _ z.2.1,z.2.2⟩
section
variable {P:jj}{w:jo}{H:Hp}{h:Heap}{a:Addr}
theorem RB{u:HO}(ok:zC P w H h) (e:Rd H a u):qp P w H h a u:=e.ok ok
theorem Gp{kvs:List (oJ×V)}(ok:zC P w H h) (e:Rd H a (.dK kvs)):kvs.length<=jk/\(a == jW)=false/\∃vs,KV kvs vs/\h.DictOf (qN P w) a vs :=
 show qp P w H h a (.dK kvs) from RB ok e
theorem RD{kvs:List (oJ×V)}(ok:zC P w H h) (e:H a=some (.dK kvs)):kvs.length<=jk/\(a == jW)=false/\∃vs,KV kvs vs/\h.DictOf (qN P w) a vs:=Gp ok (.inl e)
theorem ES{ks:List oJ}(ok:zC P w H h) (e:H a=some (.tup (ks.map kV))):(lY (qN P w)).is h ks a:=by
 obtain⟨_,its,r,o,h1,h2,n,h3⟩:=(show qp P w H h a (.tup (ks.map kV)) from ok a _ e)
 exact⟨o,its.toArray,n,h1,h2,h3,by simpa using DO r⟩
theorem Hu{kvs:List (List oJ×V)}(ok:zC P w H h) (e:Rd H a (.dT kvs)):kvs.length<=jk/\(a == jW)=false /\
  ∃xs,KT H kvs xs/\h.DictOfH (lY (qN P w)) a xs:=by
 obtain⟨z,y,xs,r,o,es,ep,h1,h2,h3,h4,h5⟩:=(show qp P w H h a (.dT kvs) from RB ok e)
 refine⟨z,y,xs,r,o,es,ep,h1,h2,h3,h4,λx hx=>?_,h5⟩
 have all:∀{l:List (List oJ×V)}{m:List (List oJ×Addr×Value)},KT H l m->∀x∈m,(lY (qN P w)).is h x.1 x.2.1:=by
  intro l m q
  induction q with
  |nil=>intro x hx;exact nomatch hx
  | @cons p q ps qs hq t ih =>
   intro x hx;rcases ah.mp hx with e|hx
   .subst e;exact ES ok (by rw[←hq.1];exact hq.2.1)
   .exact ih x hx
 exact all r x hx
theorem VE{kvs:List (List oJ×V)}(ok:zC P w H h) (e:H a=some (.dT kvs)):kvs.length<=jk/\(a == jW)=false /\
  ∃xs,KT H kvs xs/\h.DictOfH (lY (qN P w)) a xs:=Hu ok (.inl e)
end
def B9(H:Hp) (a:Addr) (y:V) (r:Option V):Prop :=
 (∃kvs k,Rd H a (.dK kvs)/\y=kV k/\r=zE kvs k)∨∃kvs k b,Rd H a (.dT kvs)/\y = .ref b/\H b=some (.tup (k.map kV))/\r=zE kvs k
def OM(H:Hp) (a:Addr) (y v:V) (H':Hp):Prop :=
 (∃kvs k,H a=some (.dK kvs)/\y=kV k/\kvs.length<jk/\H'=qr H a (.dK (xZ kvs k v))) ∨
 ∃kvs k b,H a=some (.dT kvs)/\y = .ref b/\H b=some (.tup (k.map kV))/\kvs.length<jk/\H'=qr H a (.dT (xZ kvs k v))
theorem B9.k{H:Hp}{a:Addr}{kvs:List (oJ×V)}{k:oJ}(e:H a=some (.dK kvs)):B9 H a (kV k) (zE kvs k):=.inl ⟨kvs,k,.inl e,rfl,rfl⟩
theorem OM.k{H:Hp}{a:Addr}{kvs:List (oJ×V)}{k:oJ}{v:V}(e:H a=some (.dK kvs)) (hl:kvs.length<jk):OM H a (kV k) v (qr H a (.dK (xZ kvs k v))):=.inl ⟨kvs,k,e,rfl,hl,rfl⟩
section
variable {X:Cx}{nF:List (Addr×Obj)}{σ:St}{H:Hp}{s:Shared}{a:Addr}{y v:V}{u r:Value}{o:Option V}{A:Around}{E:Value->Shared->Prop}
theorem Inv.big(I:Inv X nF σ H s):jW<s.heap.objs.size:=by
 have h:jn<s.heap.objs.size:=(I.mod.glob.keeps I.bk).lt;exact Nat.lt_trans (by decide) h
theorem LB{Q:Value->Shared->Prop}(hu:A.units+1<jw) (I:Inv X nF σ H s) (g:B9 H a y (some v)) (ry:pQ y u) (h:∀w' s',Inv X nF σ H s'->pQ v w'->Q w' s') :
  jd (jf X.prog X.w) A (mC (.ref a) u) Q E s:=by
 rcases g with ⟨kvs,k,e,ey,l⟩|⟨kvs,k,b,e,ey,eb,l⟩
 .subst ey;obtain⟨z,hd,vs,rel,dd⟩:=Gp I.hok e;obtain⟨w',hw,rw'⟩:=Dg.some_of (v:=v) (o:=lJ vs k) (by rw[l];exact rel.val k)
  exact wpAny_getItem_of (FK ry) dd.mapOf hw (h w' _ (I.tok _) rw')
 .subst ey;cases (show u=ai b from ry)
  obtain⟨z,hd,xs,rel,dd⟩:=Hu I.hok e;obtain⟨w',hw,rw'⟩:=Dg.some_of (v:=v) (o:=(md xs k).map (·.2)) (by rw[l];exact rel.val k)
  obtain⟨p,hp,hp2⟩:=oMq.mp hw;refine wpAny_getItem_heap (lq hu) (ES I.hok eb) dd hp ?_;rw[hp2];exact h w' _ (I.tok _) rw'
theorem Ra{Q:Value->Shared->Prop}(hu:A.units+1<jw) (I:Inv X nF σ H s) (g:B9 H a y o) (ry:pQ y u) (h:∀s',Inv X nF σ H s'->Q (.bool (!o.isSome)) s') :
  jd (jf X.prog X.w) A (jS .NotIn u (.ref a)) Q E s:=by
 rcases g with ⟨kvs,k,e,ey,l⟩|⟨kvs,k,b,e,ey,eb,l⟩
 .subst ey;obtain⟨z,hd,vs,rel,dd⟩:=Gp I.hok e;refine wpAny_notIn_of (FK ry) hd dd.mapOf ?_;rw[← (rel.val k).isSome_eq,←l];exact h _ (I.tok _)
 .subst ey;cases (show u=ai b from ry)
  obtain⟨z,hd,xs,rel,dd⟩:=Hu I.hok e;refine wpAny_notIn_heap (lq hu) (ES I.hok eb) hd dd ?_;have q:=(rel.val k).isSome_eq;rw[ee]at q;rw[←q,←l];exact h _ (I.tok _)
theorem Ex{h':Heap}{t':Nat}{ob:HO}(I:Inv X nF σ H s) (mu:UG (H a)) (hs:bS a s.heap h') (he:∃q,h'.get? a=some q) (new:qp X.prog X.w (qr H a ob) h' a ob) :
  Inv X nF σ (qr H a ob) { s with heap:=h',toks:=t' } :=
 I.write (x:=a) (e:=a) mu (.inl rfl) (λb q hb z=>(hs.2 b hb).trans z) he new
theorem OD{P:jj}{w:jo}{H':Hp}{h':Heap}{kvs:List (oJ×V)}{vs:List (oJ×Value)}(z:kvs.length<=jk) (hd:(a == jW)=false) (rel:KV kvs vs) (dd:h'.DictOf (qN P w) a vs) :
  qp P w H' h' a (.dK kvs):=⟨z,hd,vs,rel,dd⟩
theorem LQ{H':Hp}{Q:Unit->Shared->Prop}(hu:A.units+1<jw) (I:Inv X nF σ H s) (g:OM H a y v H') (ry:pQ y u) (rv:pQ v r) (h:∀s',Inv X nF σ H' s'->Q () s') :
  jd (jf X.prog X.w) A (setItem (.ref a) u r) Q E s:=by
 rcases g with ⟨kvs,k,e,ey,l,eH⟩|⟨kvs,k,b,e,ey,eb,l,eH⟩
 .subst ey eH;obtain⟨z,hd,vs,rel,dd⟩:=RD I.hok e;have hz:vs.length<=jk:=by rw[←rel.length];exact z
  have hl:(xZ kvs k v).length<=jk:=by have:=yo kvs k v;lia
  refine wpAny_setItem_pairs (hsz:=hz) (FK ry) dd λh' dd' hs=>h _ ?_
  have he:∃q,h'.get? a=some q:=let ⟨q,_,_,hq,_⟩:=dd';⟨q,hq⟩
  exact Ex I (by rw[e];exact True.intro) hs he (OD hl hd (rel.put k rv) dd')
 .subst ey eH;cases (show u=ai b from ry)
  obtain⟨z,hd,xs,rel,dd⟩:=VE I.hok e;have hz:xs.length<=jk:=by rw[←Paired.length rel];exact z
  have hl:(xZ kvs k v).length<=jk:=by have:=yo kvs k v;lia
  refine wpAny_setItem_heap (hsz:=hz) (lq hu) (ES I.hok eb) dd λh' dd' hs=>h _ ?_
  obtain⟨q,es,ep,hq,h2,h3,h4,_,h5⟩:=dd';refine Ex I (by rw[e];exact True.intro) hs ⟨q,hq⟩ ⟨hl,hd,_,(rel.put k eb rv).keeps λc ys ec=>?_,q,es,ep,hq,h2,h3,h4,h5⟩
  rw[nX (Vw ec e (λz=>nomatch z))]
  exact ec
end
def U5(i:Expr):Prop:=∀ov iv,mn i false ov iv=operate [ov,iv] (mC ov iv)
theorem Qh{prog:jj}{w:jo}{A:Around}{E:Value->Shared->Prop}{s:Shared}{env:Env}{value slice:Expr}{pos:Pos}{T id:String}{Q:Value->Shared->Prop}
  (hl:lH (.type T) "__getitem__" = pure (some (.builtin id))) (hs:U5 slice)
  (h:jd (jf prog w) A (eval value env) (λo s₁=>jd (jf prog w) A (eval slice env) (λi s₂=>s₂.TypeIs o T/\jd (jf prog w) A (mC o i) Q E s₂) E s₁) E s) :
  jd (jf prog w) A (eval (.Subscript value slice pos) env) Q E s:=by
 refine Subscript_ (jv h (λo s₁ h₁=>jv h₁ (λi s₂ h₂=>?_) λ_ _ x=>x) λ_ _ x=>x)
 obtain⟨hT,h₂⟩:=h₂;unfold mM;refine jc ?_;rw[getitemInPython_of_ne hT.not_modules];refine jc (wpAny_specialOf hT hl ?_);have fin:jd (jf prog w) A (mn slice false o i) (λr s₃=>jd (jf prog w) A (letTemporaryGo value o r >>= λ_=>pure r) Q E s₃) E s₂:=by
  rw[hs o i];exact wpAny_operating (jv h₂ (λr s₃ h₃=>jc (wpAny_letTemporaryGo (jg h₃))) λ_ _ x=>x)
 first
  |exact jg (jc fin)
  |exact jc (jg (jc fin))
  |exact jc fin
theorem Ga{X:Cx}{nF:List (Addr×Obj)}{σ:St}{H:Hp}{s:Shared}{a:Addr}{y:V}{o:Option V}(I:Inv X nF σ H s) (g:B9 H a y o):s.TypeIs (.ref a) "dict" := by
 rcases g with ⟨kvs,k,e,_,_⟩|⟨kvs,k,b,e,_,_,_⟩
 .obtain ⟨_,_,vs,_,dd⟩:=Gp I.hok e;exact dd.typeIs
 .obtain ⟨_,_,xs,_,dd⟩:=Hu I.hok e;exact dd.typeIs
def RH(td ty:TE):TE:=λσ H Q=>td σ H λx H1=>ty σ H1 λy H2=>∃a v,x = .ref a/\B9 H2 a y (some v)/\Q v H2
def Jo(ty td:TE):TE:=λσ H Q=>ty σ H λy H1=>td σ H1 λx H2=>∃a o,x = .ref a/\B9 H2 a y o/\Q (.bl (!o.isSome)) H2
def Ro(td ty tv:TE):TS:=λD σ H=>tv σ H λv H1=>td σ H1 λx H2=>ty σ H2 λy H3=>∃a H4,x = .ref a/\OM H3 a y v H4/\D.nx σ H4
section
variable {X:Cx}{o i e value:Expr}{pos pos' tpos:Pos}{td ty tv:TE}
theorem yJ(hu:X.A.units+1<jw) (ho:PE X o td) (hi:PE X i ty) (hs:U5 i):PE X (.Subscript o i pos) (RH td ty):=by
 intro nF s σ H Q I h;refine Qh PySem.F.slot_dict_getitem.lookup hs (rM (ho nF s σ H _ I h) λu s1 hz1=>?_)
 obtain⟨x,H1,I1,rx,q1⟩:=hz1;refine rM (hi nF s1 σ H1 _ I1 q1) λiv s2 hz2=>?_
 obtain⟨y,H2,I2,ry,a,v,ex,g,q2⟩:=hz2;subst ex;obtain rfl:u=ai a:=rx;exact⟨Ga I2 g,LB hu I2 g ry λw' s3 I3 rw'=>⟨v,H2,I3,rw',q2⟩⟩
theorem yH(hu:X.A.units+1<jw) (hi:PE X i ty) (ho:PE X o td):PC X .NotIn i o (Jo ty td):=by
 intro nF s σ H Q I h;refine rM (hi nF s σ H _ I h) λiv s1 hz1=>?_
 obtain⟨y,H1,I1,ry,q1⟩:=hz1;refine rM (ho nF s1 σ H1 _ I1 q1) λu s2 hz2=>?_
 obtain⟨x,H2,I2,rx,a,ov,ex,g,q2⟩:=hz2;subst ex;obtain rfl:u=ai a:=rx;exact Ra hu I2 g ry λs3 I3=>⟨.bl (!ov.isSome),H2,I3,rfl,q2⟩
theorem xy(hu:X.A.units+1<jw) (ho:PE X o td) (hi:PE X i ty) (hv:PE X value tv) (hs:mQ value (some (.Subscript o i pos')) pos.line X.env=pure false) :
  PS X (.Assign [.Subscript o i pos'] value pos) (Ro td ty tv):=by
 intro nF s σ H D I h;refine wpAny_Assign_Subscript (rM (hv nF s σ H _ I h) λr s1 hz1=>?_) hs
 obtain⟨v,H1,I1,rv,q1⟩:=hz1;refine rM (ho nF s1 σ H1 _ I1 q1) λu s2 hz2=>?_
 obtain⟨x,H2,I2,rx,q2⟩:=hz2;refine rM (hi nF s2 σ H2 _ I2 q2) λiv s3 hz3=>?_
 obtain⟨y,H3,I3,ry,a,H4,ex,g,q3⟩:=hz3;subst ex;obtain rfl:u=ai a:=rx;exact LQ hu I3 g ry rv λs4 I4=>⟨σ,H4,I4,q3⟩
end
theorem FQ{P:jj}{w:jo}{H:Hp}(h:Heap) (hb:jW<h.objs.size):qp P w H (h.push { cls:=.type "dict", data:=.dict #[] }) h.objs.size (.dK []) :=
 ⟨aG _,beq_eq_false_iff_ne.mpr (Ne.symm (ao hb)),[],.nil,Heap.DictOf.new h⟩
def M3:TE:=λ_ H Q=>∀p,H p=none->Q (.ref p) (qr H p (.dK []))
section
variable {X:Cx}{pos:Pos}
theorem zF:PE X (.Dict [] [] pos) M3:=λnF s σ H Q I h =>
 wpAny_Dict_empty ⟨.ref s.heap.objs.size,_,I.laid (a:=s.heap.objs.size) (o:=.dK []) (t':=s.toks) (λ_ _ q=>ab _ q) (ae _) (FQ s.heap I.big),rfl,h _ (I.hok.fresh (ae _))⟩
end
def HP:List (TE×TE)->St->Hp->(List (V×V)->Hp->Prop)->Prop
 | [],_,H,Q=>Q [] H
 | (tk,tv)::r,σ,H,Q=>tk σ H λx H1=>tv σ H1 λy H2=>HP r σ H2 λps H3=>Q ((x,y)::ps) H3
abbrev VV:List (V×V)->List (Value×Value)->Prop:=Paired λp q=>pQ p.1 q.1/\pQ p.2 q.2
def VN(X:Cx) (pos:Pos) (keys:List (Option Expr)) (values:List Expr) (trs:List (TE×TE)):Prop :=
 ∀(nF:List (Addr×Obj)) (s:Shared) (σ:St) (H:Hp) (Q:List (V×V)->Hp->Prop),Inv X nF σ H s->HP trs σ H Q ->
  jd (jf X.prog X.w) X.A (evalPairs (pairTrees keys values X.env pos)) (λvs s'=>∃ps H',Inv X nF σ H' s'/\VV ps vs/\Q ps H') X.xe s
theorem Kd{X:Cx}{pos:Pos}:VN X pos [] [] []:=λnF s σ H Q I h=>pairTrees_nil_walk ⟨[],H,I,.nil,h⟩
theorem FL{X:Cx}{pos:Pos}{k v:Expr}{ks:List (Option Expr)}{vs:List Expr}{tk tv:TE}{trs:List (TE×TE)}(hk:PE X k tk) (hv:PE X v tv) (hr:VN X pos ks vs trs) :
  VN X pos (some k::ks) (v::vs) ((tk,tv)::trs):=λnF s σ H Q I h =>
 pairTrees_cons_walk (rM (hk nF s σ H _ I h) λu s1 ⟨x,H1,I1,rx,q1⟩=>rM (hv nF s1 σ H1 _ I1 q1) λw2 s2 ⟨y,H2,I2,ry,q2⟩ =>
  rM (hr nF s2 σ H2 _ I2 q2) λws s3 ⟨ps,H3,I3,rel,q3⟩=>⟨(x,y)::ps,H3,I3,.cons ⟨rx,ry⟩ rel,q3⟩)
def AA(kvs more:List (oJ×V)):List (oJ×V):=more.foldl (λacc kv=>xZ acc kv.1 kv.2) kvs
theorem KV.merge:∀{more:List (oJ×V)}{rs:List (oJ×Value)}{kvs:List (oJ×V)}{vs:List (oJ×Value)},KV more rs->KV kvs vs->KV (AA kvs more) (merged vs rs):=by
 intro more rs kvs vs r;unfold KV at r
 induction r generalizing kvs vs with
 |nil=>intro q;exact q
 | @cons p q ps qs h t ih =>
  intro r0;have e:KV (xZ kvs p.1 p.2) (stored vs q.1 q.2):=by
   have:=r0.put p.1 h.2;rw[←h.1];exact this
  exact ih e
theorem yX:∀(more kvs:List (oJ×V)),(AA kvs more).length<=kvs.length+more.length
 | [],kvs=>by show kvs.length<=kvs.length+0;lia
 |p::r,kvs=>by
  have h1:=yX r (xZ kvs p.1 p.2);have h2:=yo kvs p.1 p.2;show (AA (xZ kvs p.1 p.2) r).length<=_;rw[lCq];lia
theorem B6{P:jj}{w:jo}:∀{kvs:List (oJ×V)}{ws:List (Value×Value)},VV (kvs.map λkv=>(kV kv.1,kv.2)) ws->∃rs,Carries (qN P w) ws rs/\KV kvs rs
 | [],_,r=>by rw[eY]at r;cases r;exact⟨[],True.intro,.nil⟩
 |p::kvs,_,r=>by
  rw[ar]at r;cases r with
  | @cons a b as bs h t =>
   obtain⟨rs,c,q⟩:=B6 (P:=P) (w:=w) t;obtain⟨b1,b2⟩:=b;exact⟨(p.1,b2)::rs,⟨FK h.1,rfl,c⟩,.cons ⟨rfl,h.2⟩ q⟩
def RE(trs:List (TE×TE)):TE:=λσ H Q=>∀p,H p=none->HP trs σ (qr H p (.dK [])) λps H2=>H2 p=some (.dK [])/\∃kvs:List (oJ×V),ps=kvs.map (λkv=>(kV kv.1,kv.2))/\kvs.length<=15/\Q (.ref p) (qr H2 p (.dK (AA [] kvs)))
theorem JZ{X:Cx}{pos:Pos}{keys:List (Option Expr)}{values:List Expr}{trs:List (TE×TE)}(h:VN X pos keys values trs) (hall:keys.all (·.isSome)=true) (hl:keys.length=values.length) (h0:keys≠[])
  (h15:keys.length<=15):PE X (.Dict keys values pos) (RE trs):=by
 intro nF s σ H Q I q;have hn:=I.hok.fresh (ae s.heap.objs.size);have I1:=I.laid (a:=s.heap.objs.size) (o:=.dK []) (h':=s.heap.push { cls:=.type "dict", data:=.dict #[] }) (t':=s.toks) (λ_ _ q=>ab _ q) (ae _) (FQ s.heap I.big)
 refine wpAny_Dict_walk (knd:=qN X.prog X.w) hall hl h0 h15 (rM (h nF _ σ _ _ I1 (q _ hn)) λws s2 hz1=>?_)
 obtain⟨ps,H2,I2,rel,e,kvs,ep,lk,q2⟩:=hz1;subst ep;obtain⟨rs,c,rk⟩:=B6 (P:=X.prog) (w:=X.w) rel;obtain⟨z,hd,vs0,r0,dd⟩:=RD I2.hok e;cases r0;refine⟨rs,c,dd,λh' dd' hs=>⟨.ref s.heap.objs.size,_,?_,rfl,q2⟩⟩
 have hz:(AA [] kvs).length<=jk:=by
  have h1:=yX kvs [];rw[bK]at h1;rw[jt];lia
 have he:∃q,h'.get? s.heap.objs.size=some q:=let ⟨q,_,_,hq,_⟩:=dd';⟨q,hq⟩
 exact Ex I2 (by rw[e];exact True.intro) hs he (OD hz hd (rk.merge .nil) dd')
def XT(H:Hp) (a:Addr):Prop:=(∃kvs,Rd H a (.dK kvs))∨∃kvs,Rd H a (.dT kvs)
theorem RT{X:Cx}{nF:List (Addr×Obj)}{σ:St}{H:Hp}{s:Shared}{a:Addr}(I:Inv X nF σ H s) (d:XT H a) :
  s.TypeIs (.ref a) "dict" /\ (∀b,ai a = .ref b->∃ob,s.heap.get? b=some ob/\ob.dict=none)/\(a == jW)=false:=by
 rcases d with ⟨kvs,e⟩|⟨kvs,e⟩
 .obtain ⟨_,hd,vs,_,dd⟩:=Gp I.hok e;refine⟨dd.typeIs,λb q=>?_,hd⟩
  cases q;obtain⟨ob,_,_,h1,h2,_⟩:=dd;exact⟨ob,h1,h2.2.1⟩
 .obtain ⟨_,hd,xs,_,dd⟩:=Hu I.hok e;refine⟨dd.typeIs,λb q=>?_,hd⟩
  cases q;obtain⟨ob,_,_,h1,h2,_⟩:=dd;exact⟨ob,h1,h2.2.1⟩
end L2
namespace Att
open PySem PySem.W PySem.Calls PyProof.Rows
theorem Bw{P:Params}{h:Heap}:∀(ns:List Int) (vs:List Value),WellAll P h vs (ns.map WData.int)->jA vs ns:=by
 intro ns
 induction ns with
 |nil =>
  intro vs w;rw[eY]at w;cases w;exact .nil
 |cons n ns ih =>
  intro vs w;rw[ar]at w;cases w with
  |cons a b =>
   cases a;exact .cons _ _ (ih _ b)
theorem LW{l:OpenLaw}{n:Nat}(hn:l.most=some n) {P:Params}{h:Heap}{args:List WData}{vals:List Value}
  (hpre:l.row.toRowW.claim.pre args=true) (hwl:WellAll P h vals args) :
  ∃a vs ns,vals=[ai a]/\args=[WData.list (ns.map WData.int)]/\h.get? a=some { cls:=.type "list", data:=.seq vs.toArray }/\jA vs ns/\ns.length<=n:=by
 have hsh:WShape.hasAll [] args [.list .int]=true:=(pre_splitW hpre).1;have hc:l.pre.holds [] { args:=args }=true:=(pre_splitW hpre).2;obtain⟨d,r,rfl,h1,h2⟩:=hasAllW_cons hsh;obtain rfl:=hasAllW_nil h2;obtain⟨xs,rfl,h3⟩:=hasW_list h1;obtain⟨ns,rfl⟩:=items_int h3;have hlen:ns.length<=n:=by
  unfold OpenLaw.pre at hc;have h4:(WTm.not (.lt (.lit (.int (n:Int))) (.len (.arg 0)))).holds [] { args:=[.list (ns.map .int)] }=true:=by
   have h4:=(holds_andW hc).1;rw[hn]at h4;exact h4
  have h5:=condW_of h4 (w_not (w_lt w_lit (w_len_list (w_arg rfl))));rw[lMq]at h5;refine dG λq=>?_
  have q':(n:Int)<((ns.length:Nat):Int):=by lia
  first
   | (rw[decide_eq_true q']at h5;exact absurd h5 (by decide))
   | (simp at h5;lia)
 cases hwl with
 |cons w1 w2 =>
  cases w2;cases w1 with
  |list ho hall=>exact⟨_,_,ns,rfl,rfl,ho,Bw ns _ hall,hlen⟩
theorem Ly(l:OpenLaw) (args:List WData):l.row.toRowW.claim.post args (.bool true) args=true :=
 postW_of (r:=l.row.toRowW) (X:=(true == true))
  (show WShape.has [] (.bool true) .bool=true by first|rfl|decide|simp[WShape.has,WShape.arms,WShape.armsAll])
  (show (WTm.eq .res (.lit (.bool true))).value [] { args:=args,res:=some (.bool true),after:=args }=some (.bool (true == true)) from w_eq_bool (w_res rfl) w_lit) rfl
theorem FZ{l:OpenLaw}{n:Nat}{q:jj}{loose:List Str}{XP:(Str->Option Value)->Heap->Prop}{YP:jo->Heap->Prop}{d:DefRec}
  (hn:l.most=some n) (hdf:d.params.defaults=[])
  (call:∀(w:jo) (s₀ s₁:Shared) (mg mb:Str->Option Value) (fa:Addr) (o:Obj) (pm cd doc:Value) (a:Addr) (vs:List Value) (ns:List Int),
   Ground q loose [] XP w s₀ mg mb s₁.heap->YP w s₁.heap ->
   s₁.heap.get? fa=some o->o.data = .func (docDef d.name d.params d.body d.scope pm cd doc)->s₁.heap.CodeRec cd d.name->mg d.name=some (.ref fa) ->
   s₁.heap.get? a=some { cls:=.type "list", data:=.seq vs.toArray }->jA vs ns->ns.length<=n->s₁.gens=#[] ->
   jZ (jf l.prog w) lh (.call (.ref fa) ⟨[.ref a],[]⟩) (λr s'=>r = .ok (.ret (.bool true))/\OldK s₁.heap s'.heap/\s'.os=s₁.os/\kK s'.gens) s₁) :
  WalkO q loose XP YP l.row.toRowW d [] (λf vs=>PySem.call f vs):=by
 intro w s₀ s₁ mg mb G Y fa o pm cd doc dV kV ho hd hcd hD hmg hg args vals as hpre hlay hrd hwl hlo;obtain rfl:dV = .none:=Dflts.none hD hdf;obtain rfl:kV = .none:=Dflts.noKw hD;obtain⟨a,vs,ns,rfl,rfl,hobj,hints,hlen⟩:=LW hn hpre hwl;refine enter_call (kC (call w s₀ s₁ mg mb fa o pm cd doc a vs ns G Y ho (fd_plain hd) hcd hmg hobj hints hlen hg) λr s' hq=>?_)
 obtain⟨rfl,h2,h3,h4⟩:=hq;exact⟨.inl ⟨.bool true,.bool true,[],rfl,λ_=>rfl,.bool true,Ly l _,λ_=>⟨bJ.nil,λ_ hm=>(nomatch hm)⟩⟩,h2,h3,h4⟩
end Att
namespace L2
open PySem PySem.Spec PyProof.Rows
theorem vals_ints:∀{vs:List Value}{ns:List Int},jA vs ns->oW (ns.map V.int) vs
 |_,_,.nil=>.nil
 |_,_,.cons n t h=>.cons ⟨t,rfl⟩ (vals_ints h)
def uV(s:Stmt):lZ:=match s with
 | .FunctionDef _ a _ _ _ _ _ _ _ _=>a
 |_=>{ posonlyargs:=[],args:=[],vararg:=none,kwonlyargs:=[],kw_defaults:=[],kwarg:=none,defaults:=[] }
def tX(s:Stmt):List Stmt:=match s with
 | .FunctionDef _ _ b _ _ _ _ _ _ _=>b
 |_=>[]
def nY(s:Stmt):jQ:=match s with
 | .FunctionDef _ _ _ _ _ _ sc _ _ _=>sc
 |_=>{ kind:=.function,names:=[],isGenerator:=false,isCoroutine:=false }
abbrev QV:IU:=λ_ _ _ _ _ _=>False
abbrev E0:XK:=λ_ _ _=>False
theorem UV{X:Cx}:IG QV X E0:=λ_ _ _ _ _ _ _ h=>h.elim
structure QO (K:W.Frag) (x qual:Str) (st:Stmt) (f:Addr) (fd:jE):Prop where
 ex:∃(oc:Value) (od:Option Addr) (kV doc pm:Value) (an:Option Addr) (tQ ct:Value) (osl:Array (Option Value)),
  fd=W.fnOf x qual (uV st) (tX st) (nY st) .none kV doc pm an tQ ct/\K.lookup f=some ⟨oc,od,.func fd,osl⟩/\W.codeIn K tQ qual=true
 kp:W.keepIn K (.ref f)=true
section
variable {P:jj}{w:jo}{K:W.Frag}{mg:Str->Option Value}{base:Heap}
theorem QO.ok{x qual:Str}{st:Stmt}{f:Addr}{fd:jE}{N ps:List Str}{k:Nat}{sp:Sp}(F:QO K x qual st f fd) (S:oD N ps (nY st)) (len:∀vs H Q E,sp vs H Q E->vs.length=ps.length)
  (hbody:∀(tQ:Value) (A:Around) (outer:List Env) (s:Shared) (H:Hp) (vs:List V) (Q:VK) (E:XK),rQ k (A.deeper (kT qual (nY st) s.heap.objs.size f tQ))->sp vs H Q E ->
   ∃t,Kc (HY QV P w K mg base N qual (nY st) f tQ A outer s H E).nox (tX st) t/\t { nx:=λ_ H'=>Q .non H',rt:=Q } (wV N vs) H):wU P w K mg base QV (k+1) f fd ps sp:=by
 obtain⟨oc,od,kV,doc,pm,an,tQ,ct,osl,rfl,lk,hcd⟩:=F.ex;refine Rn lk hcd S len λA outer s H vs Q E hr hsp=>?_
 obtain⟨t,h,q⟩:=hbody tQ A outer s H vs Q E hr hsp;exact⟨t,h.nox,q⟩
theorem QO.binds{x qual:Str}{st:Stmt}{f:Addr}{fd:jE}{ps:List Str}(F:QO K x qual st f fd)
  (h:∀(kV doc pm:Value) (an:Option Addr) (tQ ct:Value) (us:List Value),us.length=ps.length->mL (W.fnOf x qual (uV st) (tX st) (nY st) .none kV doc pm an tQ ct) ⟨us,[]⟩=pure (ps.zip us)):uz K fd ps []:=by
 obtain⟨oc,od,kV,doc,pm,an,tQ,ct,osl,rfl,lk,hcd⟩:=F.ex;exact .all (h kV doc pm an tQ ct)
theorem Ik{x qual:Str}{st:Stmt}{f:Addr}{oc:Value}{od an:Option Addr}{osl:Array (Option Value)}{kV doc pm tQ ct:Value}(l:K.lookup f=some ⟨oc,od,.func (W.fnOf x qual (uV st) (tX st) (nY st) .none kV doc pm an tQ ct),osl⟩)
  (c:W.codeIn K tQ qual=true) (k:W.keepIn K (.ref f)=true):QO K x qual st f (W.fnOf x qual (uV st) (tX st) (nY st) .none kV doc pm an tQ ct):=⟨⟨oc,od,kV,doc,pm,an,tQ,ct,osl,rfl,l,c⟩,k⟩
end
theorem uH{A:Around}{k:Nat}(hr:rQ k A):A.units+1<jw:=gN (Nat.add_le_add_left (by decide:1<=64) _) hr.units
section
variable {X:Cx}
theorem pv(i:Nat) {x:Str}{pos:Pos}(hN:X.N[i]?=some x:=by rfl) (hv:Uv X.env.scope x:=by trivial) (hd:(x == ("__debug__" : Str))=false:=by decide)
  (hcd:(x == ("__classdict__" : Str))=false:=by decide):PE X (.Name x pos) (yN i):=Sm hN hv hd hcd
end
theorem HR{A B:Prop}(h:B):if false=true then A else B:=by
 rw[oT aF];exact h
theorem Ij{A B:Prop}(h:A):if true=true then A else B:=by
 rw[oQ rfl];exact h
def oM(H H':Hp):Prop:=∀b o,H b=some o->H' b=some o
theorem oM.refl(H:Hp):oM H H:=λ_ _ h=>h
theorem oM.trans{H H1 H2:Hp}(a:oM H H1) (b:oM H1 H2):oM H H2:=λc o h=>b c o (a c o h)
theorem oM.free{H H':Hp}(e:oM H H') {l:Addr}(h:H' l=iZ):H l=iZ:=by
 cases q:H l with
 |none=>rfl
 |some o =>
  rw[e l o q]at h;cases h
theorem oM.seq{K:W.Frag}{H H':Hp}{a:Addr}{xs:List V}(e:oM H H') (h:qw K H a xs):qw K H' a xs:=by
 rcases h with (h|⟨o,h⟩)|h
 .exact .inl (.inl (e _ _ h))
 .exact .inl (.inr ⟨o,e _ _ h⟩)
 .exact .inr h
end L2
namespace Mr
def cell(ns:List Int) (k:Nat):Int:=ns.getD k 0
def qf(ns:List Int):Nat->Nat
 |0=>0
 |k+1=>if ns.getD k 0<ns.getD (qf ns k) 0 then k else qf ns k
def rot(ns:List Int) (i:Nat):List Int:=ns.drop i++ns.take i
def uL(ns:List Int):List Int:=rot ns (qf ns ns.length)
theorem xx(ns:List Int):∀n,(0<n->qf ns n<n)/\(∀j,j<n->ns.getD (qf ns n) 0<=ns.getD j 0)/\(∀j,j<qf ns n->ns.getD (qf ns n) 0<ns.getD j 0)
 |0=>⟨λh=>absurd h (cu _),λj h=>absurd h (bT _),λj h=>absurd h (bT _)⟩
 |n+1=>by
  obtain⟨h1,h2,h3⟩:=xx ns n;simp only[qf]
  by_cases c:ns.getD n 0<ns.getD (qf ns n) 0
  .rw [oQ c];refine⟨λ_=>dH n,λj hj=>?_,λj hj=>?_⟩
   .rcases gO (gX hj) with q|q
    .have:=h2 j q;lia
    .subst q;exact gf _
   .have:=h2 j hj;lia
  .rw [oT c];refine⟨λ_=>?_,λj hj=>?_,h3⟩
   .by_cases hn:0<n
    .exact ba (h1 hn)
    .have:n=0:=by lia
     subst this;exact dH 0
   .rcases gO (gX hj) with q|q
    .exact h2 j q
    .subst q;lia
theorem HF(ns:List Int):qf ns ns.length<=ns.length:=by
 by_cases h:0<ns.length
 .exact bB ((xx ns ns.length).1 h)
 .have:ns.length=0:=by lia
  rw[this];exact ae 0
theorem BL{ns:List Int}{j:Nat}(h:j<ns.length):ns.getD j 0=ns[j]:=by
 rw[gDq,gEg h];rfl
theorem GZ{ns:List Int}{M:Int}(hm:M∈ns) (hl:∀a,a∈ns->M<=a):ns.idxOf M=qf ns ns.length:=by
 have h0:0<ns.length:=eh hm;obtain⟨h1,h2,h3⟩:=xx ns ns.length;have h1:=h1 h0;have hi:ns.idxOf M<ns.length:=dR.mpr hm;have e:ns.getD (ns.idxOf M) 0=M:=by rw[BL hi];exact gP hi
 have eL:ns.getD (qf ns ns.length) 0=M:=by
  have q1:=h2 _ hi;rw[e]at q1;have q2:=hl _ (by rw[BL h1];exact gRq h1:ns.getD (qf ns ns.length) 0∈ns)
  lia
 rcases gY (ns.idxOf M) (qf ns ns.length) with q|q|q
 .have:=h3 _ q;lia
 .exact q
 .exfalso;have:=List.not_of_lt_findIdx (p:=(· == M)) (xs:=ns) (i:=qf ns ns.length) (by simpa [List.idxOf] using q)
  rw[BL h1]at eL;simp[eL]at this
theorem Hl:uL []=[]:=rfl
theorem IW(ns:List Int) (i:Nat):(rot ns i).length=ns.length:=by
 unfold rot;rw[lAq,bj,lTq];lia
theorem Bo(ns:List Int):(uL ns).length=ns.length:=IW _ _
def step(ns:List Int):Int:=if 0<cell ns 0 % 3 then cell ns 0 % 10 ^ 40+1 else 1
theorem rot_perm(t:List Int) (i:Nat):(rot t i).Perm t:=by
 unfold rot;exact eI.trans (by rw[bG])
theorem rN(t:List Int):(uL t).Perm t:=rot_perm t _
theorem zQ{rs ts:List (List Int)}(h:rs.Perm ts):rs.flatten.Perm ts.flatten:=by
 induction h with
 |nil=>exact .refl _
 |cons x _ ih=>rw[fCq,fCq];exact dr.append (.refl x) ih
 |swap x y l =>
  rw[fCq,fCq,fCq,fCq,←bH,←bH];exact dr.append eI (.refl _)
 |trans _ _ a b=>exact a.trans b
theorem uj{f:List Int->List Int}(hf:∀r,(f r).Perm r):∀rs:List (List Int),(rs.map f).flatten.Perm rs.flatten
 | []=>.refl _
 |r::rs=>by
  rw[ar,fCq,fCq];exact dr.append (hf r) (uj hf rs)
theorem Jr:∀t:Fin 66,∀d:Fin 67,0<d.val->(t.val+1)*d.val % 67≠0:=by decide +kernel
end Mr
namespace MrS
open PySem PyProof.Rows
structure xh (prog:jj) (w:jo) (A:Around) (s:Shared) (κ:jB) (P:je->Prop) (lt:je->je->Bool):Prop where
 ask:∀x y,P x->P y->∀(E:Value->Shared->Prop) (Q:Bool->Shared->Prop),Q (lt x y) s->jd (jf prog w) A (keyLt' κ x.1 y.1) Q E s
 asym:∀x y,P x->P y->lt x y=true->lt y x=false
 trans:∀x y z,P x->P y->P z->lt y x=false->lt z y=false->lt z x=false
section
variable {prog:jj}{w:jo}{A:Around}{E:Value->Shared->Prop}{s:Shared}{κ:jB}{P:je->Prop}{lt:je->je->Bool}
theorem xh.refl(C:xh prog w A s κ P lt) {x:je}(hx:P x):lt x x=false:=by
 cases e:lt x x with
 |false=>rfl
 |true=>rw[←C.asym x x hx hx e,e]
theorem xh.cmp(C:xh prog w A s κ P lt) {x y:je}{st:SortSt}{Q:Option Bool->SortSt->Prop}(hx:P x) (hy:P y) (hk:kindOf st=κ) (h:Q (some (lt x y)) st) :
  wpS (jf prog w) A E s (lt' x y) Q st:=by
 rw[lt'_eq];refine jm (kF ?_);rw[hk];refine jm (wpS_lift (ly (C.ask x y hx hy _ _ ⟨rfl,?_⟩)));exact jq h
theorem Ge{arr:Array je}{i:Nat}{x:je}{st:SortSt}{Q:je->SortSt->Prop}(hx:arr[i]?=some x) (h:Q x st):wpS (jf prog w) A E s (elem' arr i) Q st:=by
 rw[elem'_eq,hx];exact jq h
theorem xh.at(C:xh prog w A s κ P lt) {i j:Nat}{x y:je}{st:SortSt}{Q:Option Bool->SortSt->Prop}(hi:(ji st)[i]?=some x) (hj:(ji st)[j]?=some y) (hx:P x) (hy:P y) (hk:kindOf st=κ) (h:Q (some (lt x y)) st) :
  wpS (jf prog w) A E s (ltAt' i j) Q st:=by
 rw[ltAt'_eq];refine jm (kF ?_);exact jm (Ge hi (jm (Ge hj (C.cmp hx hy hk h))))
end
section
variable {prog:jj}{w:jo}{A:Around}{E:Value->Shared->Prop}{s:Shared}{κ:jB}{P:je->Prop}{lt:je->je->Bool}
theorem zT{x:String}{st:SortSt}{Q:Unit->SortSt->Prop}(h:Q () st):wpS (jf prog w) A E s (liftM (rule x):StateT SortSt Sem Unit) Q st:=wpS_lift (wpAny_rule ⟨rfl,h⟩)
structure Ls where
 o:Array je
 (i j m p q g:Nat)
variable {a b:Array je}{st:SortSt}{Q:Array je->SortSt->Prop}{n:Nat}{x:Ls}
end
def vX(lt:je->je->Bool) (xs:Array je) (i j:Nat):Prop:=∀p q x y,i<=p->p<=q->q<j->xs[p]?=some x->xs[q]?=some y->lt y x=false
def ER(lt:je->je->Bool) (xs:Array je) (i j:Nat):Prop:=∀p q x y,i<=p->p<=q->q<j->xs[p]?=some x->xs[q]?=some y->lt x y=false
def SW(lt:je->je->Bool) (xs:Array je) (i j:Nat):Prop:=∀p q x y,i<=p->p<j->i<=q->q<j->xs[p]?=some x->xs[q]?=some y->lt x y=false
section
variable {lt:je->je->Bool}{xs:Array je}{i j lo n:Nat}
theorem BQ(hj:j<=xs.size) (h:ER lt xs i j):vX lt (kE xs i j ((j-i) / 2)) i j:=by
 intro p q x y h1 h2 h3 ex ey;rw[jx hj,oQ ⟨h1,by lia⟩]at ex
 rw[jx hj,oQ ⟨by lia,h3⟩]at ey
 exact h _ _ _ _ (by lia) (by lia) (by lia) ey ex
theorem vJ(hj:j<=xs.size) (hi:lo<=i) (hn:j<=n) (e:SW lt xs i j) (h:ER lt xs lo n):ER lt (kE xs i j ((j-i) / 2)) lo n:=by
 intro p q x y h1 h2 h3 ex ey;rw[jx hj]at ex ey
 by_cases cp:i<=p/\p<j
 .rw [oQ cp]at ex
  by_cases cq:i<=q/\q<j
  .rw [oQ cq]at ey;exact e _ _ _ _ (by lia) (by lia) (by lia) (by lia) ex ey
  .rw [oT cq]at ey;exact h _ _ _ _ (by lia) (by lia) h3 ex ey
 .rw [oT cp]at ex
  by_cases cq:i<=q/\q<j
  .rw [oQ cq]at ey;exact h _ _ _ _ h1 (by lia) (by lia) ex ey
  .rw [oT cq]at ey;exact h _ _ _ _ h1 h2 h3 ex ey
end
section
variable (lo:Nat)
def VX(n:Nat):StateT SortSt Sem (ForInStep (Option (Option Nat)×Nat)):=do
 match ←ltAt' (lo+n) (lo+n-1) with
 |some c=>if c then pure (.done (none,n)) else pure (.yield (none,n+1))
 |_=>pure (.done (some none,n))
def WO(n q:Nat):StateT SortSt Sem (ForInStep (Option (Option Nat)×Nat×Nat)):=do
 match ←ltAt' (lo+n) (lo+n-1) with
 |some c =>
  if c then
   if q>0 then do
    let _ ←kH (lo+n-(q+1)) (lo+n)
    pure (.yield (none,n+1,0))
   else pure (.yield (none,n+1,0))
  else do
   match ←ltAt' (lo+n-1) (lo+n) with
   |some c=>if c then pure (.done (none,n,q)) else pure (.yield (none,n+1,q+1))
   |_=>pure (.done (some none,n,q))
 |_=>pure (.done (some none,n,q))
def V4(nrem n:Nat):StateT SortSt Sem (Option Nat):=do
 kH lo (lo+n)
 let r ←forIn [n:nrem] (none,n) λ_ s=>VX lo s.2
 Break.runK.match_1 (λ_=>StateT SortSt Sem (Option Nat)) r.1 (λv=>pure v) λ_=>pure (some r.2)
def VR(nrem n:Nat):StateT SortSt Sem (Option Nat):=do
 rule "list.sort.descending-run"
 let r ←forIn [n+1:nrem] (none,n+1,0) λ_ s=>WO lo s.2.1 s.2.2
 Break.runK.match_1 (λ_=>StateT SortSt Sem (Option Nat)) r.1 (λv=>pure v) λ_ =>
  if r.2.2>0 then do
   let _ ←kH (lo+r.2.1-(r.2.2+1)) (lo+r.2.1)
   V4 lo nrem r.2.1
  else V4 lo nrem r.2.1
theorem Rp(nrem:Nat):countRun' lo nrem=(do
 let r ←forIn [1:nrem] (none,1) λ_ s=>VX lo s.2
 Break.runK.match_1 (λ_=>StateT SortSt Sem (Option Nat)) r.1 (λv=>pure v) λ_ =>
  if r.2 == nrem then pure (some r.2)
  else if r.2>1 then do
   match ←ltAt' lo (lo+r.2-1) with
   |some c =>
    if c then pure (some r.2)
    else do
     let _ ←kH lo (lo+r.2)
     VR lo nrem r.2
   |_=>pure none
  else VR lo nrem r.2):=countRun'_eq lo nrem
end
section
variable {prog:jj}{w:jo}{A:Around}{E:Value->Shared->Prop}{s:Shared}{κ:jB}{P:je->Prop}{lt:je->je->Bool}
theorem Ph(C:xh prog w A s κ P lt) {xs:Array je}(hp:∀x,x∈xs->P x) (lo:Nat):vX lt xs lo (lo+1):=by
 intro p q x y h1 h2 h3 ex ey;have e:p=q:=by lia
 subst e;rw[ex]at ey;cases ey;exact C.refl (hp _ (aQq ex))
theorem N4(C:xh prog w A s κ P lt) {xs:Array je}(hp:∀x,x∈xs->P x) {lo n:Nat}(h:vX lt xs lo (lo+(n+1))) (hx:∀x y,xs[lo+(n+1)]?=some x->xs[lo+n]?=some y->lt x y=false) (hz:lo+(n+1)<xs.size):vX lt xs lo (lo+(n+2)):=by
 intro p q x y h1 h2 h3 ex ey
 by_cases c:q<lo+(n+1)
 .exact h p q x y h1 h2 c ex ey
 .have eq:q=lo+(n+1):=by lia
  subst eq
  by_cases c2:p=lo+(n+1)
  .subst c2;rw[ex]at ey;cases ey;exact C.refl (hp _ (aQq ex))
  .have em:xs[lo+n]?=some (xs[lo+n]'(by lia)):=ax (by lia)
   exact C.trans _ _ _ (hp _ (aQq ex)) (hp _ (aQq em)) (hp _ (aQq ey)) (h p (lo+n) _ _ h1 (by lia) (by lia) ex em) (hx _ _ ey em)
theorem zV(C:xh prog w A s κ P lt) {xs:Array je}(hp:∀x,x∈xs->P x) {lo n:Nat}(h:ER lt xs lo (lo+(n+1))) (hx:∀x y,xs[lo+(n+1)]?=some x->xs[lo+n]?=some y->lt y x=false) (hz:lo+(n+1)<xs.size):ER lt xs lo (lo+(n+2)):=by
 intro p q x y h1 h2 h3 ex ey
 by_cases c:q<lo+(n+1)
 .exact h p q x y h1 h2 c ex ey
 .have eq:q=lo+(n+1):=by lia
  subst eq
  by_cases c2:p=lo+(n+1)
  .subst c2;rw[ex]at ey;cases ey;exact C.refl (hp _ (aQq ex))
  .have em:xs[lo+n]?=some (xs[lo+n]'(by lia)):=ax (by lia)
   exact C.trans _ _ _ (hp _ (aQq ey)) (hp _ (aQq em)) (hp _ (aQq ex)) (hx _ _ ey em) (h p (lo+n) _ _ h1 (by lia) (by lia) ex em)
theorem Fz(C:xh prog w A s κ P lt) {lo nrem a:Nat}{st:SortSt}(hp:∀x,x∈ji st->P x) (hk:kindOf st=κ) (ha:1<=a) (han:a<=nrem) (hz:lo+nrem<=(ji st).size) (hs:vX lt (ji st) lo (lo+a)) :
  wpS (jf prog w) A E s (forIn [a:nrem] ((none,a):Option (Option Nat)×Nat) λ_ s=>VX lo s.2)
   (λc st'=>∃n,c=(none,n)/\st'=st/\a<=n/\n<=nrem/\vX lt (ji st) lo (lo+n)/\(n=nrem∨∃x y,(ji st)[lo+n]?=some x/\(ji st)[lo+n-1]?=some y/\lt x y=true)) st:=by
 refine jH (I:=λi c st'=>c=(none,i)/\st'=st/\a<=i/\i<=nrem/\vX lt (ji st) lo (lo+i)) ?step ?fin ⟨rfl,rfl,ae _,han,hs⟩
 case step =>
  rintro i c st' h1 h2 ⟨rfl,rfl,h3,h4,h5⟩;obtain⟨k,rfl⟩:∃k,i=k+1:=⟨i-1,by lia⟩
  have ex:(ji st')[lo+(k+1)]?=some ((ji st')[lo+(k+1)]'(by lia)):=ax (by lia)
  have ey:(ji st')[lo+(k+1)-1]?=some ((ji st')[lo+k]'(by lia)):=ax (by lia)
  refine jm (C.at ex ey (hp _ (aQq ex)) (hp _ (aQq ey)) hk ?_);cases e:lt ((ji st')[lo+(k+1)]'(by lia)) ((ji st')[lo+k]'(by lia)) with
  |true=>exact jq ⟨_,rfl,rfl,h3,h4,h5,.inr ⟨_,_,ex,ey,e⟩⟩
  |false =>
   refine jq ⟨rfl,rfl,by lia,h2,N4 C hp h5 (λx y hx hy=>?_) (by lia)⟩
   have hy':(ji st')[lo+(k+1)-1]?=some y:=hy;rw[ex]at hx;rw[ey]at hy';cases hx;cases hy';exact e
 case fin =>
  rintro c st' ⟨rfl,rfl,h3,h4,h5⟩;have e:max a nrem=nrem:=ie han;rw[e]at h3 h4 h5 ⊢;exact⟨nrem,rfl,rfl,h3,ae _,h5,.inl rfl⟩
theorem vU{i j:Nat}{st:SortSt}{Q:Unit->SortSt->Prop}(h:Q () (ju st (kE (ji st) i j ((j-i) / 2)))):wpS (jf prog w) A E s (kH i j) Q st:=by
 rw[reverseSlice'_eq];exact kQ h
structure xf (xs ys:Array je) (lo hi:Nat):Prop where
 pm:ys.Perm xs
 out:∀k,(k<lo∨hi<=k)->ys[k]?=xs[k]?
theorem xf.refl(xs:Array je) (lo hi:Nat):xf xs xs lo hi:=⟨gC.refl _,λ_ _=>rfl⟩
theorem xf.trans{xs ys zs:Array je}{lo hi:Nat}(a:xf xs ys lo hi) (b:xf ys zs lo hi):xf xs zs lo hi:=⟨b.pm.trans a.pm,λk h=>(b.out k h).trans (a.out k h)⟩
theorem xf.mono{xs ys:Array je}{lo hi hi':Nat}(a:xf xs ys lo hi) (h:hi<=hi'):xf xs ys lo hi':=⟨a.pm,λk q=>a.out k (by lia)⟩
theorem xf.size{xs ys:Array je}{lo hi:Nat}(a:xf xs ys lo hi):ys.size=xs.size:=a.pm.size_eq
theorem xf.mem{xs ys:Array je}{lo hi:Nat}(a:xf xs ys lo hi) {P:je->Prop}(h:∀x,x∈xs->P x):∀x,x∈ys->P x:=λx hx=>h x (a.pm.mem_iff.mp hx)
theorem rG{xs:Array je}{lo hi i j:Nat}(hj:j<=xs.size) (h1:lo<=i) (h2:j<=hi):xf xs (kE xs i j ((j-i) / 2)) lo hi :=
 ⟨mirror_perm _ _ _ _,λk hk=>by rw[jx hj,oT (by lia)]⟩
structure CR (lt:je->je->Bool) (as:Array je) (lo i q:Nat) (ys:Array je):Prop where
 b:xf as ys lo (lo+i)
 d:ER lt ys lo (lo+i)
 e:SW lt ys (lo+i-(q+1)) (lo+i)
 p:q+1<=i
theorem vW(C:xh prog w A s κ P lt) {ys:Array je}(hp:∀x,x∈ys->P x) {i j:Nat}(h:j<=i+1):SW lt ys i j:=by
 intro p q x y g1 g2 g3 g4 gx gy;have e:p=q:=by lia
 subst e;rw[gx]at gy;cases gy;exact C.refl (hp _ (aQq gx))
theorem SF(C:xh prog w A s κ P lt) {lo nrem k neq:Nat}{st:SortSt}{ys:Array je}(hp:∀x,x∈ji st->P x) (hk:kindOf st=κ) (hz:lo+nrem<=(ji st).size) (hi:k+1<nrem) (g:CR lt (ji st) lo (k+1) neq ys) :
  wpS (jf prog w) A E s (WO lo (k+1) neq) (λr zK=>∃m q zs,zK=ju st zs/\m<=nrem/\CR lt (ji st) lo m q zs/\(r = .done (none,m,q)∨r = .yield (none,m,q)/\m=k+1+1)) (ju st ys):=by
 have g1:=g.b;have g2:=g.d;have g3:=g.e;have g4:=g.p;have hpy:=g1.mem hp;have hsz:=g1.size;have ex:ys[lo+(k+1)]?=some (ys[lo+(k+1)]'(by lia)):=ax (by lia)
 have ey:ys[lo+(k+1)-1]?=some (ys[lo+k]'(by lia)):=ax (by lia)
 have px:=hpy _ (aQq ex);have py:=hpy _ (aQq ey);have des:lt (ys[lo+k]'(by lia)) (ys[lo+(k+1)]'(by lia))=false->ER lt ys lo (lo+(k+1+1)):=λe=>zV C hpy g2 (λx y hx hy=>by
  have hy':ys[lo+(k+1)-1]?=some y:=hy;rw[ex]at hx;rw[ey]at hy';cases hx;cases hy';exact e) (by lia)
 refine jm (C.at (st:=ju st ys) ex ey px py hk ?_);cases e:lt (ys[lo+(k+1)]'(by lia)) (ys[lo+k]'(by lia)) with
 |true =>
  have g2':=des (C.asym _ _ px py e);dsimp only;rw[oQ rfl]
  by_cases cn:neq>0
  .rw [oQ cn];refine jm (vU (jq ?_));have bt:xf (ji st) (kE ys (lo+(k+1)-(neq+1)) (lo+(k+1)) ((lo+(k+1)-(lo+(k+1)-(neq+1))) / 2)) lo (lo+(k+1)):=g1.trans (rG (by lia) (by lia) (ae _))
   exact⟨_,0,_,rfl,hi,⟨bt.mono (by lia),vJ (by lia) (by lia) (by lia) g3 g2',vW C (bt.mem hp) (by lia),by lia⟩,.inr ⟨rfl,rfl⟩⟩
  .rw [oT cn];exact jq ⟨_,0,ys,rfl,hi,⟨g1.mono (by lia),g2',vW C hpy (by lia),by lia⟩,.inr ⟨rfl,rfl⟩⟩
 |false =>
  dsimp only;rw[oT (by decide)]
  refine jm (C.at (st:=ju st ys) ey ex py px hk ?_);cases e':lt (ys[lo+k]'(by lia)) (ys[lo+(k+1)]'(by lia)) with
  |true=>exact jq ⟨_,neq,ys,rfl,bB hi,g,.inl rfl⟩
  |false =>
   refine jq ⟨_,neq+1,ys,rfl,hi,⟨g1.mono (by lia),des e',?_,by lia⟩,.inr ⟨rfl,rfl⟩⟩
   intro p q x y h1 h2 h3 h4 gx gy;have qx:=hpy _ (aQq gx);have qy:=hpy _ (aQq gy)
   by_cases cp:p=lo+(k+1)
   .subst cp;rw[ex]at gx;cases gx
    by_cases cq:q=lo+(k+1)
    .subst cq;rw[ex]at gy;cases gy;exact C.refl px
    .exact C.trans _ _ _ qy py px (g3 (lo+(k+1)-1) q _ _ (by lia) (by lia) (by lia) (by lia) ey gy) e
   .by_cases cq:q=lo+(k+1)
    .subst cq;rw[ex]at gy;cases gy;exact C.trans _ _ _ px py qx e' (g3 p (lo+(k+1)-1) _ _ (by lia) (by lia) (by lia) (by lia) gx ey)
    .exact g3 p q x y (by lia) (by lia) (by lia) (by lia) gx gy
abbrev U6(lt:je->je->Bool) (st:SortSt) (lo nrem:Nat) (Q:Option Nat->SortSt->Prop):=∀n xs,1<=n->n<=nrem->xf (ji st) xs lo (lo+n)->vX lt xs lo (lo+n)->Q (some n) (ju st xs)
theorem L9(C:xh prog w A s κ P lt) {lo nrem m:Nat}{st:SortSt}{ys:Array je}{Q:Option Nat->SortSt->Prop}(hp:∀x,x∈ji st->P x) (hk:kindOf st=κ) (hz:lo+nrem<=(ji st).size) (h:U6 lt st lo nrem Q)
  (h1:1<=m) (h2:m<=nrem) (b:xf (ji st) ys lo (lo+m)) (d:ER lt ys lo (lo+m)):wpS (jf prog w) A E s (V4 lo nrem m) Q (ju st ys):=by
 refine jm (vU ?_);have hsz:=b.size;have f1:=BQ (by lia) d
 have f2:=b.trans (rG (i:=lo) (j:=lo+m) (by lia) (ae _) (ae _))
 refine jm (jK (Fz (st:=ju st _) C (f2.mem hp) hk h1 h2 (aS hz (cK f2.size.symm)) f1) ?_);rintro c zK ⟨n',rfl,rfl,n1',n2',s1',_⟩;exact jq (h n' _ (by lia) n2' (f2.mono (by lia)) s1')
theorem N8(C:xh prog w A s κ P lt) {lo nrem n:Nat}{st:SortSt}{xs:Array je}{Q:Option Nat->SortSt->Prop}(hp:∀x,x∈ji st->P x) (hk:kindOf st=κ) (hz:lo+nrem<=(ji st).size) (h:U6 lt st lo nrem Q)
  (hn:n<nrem) (b:xf (ji st) xs lo (lo+n)) (d:ER lt xs lo (lo+(n+1))):wpS (jf prog w) A E s (VR lo nrem n) Q (ju st xs):=by
 refine jm (zT (jm (jK (jH
  (I:=λi c zK=>∃q ys,c=(none,i,q)/\zK=ju st ys/\i<=nrem/\CR lt (ji st) lo i q ys)
  (Q:=λc zK=>∃m q ys,c=(none,m,q)/\zK=ju st ys/\m<=nrem/\CR lt (ji st) lo m q ys)
  ?_ ?_ ⟨0,xs,rfl,rfl,hn,b.mono (by lia),d,vW C (b.mem hp) (by lia),by lia⟩) ?_)))
 .rintro i c zK _ hi ⟨q,ys,rfl,rfl,_,g⟩;obtain⟨k,rfl⟩:∃k,i=k+1:=⟨i-1,by have:=g.p;lia⟩
  refine jK (SF C hp hk hz hi g) λr zK hr=>?_
  obtain⟨m,q,zs,rfl,hm,g',rfl|⟨rfl,rfl⟩⟩:=hr
  .exact ⟨m,q,zs,rfl,rfl,hm,g'⟩
  .exact ⟨q,zs,rfl,rfl,hm,g'⟩
 .rintro c zK ⟨q,ys,rfl,rfl,hm,g⟩;exact⟨_,q,ys,rfl,rfl,hm,g⟩
 .rintro c zK ⟨m,q,ys,rfl,rfl,hm,g⟩;have hsz:=g.b.size;have gp:=g.p;dsimp only
  by_cases cn:q>0
  .rw [oQ cn];exact jm (vU (L9 (st:=st) (ys:=kE ys (lo+m-(q+1)) (lo+m) ((lo+m-(lo+m-(q+1))) / 2)) C hp hk hz h (by lia) hm (g.b.trans (rG (by lia) (by lia) (ae _))) (vJ (by lia) (by lia) (ae _) g.e g.d)))
  .rw [oT cn];exact L9 C hp hk hz h (by lia) hm g.b g.d
theorem E9(C:xh prog w A s κ P lt) {lo nrem:Nat}{st:SortSt}{Q:Option Nat->SortSt->Prop}(hp:∀x,x∈ji st->P x) (hk:kindOf st=κ) (h1:1<=nrem) (hz:lo+nrem<=(ji st).size)
  (h:∀n xs,1<=n->n<=nrem->xf (ji st) xs lo (lo+n)->vX lt xs lo (lo+n)->Q (some n) (ju st xs)):wpS (jf prog w) A E s (countRun' lo nrem) Q st:=by
 rw[Rp];refine jm (jK (Fz C hp hk (ae 1) h1 hz (Ph C hp lo)) ?_);rintro c st' ⟨n,rfl,rfl,n1,n2,sg1,brk⟩;dsimp only;have triv:Q (some n) st':=h n (ji st') n1 n2 (xf.refl _ _ _) sg1
 by_cases c1:n=nrem
 .rw [oQ (by simp[c1])]
  exact jq triv
 rw[oT (by simpa using c1)]
 obtain⟨xb,yb,exb,eyb,eb⟩:=brk.resolve_left c1;obtain⟨m,rfl⟩:∃m,n=m+1:=⟨n-1,by lia⟩
 have pxb:=hp _ (aQq exb);have pyb:=hp _ (aQq eyb);have go:SW lt (ji st') lo (lo+(m+1))->ER lt (ji st') lo (lo+(m+1+1)):=λe1 =>
  zV C hp (λp q x y g1 g2 g3 ex ey=>e1 p q x y g1 (by lia) (by lia) g3 ex ey) (λx y hx hy=>by
   have hy':(ji st')[lo+(m+1)-1]?=some y:=hy;rw[exb]at hx;rw[eyb]at hy';cases hx;cases hy';exact C.asym _ _ pxb pyb eb) (by lia)
 by_cases c2:m+1>1
 .rw [oQ c2];have ex:(ji st')[lo]?=some ((ji st')[lo]'(by lia)):=ax (by lia)
  have pex:=hp _ (aQq ex);refine jm (C.at ex eyb pex pyb hk ?_);cases e:lt ((ji st')[lo]'(by lia)) yb with
  |true=>exact jq triv
  |false =>
   dsimp only;rw[oT (by decide)]
   have eqv:SW lt (ji st') lo (lo+(m+1)):=by
    intro p q x y g1 g2 g3 g4 gx gy;have px:=hp _ (aQq gx);have py:=hp _ (aQq gy);have q1:=sg1 q (lo+(m+1)-1) _ _ g3 (by lia) (by lia) gy eyb
    have q2:=sg1 lo p _ _ (ae _) g1 g2 ex gx;exact C.trans _ _ _ py pex px (C.trans _ _ _ py pyb pex q1 e) q2
   exact jm (vU (N8 C hp hk hz h (by lia) (rG (by lia) (ae _) (ae _)) (vJ (by lia) (ae _) (by lia) eqv (go eqv))))
 .rw [oT c2];exact N8 C hp hk hz h (by lia) (xf.refl _ _ _) (go (vW C hp (by lia)))
end
section
variable {prog:jj}{w:jo}{A:Around}{E:Value->Shared->Prop}{s:Shared}{κ:jB}{P:je->Prop}{lt:je->je->Bool}
theorem Re(C:xh prog w A s κ P lt) {xs:Array je}(hp:∀x,x∈xs->P x) {lo k l:Nat}(hz:lo+k<xs.size) (hl:l<=k) (hs:vX lt xs lo (lo+k)) {x:je}(hx:xs[lo+k]?=some x)
  (h1:∀j y,j<l->xs[lo+j]?=some y->lt x y=false) (h2:∀j y,l<=j->j<k->xs[lo+j]?=some y->lt x y=true):vX lt (kW xs (lo+k) (k-l)) lo (lo+(k+1)):=by
 have px:=hp _ (aQq hx);have g:∀p,(kW xs (lo+k) (k-l))[p]?=if p=lo+l then some x else if lo+l<p/\p<=lo+k then xs[p-1]? else xs[p]?:=λp=>by
  rw[kO hz (k-l) (by lia) p,show lo+k-(k-l)=lo+l by lia,hx]
 intro p q u v a1 a2 a3 eu ev;rw[g]at eu ev
 by_cases cp:p=lo+l
 .rw [oQ cp]at eu;cases eu
  by_cases cq:q=lo+l
  .rw [oQ cq]at ev;cases ev;exact C.refl px
  .rw [oT cq,oQ ⟨by lia,by lia⟩]at ev
   have pv:=hp _ (aQq ev);exact C.asym _ _ px pv (h2 (q-1-lo) v (by lia) (by lia) (by rw[show lo+(q-1-lo)=q-1 by lia];exact ev))
 .rw [oT cp]at eu
  by_cases cp2:lo+l<p/\p<=lo+k
  .rw [oQ cp2]at eu;rw[oT (by lia),oQ ⟨by lia,by lia⟩]at ev
   exact hs (p-1) (q-1) _ _ (by lia) (by lia) (by lia) eu ev
  .rw [oT cp2]at eu
   by_cases cq:q=lo+l
   .rw [oQ cq]at ev;cases ev;exact h1 (p-lo) u (by lia) (by rw[show lo+(p-lo)=p by lia];exact eu)
   .rw [oT cq]at ev
    by_cases cq2:lo+l<q/\q<=lo+k
    .rw [oQ cq2]at ev;exact hs p (q-1) _ _ a1 (by lia) (by lia) eu ev
    .rw [oT cq2]at ev;exact hs p q _ _ a1 a2 (by lia) eu ev
theorem C1{xs:Array je}{lo k l n:Nat}(hz:lo+k<xs.size) (hl:l<=k) (hn:k<n):xf xs (kW xs (lo+k) (k-l)) lo (lo+n) :=
 ⟨bubble_perm _ _ _,λp hp=>by rw[kO hz (k-l) (by lia) p,oT (by lia),oT (by lia)]⟩
theorem Gy{src dst:Nat}{st:SortSt}{Q:Unit->SortSt->Prop}(h:Q () (ju st (kW (ji st) src (src-dst)))):wpS (jf prog w) A E s (moveDown' src dst) Q st:=by
 rw[moveDown'_eq];exact kQ h
theorem HQ(C:xh prog w A s κ P lt) {lo n ok:Nat}{st:SortSt}{Q:Bool->SortSt->Prop}(hp:∀x,x∈ji st->P x) (hk:kindOf st=κ) (h1:1<=ok) (h2:ok<=n) (hz:lo+n<=(ji st).size) (hs:vX lt (ji st) lo (lo+ok))
  (h:∀xs,xf (ji st) xs lo (lo+n)->vX lt xs lo (lo+n)->Q true (ju st xs)):wpS (jf prog w) A E s (binarySort' lo n ok) Q st:=by
 rw[binarySort'_eq];dsimp only;rw[iD h1];refine jm (jK (jH (I:=λk c st'=>∃ys,c=(none,())/\st'=ju st ys/\xf (ji st) ys lo (lo+n)/\vX lt ys lo (lo+k)/\k<=n)
  (Q:=λc st'=>∃ys,c=(none,())/\st'=ju st ys/\xf (ji st) ys lo (lo+n)/\vX lt ys lo (lo+n)) ?step ?fin ⟨ji st,rfl,rfl,xf.refl _ _ _,hs,h2⟩) ?post)
 case fin =>
  rintro c st' ⟨ys,rfl,rfl,b1,s1,q⟩;have e:max ok n=n:=by lia
  rw[e]at s1;exact⟨ys,rfl,rfl,b1,s1⟩
 case post =>
  rintro c st' ⟨ys,rfl,rfl,b1,s1⟩;exact jq (h ys b1 s1)
 case step =>
  rintro k c st' hk1 hk2 ⟨ys,rfl,rfl,b1,s1,q⟩;have hpy:=b1.mem hp;have hsz:=b1.size;have ex:ys[lo+k]?=some (ys[lo+k]'(by lia)):=ax (by lia)
  have px:=hpy _ (aQq ex);refine jm (jK (jH (I:=λi c st'=>∃l r,c=(none,l,r)/\st'=ju st ys/\l<=r/\r<=k/\(∀j y,j<l->ys[lo+j]?=some y->lt (ys[lo+k]'(by lia)) y=false)/\(∀j y,r<=j->j<k->ys[lo+j]?=some y->lt (ys[lo+k]'(by lia)) y=true)/\(r-l)+i<=k)
   (Q:=λc st'=>∃l r,c=(none,l,r)/\st'=ju st ys/\l=r/\r<=k/\(∀j y,j<l->ys[lo+j]?=some y->lt (ys[lo+k]'(by lia)) y=false)/\(∀j y,r<=j->j<k->ys[lo+j]?=some y->lt (ys[lo+k]'(by lia)) y=true))
   ?step1 ?fin1 ⟨0,k,rfl,rfl,aG _,ae _,λj y hj=>absurd hj (bT _),λj y g1 g2=>absurd g2 (by lia),by lia⟩) ?post1)
  case fin1 =>
   rintro c st' ⟨l,r,rfl,rfl,a1,a2,a3,a4,a5⟩;exact⟨l,r,rfl,rfl,by lia,a2,a3,a4⟩
  case step1 =>
   rintro i c st' _ hi ⟨l,r,rfl,rfl,a1,a2,a3,a4,a5⟩;dsimp only
   by_cases c1:l ≥ r
   .rw [oQ c1];exact jq ⟨l,r,rfl,rfl,by lia,a2,a3,a4⟩
   rw[oT c1];have em:ys[lo+(l+r) / 2]?=some (ys[lo+(l+r) / 2]'(by lia)):=ax (by lia)
   have pm:=hpy _ (aQq em);refine jm (C.at (st:=ju st ys) ex em px pm hk ?_);cases e:lt (ys[lo+k]'(by lia)) (ys[lo+(l+r) / 2]'(by lia)) with
   |true =>
    dsimp only;rw[oQ rfl];refine jq ⟨l,_,rfl,rfl,by lia,by lia,a3,λj y g1 g2 ey=>?_,by lia⟩
    have py:=hpy _ (aQq ey);cases e':lt (ys[lo+k]'(by lia)) y with
    |true=>rfl
    |false =>
     have q1:=s1 (lo+(l+r) / 2) (lo+j) _ _ (by lia) (by lia) (by lia) em ey
     have q2:=C.trans _ _ _ pm py px q1 e';rw[e]at q2;cases q2
   |false =>
    dsimp only;rw[oT (by decide)]
    refine jq ⟨_,r,rfl,rfl,by lia,a2,λj y g1 ey=>?_,a4,by lia⟩
    have py:=hpy _ (aQq ey);exact C.trans _ _ _ py pm px (s1 (lo+j) (lo+(l+r) / 2) _ _ (by lia) (by lia) (by lia) ey em) e
  case post1 =>
   rintro c st' ⟨l,r,rfl,rfl,rfl,a2,a3,a4⟩;dsimp only;refine jm (Gy (jq ?_));have e:lo+k-(lo+l)=k-l:=by lia
   show ∃ys',_/\ju st (kW ys (lo+k) (lo+k-(lo+l)))=ju st ys'/\_;rw[e];exact⟨_,rfl,rfl,b1.trans (C1 (by lia) a2 hk2),Re C hpy (by lia) a2 s1 ex a3 a4,hk2⟩
end
section
variable {prog:jj}{w:jo}{A:Around}{E:Value->Shared->Prop}{s:Shared}{κ:jB}{P:je->Prop}{lt:je->je->Bool}
abbrev Ao(κ:jB) (xs:Array je) (p:Array (Nat×Nat×Nat)) (g:Nat):SortSt:=SortSt.mk' κ xs p g none
end
end MrS
namespace Xe
open PySem
abbrev VQ:List Value:=[.type "ValueError", .type "Exception", .type "BaseException", .type "object"]
end Xe
namespace Mr
abbrev St:=L2.St
open PySem PySem.Spec PyProof.Rows L2
section
variable {X:Cx}{nF:List (Addr×Obj)}{σ:List (Option V)}{H H':Hp}{s:Shared}{h':Heap}
theorem GW{t':Nat}{fp:List Addr}{T:Addr}{o:HO}(I:Inv X nF σ H s) (k:∀b u,b∉fp->s.heap.get? b=some u->h'.get? b=some u)
  (hf:∀b∈fp,uf X nF H b) (hT:s.heap.objs.size<=T) (new:qp X.prog X.w (qr H T o) h' T o):Inv X nF σ (qr H T o) { s with heap:=h',toks:=t' }:=by
 have hn:H T=none:=I.hok.fresh hT;have nf:∀b u,H b=some u->b∉fp:=λb u e z=>by rw[(hf b z).1]at e;cases e
 refine I.step (g':=s.gens) (d':=s.drawn) (ch:=fp) (λb hb=>?_) (λb u _ _ hc e _=>k b u hc e) (λb u _ _ hc e _=>⟨u.slots,k b u hc e⟩)
  (λb u _ e n=>by rw[nX (ao (aE (ag e) hT))];exact n) (λb u hc e=>⟨u,k b u hc e⟩)
  (λb xs e=>by rw[nX (pX e hn)];exact e) (λb u xs e=>by rw[nX (pX e hn)];exact e) (λb _ e=>by rw[nX (pX e hn)];exact e) (λm hm=>?_) (λb u e=>?_) I.bare
 .obtain ⟨_,f1,_,f3,f4,f5⟩:=hf b hb;exact⟨f3,f1,f4,f5⟩
 .obtain ⟨u,es,ep,ho,r⟩:=hm;exact⟨u,es,ep,k _ u (λz=>(hf _ z).2.1 rfl) ho,r⟩
 .by_cases hb:b=T
  .subst hb;rw[oz]at e;cases e;exact new
  .rw [nX hb]at e;refine(I.hok b u e).stay (λc v hc q=>k c v ?_ q) (λc q=>by rw[nX (pX q hn)];exact q) (λc xs q=>by rw[nX (pX q hn)];exact q) λc xs q=>by rw[nX (pX q hn)];exact q
   rcases hc with rfl|hc
   .exact nf _ u e
   .exact nf c _ hc
theorem uv{t':Nat}{fp:List Addr}(I:Inv X nF σ H s) (k:∀b u,b∉fp->s.heap.get? b=some u->h'.get? b=some u)
  (hf:∀b∈fp,uf X nF H b):Inv X nF σ H { s with heap:=h',toks:=t' }:=by
 have nf:∀b u,H b=some u->b∉fp:=λb u e z=>by rw[(hf b z).1]at e;cases e
 refine I.step (g':=s.gens) (d':=s.drawn) (ch:=fp) (λb hb=>?_) (λb u _ _ hc e _=>k b u hc e) (λb u _ _ hc e _=>⟨u.slots,k b u hc e⟩)
  (λ_ _ _ _ n=>n) (λb u hc e=>⟨u,k b u hc e⟩) (λ_ _ e=>e) (λ_ _ _ e=>e) (λ_ _ e=>e) (λm hm=>?_) (λb u e=>?_) I.bare
 .obtain ⟨_,f1,_,f3,f4,f5⟩:=hf b hb;exact⟨f3,f1,f4,f5⟩
 .obtain ⟨u,es,ep,ho,r⟩:=hm;exact⟨u,es,ep,k _ u (λz=>(hf _ z).2.1 rfl) ho,r⟩
 .refine (I.hok b u e).stay (λc v hc q=>k c v ?_ q) (λ_ q=>q) (λ_ _ q=>q) λ_ _ q=>q
  rcases hc with rfl|hc
  .exact nf _ u e
  .exact nf c _ hc
theorem ED{a b:Addr}{xs:List V}(I:Inv X nF σ H s) (h:qw X.K H a xs) (f:uf X nF H b):a≠b:=by
 intro e;subst e;obtain⟨f0,_,_,f3,_⟩:=f;rcases h with (h|⟨o,h⟩)|⟨o,its,n,hk,_⟩
 .rw [f0]at h;cases h
 .rw [f0]at h;cases h
 .have hb:=I.mod.kin a o hk;rcases f3 with z|z
  .exact I.ok.noex a o hb z
  .exact absurd (aE (ag (I.ok.bs a o hb).1) z) (cu _)
end
def VF(K:W.Frag) (a:Addr):It :=
  ⟨λi H=>∃xs x,qw K H a xs/\xs[i]?=some x,
   λi H v H'=>∃T x,H T=none/\v = .ref T/\H'=qr H T (.tup [.int i,x])/\∀xs,qw K H a xs->xs[i]?=some x,
   λi H=>∃xs,qw K H a xs/\xs.length<=i⟩
theorem Lw{P:jj}{w:jo}{K:W.Frag}{elts:List Expr}{k:Nat}{pos:Pos}(a e it:Addr) (hne:e≠it) :
  Lm P w K (.Tuple elts k pos) (VF K a) [e,it] e (λi h=>(∃old,IsEnum h e it i old)/\h.IsListIter it a i) where
 mem:=by simp
 obj:=λi h st b hb=>by
  obtain⟨⟨old,he⟩,o,ho,_,d⟩:=st;rcases ah.mp hb with rfl|hb
  .exact ⟨_,he,λv z=>by
    have z':Data.fields _=Data.cell v:=z;cases z'⟩
  .have e:b=it:=by simpa using hb
   subst e;exact⟨o,ho,λv z=>by rw[d]at z;cases z⟩
 keep:=λi h h' st kp=>by
  obtain⟨⟨old,he⟩,hit⟩:=st;exact⟨⟨old,kp e (by simp) _ he⟩,hit.at λo q=>kp it (by simp) o q⟩
 item:=by
  intro X hP hw hK hc i nF s σ H E I hf st hg;subst hP hw hK;obtain⟨xs,x,hq,hx⟩:=hg;obtain⟨its,rv,p,hz⟩:=I.list hq;obtain⟨u,hu,ru⟩:=rv.get hx;obtain⟨⟨old,he⟩,hit⟩:=st;have hil:it<s.heap.objs.size:=by obtain⟨_,q,_⟩:=hit;exact ag q
  have hel:e<s.heap.objs.size:=ag he;refine wpAny_pyNext_enum_item he hit p.isList (x:=u) (by simpa using hu) hne λh1 he1 hit1 ht1 hz1 hk1=>⟨_,rfl,?_⟩
  refine wpAny_letOwnedTupleGo_enum he1 λh2 he2 hs2=>?_
  replace hs2:bS e h1 h2:=hs2;have hn:H s.heap.objs.size=none:=I.hok.fresh (ae _);refine⟨.ref s.heap.objs.size,qr H s.heap.objs.size (.tup [.int i,x]),?_,rfl,⟨_,x,hn,rfl,rfl,λys hy=>by rw[I.list_inj hy hq];exact hx⟩,⟨⟨_,by simpa using he2⟩,hit1.extBut hs2.extBut (Ne.symm hne)⟩,λb hb=>?_⟩
  .show L2.Inv X nF σ _ { s with heap:=h2,toks:=s.toks+1 }
   refine GW (s:=s) (fp:=[e,it]) I (λb o hb q=>?_) hf (ae _) ⟨by simp only[lCq,bK];rw[jt];decide,[.int i s.toks,u],.cons ⟨_,rfl⟩ (.cons ru .nil),_,hs2.extBut _ _ (aZ hel) ht1,rfl,_,rfl⟩
   have b1:b≠e:=λz=>hb (by simp[z])
   exact hs2.extBut b o b1 (hk1 b o b1 (λz=>hb (by simp[z])) q)
  .have hb2:b<s.heap.objs.size:=by
    rcases ah.mp hb with rfl|hb
    .exact hel
    .have e:b=it:=by simpa using hb
     subst e;exact hil
   rw[nX (ao hb2)];exact(hf b hb).1
 done:=by
  intro X hP hw hK hc i nF s σ H E I hf st hg;subst hP hw hK;obtain⟨xs,hq,hx⟩:=hg;obtain⟨its,rv,p,hz⟩:=I.list hq;obtain⟨⟨old,he⟩,hit⟩:=st;have hl:=rv.length;exact wpAny_pyNext_enum_end (I.ok.hd hc) he hit p.isList (by simp;lia) λh1 eb=>⟨rfl,uv (t':=s.toks) (fp:=[e,it]) I (λb o hb q=>eb b o (λz=>hb (by simp[z])) q) hf⟩
 self:=λ_ _ _ _ _ st h=>by
  obtain⟨⟨old,he⟩,_⟩:=st;exact wpAny_pyIter_enum he h
def US(K:W.Frag) (a b:Addr):It :=
  ⟨λi H=>∃xs ys x y,qw K H a xs/\qw K H b ys/\xs[i]?=some x/\ys[i]?=some y,
   λi H v H'=>∃T x y,H T=none/\v = .ref T/\H'=qr H T (.tup [x,y])/\(∀xs,qw K H a xs->xs[i]?=some x)/\∀ys,qw K H b ys->ys[i]?=some y,
   λi H=>∃xs ys,qw K H a xs/\qw K H b ys/\(xs.length<=i∨ys.length<=i)⟩
structure Z5 (z TI TO i1 i2:Addr):Prop where
 a:TI≠z
 b:TO≠z
 c:i1≠z
 d:i2≠z
 e:TI≠TO
 f:TI≠i1
 g:TI≠i2
 h:TO≠i1
 i:TO≠i2
 j:i1≠i2
theorem Vg(n:Nat):Z5 (n+4) (n+2) (n+3) n (n+1) where
 a:=λ(q:n+2=n+4)=>by lia
 b:=λ(q:n+3=n+4)=>by lia
 c:=λ(q:n=n+4)=>by lia
 d:=λ(q:n+1=n+4)=>by lia
 e:=λ(q:n+2=n+3)=>by lia
 f:=λ(q:n+2=n)=>by lia
 g:=λ(q:n+2=n+1)=>by lia
 h:=λ(q:n+3=n)=>by lia
 i:=λ(q:n+3=n+1)=>by lia
 j:=λ(q:n=n+1)=>by lia
theorem M9{P:jj}{w:jo}{K:W.Frag}{elts:List Expr}{k:Nat}{pos:Pos}(l1 l2 z TI TO i1 i2:Addr) (d:Z5 z TI TO i1 i2) :
  Lm P w K (.Tuple elts k pos) (US K l1 l2) [z,TI,TO,i1,i2] z
   (λi h=>IsZip h z TI TO .none/\ki h TI (.ref i1) (.ref i2)/\(∃a b,ki h TO a b)/\h.IsListIter i1 l1 i/\h.IsListIter i2 l2 i) where
 mem:=by simp
 obj:=λi h st b hb=>by
  obtain⟨hz,hTI,⟨a,c,hTO⟩,⟨o1,q1,_,d1⟩,⟨o2,q2,_,d2⟩⟩:=st;simp only[ah,bN,or_false]at hb;rcases hb with rfl|rfl|rfl|rfl|rfl
  .exact ⟨_,hz,λv x=>by
    have x':Data.fields _=Data.cell v:=x;cases x'⟩
  .exact ⟨_,hTI,λv x=>by
    have x':Data.seq _ _=Data.cell v:=x;cases x'⟩
  .exact ⟨_,hTO,λv x=>by
    have x':Data.seq _ _=Data.cell v:=x;cases x'⟩
  .exact ⟨o1,q1,λv x=>by rw[d1]at x;cases x⟩
  .exact ⟨o2,q2,λv x=>by rw[d2]at x;cases x⟩
 keep:=λi h h' st kp=>by
  obtain⟨hz,hTI,⟨a,c,hTO⟩,h1,h2⟩:=st;exact⟨kp z (by simp) _ hz,kp TI (by simp) _ hTI,⟨a,c,kp TO (by simp) _ hTO⟩,h1.at λo q=>kp i1 (by simp) o q,h2.at λo q=>kp i2 (by simp) o q⟩
 item:=by
  intro X hP hw hK hc i nF s σ H E I hf st hg;subst hP hw hK;obtain⟨xs,ys,x,y,hq1,hq2,hx,hy⟩:=hg;obtain⟨its1,rv1,p1,_⟩:=I.list hq1;obtain⟨its2,rv2,p2,_⟩:=I.list hq2;obtain⟨u1,hu1,ru1⟩:=rv1.get hx;obtain⟨u2,hu2,ru2⟩:=rv2.get hy;obtain⟨hz,hTI,⟨a,c,hTO⟩,h1,h2⟩:=st;have n1:∀b∈[z,TI,TO,i1,i2],l1≠b:=λb hb=>ED I hq1 (hf b hb)
  have n2:∀b∈[z,TI,TO,i1,i2],l2≠b:=λb hb=>ED I hq2 (hf b hb)
  have D:ky z TI TO i1 i2 l1 l2:=⟨d.a,d.b,d.c,d.d,d.e,d.f,d.g,d.h,d.i,d.j,n1 z (by simp),n1 TO (by simp),n1 i1 (by simp),n1 i2 (by simp),n2 z (by simp),n2 TO (by simp),n2 i1 (by simp),n2 i2 (by simp)⟩
  have hzl:z<s.heap.objs.size:=ag hz;refine mr D hz hTI hTO h1 h2 p1.isList p2.isList (x:=u1) (y:=u2) (by simpa using hu1) (by simpa using hu2) λg1 hz1 hTO1 g11 g12 hT1 hsz1 hk1=>⟨_,rfl,?_⟩
  refine wpAny_letOwnedTupleGo_zip hz1 λg2 hz2 hs2=>?_
  replace hs2:bS z g1 g2:=hs2;have hn:H s.heap.objs.size=none:=I.hok.fresh (ae _);refine⟨.ref s.heap.objs.size,qr H s.heap.objs.size (.tup [x,y]),?_,rfl,⟨_,x,y,hn,rfl,rfl,λws hw=>by rw[I.list_inj hw hq1];exact hx,λws hw=>by rw[I.list_inj hw hq2];exact hy⟩,
   ⟨hz2,hs2.extBut _ _ d.a (hk1 _ _ d.a d.e d.f d.g hTI),⟨_,_,hs2.extBut _ _ d.b hTO1⟩,g11.extBut hs2.extBut d.c,g12.extBut hs2.extBut d.d⟩,λb hb=>?_⟩
  .show L2.Inv X nF σ _ { s with heap:=g2,toks:=s.toks }
   refine GW (s:=s) (fp:=[z,TI,TO,i1,i2]) I (λb o hb q=>?_) hf (ae _) ⟨by simp only[lCq,bK];rw[jt];decide,[u1,u2],.cons ru1 (.cons ru2 .nil),_,hs2.extBut _ _ (aZ hzl) hT1,rfl,_,rfl⟩
   have b1:b≠z:=λe=>hb (by simp[e])
   exact hs2.extBut b o b1 (hk1 b o b1 (λe=>hb (by simp[e])) (λe=>hb (by simp[e])) (λe=>hb (by simp[e])) q)
  .have hb2:b<s.heap.objs.size:=by
    have hb':=hb;simp only[ah,bN,or_false]at hb';rcases hb' with rfl|rfl|rfl|rfl|rfl
    .exact hzl
    .exact ag hTI
    .exact ag hTO
    .obtain ⟨_,q,_⟩:=h1;exact ag q
    .obtain ⟨_,q,_⟩:=h2;exact ag q
   rw[nX (ao hb2)];exact(hf b hb).1
 done:=by
  intro X hP hw hK hc i nF s σ H E I hf st hg;subst hP hw hK;obtain⟨xs,ys,hq1,hq2,hx⟩:=hg;obtain⟨its1,rv1,p1,_⟩:=I.list hq1;obtain⟨its2,rv2,p2,_⟩:=I.list hq2;obtain⟨hz,hTI,⟨a,c,hTO⟩,h1,h2⟩:=st;have n1:∀b∈[z,TI,TO,i1,i2],l1≠b:=λb hb=>ED I hq1 (hf b hb)
  have n2:∀b∈[z,TI,TO,i1,i2],l2≠b:=λb hb=>ED I hq2 (hf b hb)
  have D:ky z TI TO i1 i2 l1 l2:=⟨d.a,d.b,d.c,d.d,d.e,d.f,d.g,d.h,d.i,d.j,n1 z (by simp),n1 TO (by simp),n1 i1 (by simp),n1 i2 (by simp),n2 z (by simp),n2 TO (by simp),n2 i1 (by simp),n2 i2 (by simp)⟩
  have e1:=rv1.length;have e2:=rv2.length;refine mF (I.ok.hd hc) D hz hTI hTO h1 h2 p1.isList p2.isList ?_ λg1 eb=>⟨rfl,uv (t':=s.toks) (fp:=[z,TI,TO,i1,i2]) I (λb o hb q=>eb b o (λe=>hb (by simp[e])) (λe=>hb (by simp[e])) (λe=>hb (by simp[e])) (λe=>hb (by simp[e])) q) hf⟩
  rcases hx with hx|hx
  .exact .inl (by simp;lia)
  .exact .inr (by simp;lia)
 self:=λ_ _ _ _ _ st h=>lO st.1 h
section
variable {X:Cx}{elts:List Expr}{kk:Nat}{tpos:Pos}
def Rx(K:W.Frag) (ta:TA):TI:=λσ H R=>ta σ H λvs H1=>∃a,vs=[.ref a]/\(∃xs,qw K H1 a xs)/\R (VF K a) H1
theorem JF{e:Expr}{ta:TA}{p pos:Pos}(hg:Gl X "enumerate") (hm:X.mg "enumerate" = none) (ha:PA X [e] ta) (hs:jr [e] X.env=[(false,eval e X.env)]:=by rfl) :
  PI X (.Tuple elts kk tpos) (.Call (.Name "enumerate" p) [e] [] pos) (Rx X.K ta):=by
 intro nF s σ H R I h;refine Call_ (wg I hg hm boot_enumerate (bI (rM (ha pos nF s σ H _ I h) λus s1 hz1=>?_) hs rfl))
 obtain⟨vs,H1,I1,r1,q1⟩:=hz1;obtain⟨a,e1,⟨xs,hq⟩,q⟩:=q1;subst e1;obtain⟨u,rfl,ru⟩:=uy r1;cases ru;obtain⟨its,rv,p1,hz⟩:=I1.list hq;refine call_enumerate_list p1.isList λg he hit hsz hk=>wpAny_pyIter_enum he ?_
 refine⟨s1.heap.objs.size+1,[s1.heap.objs.size+1,s1.heap.objs.size],_,_,H1,rfl,I1.kept (t':=s1.toks) hk,Lw a _ _ (ij _),⟨⟨_,he⟩,hit⟩,λb hb=>?_,q⟩
 have hb2:s1.heap.objs.size<=b:=by
  simp only[ah,bN,or_false]at hb;rcases hb with rfl|rfl
  .exact aT _
  .exact ae _
 exact I1.fpOk hb2 (I1.hok.fresh hb2)
def UB(K:W.Frag) (ta:TA):TI:=λσ H R=>ta σ H λvs H1=>∃a b,vs=[.ref a,.ref b]/\(∃xs,qw K H1 a xs)/\(∃ys,qw K H1 b ys)/\R (US K a b) H1
theorem NF{e f:Expr}{ta:TA}{p pos:Pos}(hg:Gl X "zip") (hm:X.mg "zip" = none) (ha:PA X [e,f] ta) (hs:jr [e,f] X.env=[(false,eval e X.env),(false,eval f X.env)]:=by rfl) (hs2:jr [f] X.env=[(false,eval f X.env)]:=by rfl) :
  PI X (.Tuple elts kk tpos) (.Call (.Name "zip" p) [e,f] [] pos) (UB X.K ta):=by
 intro nF s σ H R I h;refine Call_ (wg I hg hm boot_zip (bI (rM (ha pos nF s σ H _ I h) λus s1 ⟨vs,H1,I1,r1,q1⟩=>?_) (by rw[hs,hs2]) (by rw[hs2];rfl)))
 obtain⟨a,b,e1,⟨xs,hq1⟩,⟨ys,hq2⟩,q⟩:=q1;subst e1;obtain⟨u,v,rfl,ru,rv⟩:=N5 r1;cases ru;cases rv;obtain⟨its1,_,p1,_⟩:=I1.list hq1;obtain⟨its2,_,p2,_⟩:=I1.list hq2;refine call_zip_2 p1.isList p2.isList λg hz hTI hTO h1 h2 hsz hk=>lO hz ?_
 refine⟨s1.heap.objs.size+4,[s1.heap.objs.size+4,s1.heap.objs.size+2,s1.heap.objs.size+3,s1.heap.objs.size,s1.heap.objs.size+1],_,_,H1,rfl,I1.kept (t':=s1.toks) hk,
  M9 a b _ _ _ _ _ (Vg s1.heap.objs.size),⟨hz,hTI,⟨_,_,hTO⟩,h1,h2⟩,λc hc=>?_,q⟩
 have hb2:s1.heap.objs.size<=c:=by
  simp only[ah,bN,or_false]at hc;rcases hc with rfl|rfl|rfl|rfl|rfl
  .exact dn _ _
  .exact dn _ _
  .exact dn _ _
  .exact ae _
  .exact dn _ _
 exact I1.fpOk hb2 (I1.hok.fresh hb2)
end
theorem O6{K:W.Frag}{a:Addr}{xs:List V}{i1 i2:Nat}{tb:TS}{D:zy}{σ:St}{H:Hp}(Pv:Nat->St->Hp->Prop) (h0:Pv 0 σ H) (hl:∀i σ H,i<=xs.length->Pv i σ H->qw K H a xs)
  (hs:∀i x σ H T,xs[i]?=some x->Pv i σ H->H T=none->tb { D with nx:=Pv (i+1),ct:=Pv (i+1),bk:=D.nx } ((σ.set i1 (some (.int i))).set i2 (some x)) (qr H T (.tup [.int i,x]))) (hd:∀σ H,Pv xs.length σ H->D.nx σ H) :
  ∃W:Nat->Nat->St->Hp->Prop,(∃m,W 0 m σ H)/\∀i m σ H,W i m σ H ->
   ((VF K a).stop i H/\D.nx σ H)∨((VF K a).go i H/\∃N:St->Hp->Prop,(∀σ' H',N σ' H'->∃m',m'<m/\W (i+1) m' σ' H')/\∀x H',(VF K a).yld i H x H'->KZ K 2 (xK (sP i1) (xK (sP i2) Lo)) x σ H' λσ2 H2=>tb { D with nx:=N,ct:=N,bk:=D.nx } σ2 H2):=by
 refine⟨λi m σ H=>m=xs.length-i/\i<=xs.length/\Pv i σ H,⟨xs.length,by simp,aG _,h0⟩,?_⟩
 rintro i m σ H ⟨rfl,hi,p⟩;have q:=hl i σ H hi p
 by_cases hlt:i<xs.length
 .refine .inr ⟨⟨xs,xs[i],q,by simp[hlt]⟩,Pv (i+1),λσ' H' p'=>⟨xs.length-(i+1),by lia,rfl,hlt,p'⟩,λv H' y=>?_⟩
  obtain⟨T,x,hT,rfl,rfl,hx⟩:=y;exact⟨T,_,rfl,As.of oz,rfl,_,_,rfl,_,_,rfl,rfl,hs i x σ H T (hx xs q) p hT⟩
 .have e:i=xs.length:=by lia
  subst e;exact .inl ⟨⟨xs,q,ae _⟩,hd σ H p⟩
theorem Po{K:W.Frag}{a b:Addr}{xs ys:List V}{i1 i2:Nat}{tb:TS}{D:zy}{σ:St}{H:Hp}(Pv:Nat->St->Hp->Prop) (h0:Pv 0 σ H) (hlen:xs.length=ys.length)
  (hl:∀i σ H,i<=xs.length->Pv i σ H->qw K H a xs/\qw K H b ys)
  (hs:∀i x y σ H T,xs[i]?=some x->ys[i]?=some y->Pv i σ H->H T=none->tb { D with nx:=Pv (i+1),ct:=Pv (i+1),bk:=D.nx } ((σ.set i1 (some x)).set i2 (some y)) (qr H T (.tup [x,y]))) (hd:∀σ H,Pv xs.length σ H->D.nx σ H) :
  ∃W:Nat->Nat->St->Hp->Prop,(∃m,W 0 m σ H)/\∀i m σ H,W i m σ H ->
   ((US K a b).stop i H/\D.nx σ H)∨((US K a b).go i H/\∃N:St->Hp->Prop,(∀σ' H',N σ' H'->∃m',m'<m/\W (i+1) m' σ' H')/\∀x H',(US K a b).yld i H x H'->KZ K 2 (xK (sP i1) (xK (sP i2) Lo)) x σ H' λσ2 H2=>tb { D with nx:=N,ct:=N,bk:=D.nx } σ2 H2):=by
 refine⟨λi m σ H=>m=xs.length-i/\i<=xs.length/\Pv i σ H,⟨xs.length,by simp,aG _,h0⟩,?_⟩
 rintro i m σ H ⟨rfl,hi,p⟩;obtain⟨q1,q2⟩:=hl i σ H hi p
 by_cases hlt:i<xs.length
 .refine .inr ⟨⟨xs,ys,xs[i],ys[i],q1,q2,by simp[hlt],by simp[hlen ▸ hlt]⟩,Pv (i+1),λσ' H' p'=>⟨xs.length-(i+1),by lia,rfl,hlt,p'⟩,λv H' y=>?_⟩
  obtain⟨T,x,y,hT,rfl,rfl,hx,hy⟩:=y;exact⟨T,_,rfl,As.of oz,rfl,_,_,rfl,_,_,rfl,rfl,hs i x y σ H T (hx xs q1) (hy ys q2) p hT⟩
 .have e:i=xs.length:=by lia
  subst e;exact .inl ⟨⟨xs,ys,q1,q2,.inl (ae _)⟩,hd σ H p⟩
section
variable {X:Cx}
theorem Ce{nF:List (Addr×Obj)}{σ:St}{H:Hp}{s:Shared}{a:Addr}{ns:List Int}(I:Inv X nF σ H s) (h:qw X.K H a (ns.map V.int)) :
  ∃vs:List Value,s.heap.IsList a vs.toArray/\jA vs ns/\ns.length<=jk:=by
 obtain⟨its,r,p,z⟩:=I.list h;rw[lMq]at z;exact⟨its,p.isList,uh r,z⟩
theorem LG(hc:X.calm=true):vM X (.builtin "min") (λxs H Q=>∃(a:Addr) (ns:List Int),xs=[.ref a]/\qw X.K H a (ns.map V.int)/\0<ns.length/\∀M,M∈ns->(∀x,x∈ns->M<=x)->Q (.int M) H):=by
 intro nF s σ H xs us Q I r h;obtain⟨a,ns,rfl,hS,hne,q⟩:=h;obtain⟨u,rfl,ru⟩:=uy r;cases ru;obtain⟨vs,hl,hi,_⟩:=Ce I hS;obtain⟨xs,e⟩:=hi.allInts.items;have hns:ns=xs.toList.map (·.1):=by
  rw[←hi.numsOf,←nums_intItems,←e]
 have hsz:0<xs.size:=by
  have h3:=hne;rw[hns,lMq,bf]at h3;exact h3
 rw[e]at hl;refine min_intList (I.ok.hd hc) hl hsz λv h' tk hv hk=>?_
 obtain⟨t,rfl⟩:=intItems_at hv;obtain⟨h1,h2⟩:=argBest_lt (numAt xs) (xs.size-1);refine⟨.int _,H,I.kept hk,⟨t,rfl⟩,q _ ?_ λx hx=>?_⟩
 .rw [hns,numAt_eq];exact PySem.getD_mem (by rw[lMq,bf];lia)
 .rw [hns]at hx;obtain⟨j,hj,rfl⟩:=PySem.mem_getD hx;rw[lMq,bf]at hj;rw[←numAt_eq];exact h2 j (by lia)
def Mg(K:W.Frag):V->List V->Hp->VK->Prop:=λx vs H Q=>∃(a:Addr) (ns:List Int) (k:Int),x = .ref a/\vs=[.int k]/\qw K H a (ns.map V.int)/\k∈ns/\Q (.int (ns.idxOf k:Nat)) H
theorem Hv:UX X "list.index" (Mg X.K):=by
 intro nF s σ H x xs v us Q I rx r h;obtain⟨a,ns,k,rfl,rfl,hS,hk,q⟩:=h;cases rx;obtain⟨u,rfl,t,rfl⟩:=uy r;obtain⟨its,rv,⟨o,n,ho,hc,hd0,hd⟩,hz⟩:=I.list hS;have hi:=uh rv;obtain⟨cls,dd,data,sl⟩:=o;simp only at hc hd0 hd;subst hc hd0 hd;have hlen:=hi.length;have hj:ns.idxOf k<ns.length:=dR.mpr hk;have hs:jk=16777216:=jt;rw[lMq]at hz;refine kf dW ⟨_,ho,rfl⟩ PySem.F.entry_list_index (PySem.F.args_list_index_2 _ _)
  (SeqAt.list_indexAt a its.toArray n none sl (.int k t) (isInt k) (ns.idxOf k) (by simpa [hlen] using hj) (by lia) ?_ ?_) ⟨ho,λy hy=>(eq_isInt k t hi y (by simpa using hy)).at _ _,?_⟩
 .show isInt k its[ns.idxOf k]=true;rw[isInt_at k hi _ (by lia) hj]
  simpa using gP hj
 .intro j hjs hlt;show isInt k its[j]=false;rw[isInt_at k hi j (by simpa using hjs) (by lia)]
  exact ne_of_lt_idxOf hlt _
 .exact ⟨.int _,H,I.tok _,⟨_,rfl⟩,q⟩
def U8(K:W.Frag) (x:V) (H:Hp) (T:String) (b:Bool):Prop :=
 match x with
 | .int _=>(T = "int" /\ b=true)∨(T = "bool" /\ b=false)
 | .bl _=>(T = "bool" /\ b=true)∨(T = "int" /\ b=true)
 | .str _=>T = "str" /\ b=true
 | .ref p=>(T = "list" /\ b=true/\∃xs,qw K H p xs)∨(T = "dict" /\ b=true/\∃kvs,H p=some (.dK kvs))∨(T = "tuple" /\ b=true/\∃xs,As K H p xs)
 |_=>False
theorem FV:vM X (.builtin "isinstance") (λxs H Q=>∃x T b,xs=[x,.ty T]/\U8 X.K x H T b/\Q (.bl b) H):=by
 intro nF s σ H xs us Q I r h;obtain⟨x,T,b,rfl,e,q⟩:=h;obtain⟨u,v,rfl,rx,rT⟩:=N5 r;cases rT;cases x with
 |int i =>
  obtain⟨t,rfl⟩:=rx;rcases e with ⟨rfl,rfl⟩|⟨rfl,rfl⟩
  .exact jM (jV (Tx := "int") F.isi_meta_int F.sub_int_int) ⟨(show s.TypeIs (.int i t) "int" from rfl),⟨.bl true,H,I,rfl,q⟩⟩
  .exact jM (isinstance_false_int (by decide +kernel) F.isi_meta_bool F.sub_int_bool) (show EP X nF σ Q (.bool false) { s with toks:=s.toks+1 } from ⟨.bl false,H,I.tok _,rfl,q⟩)
 |bl i =>
  cases rx;rcases e with ⟨rfl,rfl⟩|⟨rfl,rfl⟩
  .exact jM (jV (Tx := "bool") F.isi_meta_bool F.sub_bool_bool) ⟨(show s.TypeIs (.bool i) "bool" from rfl),⟨.bl true,H,I,rfl,q⟩⟩
  .exact jM (jV (Tx := "bool") F.isi_meta_int F.sub_bool_int) ⟨(show s.TypeIs (.bool i) "bool" from rfl),⟨.bl true,H,I,rfl,q⟩⟩
 |str i =>
  obtain⟨t,rfl⟩:=rx;obtain⟨rfl,rfl⟩:=e;exact jM (jV (Tx := "str") F.isi_meta_str F.sub_str_str) ⟨(show s.TypeIs (.str i t) "str" from rfl),⟨.bl true,H,I,rfl,q⟩⟩
 |ref p =>
  cases rx;rcases e with ⟨rfl,rfl,xs,hS⟩|⟨rfl,rfl,kvs,hp⟩|⟨rfl,rfl,xs,hS⟩
  .obtain ⟨its,rv,pl,hz⟩:=I.list hS;exact jM (jV (Tx := "list") F.isi_meta_list (by rw[mz];kernel_rfl)) ⟨pl.isList.typeIs,⟨.bl true,H,I,rfl,q⟩⟩
  .have ty:s.TypeIs (.ref p) "dict" := (RT I (.inl ⟨kvs,.inl hp⟩)).1;exact jM (jV (Tx := "dict") F.isi_meta_dict (by rw[mz];kernel_rfl)) ⟨ty,⟨.bl true,H,I,rfl,q⟩⟩
  .obtain ⟨its,rv,⟨o,ho,hc,_⟩,hz⟩:=I.tuple hS;exact jM (jV (Tx := "tuple") F.isi_meta_tuple (by rw[mz];kernel_rfl)) ⟨⟨o,ho,hc⟩,⟨.bl true,H,I,rfl,q⟩⟩
 |_=>exact(show False from e).elim
end
end Mr
namespace Mr
open PySem L2
structure yx (K:W.Frag) (mg:Str->Option Value) (x:Str) (st:Stmt) (ps:List Str) (f:Addr) (fd:jE):Prop where
 F:QO K x x st f fd
 m:mg x=some (.ref f)
 b:uz K fd ps []
theorem vF{H:Hp}{p:Addr}{o:HO}(h:H p=none):oM H (qr H p o):=λb u e=>by
 rw[nX (pX e h)];exact e
variable {K:W.Frag}{h:Heap}{mg:Str->Option Value}{x z:Str}{st:Stmt}{f O:Addr}{fd:jE}
structure At (K:W.Frag) (x:Str) (st:Stmt) (f:Addr) (fd:jE):Prop where
 a:W.nsIn K jn x=some (some (.ref f))
 F:QO K x x st f fd
section
variable {oc kV doc pm tQ ct:Value}{od an:Option Addr}{osl:Array (Option Value)}
theorem RF(a:W.nsIn K jn x=some (some (.ref f))) (l:K.lookup f=some ⟨oc,od,.func (W.fnOf x x (uV st) (tX st) (nY st) .none kV doc pm an tQ ct),osl⟩)
  (c:W.codeIn K tQ x=true) (k:W.keepIn K (.ref f)=true):At K x st f (W.fnOf x x (uV st) (tX st) (nY st) .none kV doc pm an tQ ct):=⟨a,Ik l c k⟩
end
abbrev BA(x q:Str) (st:Stmt) (ps:List Str) (us:List Value):Prop:=∀(kV doc pm:Value) (an:Option Addr) (tQ ct:Value),mL (W.fnOf x q (uV st) (tX st) (nY st) .none kV doc pm an tQ ct) ⟨us,[]⟩=pure (ps.zip us)
section
variable {q a b c d:Str}(F:QO K x q st f fd)
include F
theorem b1(h:∀u,BA x q st [a] [u]):uz K fd [a] []:=F.binds λ_ _ _ _ _ _ us hl=>by
 obtain - | ⟨u, - | ⟨v,l⟩⟩:=us <;> cases hl
 apply h
theorem b2(h:∀u v,BA x q st [a,b] [u,v]):uz K fd [a,b] []:=F.binds λ_ _ _ _ _ _ us hl=>by
 obtain - | ⟨u, - | ⟨v, - | ⟨w,l⟩⟩⟩:=us <;> cases hl
 apply h
theorem b3(h:∀u v w,BA x q st [a,b,c] [u,v,w]):uz K fd [a,b,c] []:=F.binds λ_ _ _ _ _ _ us hl=>by
 obtain - | ⟨u, - | ⟨v, - | ⟨w, - | ⟨y,l⟩⟩⟩⟩:=us <;> cases hl
 apply h
theorem b4(h:∀u v w y,BA x q st [a,b,c,d] [u,v,w,y]):uz K fd [a,b,c,d] []:=F.binds λ_ _ _ _ _ _ us hl=>by
 obtain - | ⟨u, - | ⟨v, - | ⟨w, - | ⟨y, - | ⟨z,l⟩⟩⟩⟩⟩:=us <;> cases hl
 apply h
end
theorem zB{ps:List Str}(X:K.In h) (G:h.Ns jn mg) (a:At K x st f fd) (b:uz K fd ps []):yx K mg x st ps f fd:=⟨a.F,W.mg_of X G a.a,b⟩
end Mr
namespace Mr
open PySem PySem.Spec PyProof.Rows L2
theorem Hq{prog:jj}{w:jo}{A:Around}{R:mD->Shared->Prop}{s:Shared}{elt target iter:Expr}{ifs:List Expr}{scope:jQ}{pos:Pos}{it acc:Value}{env:Env}(I:Nat->Shared->Prop)
  (turn:∀n s,I n s->jd (jf prog w) A (kh it) (λr s₁=>match r with
   |none=>R (.ok .next) s₁
   |some v=>jd (jf prog w) A (kN target it v) (λ_ s₂=>jd (jf prog w) A (assign target env v) (λ_ s₃ =>
     jd (jf prog w) A (forIn ifs true λc r=>if r=true then do let ok ←isTrue c env (eval c env);pure (ForInStep.yield ok) else pure (ForInStep.yield r)) (λok s₄ =>
      if ok=true then jd (jf prog w) A (eval elt env) (λx s₅ =>
       jd (jf prog w) A (call (.builtin "list.append") [acc,x]) (λ_ s₆=>∃m,m<n/\I m s₆) (λ_ _=>False) s₅) (λ_ _=>False) s₄
      else ∃m,m<n/\I m s₄) (λ_ _=>False) s₃) (λ_ _=>False) s₂) (λ_ _=>False) s₁) (λ_ _=>False) s)
  (n:Nat) (h:I n s):jZ (jf prog w) A (.compLoop (.ListComp elt [⟨target,iter,ifs,0⟩] scope pos) 0 it acc env) R s:=by
 refine codeAny_loop rfl I (λn s hI=>?_) n h
 show jd _ A ((compTurn (.ListComp elt [⟨target,iter,ifs,0⟩] scope pos) 0 it acc env).onRaise (λx=>do noteFrame x env;theTreesLotGoes x)) _ _ s
 refine wpAny_noted ?_;rw[compTurn_list];refine jc (wpAny_standAt (jc (jv (turn n s hI) (λr s₁ h₁=>?_) λ_ _ z=>z.elim)))
 cases r with
 |none=>exact jg h₁
 |some v =>
  refine jc (jv h₁ (λ_ s₂ h₂=>?_) λ_ _ z=>z.elim)
  refine jc (jv h₂ (λ_ s₃ h₃=>?_) λ_ _ z=>z.elim)
  refine jc (jv h₃ (λok s₄ h₄=>?_) λ_ _ z=>z.elim)
  cases ok with
  |false=>exact jg ⟨rfl,h₄⟩
  |true=>exact jc (jc (jv h₄ (λx s₅ h₅=>jc (jv h₅ (λ_ s₆ h₆=>jg (jg ⟨rfl,h₆⟩)) λ_ _ z=>z.elim)) λ_ _ z=>z.elim))
abbrev sU(X:Cx) (scope:jQ) (cl:List (Str×Addr)) (N:List Str) (C:Addr) (s:Shared) (H:Hp) (fp:List Addr):Cx where
 prog:=X.prog
 w:=X.w
 K:=X.K
 mg:=X.mg
 base:=X.base
 A:=X.A
 N:=N
 s₀:=s
 H₀:=H
 env:=compEnvC scope cl C X.env
 outer:=X.stack
 stack:=X.stack
 ex:=fp
 fn:=λ_=>false
 calm:=X.calm
 pn:=[]
 xe:=λ_ _=>False
def PF(X:Cx) (ifs:List Expr) (t:TT):Prop :=
 ∀(nF:List (Addr×Obj)) (s:Shared) (σ:St) (H:Hp) (Q:Bool->Hp->Prop),Inv X nF σ H s->t σ H Q ->
  jd (jf X.prog X.w) X.A (forIn ifs true λc r=>if r=true then do let ok ←isTrue c X.env (eval c X.env);pure (ForInStep.yield ok) else pure (ForInStep.yield r)) (TP X nF σ Q) X.xe s
def Vb:TT:=λ_ H Q=>Q true H
theorem tF{X:Cx}:PF X [] Vb:=λ_ _ _ H _ I h=>wpAny_tests_nil ⟨H,I,h⟩
theorem Sy{X:Cx}{c:Expr}{t:TT}(h:PT X c t):PF X [c] t:=λnF s σ H Q I q=>wpAny_tests_one (h nF s σ H Q I q)
structure sy (X:Cx) (scope:jQ) (cl:List (Str×Addr)) (x:Str) (N:List Str) (fr:List Nat):Prop where
 names:N.Nodup
 own:N[0]?=some x
 len:N.length=fr.length+1
 sub:∀y c,cl.lookup y=some c->X.env.cells.lookup y=some c
 has:∀y,((lg scope X.env).names.lookup y=some .cell∨(lg scope X.env).names.lookup y=some .free)->∃c,cl.lookup y=some c
 get:∀(k j:Nat) (y:Str),fr[k]?=some j->N[k+1]?=some y->X.N[j]?=some y/\X.env.scope.names.lookup y=some .cell/\(lg scope X.env).names.lookup y=some .cell
theorem sy.none{X:Cx}{scope:jQ}{x:Str}(h:∀p∈scope.names,p.2 ≠ .cell/\p.2 ≠ .free):sy X scope [] x [x] [] where
 names:=by simp
 own:=rfl
 len:=rfl
 sub:=λy c e=>by cases e
 has:=λy e=>by
  exfalso;have key:∀p∈(lg scope X.env).names,p.2 ≠ .cell/\p.2 ≠ .free:=by
   intro p hp;obtain⟨q,hq,rfl⟩:=mMq.mp hp;obtain⟨n,k⟩:=q;obtain⟨h1,h2⟩:=h _ hq;have hk:(k == NameKind.free)=false:=by simpa using h2
   simp only[hk,iK];exact⟨h1,h2⟩
  rcases e with e|e
  .exact (key _ (PySem.mem_of_lookup e)).1 rfl
  .exact (key _ (PySem.mem_of_lookup e)).2 rfl
 get:=λk j y e _=>by cases e
def slots(σ:St) (fr:List Nat):St:=fr.map λj=>(σ[j]?).join
def J5(wi:TI) (fr:List Nat) (tf:TT) (te:TE):TE:=λσ H Q=>wi σ H λJ H1=>∀acc,H1 acc=none->∃W:Nat->Nat->Hp->Prop,(∃m,W 0 m (qr H1 acc (.lst [])))/\∀i m H,W i m H ->
 (J.stop i H/\Q (.ref acc) H) ∨
 (J.go i H/\∃N:Hp->Prop,(∀H',N H'->∃m',m'<m/\W (i+1) m' H')/\∀x H',J.yld i H x H'->tf (some x::slots σ fr) H' λb H2 =>
  if b=true then te (some x::slots σ fr) H2 λy H3=>∃ys,H3 acc=some (.lst ys)/\ys.length<jk/\N (qr H3 acc (.lst (ys++[y]))) else N H2)
section
variable {X:Cx}{scope:jQ}{cl:List (Str×Addr)}{N:List Str}{fr:List Nat}{x:Str}{px pos:Pos}{elt iter:Expr}{ifs:List Expr}{tf:TT}{te:TE}
theorem BS{nF:List (Addr×Obj)}{σ:St}{H:Hp}{s:Shared}{E:Value->Shared->Prop}{J:It}{fp:List Addr}{it:Addr}{tn:Nat->Heap->Prop}{RR:Value->Addr->mD->Shared->Prop}{Q:VK}
  (hc:X.calm=true) (hcell:∀y∈scope.names,y.2 ≠ .cell) (hkind:scope.kind = .function) (hx:scope.names.lookup x=some .local) (hF:sy X scope cl x N fr)
  (hf:∀C s H fp,PF (sU X scope cl N C s H fp) ifs tf) (he:∀C s H fp,PE (sU X scope cl N C s H fp) elt te)
  (I:Inv X nF σ H s) (T:Lm X.prog X.w X.K (.Name x px) J fp it tn) (st:tn 0 s.heap) (fpo:∀b∈fp,uf X nF H b)
  (h:∀acc,H acc=none->∃W:Nat->Nat->Hp->Prop,(∃m,W 0 m (qr H acc (.lst [])))/\∀i m H,W i m H ->
   (J.stop i H/\Q (.ref acc) H) ∨
   (J.go i H/\∃N:Hp->Prop,(∀H',N H'->∃m',m'<m/\W (i+1) m' H')/\∀x H',J.yld i H x H'->tf (some x::slots σ fr) H' λb H2 =>
    if b=true then te (some x::slots σ fr) H2 λy H3=>∃ys,H3 acc=some (.lst ys)/\ys.length<jk/\N (qr H3 acc (.lst (ys++[y]))) else N H2))
  (fin:∀acc C s' Hf m,Inv X nF σ Hf s'->s'.heap.Ns C m->uf X nF Hf C->Q (.ref acc) Hf->RR (.ref acc) C (.ok .next) s') :
  jd (jf X.prog X.w) X.A (newList []) (λacc s₃=>jd (jf X.prog X.w) X.A (newFunctionEnv scope X.env.globals cl [] X.env.qual none .none (some X.env)) (λcenv s₄ =>
   jZ (jf X.prog X.w) X.A (.compStart (.ListComp elt [⟨.Name x px,iter,ifs,0⟩] scope pos) 0 (.ref it) acc { cenv with scope:=lg scope X.env }) (RR acc cenv.locals) s₄) E s₃) E s:=by
 refine wpAny_newObj_type (mG hcell (by intro y hy;simp at hy) (λh₁ hns₁ hsb₁=>?_) hkind)
 dsimp only at hns₁ hsb₁ ⊢;generalize hG:s.heap.push { cls:=.type "list", dict:=none,data:=.seq ([]:List Value).toArray }=G at hns₁ hsb₁ ⊢;have hC:G.objs.size=s.heap.objs.size+1:=by rw[←hG,fj]
 have hCle:s.heap.objs.size<=G.objs.size:=by rw[hC];exact aT _
 have hDC:s.heap.objs.size≠G.objs.size:=by rw[hC];exact ao (dH _)
 have below:∀b,b<s.heap.objs.size->b≠G.objs.size:=λb hb=>by rw[hC];exact ao (ba hb)
 have old:∀b o,s.heap.get? b=some o->h₁.get? b=some o:=λb o e=>hsb₁.extBut b o (below b (ag e)) (ab _ (hG ▸ ab _ e))
 have hacc:h₁.get? s.heap.objs.size=some { cls:=.type "list", data:=.seq ([]:List Value).toArray }:=hsb₁.extBut _ _ hDC (ab _ (hG ▸ aB _ rfl));have hn:H s.heap.objs.size=none:=I.hok.fresh (ae _);have hnC:H G.objs.size=none:=I.hok.fresh hCle;have fpl:∀b∈fp,b<s.heap.objs.size:=λb hb=>by
  obtain⟨o,q,_⟩:=T.obj 0 _ st b hb;exact ag q
 obtain⟨W,⟨m0,w0⟩,turn⟩:=h _ hn;have ok':(sU X scope cl N G.objs.size s H fp).Ok:=by
  refine⟨I.ok.mod,by show (lg scope X.env).kind = .function;exact hkind,I.ok.glob,I.ok.blt,hCle,λy z c h1 h2=>I.ok.inj y z c (hF.sub y c h1) (hF.sub z c h2),hF.has,λ_ _ z _=>(by cases z),I.ok.hd,I.ok.frames,.inl rfl,
   λb hb=>⟨below b (fpl b hb),λy c e=>(fpo b hb).2.2.2.2.1 y c (hF.sub y c e)⟩,λb o e=>⟨(I.bs b o e).1,(I.bs b o e).2⟩,aS I.ok.bsz I.sz,λb o e hb=>?_,λb hb z=>?_,I.stack,I.stkFree,I.tb⟩
  .rcases (fpo b hb).2.2.2.1 with q|q
   .exact I.ok.noex b o e q
   .exact absurd (aE (ag (I.ok.bs b o e).1) q) (cu _)
  .rcases ah.mp (I.stkSub b z) with q|q
   .exact (fpo b hb).2.1 q
   .exact (fpo b hb).2.2.1 q
 have I0:Inv (sU X scope cl N G.objs.size s H fp) [] (none::slots σ fr) (qr H s.heap.objs.size (.lst [])) { s with heap:=h₁,toks:=s.toks+([]:List (Str×Value)).length }:=by
  have hok1:zC X.prog X.w (qr H s.heap.objs.size (.lst [])) h₁:=I.hok.laid old (ae _) ⟨aG _,[],0,.nil,hacc⟩;refine⟨ok',rfl,I.bare,Un.laid old (ae _) hn,⟨_,hns₁,λk y v e1 e2 e3=>?_⟩,λy c e=>?_,?_,λy c e=>?_,λp hp=>absurd (show p∈([]:List (Addr×Obj)) from hp) (by simp),hok1,?_⟩
  .cases k with
   |zero=>cases e2
   |succ k =>
    have e2':(slots σ fr)[k]?=some (some v):=e2;unfold slots at e2';rw[gMq]at e2';cases ej:fr[k]? with
    |none=>rw[ej]at e2';cases e2'
    |some j =>
     rw[ej]at e2';have e2j:(σ[j]?).join=some v:=aM.inj e2';have e2s:σ[j]?=some (some v):=by
      cases q:σ[j]? with
      |none=>rw[q]at e2j;cases e2j
      |some z=>rw[q]at e2j;exact congrArg some e2j
     obtain⟨g1,g2,g3⟩:=hF.get k j y ej e1;obtain⟨m,_,hl⟩:=I.loc;obtain⟨u,r,l⟩:=hl j y v g1 e2s (.inr (.inl g2));refine⟨u,r,.inr ⟨.inl g3,?_⟩⟩;obtain⟨c,e⟩:=hF.has y (.inl g3);have e':=hF.sub y c e;rcases l with ⟨l1,_⟩|⟨_,c',ec,hcell'⟩
     .have l1':X.env.scope.names.lookup y=some .local:=l1;rw[g2]at l1';cases l1'
     .rw [e']at ec;cases ec;obtain⟨o,ho,hd⟩:=hcell';exact⟨c,e,o,old c o ho,hd⟩
  .obtain ⟨v,o,ho,hd⟩:=I.cell y c (hF.sub y c e);exact⟨v,o,old c o ho,hd⟩
  .show qr H s.heap.objs.size (.lst []) G.objs.size=none;rw[nX (Ne.symm hDC)];exact hnC
  .obtain ⟨v,o,ho,hd⟩:=I.cell y c (hF.sub y c e);rw[nX (ao (ag ho))];exact I.freeC y c (hF.sub y c e)
  .show (none::slots σ fr).length=N.length;rw[hF.len,lCq];unfold slots;rw[lMq]
 have QN:tn 0 h₁:=T.keep 0 _ _ st λb _ o e=>old b o e
 have nd:N.Nodup:=hF.names;have nf0:∀b∈fp,qr H s.heap.objs.size (.lst []) b=none:=λb hb=>by
  rw[nX (ao (fpl b hb))];exact(fpo b hb).1
 have stat:∀{H':Hp},(∀b∈fp,H' b=none)->∀b∈fp,uf (sU X scope cl N G.objs.size s H fp) [] H' b:=λhn' b hb =>
  ⟨hn' b hb,below b (fpl b hb),ok'.exfs b hb,.inl hb,λy c e=>(ok'.exf b hb).2 y c e,λp hp=>absurd (show p∈([]:List (Addr×Obj)) from hp) (by simp)⟩
 have loop:∀s₃:Shared,s₃={ s with heap:=h₁,toks:=s.toks+([]:List (Str×Value)).length } ->
   jZ (jf X.prog X.w) X.A (.compLoop (.ListComp elt [⟨.Name x px,iter,ifs,0⟩] scope pos) 0 (.ref it) (.ref s.heap.objs.size) (compEnvC scope cl G.objs.size X.env)) (RR (.ref s.heap.objs.size) G.objs.size) s₃:=by
  rintro s₃ rfl;refine Hq (λn s'=>∃i v0 H',Inv (sU X scope cl N G.objs.size s H fp) [] (v0::slots σ fr) H' s'/\tn i s'.heap/\(∀b∈fp,H' b=none)/\W i n H') ?_ m0 ⟨0,none,_,I0,QN,nf0,w0⟩
  rintro n s4 ⟨i,v0,H4,I4,V3,nf4,w4⟩;rcases turn i n H4 w4 with ⟨stop,q⟩|⟨go,Nx,hNx,step⟩
  .refine rM (T.done (sU X scope cl N G.objs.size s H fp) rfl rfl rfl hc i [] s4 (v0::slots σ fr) H4 (λ_ _=>False) I4 (stat nf4) V3 stop) λr s5 hz1=>?_
   obtain⟨hr,I5⟩:=hz1;subst hr;obtain⟨m,hm,_⟩:=I5.loc;have I6:Inv X nF σ H4 s5:=I.call' (ch:=fp) I5.os I5.base I5.hok I5.bare λb hb=>⟨(fpo b hb).2.2.2.1,(fpo b hb).2.1,(fpo b hb).2.2.2.2.1,(fpo b hb).2.2.2.2.2⟩
   exact fin _ _ s5 H4 m I6 hm (I.fpOk hCle I5.free) q
  .refine rM (T.item (sU X scope cl N G.objs.size s H fp) rfl rfl rfl hc i [] s4 (v0::slots σ fr) H4 (λ_ _=>False) I4 (stat nf4) V3 go) λr s5 hz1=>?_
   obtain⟨u,hr,h5⟩:=hz1;subst hr;refine rM h5 λ_ s6 hz1=>?_
   obtain⟨y,H6,I6,r6,y6,st6,nf6⟩:=hz1;have I6':=I6.pinned (stat nf6) (T.obj _ _ st6);have pg:PG (sU X scope cl N G.objs.size s H fp) (.Name x px) (sP 0):=qk nd hF.own (.inl (mI hx)) (.inr (mI hx));refine rM (pg _ s6 (v0::slots σ fr) H6 y u (λσ2 H2=>σ2=some y::slots σ fr/\H2=H6) I6' r6 ⟨rfl,rfl⟩) λ_ s7 hz1=>?_
   obtain⟨σ7,H7,I7,e7,e8⟩:=hz1;subst e7 e8;refine rM (hf _ _ _ _ _ s7 _ _ _ I7 (step y _ y6)) λb s8 hz1=>?_
   obtain⟨H8,I8,q8⟩:=hz1;have again:∀{s9:Shared}{H9:Hp},Inv (sU X scope cl N G.objs.size s H fp) ([]++C5 fp s6.heap) (some y::slots σ fr) H9 s9->Nx H9->∃m,m<n/\∃i v0 H',Inv (sU X scope cl N G.objs.size s H fp) [] (v0::slots σ fr) H' s9/\tn i s9.heap/\(∀b∈fp,H' b=none)/\W i m H':=λ{s9 H9} I9 n9=>by
    obtain⟨m',hm,w9⟩:=hNx H9 n9;refine⟨m',hm,i+1,some y,H9,I9.unpinned,T.keep _ _ _ st6 λb hb o e=>(I9.pin (b,o) (ay _ (ay _ (xk hb e)))).1,λb hb=>?_,w9⟩
    obtain⟨o,e,d⟩:=T.obj _ _ st6 b hb;exact(I9.pin (b,o) (ay _ (ay _ (xk hb e)))).2.1
   cases b with
   |false=>exact again I8 q8
   |true =>
    refine rM (he _ _ _ _ _ s8 _ _ _ I8 q8) λz s9 hz1=>?_
    obtain⟨zv,H9,I9,r9,ys,a9,l9,n9⟩:=hz1;refine rM (qX (X:=sU X scope cl N G.objs.size s H fp) _ s9 _ H9 (.ref s.heap.objs.size) [zv] (.ref s.heap.objs.size) [z] (λ_ H'=>H'=qr H9 s.heap.objs.size (.lst (ys++[zv]))) I9 rfl (.cons r9 .nil) ⟨_,ys,zv,rfl,rfl,a9,l9,rfl⟩) λ_ s10 hz1=>?_
    obtain⟨_,H10,I10,_,e10⟩:=hz1;subst e10;exact again I10 n9
 exact codeAny_compStart_list (loop _ rfl) (T.self X.A 0 _ _ _ QN (loop _ rfl))
theorem rV{wi:TI}(hc:X.calm=true) (hclos:mJ scope X.env=pure cl) (hcell:∀y∈scope.names,y.2 ≠ .cell) (hkind:scope.kind = .function) (hnames:∀y∈scope.names,y.2 = .local->scope.names.lookup y.1=some .local)
  (hx:scope.names.lookup x=some .local) (hF:sy X scope cl x N fr) (hi:PI X (.Name x px) iter wi) (hf:∀C s H fp,PF (sU X scope cl N C s H fp) ifs tf) (he:∀C s H fp,PE (sU X scope cl N C s H fp) elt te)
  (hs:∀x,lF iter X.env x=pure x:=by intro _;rfl):PE X (.ListComp elt [⟨.Name x px,iter,ifs,0⟩] scope pos) (J5 wi fr tf te):=by
 intro nF s σ H Q I h;rw[eval_ListComp];refine lN (use:=none) rfl hs hclos hkind hnames (rM (hi nF s σ H _ I h) λv s1 h1=>rM h1 λitv s2 h2=>?_)
 obtain⟨it,fp,tn,J,H2,e,I2,T,zK,f2,q2⟩:=h2;subst e;refine BS (RR:=λacc C=>compPost (jf X.prog X.w) X.A X.xe none (EP X nF σ Q) acc C) hc hcell hkind hx hF hf he I2 T zK f2 q2 ?_
 intro acc C s' Hf m I' hm fC q;refine⟨m,hm,λh' sb=>⟨.ref acc,Hf,?_,rfl,q⟩⟩
 exact I'.turned (t':=s'.toks) (λb o hb e=>(sb.2 b hb).trans e) fC.1 fC.2.1 fC.2.2.2.1 fC.2.2.2.2.1 fC.2.2.2.2.2
theorem Jz{wi:TI}{y:Str}{i:Nat}{py spos:Pos}(hc:X.calm=true) (hN:X.N.Nodup) (hi0:X.N[i]?=some y) (hy:Ue X.env.scope y) (hclos:mJ scope X.env=pure cl) (hcell:∀y∈scope.names,y.2 ≠ .cell) (hkind:scope.kind = .function)
  (hnames:∀y∈scope.names,y.2 = .local->scope.names.lookup y.1=some .local)
  (hx:scope.names.lookup x=some .local) (hF:sy X scope cl x N fr) (hi:PI X (.Name x px) iter wi) (hf:∀C s H fp,PF (sU X scope cl N C s H fp) ifs tf) (he:∀C s H fp,PE (sU X scope cl N C s H fp) elt te)
  (hsw:mQ (.ListComp elt [⟨.Name x px,iter,ifs,0⟩] scope pos) (some (.Name y py)) spos.line X.env=pure true:=by rfl) (hs:∀x,lF iter X.env x=pure x:=by intro _;rfl)
  (hfn:X.fn y=true∨X.env.scope.names.lookup y=some .local:=by trivial) :
  PS X (.Assign [.Name y py] (.ListComp elt [⟨.Name x px,iter,ifs,0⟩] scope pos) spos) (HB (J5 wi fr tf te) (sP i)):=by
 intro nF s σ H D I h;rw[exec_Assign_Name_used _ _ _ _ hsw];refine jc (wpAny_standAt (jc ?_));show jd _ X.A (do let _ ←comprehension (.ListComp elt [⟨.Name x px,iter,ifs,0⟩] scope pos) scope X.env _ (newList []) false (eval iter X.env) (some (assign (.Name y py) X.env))) _ _ s
 refine jc (jv (lN (use:=some (assign (.Name y py) X.env)) (Q:=λ_ s'=>SP X nF D .next s') rfl hs hclos hkind hnames
  (rM (hi nF s σ H _ I h) λv s1 h1=>rM h1 λitv s2 h2=>?_)) (λ_ s' hq=>jg (jg hq)) λ_ _ e=>e)
 obtain⟨it,fp,tn,J,H2,e,I2,T,zK,f2,q2⟩:=h2;subst e;refine BS (RR:=λacc C=>compPost (jf X.prog X.w) X.A X.xe (some (assign (.Name y py) X.env)) (λ_ s'=>SP X nF D .next s') acc C) (Q:=λv H'=>D.nx (σ.set i (some v)) H') hc hcell hkind hx hF hf he I2 T zK f2 q2 ?_
 intro acc C s' Hf m I' hm fC q;obtain⟨o,es,ep,ho,hd,r⟩:=id hm;have I1:Inv X (nF++[(C,o)]) σ Hf s':=I'.pins_of λp hp=>(mAq.mp hp).elim (λz=>I'.pin p (ay _ z)) λz=>by
  have e:p=(C,o):=by simpa using z
  subst e;exact⟨ho,fC.1,fC.2.1,fC.2.2.1,λv z=>by rw[hd]at z;cases z⟩
 refine rM (qk (X:=X) (i:=i) (pos:=py) hN hi0 hy hfn _ s' σ Hf (.ref acc) (.ref acc) _ I1 rfl q) λ_ s2 hz1=>?_
 obtain⟨σ2,H2,I2,q2⟩:=hz1;have pC:=I2.pin (C,o) (ay _ (ay _ (by simp)))
 refine⟨m,⟨o,es,ep,pC.1,hd,r⟩,λh' sb=>⟨σ2,H2,?_,q2⟩⟩
 exact I2.unpinned.turned (t':=s2.toks) (λb u hb e=>(sb.2 b hb).trans e) pC.2.1 fC.2.1 fC.2.2.2.1 fC.2.2.2.2.1 fC.2.2.2.2.2
end
end Mr
namespace MrS
open PySem PyProof.Rows
section
variable {prog:jj}{w:jo}{A:Around}{E:Value->Shared->Prop}{s:Shared}{Pk:je->Prop}{lt:je->je->Bool}
abbrev qK(h:Heap) (a:Addr) (vs:List Value):Heap:=((h.update a (Obj.mapSeq λ_=>#[])).push (jh "tuple" vs.toArray 0)).push (jh "list" #[] 0)
theorem Ez{h:Heap}{a:Addr}{xs:Array Value}{n:Nat}(vs:List Value) (ho:h.get? a=some (jh "list" xs n)):∃e1,(qK h a vs).get? a=some (jh "list" #[] e1):=by
 have ha:a<h.objs.size:=ag ho;obtain⟨e1,ho1⟩:∃e1,(h.update a (Obj.mapSeq λ_=>#[])).get? a=some (jh "list" #[] e1):=⟨_,jD ho (λ_=>#[])⟩
 refine⟨e1,?_⟩;rw[bW _ _ _ (by rw[ke,aW];exact ao (ba ha)),bW _ _ _ (by rw[aW];exact ao ha)]
 exact ho1
theorem Fp{h:Heap}{a:Addr}{xs:Array Value}{n:Nat}(ys:Array Value) (ho:h.get? a=some (jh "list" xs n)):∃n1,(h.update a (Obj.mapSeq λ_=>ys)).get? a=some (jh "list" ys n1):=⟨_,jD ho (λ_=>ys)⟩
theorem uE{vs:List Value}{x:je}(h:x∈jG vs):x.1∈vs/\x.2=x.1:=by
 obtain⟨i,hi,e⟩:=Array.mem_iff_getElem.mp h;have hi':i<vs.length:=by rw[jJ]at hi;exact hi
 have:x=(vs[i],vs[i]):=by
  rw[←e];simp[jG]
 rw[this];exact⟨gRq hi',rfl⟩
theorem xY{vs:List Value}{xs:Array je}(hp:xs.Perm (jG vs)) (hs:vX lt xs 0 (jG vs).size) :
  (xs.map (·.2)).toList.Perm vs/\(xs.map (·.2)).toList.Pairwise (λx y=>lt (y,y) (x,x)=false):=by
 constructor
 .have:=hp.toList.map (·.2);have e:(jG vs).toList.map (·.2)=vs:=by
   have:(jG vs).toList=vs.zip vs:=by simp[jG]
   rw[this];apply ik
   .simp
   .intro i h1 h2;simp
  rw[e]at this;rw[ip];exact this
 .rw [bR];intro i j hi hj hij;have hi':i<xs.size:=by simpa using hi
  have hj':j<xs.size:=by simpa using hj
  have z:=hs i j xs[i] xs[j] (aG _) (bB hij) (by rw[←hp.size_eq];exact hj') (by simp[hi']) (by simp[hj'])
  have m1:=uE (hp.mem_iff.mp (gZ hi'));have m2:=uE (hp.mem_iff.mp (gZ hj'));have e1:xs[i]=(xs[i].2,xs[i].2):=fA m1.2.symm rfl;have e2:xs[j]=(xs[j].2,xs[j].2):=fA m2.2.symm rfl;rw[e1,e2]at z;simpa using z
end
end MrS
namespace HT
open PySem PyProof.Rows
section
open PySem.SeqAt
open PySem.AutoSeq1 (wpAny_loadPart')
open PySem.MeetsSeq PySem.MeetsSeq2 PySem.MeetsSeq3 PySem.SeqRoads2
theorem FM{vs:List Value}{ns:List Int}(h:jA vs ns):∀{i:Nat}(hi:i<vs.length),∃(z:Int) (t:Tok),vs[i] = .int z t/\ns.drop i=z::ns.drop (i+1):=by
 induction h with
 |nil=>intro i hi;exact absurd hi (bT _)
 |cons a t _ ih =>
  intro i hi;cases i with
  |zero=>exact⟨a,t,rfl,rfl⟩
  |succ i=>exact ih (i:=i) (by simpa using hi)
theorem EW(l b:Addr) (items items2:Array Value) (n n2:Nat) (dd dd2:Option Addr) (sl sl2:Array (Option Value)) (ns ms:List Int) (hi:jA items.toList ns) (hj:jA items2.toList ms) (k:Nat) :
  ∀i:Nat,min items.size items2.size-i=k->i<=items.size->i<=items2.size->Meets (Builtin.«list.__eq__.loop» ⟨[.ref l,.ref b,kR i,kR 0],[]⟩)
   (λ_ R s=>s.heap.get? l=some { cls:=.type "list", dict:=dd,data:=.seq items n,slots:=sl }/\s.heap.get? b=some { cls:=.type "list", dict:=dd2,data:=.seq items2 n2,slots:=sl2 } /\
    R (.ok (.ret (.bool (pR (ns.drop i) (ms.drop i))))) s):=by
 have z1:ns.length=items.size:=by rw[←hi.length];simp
 have z2:ms.length=items2.size:=by rw[←hj.length];simp
 induction k with
 |zero =>
  intro i hk h1 h2 prog w A R s h;obtain⟨hp,g,d,tk,os⟩:=s;obtain⟨hl,hb,h⟩:=h
  wp_walk using wpAny_loadPart' hl,wpAny_loadPart' hb
  have fin:pR (ns.drop i) (ms.drop i)=decide (items.size<items2.size):=by
   by_cases c:i=items.size
   .have e1:ns.drop i=[]:=bw (by lia)
    rw[e1]
    by_cases c2:i<items2.size
    .rw [aw (by lia:i<ms.length),yk]
     exact(decide_eq_true (by lia)).symm
    .rw [bw (by lia:ms.length<=i),yS]
     exact(decide_eq_false (by lia)).symm
   .have c2:i=items2.size:=by lia
    rw[aw (by lia:i<ns.length),bw (by lia:ms.length<=i),xR]
    exact(decide_eq_false (by lia)).symm
  rw[fin]at h
  by_cases c:i=items.size
  .have hi1:items[((i:Nat):Int).toNat]?=none:=by simp;lia
   rw[hi1]
   wp_walk using wpAny_loadPart' hl,wpAny_loadPart' hb
   exact h
  .have c2:i=items2.size:=by lia
   have hi1:items[((i:Nat):Int).toNat]?=some (items[i]'(by lia)):=by simp
   have hi2:items2[((i:Nat):Int).toNat]?=none:=by simp;lia
   rw[hi1,hi2]
   wp_walk using wpAny_loadPart' hl,wpAny_loadPart' hb
   exact h
 |succ k ih =>
  intro i hk h1 h2 prog w A R s h;obtain⟨hp,g,d,tk,os⟩:=s;obtain⟨hl,hb,h⟩:=h
  wp_walk using wpAny_loadPart' hl,wpAny_loadPart' hb
  have hlt:i<items.size:=by lia
  have hlt2:i<items2.size:=by lia
  obtain⟨x,t,ex,dx⟩:=FM hi (i:=i) (by simpa using hlt)
  obtain⟨y,u,ey,dy⟩:=FM hj (i:=i) (by simpa using hlt2)
  have hi1:items[((i:Nat):Int).toNat]?=some (.int x t):=by
   rw[←ex];simp[hlt]
  have hi2:items2[((i:Nat):Int).toNat]?=some (.int y u):=by
   rw[←ey];simp[hlt2]
  have hc:((i:Int)+1)=((i+1:Nat):Int):=by push_cast;rfl
  rw[dx,dy,vP]at h;rw[hi1,hi2];obtain⟨e,he,hiff⟩:=GE A.in1 ⟨hp,g,d,tk,os⟩ x t y u;refine jc (he prog w _ _ ?_);cases e with
  |true =>
   rw[oQ (hiff.mp rfl)]at h
   wp_walk
   rw[hc];exact⟨jC plain_eq_loop _,jz entry_eq_loop (by
    rw[Around.under_plainId plain_eq_loop _];exact ih (i+1) (by lia) (by lia) (by lia) prog w A R _ ⟨hl,hb,h⟩)⟩
  |false =>
   rw[oT (λq=>absurd (hiff.mpr q) aF)]at h
   have hri:=GN A.in1 ⟨hp,g,d,tk,os⟩ x t y u prog w
   wp_walk using wpAny_loadPart' hl,wpAny_loadPart' hb
   rw[hi1,hi2]
   wp_walk using hri
   exact h
theorem Aq(l b:Addr) (items items2:Array Value) (n n2:Nat) (dd dd2:Option Addr) (sl sl2:Array (Option Value)) (ns ms:List Int) (hi:jA items.toList ns) (hj:jA items2.toList ms) :
  Meets (Builtin.«list.__lt__» ⟨[.ref l,.ref b],[]⟩)
   (λ_ R s=>s.heap.get? l=some { cls:=.type "list", dict:=dd,data:=.seq items n,slots:=sl }/\s.heap.get? b=some { cls:=.type "list", dict:=dd2,data:=.seq items2 n2,slots:=sl2 } /\
    R (.ok (.ret (.bool (pR ns ms)))) s):=by
 intro prog w A R s h;obtain⟨hp,g,d,tk,os⟩:=s;obtain⟨hl,hb,h⟩:=h;have f3:=AutoSeq1.sub_list_list
 wp_walk using wpAny_loadPart' hl,wpAny_loadPart' hb
 exact⟨jC plain_eq_loop _,jz entry_eq_loop (by
  rw[Around.under_plainId plain_eq_loop _];exact EW l b items items2 n n2 dd dd2 sl sl2 ns ms hi hj _ 0 rfl (aG _) (aG _) prog w A R _ ⟨hl,hb,h⟩)⟩
end
end HT
namespace MrS
open PySem PyProof.Rows
section
variable {prog:jj}{w:jo}{A:Around}{E:Value->Shared->Prop}{s:Shared}{κ:jB}{P:je->Prop}{lt:je->je->Bool}
theorem Ki(C:xh prog w A s κ P lt) {arr:Array je}{g:Nat}{Q:Unit->SortSt->Prop}(hp:∀x,x∈arr->P x) (h2:2<=arr.size) (h64:arr.size<64)
  (h:∀xs p g',xs.Perm arr->vX lt xs 0 arr.size->Q () (Ao κ xs p g')):wpS (jf prog w) A E s sortRuns' Q (Ao κ arr #[] g):=by
 rw[sortRuns'_eq];refine jm (kF ?_);dsimp only;have hmr:minRun' arr.size arr.size 0=arr.size:=by
  obtain⟨f,hf⟩:∃f,arr.size=f+1:=⟨arr.size-1,by lia⟩
  have:minRun' (f+1) arr.size 0=arr.size:=by rw[minRun'_succ,oQ h64];rfl
  rwa [←hf]at this
 have e0:ji (Ao κ arr #[] g)=arr:=rfl;simp only[e0,hmr];refine jm (jK (jH
  (I:=λx c st'=>(x=0/\c=(none,0)/\st'=Ao κ arr #[] g)∨(1<=x/\c=(none,arr.size)/\∃xs,st'=Ao κ xs #[(0,arr.size,0)] g/\xs.Perm arr/\vX lt xs 0 arr.size))
  (Q:=λc st'=>c=(none,arr.size)/\∃xs,st'=Ao κ xs #[(0,arr.size,0)] g/\xs.Perm arr/\vX lt xs 0 arr.size) ?step ?fin (.inl ⟨rfl,rfl,rfl⟩)) ?post)
 case fin =>
  rintro c st' (⟨hx,_,_⟩|⟨_,hc,hD⟩)
  .lia
  .exact ⟨hc,hD⟩
 case step =>
  rintro x c st' _ hx1 (⟨rfl,rfl,rfl⟩|⟨hx1,rfl,hD⟩)
  .dsimp only;rw[oT (by lia)]
   simp only[fN,gU];refine jm (E9 (st:=Ao κ arr #[] g) C hp rfl (by lia) (by show 0+arr.size<=arr.size;lia) λn ys n1 n2 b1 s1=>?_)
   dsimp only;have hb:xf arr ys 0 (0+n):=b1;show wpS _ _ _ _ _ _ (Ao κ ys #[] g)
   by_cases hlt:n<arr.size
   .rw [oQ hlt];refine jm (zT ?_);refine jm (HQ (st:=Ao κ ys #[] g) C (hb.mem hp) rfl n1 n2 (by show 0+arr.size<=ys.size;have:=hb.size;lia) s1 λzs b2 s2=>?_)
    rw[oT (by decide)]
    refine jm (kF ?_);show wpS _ _ _ _ _ _ (Ao κ zs #[] g);refine jm (kQ (jq (.inr ⟨by lia,by rw[aK],zs,?_,b2.pm.trans hb.pm,?_⟩)))
    .rfl
    .rw [aK]at s2;exact s2
   .rw [oT hlt];have hm:n=arr.size:=by lia
    subst hm;refine jm (kF ?_);refine jm (kQ (jq (.inr ⟨by lia,by rw[aK],ys,?_,hb.pm,?_⟩)))
    .rfl
    .rw [aK]at s1;exact s1
  .dsimp only;rw[oQ (ae _)];exact jq ⟨rfl,hD⟩
 case post =>
  rintro c st' ⟨rfl,xs,rfl,q1,q2⟩;dsimp only;refine jm (jK (jH (I:=λ_ c st''=>st''=Ao κ xs #[(0,arr.size,0)] g/\c=(none,())) (Q:=λc st''=>st''=Ao κ xs #[(0,arr.size,0)] g/\c=(none,())) ?_ (λ_ _ hh=>hh) ⟨rfl,rfl⟩) ?_)
  .rintro x c st'' _ _ ⟨rfl,rfl⟩;refine jm (kF ?_);rw[oQ (by show (1:Nat)<=1;exact ae 1)]
   exact jq ⟨rfl,rfl⟩
  .rintro c st'' ⟨rfl,rfl⟩;exact jq (h xs _ _ q1 q2)
end
section
variable {prog:jj}{w:jo}{A:Around}{E:Value->Shared->Prop}{s:Shared}{Pk:je->Prop}{lt:je->je->Bool}
theorem yQ{a:Addr}{vs:List Value}{n:Nat}{P:PySem.Fin->Shared->Prop}(ho:s.heap.get? a=some (jh "list" vs.toArray n)) (hs:vs.length<64)
  (hkk:2<=vs.length->∀Q:jB->Shared->Prop,Q km { s with heap:=qK s.heap a vs }->jd (jf prog w) A (kD vs.toArray) Q E { s with heap:=qK s.heap a vs })
  (C:xh prog w A { s with heap:=qK s.heap a vs } km Pk lt) (hp:∀x,x∈jG vs->Pk x)
  (h:∀xs:Array je,xs.Perm (jG vs)->vX lt xs 0 (jG vs).size->P (.done (.ret .none)) { s with heap:=kx s.heap a vs (xs.map (·.2)) }) :
  jd (jf prog w) A (Builtin.«list.sort» ⟨[.ref a],[]⟩) P E s:=by
 rw[list_sort_plain];have ha:a<s.heap.objs.size:=ag ho;refine jc (lU ho rfl ?_);refine jc (jF ho rfl ?_ (hsz:=by rw[ak,jt];lia))
 obtain⟨e1,ho1⟩:∃e1,(s.heap.update a (Obj.mapSeq λ_=>#[])).get? a=some (jh "list" #[] e1):=⟨_,jD ho (λ_=>#[])⟩
 refine jc (kj ho1 rfl ?_);refine jc (kX ?_);refine jc (jO ?_);refine jy ?_;have ho6:(qK s.heap a vs).get? a=some (jh "list" #[] e1):=by
  rw[bW _ _ _ (by rw[ke,aW];exact ao (ba ha)),bW _ _ _ (by rw[aW];exact ao ha)]
  exact ho1
 show jd (jf prog w) A _ P E { s with heap:=qK s.heap a vs }
 dsimp only;have hsz:vs.toArray.size=vs.length:=by simp
 have hs':jk=16777216:=jt
 by_cases h2:vs.toArray.size<2
 .rw [oQ h2,oQ h2];refine jc (jg ?_);rw[StateT.run_pure];refine jc (jg ?_);dsimp only;refine jc (kj ho6 rfl ?_);refine jc (jF ho6 rfl ?_ (hsz2:=by rw[ed];show (jG vs).size<=_;rw[jJ,jt];lia))
  simp only[bne_self_eq_false,bx,if_false];refine jg (h _ (gC.refl _) ?_);intro i j x y _ hij hj ex ey;have:i=j:=by rw[jJ]at hj;lia
  subst this;rw[ex]at ey;cases ey;exact C.refl (hp x (aQq ex))
 .rw [oT h2,oT h2];refine jc (hkk (by lia) _ ?_)
  refine jc (jv (Ki C (arr:=jG vs) (g:=7) (E:=E)
   (Q:=λ_ st'=>∃xs p g',st'=Ao km xs p g'/\xs.Perm (jG vs)/\vX lt xs 0 (jG vs).size) hp (by rw[jJ];lia) (by rw[jJ];lia) λxs p g' a1 a2=>⟨xs,p,g',rfl,a1,a2⟩) ?_ λ_ _ e=>e)
  rintro⟨⟨⟩,st'⟩ s' ⟨rfl,xs,p,g',rfl,hpm,hsg⟩;dsimp only;refine jc (kj ho6 rfl ?_);refine jc (jF ho6 rfl ?_ (hsz2:=by refine aS (cK ((ed ..).trans (hpm.size_eq.trans (jJ _)))) ?_;lia))
  simp only[bne_self_eq_false,bx,if_false];exact jg (h xs hpm hsg)
theorem zc{l:Addr}{vs:List Value}{Q:Value->Shared->Prop}(hl:s.heap.IsList l vs.toArray) (hs:vs.length<64)
  (hC:∀s':Shared,(∀b o,s.heap.get? b=some o->s'.heap.get? b=some o)->(2<=vs.length->∀Q:jB->Shared->Prop,Q km s'->jd (jf prog w) A.in1.in1 (kD vs.toArray) Q E s')/\xh prog w A.in1.in1 s' km Pk lt)
  (hp:∀v∈vs,Pk (v,v))
  (h:∀(out:List Value) (h':Heap) (n':Nat),out.Perm vs->out.Pairwise (λx y=>lt (y,y) (x,x)=false)->(∀b o,s.heap.get? b=some o->h'.get? b=some o) ->
   h'.get? (s.heap.objs.size+1)=some (jh "list" out.toArray n')->Q (.ref (s.heap.objs.size+1)) { s with heap:=h' }) :
  jd (jf prog w) A (call (.builtin "sorted") [.ref l]) Q E s:=by
 refine Calls.call_function_entry mq lR lV (mP _) ?_;unfold Builtin.«sorted»;refine jc (m:=mK "sorted" 1 1 _) (jg ?_);refine jc (mO hl ?_ (by rw[jt];lia))
 refine jc (jO ?_ (by rw[jt];lia))
 have hsz:((s.heap.push (jh "list" #[] 0)).update s.heap.objs.size (Obj.mapSeq (· ++ vs.toArray))).objs.size=s.heap.objs.size+1:=by
  rw[aW,ke]
 have hoL:(((s.heap.push (jh "list" #[] 0)).update s.heap.objs.size (Obj.mapSeq (· ++ vs.toArray))).push (jh "list" vs.toArray 0)).get? (s.heap.objs.size+1)=some (jh "list" vs.toArray 0):=by
  rw[←hsz];exact aB _ rfl
 show jd _ _ _ _ _ { s with heap:=((s.heap.push (jh "list" #[] 0)).update s.heap.objs.size (Obj.mapSeq (· ++ vs.toArray))).push (jh "list" vs.toArray 0) }
 rw[hsz];generalize hG:((s.heap.push (jh "list" #[] 0)).update s.heap.objs.size (Obj.mapSeq (· ++ vs.toArray))).push (jh "list" vs.toArray 0)=G at hoL ⊢;have k1:∀b o,s.heap.get? b=some o->G.get? b=some o:=λb o e=>by
  rw[←hG];refine ab _ ?_;rw[aV _ _ _ _ (ao (ag e))];exact ab _ e
 have k2:∀b o,s.heap.get? b=some o->(qK G (s.heap.objs.size+1) vs).get? b=some o:=λb o e=>by
  refine ab _ (ab _ ?_);rw[aV _ _ _ _ (ao (ba (ag e)))];exact k1 b o e
 obtain⟨q1,q2⟩:=hC { s with heap:=qK G (s.heap.objs.size+1) vs } k2
 refine jc (jy (ku kY ⟨_,hoL,rfl⟩ kP (yQ (Pk:=Pk) (lt:=lt) hoL hs q1 q2 (λx hx=>?_) λxs a1 a2=>⟨_,rfl,?_⟩) (mB _)))
 .obtain ⟨m1,m2⟩:=uE hx;have:x=(x.1,x.1):=fA rfl m2;rw[this];exact hp _ m1
 .obtain ⟨v1,v2⟩:=xY a1 a2;obtain⟨e1,ho1⟩:=Ez vs hoL;obtain⟨n1,g1⟩:=Fp (xs.map (·.2)) ho1;refine jg ⟨_,rfl,h _ (kx G (s.heap.objs.size+1) vs (xs.map (·.2))) n1 v1 v2 (λb o e=>?_) ?_⟩
  .unfold kx;rw[aV _ _ _ _ (ao (ba (ag e)))];exact k2 b o e
  .rw [show (xs.map (·.2)).toList.toArray=xs.map (·.2) from eS]
   exact g1
end
end MrS
namespace Mr
open PySem PySem.Spec PyProof.Rows L2
section
open HT
theorem xP:∀xs ys:List Int,pR xs ys=true->pR ys xs=false
 | [],[],_=>rfl
 | [],_::_,_=>rfl
 |_::_,[],h=>by cases h
 |x::xs,y::ys,h=>by
  rw[vP]at h ⊢
  by_cases e:x=y
  .rw [oQ e]at h;rw[oQ e.symm];exact xP xs ys h
  .rw [oT e]at h;rw[oT (Ne.symm e)];have h':x<y:=of_decide_eq_true h;exact decide_eq_false (by lia)
theorem wK:∀xs ys zs:List Int,pR ys xs=false->pR zs ys=false->pR zs xs=false
 | [],[],[],_,_=>rfl
 | [],[],_::_,_,h=>by exact h
 | [],_::_,[],_,h=>by cases h
 | [],_::_,_::_,_,_=>rfl
 |_::_,[],_,h,_=>by cases h
 |_::_,_::_,[],_,h=>by cases h
 |x::xs,y::ys,z::zs,h1,h2=>by
  rw[vP]at h1 h2 ⊢
  by_cases e1:y=x
  .rw [oQ e1]at h1;subst e1
   by_cases e2:z=y
   .rw [oQ e2]at h2 ⊢;exact wK xs ys zs h1 h2
   .rw [oT e2]at h2 ⊢;exact h2
  .rw [oT e1]at h1;have h1':¬ y<x:=of_decide_eq_false h1
   by_cases e2:z=y
   .rw [oT (by lia)]
    exact decide_eq_false (by lia)
   .rw [oT e2]at h2;have h2':¬ z<y:=of_decide_eq_false h2;rw[oT (by lia)]
    exact decide_eq_false (by lia)
theorem zW:∀xs ys:List Int,pR xs ys=false->pR ys xs=false->xs=ys
 | [],[],_,_=>rfl
 | [],_::_,h,_=>by cases h
 |_::_,[],_,h=>by cases h
 |x::xs,y::ys,h1,h2=>by
  rw[vP]at h1 h2
  by_cases e:x=y
  .rw [oQ e]at h1;rw[oQ e.symm]at h2;rw[e,zW xs ys h1 h2]
  .rw [oT e]at h1;rw[oT (Ne.symm e)]at h2;have h1':¬ x<y:=of_decide_eq_false h1;have h2':¬ y<x:=of_decide_eq_false h2;lia
def QT(x y:List Int):Bool:=!HT.pR y x
theorem K9(x y z:List Int) (h1:QT x y=true) (h2:QT y z=true):QT x z=true:=by
 unfold QT at *;simp only[eg]at *;exact wK x y z h1 h2
theorem Li(x y:List Int):(QT x y || QT y x)=true:=by
 unfold QT;cases h:HT.pR y x with
 |false=>rfl
 |true=>rw[xP y x h];rfl
def yK(rs:List (List Int)):List (List Int):=rs.mergeSort QT
theorem Am(rs:List (List Int)):(yK rs).Perm rs:=fe _ _
theorem zt(rs:List (List Int)):(yK rs).Pairwise (λx y=>HT.pR y x=false):=by
 refine(dX K9 Li rs).imp λ{a b} h=>?_
 unfold QT at h;simpa using h
theorem Do:∀{xs ys:List (List Int)},xs.Perm ys->xs.Pairwise (λx y=>HT.pR y x=false)->ys.Pairwise (λx y=>HT.pR y x=false)->xs=ys
 |xs,ys,hp,h1,h2=>dr.eq_of_pairwise (λa b _ _ e1 e2=>(zW b a e1 e2).symm) h1 h2 hp
theorem HW{xs rs:List (List Int)}(hp:xs.Perm rs) (h:xs.Pairwise (λx y=>HT.pR y x=false)):xs=yK rs :=
 Do (hp.trans (Am rs).symm) h (zt rs)
def qF(ns:List Int):List Int:=ns.mergeSort (λx y=>decide (x<=y))
theorem qY(ns:List Int):(qF ns).Perm ns:=fe _ _
theorem Bj(ns:List Int):(qF ns).Pairwise (·<=·):=by
 refine(dX (le:=λx y=>decide (x<=y)) (λa b c h1 h2=>?_) (λa b=>?_) ns).imp λ{a b} h=>by simpa using h
 .simp only [decide_eq_true_eq]at *;lia
 .simp only [iE,decide_eq_true_eq];lia
theorem KC{xs ns:List Int}(hp:xs.Perm ns) (h:xs.Pairwise (·<=·)):xs=qF ns :=
 dr.eq_of_pairwise (λa b _ _ e1 e2=>Int.le_antisymm e1 e2) h (Bj ns) (hp.trans (qY ns).symm)
end
def qE(H:Hp) (ps:List Addr) (rs:List (List Int)):Prop:=ps.map H=rs.map (λr=>some (HO.lst (r.map V.int)))
theorem qE.nil{H:Hp}:qE H [] []:=rfl
theorem qE.length{H:Hp}{ps:List Addr}{rs:List (List Int)}(h:qE H ps rs):ps.length=rs.length:=by
 have:=congrArg bb h;simpa using this
theorem qE.cons_iff{H:Hp}{ps:List Addr}{rs:List (List Int)}{p:Addr}{r:List Int}:qE H (p::ps) (r::rs)↔H p=some (.lst (r.map V.int))/\qE H ps rs:=by
 unfold qE;rw[ar,ar,List.cons.injEq]
theorem qE.get{H:Hp}{ps:List Addr}{rs:List (List Int)}(h:qE H ps rs) {i:Nat}{p:Addr}(e:ps[i]?=some p):∃r,rs[i]?=some r/\H p=some (.lst (r.map V.int)):=by
 have:=congrArg (λl=>l[i]?) h
 simp only[gMq,e,fV]at this;cases er:rs[i]? with
 |none=>rw[er]at this;cases this
 |some r=>rw[er]at this;exact⟨r,rfl,aM.inj this⟩
theorem qE.mem{H:Hp}{ps:List Addr}{rs:List (List Int)}(h:qE H ps rs) {p:Addr}(hp:p∈ps):∃r,r∈rs/\H p=some (.lst (r.map V.int)):=by
 obtain⟨i,hi⟩:=List.getElem?_of_mem hp;obtain⟨r,er,e⟩:=h.get hi;exact⟨r,mGq er,e⟩
theorem qE.keep{H H':Hp}{ps:List Addr}{rs:List (List Int)}(h:qE H ps rs) (k:∀p∈ps,H' p=H p):qE H' ps rs:=by
 unfold qE at *;rw[←h];exact mCq k
theorem qE.same{H H':Hp}{ps:List Addr}{rs:List (List Int)}(h:qE H ps rs) (s:oM H H'):qE H' ps rs :=
 h.keep λp hp=>by
  obtain⟨r,_,e⟩:=h.mem hp;rw[s _ _ e,e]
def Xz:V->Int
 | .int i=>i
 |_=>0
def ye(H:Hp) (p:Addr):List Int:=match H p with
 |some (.lst xs)=>xs.map Xz
 |_=>[]
theorem GX{H:Hp}{p:Addr}{r:List Int}(h:H p=some (.lst (r.map V.int))):ye H p=r:=by
 unfold ye;rw[h];simp only[mPq];exact List.map_id'' (λ_=>rfl) r
theorem qE.fn{H:Hp}{ps:List Addr}{rs:List (List Int)}(h:qE H ps rs):rs=ps.map (ye H):=by
 induction rs generalizing ps with
 |nil =>
  have:=h.length;have:ps=[]:=aU.mp this;rw[this];rfl
 |cons r rs ih =>
  cases ps with
  |nil=>have:=h.length;simp at this
  |cons p ps =>
   obtain⟨h1,h2⟩:=qE.cons_iff.mp h;rw[ar,←ih h2,GX h1]
theorem qE.fn_row{H:Hp}{ps:List Addr}{rs:List (List Int)}(h:qE H ps rs) {p:Addr}(hp:p∈ps):H p=some (.lst ((ye H p).map V.int)):=by
 obtain⟨r,_,e⟩:=h.mem hp;rw[GX e];exact e
theorem qE.of_fn{H:Hp}{ps:List Addr}(h:∀p∈ps,H p=some (.lst ((ye H p).map V.int))):qE H ps (ps.map (ye H)):=by
 unfold qE;rw[mPq];exact mCq h
theorem qE.perm{H:Hp}{ps qs:List Addr}{rs:List (List Int)}(h:qE H ps rs) (hp:qs.Perm ps):∃ts,qE H qs ts/\ts.Perm rs/\ts=qs.map (ye H) :=
 ⟨_,qE.of_fn λp m=>h.fn_row (hp.mem_iff.mp m),by rw[h.fn];exact hp.map _,rfl⟩
theorem qE.free{H H':Hp}{ps:List Addr}{rs:List (List Int)}(h:qE H' ps rs) {q:Addr}(n:H' q=none):q∉ps:=λm=>by
 obtain⟨r,_,e⟩:=h.mem m;rw[n]at e;cases e
theorem rh:∀{ps:List Addr}{vs:List Value},oW (ps.map V.ref) vs->vs=ps.map ai
 | [],vs,r=>by cases r;rfl
 |p::ps,vs,r=>by
  rw[ar]at r;cases r with
  |cons h1 h2 =>
   have e:_=ai p:=h1;rw[e,rh h2];rfl
theorem tO:∀(ps:List Addr),oW (ps.map V.ref) (ps.map ai)
 | []=>.nil
 |p::ps=>.cons rfl (tO ps)
def pE:Value->Addr
 | .ref p=>p
 |_=>0
def intOf:Value->Int
 | .int i _=>i
 |_=>0
theorem EV{vs:List Value}{ns:List Int}(h:jA vs ns):ns=vs.map intOf/\∀v∈vs,∃a t,v = .int a t:=by
 induction h with
 |nil=>exact⟨rfl,λv hv=>by cases hv⟩
 |cons a t _ ih =>
  refine⟨by rw[ar,←ih.1];rfl,λv hv=>?_⟩
  rcases ah.mp hv with rfl|hv
  .exact ⟨a,t,rfl⟩
  .exact ih.2 v hv
theorem vals_ints:∀{vs:List Value},(∀v∈vs,∃a t,v = .int a t)->oW ((vs.map intOf).map V.int) vs
 | [],_=>.nil
 |v::vs,h=>by
  obtain⟨a,t,rfl⟩:=h _ (aj ..);exact .cons ⟨t,rfl⟩ (vals_ints λv hv=>h v (mCo _ hv))
theorem JV{M:Model}{A:Around}{E:Value->Shared->Prop}{s:Shared}{vs:List Value}{T:String}{Q:jB->Shared->Prop}(h2:2<=vs.length) (hT:∀v∈vs,W.Looks M s.heap (typeOf v) (.type T)) (hT1:(fG T != fG "tuple")=true) (hT2:(fG T == fG T)=true) (h:Q km s) :
  jd M A (kD vs.toArray) Q E s:=W.kas_kind h2 hT hT1 hT2 h
def Wf(x y:je):Bool:=match x.1,y.1 with
 | .int a _,.int b _=>decide (a<b)
 |_,_=>false
theorem Uw(prog:jj) (w:jo) (A:Around) (s:Shared):MrS.xh prog w A s km (λx=>∃a t,x.1 = .int a t) Wf where
 ask:=by
  rintro⟨_,x⟩ ⟨_,y⟩ ⟨a,t,e1⟩ ⟨b,u,e2⟩ E Q q;dsimp only at e1 e2;subst e1 e2;rw[kZ];exact oneLt_int q
 asym:=by
  rintro⟨_,x⟩ ⟨_,y⟩ ⟨a,t,e1⟩ ⟨b,u,e2⟩ h;dsimp only at e1 e2;subst e1 e2;have h':a<b:=of_decide_eq_true h;exact decide_eq_false (by lia)
 trans:=by
  rintro⟨_,x⟩ ⟨_,y⟩ ⟨_,z⟩ ⟨a,t,e1⟩ ⟨b,u,e2⟩ ⟨c,v,e3⟩ h1 h2;dsimp only at e1 e2 e3;subst e1 e2 e3;have h1':¬ b<a:=of_decide_eq_false h1;have h2':¬ c<b:=of_decide_eq_false h2;exact decide_eq_false (by lia)
def WR(r:Addr->List Int) (x y:je):Bool:=match x.1,y.1 with
 | .ref p,.ref q=>HT.pR (r p) (r q)
 |_,_=>false
theorem WL{prog:jj}{w:jo}{A:Around}{s:Shared}{ps:List Addr}{r:Addr->List Int}(hu:A.units<jw)
  (h:∀p∈ps,∃vs:List Value,mE s.heap p vs.toArray/\jA vs (r p)):MrS.xh prog w A s km (λx=>∃p,x.1 = .ref p/\p∈ps) (WR r) where
 ask:=by
  rintro⟨_,x⟩ ⟨_,y⟩ ⟨p,e1,hp⟩ ⟨q,e2,hq⟩ E Q k;dsimp only at e1 e2;subst e1 e2;obtain⟨vs,⟨o,n,ho,hc,hd0,hd⟩,hi⟩:=h p hp;obtain⟨ws,⟨o2,n2,ho2,hc2,hd02,hd2⟩,hj⟩:=h q hq;obtain⟨cls,dd,data,sl⟩:=o;obtain⟨cls2,dd2,data2,sl2⟩:=o2;simp only at hc hd0 hd hc2 hd02 hd2;subst hc hd0 hd hc2 hd02 hd2;rw[kZ,oneLt'_eq];simp only[if_true];refine jc (wpAny_cRoomFor hu ?_);refine jc (kL ⟨_,ho,rfl⟩ F.slot_list_lt (kf F.slot_list_lt ⟨_,ho,rfl⟩ F.entry_list_lt (F.args_list_lt_2 _ _)
   (HT.Aq p q vs.toArray ws.toArray n n2 none none sl sl2 (r p) (r q) (by simpa using hi) (by simpa using hj)) ⟨ho,ho2,?_⟩))
  exact jN k
 asym:=by
  rintro⟨_,x⟩ ⟨_,y⟩ ⟨a,e1,_⟩ ⟨b,e2,_⟩ h;dsimp only at e1 e2;subst e1 e2;exact xP _ _ h
 trans:=by
  rintro⟨_,x⟩ ⟨_,y⟩ ⟨_,z⟩ ⟨a,e1,_⟩ ⟨b,e2,_⟩ ⟨c,e3,_⟩ h1 h2;dsimp only at e1 e2 e3;subst e1 e2 e3;exact wK _ _ _ h1 h2
section
variable {X:Cx}
theorem Ac:vM X (.builtin "sorted") (λxs H Q=>∃(a:Addr) (ns:List Int),xs=[.ref a]/\ns.length<64/\qw X.K H a (ns.map V.int)/\∀p,H p=none->Q (.ref p) (qr H p (.lst ((qF ns).map V.int)))):=by
 intro nF s σ H xs us Q I r h;obtain⟨a,ns,rfl,hf,hS,q⟩:=h;obtain⟨u,rfl,ru⟩:=uy r;cases ru;obtain⟨vs,hl,hi,hz⟩:=Ce I hS;obtain⟨en,hv⟩:=EV hi;have hlen:=hi.length;refine MrS.zc (Pk:=λx=>∃a t,x.1 = .int a t) (lt:=Wf) hl (by lia) (λs' _=>⟨λh2 Q q=>?_,Uw _ _ _ _⟩) (λv m=>hv v m) λout h' n' o1 o2 o3 o4=>?_
 .match vs,hi,h2 with
  | [],_,h2=>simp at h2
  | [_],_,h2=>simp at h2
  |v₁::v₂::sH,hi,_ =>
   rw[keyKind_ints hi];exact jg q
 .have ho:∀v∈out,∃a t,v = .int a t:=λv m=>hv v (o1.mem_iff.mp m)
  have e:out.map intOf=qF ns:=by
   refine KC (by rw[en];exact o1.map _) ?_
   rw[aJ];refine o2.imp_of_mem λ{x y} mx my h=>?_
   obtain⟨a,t,rfl⟩:=ho x mx;obtain⟨b,u,rfl⟩:=ho y my;have h':¬ b<a:=of_decide_eq_false h;show a<=b;lia
  have hp:H (s.heap.objs.size+1)=none:=I.hok.fresh (aT _);refine⟨.ref (s.heap.objs.size+1),_,I.laid (t':=s.toks) o3 (aT _) (show qp X.prog X.w _ h' _ (.lst ((qF ns).map V.int)) from ⟨?_,out,n',?_,o4⟩),rfl,q _ hp⟩
  .rw [lMq,(qY ns).length_eq];exact hz
  .rw [←e];exact vals_ints ho
theorem Fc(hu:X.A.units+64<jw):vM X (.builtin "sorted") (λxs H Q=>∃(a:Addr) (ps:List Addr) (rs:List (List Int)),xs=[.ref a]/\ps.length<64/\qw X.K H a (ps.map V.ref)/\qE H ps rs /\
  ∀p qs,H p=none->qs.Perm ps->qE (qr H p (.lst (qs.map V.ref))) qs (yK rs)->Q (.ref p) (qr H p (.lst (qs.map V.ref)))):=by
 intro nF s σ H xs us Q I r h;obtain⟨a,ps,rs,rfl,hf,hS,hE,q⟩:=h;obtain⟨u,rfl,ru⟩:=uy r;cases ru;obtain⟨its,rv,hl,hz⟩:=I.list hS;have ei:=rh rv;subst ei;have hrow:∀p∈ps,∃vs:List Value,mE s.heap p vs.toArray/\jA vs (ye H p):=λp hp=>by
  obtain⟨its,rv,pl,_⟩:=I.list (qw.of (hE.fn_row hp));exact⟨its,pl,uh rv⟩
 have keepL:∀(s':Shared),(∀b o,s.heap.get? b=some o->s'.heap.get? b=some o)->∀p∈ps,∃vs:List Value,mE s'.heap p vs.toArray/\jA vs (ye H p):=λs' k p hp=>by
  obtain⟨vs,⟨o,n,ho,sH⟩,hi⟩:=hrow p hp;exact⟨vs,⟨o,n,k _ _ ho,sH⟩,hi⟩
 refine MrS.zc (Pk:=λx=>∃p,x.1 = .ref p/\p∈ps) (lt:=WR (ye H)) hl.isList (by simpa using hf) (λs' k=>⟨λh2 Q q=>?_,WL (by show X.A.units+1+1<jw;lia) (keepL s' k)⟩) (λv m=>?_) λout h' n' o1 o2 o3 o4=>?_
 .refine JV (T := "list") h2 (λv hv=>?_) (by rfl) (by rfl) q
  obtain⟨p,hp,rfl⟩:=mMq.mp hv;obtain⟨vs,pl,_⟩:=keepL s' k p hp;intro A Q E s2 k2 q2;obtain⟨o,ho,hc,_⟩:=pl.isList;exact ko (T := "list") ⟨o,k2 _ _ ho,hc⟩ q2
 .obtain ⟨p,hp,rfl⟩:=mMq.mp m;exact⟨p,rfl,hp⟩
 .have ho:∀v∈out,∃p∈ps,v = .ref p:=λv m=>by
   obtain⟨p,hp,rfl⟩:=mMq.mp (o1.mem_iff.mp m);exact⟨p,hp,rfl⟩
  have eo:out=(out.map pE).map ai:=by
   rw[mPq];have e:=mCq (l:=out) (f:=id) (g:=ai∘pE) λv hv=>by
    obtain⟨p,_,rfl⟩:=ho v hv;rfl
   rw[←e,bV]
  have hq:(out.map pE).Perm ps:=by
   have:=o1.map pE;rw[mPq,show pE∘ai=id from rfl,bV]at this
   exact this
  have hp:H (s.heap.objs.size+1)=none:=I.hok.fresh (aT _);generalize out.map pE=qs at eo hq;obtain⟨ts,e1,e2,e3⟩:=hE.perm hq;have es:ts=yK rs:=by
   refine HW e2 ?_;rw[e3,aJ];rw[eo,aJ]at o2;exact o2
  refine⟨.ref (s.heap.objs.size+1),_,I.laid (t':=s.toks) o3 (aT _) (show qp X.prog X.w _ h' _ (.lst (qs.map V.ref)) from ⟨?_,out,n',?_,o4⟩),rfl,q _ qs hp hq (by rw[←es];exact e1.same (vF hp))⟩
  .rw [lMq,hq.length_eq];simpa using hz
  .rw [eo];exact tO qs
def tH(r:List Int):PyData:=.list (r.map PyData.int)
def zR(rs:List (List Int)):PyData:=.list (rs.map tH)
theorem Bs:∀rs:List (List Int),PyData.canLayAll0 (rs.map tH)=true
 | []=>by simp[PyData.canLayAll0]
 |r::rs=>by simp[PyData.canLayAll0,tH,PyData.canLay0,W.canLayAll0_ints r,Bs rs]
theorem Cy:∀rs:List (List Int),PyData.depthAll (rs.map tH)<=3
 | []=>by simp[PyData.depthAll]
 |r::rs=>by
  have h1:=Cy rs;have h2:=W.depthAll_ints r;simp only[ar,PyData.depthAll,tH,PyData.depth];lia
theorem Bi(rs:List (List Int)):SeqAt.shaped (zR rs)=true:=by
 have h1:=Cy rs;have h2:PyData.depth (zR rs)<=64:=by simp only[zR,PyData.depth];lia
 show (PyData.canLay0 (zR rs) && decide (PyData.depth (zR rs)<=64))=true;rw[eJ];exact⟨by simp only[zR,PyData.canLay0];exact Bs rs,decide_eq_true h2⟩
theorem C2:∀rs ts:List (List Int),SeqAt.noMixAll (rs.map tH) (ts.map tH)=true
 | [],[]=>by simp[SeqAt.noMixAll]
 | [],_::_=>by simp[SeqAt.noMixAll]
 |_::_,[]=>by simp[SeqAt.noMixAll]
 |r::rs,t::ts=>by simp[SeqAt.noMixAll,tH,SeqAt.noMix,W.noMix_ints r t,C2 rs ts]
theorem DX:∀rs ts:List (List Int),PySem.Spec.sameAll (rs.map tH) (ts.map tH)=decide (rs=ts)
 | [],[]=>by simp[PySem.Spec.sameAll]
 | [],_::_=>by simp[PySem.Spec.sameAll]
 |_::_,[]=>by simp[PySem.Spec.sameAll]
 |r::rs,t::ts=>by
  simp only[ar,PySem.Spec.sameAll,tH,PySem.Spec.same,W.same_ints r t];rw[DX rs ts]
  by_cases h:r=t <;> simp[h]
end
end Mr
namespace Mr
open PySem L2
structure Bt (mg:Str->Option Value):Prop where
 len:mg "len" = none
 min:mg "min" = none
 max:mg "max" = none
 abs:mg "abs" = none
 all:mg "all" = none
 sorted:mg "sorted" = none
 isi:mg "isinstance" = none
 list:mg "list" = none
 int:mg "int" = none
 bool:mg "bool" = none
 str:mg "str" = none
 dict:mg "dict" = none
 zip:mg "zip" = none
 enum:mg "enumerate" = none
 range:mg "range" = none
 reversed:mg "reversed" = none
structure Fn (P:jj) (w:jo) (K:W.Frag) (mg:Str->Option Value) (base:Heap) (k:Nat) (x:Str) (st:Stmt) (ps:List Str) (sp:Sp) (f:Addr) (fd:jE):Prop where
 D:yx K mg x st ps f fd
 ok:wU P w K mg base QV k f fd ps sp
theorem rQ.units65{k:Nat}{A:Around}(r:rQ k A):A.units+65<jw:=by have:=r.un;lia
section
variable {X:Cx}{k:Nat}{f:Addr}{fd:jE}{ps:List Str}{sp:Sp}{x:Str}{p pos:Pos}{e:Expr}{es:List Expr}{t:TA}{st:Stmt}
theorem oP(G:Fn X.prog X.w X.K X.mg X.base k x st ps sp f fd) (hr:rQ k X.A) (ha:PA X (e::es) t) (hg:Gl X x:=by rfl) (hdb:(x == ("__debug__" : Str))=false:=by decide)
  (he:jr (e::es) X.env=(false,eval e X.env)::jr es X.env:=by rfl) (hpl:(jY pos (jr es X.env)).any (·.1)=false:=by rfl) :
  PE X (.Call (.Name x p) (e::es) [] pos) (Kr sp [] E0 t):=Qq G.ok hr hg G.D.m G.D.F.kp G.D.b .nil UV ha hdb he hpl
end
section
variable (K:W.Frag)
def Kt:Sp:=λvs H Q _=>∃(a:Addr) (ns:List Int),vs=[.ref a]/\qw K H a (ns.map V.int)/\ns.length<=63/\∀H',Q (.bl true) H'
end
theorem rL{α:Type}{l:List α}{i:Nat}{x:α}(h:l[i]?=some x):l.take (i+1)=l.take i++[x]:=by
 rw[hV,h];rfl
end Mr
namespace Xe
open PySem PySem.Spec PySem.W PyProof.Rows L2 Mr
abbrev Xr(K:Frag) (C:Addr):Bool:=findIn K (.ref C) "__setattr__" == some (some (.builtin "object.__setattr__")) && findIn K (.ref C) "__getattribute__" == some (some (.builtin "BaseException.__getattribute__")) &&
 findIn K (.ref C) "__getattr__" == some none && findIn K (.ref C) "__class__" == some (some (.builtin "object.__class__"))
def Ss(K:Frag) (c:Str) (C:Addr) (bm:List Value):Bool:=match K.lookup C with
 |some ⟨.type "type", _,.cls cd,sl⟩=>(match sl.toList with
  | [_,_,_,_,some (.builtin n),_]=>cd.name == c && cd.mro == .ref C::bm && n == "ValueError.__new__" && !cd.hasDel && cd.hasDict && tailIn K VQ bm
  |_=>false)
 |_=>false
structure WE (K:Frag) (c:Str) (C M:Addr):Prop where
 nm:nsIn K jn c=some (some (.ref C))
 nmM:nsIn K jn "MapError" = some (some (.ref M))
 xc:Ss K c C (.ref M::VQ)=true
 xm:Ss K "MapError" M VQ=true
 lk:Xr K C=true
def XM(K:Frag) (c:Str) (C:Addr):Prop:=nsIn K jn c=some (some (.ref C))/\((∃M,WE K c C M)∨(c = "MapError" /\ Ss K "MapError" C VQ=true))
def Xj(e C:Addr) (od:Option Addr):HO:=.ext λh=>∃o vs,h.get? e=some o/\o.cls = .ref C/\o.dict=od/\o.data = .fields vs
end Xe
namespace MrS
open PySem PySem.W PyProof.Rows
section
variable {prog:jj}{w:jo}{A:Around}{E:Value->Shared->Prop}{s:Shared}{Pk:je->Prop}{lt:je->je->Bool}{T:String}{r d:Addr}{n:Nat}{P:Nat->Value->Prop}{OK:Heap->Prop}
theorem He{Q:List Value->Shared->Prop}(K:KdlSrc prog w T r d n P OK) (hh:A.handled=none) (hok:OK s.heap) (hn:n<=jk)
  (h:∀h' tk (acc:Array Value),(∀b o,s.heap.get? b=some o->h'.get? b=some o)->s.heap.objs.size<h'.objs.size->ItemsOf P acc n->Q acc.toList { s with heap:=h',toks:=tk }) :
  jd (jf prog w) A (collect (.ref r)) Q E s:=by
 unfold collect;refine jc (wpAny_runValue (jz entry_proto_collect' ?_));show jd _ _ (do again (.builtin "list.__iadd__" ⟨[←newList [],.ref r],[]⟩)) _ _ s
 refine jc (jO (jg ⟨Code.quiet_builtin _ (by decide +kernel),jz entry_list_iadd' ?_⟩))
 show jd _ _ (Builtin.List.listExtendWith (.ref s.heap.objs.size) (.ref r) (.ref s.heap.objs.size)) _ _ { s with heap:=s.heap.push (jh "list" #[] 0) }
 have hlt:=K.there _ hok;have hS0:(s.heap.push (jh "list" #[] 0)).get? s.heap.objs.size=some (jh "list" #[] 0):=aB _ rfl;refine kdl_extend (A:=A) (R:=λr s'=>match r with
   | .ok (.ret v)=>jd (jf prog w) A (match v with
    | .ref a=>do
     let o ←load a
     match o.data with
     | .seq xs _=>pure xs.toList
     |_=>mT "internal:collect"
    |_=>mT "internal:collect") Q E s'
   | .ok _=>False
   | .error e=>E e s') (s:={ s with heap:=s.heap.push (jh "list" #[] 0) }) K hh (K.keep _ _ hok λb _ o e=>ab _ e) s.heap.objs.size (aZ hlt.1) (aZ hlt.2) (.ref s.heap.objs.size) 0 hS0 (λh' tk acc c hk hS hi=>?_) hn
 show jd (jf prog w) A (do
   let o ←load s.heap.objs.size
   match o.data with
   | .seq xs _=>pure xs.toList
   |_=>mT "internal:collect") Q E { s with heap:=h',toks:=tk }
 refine jc (wpAny_load hS ?_);exact jg (h h' tk acc (λb o e=>hk b o (ao (ag e)) (ab _ e)) (ag hS) hi)
theorem Gb{Q:Value->Shared->Prop}(K:KdlSrc prog w T r d n P OK) (hh:A.handled=none) (hok:OK s.heap) (hn:n<64)
  (hC:∀(vs:List Value),vs.length=n->(∀j v,vs[j]?=some v->P j v)->∀s':Shared,(2<=vs.length->∀Q:jB->Shared->Prop,Q km s'->jd (jf prog w) A.in1.in1 (kD vs.toArray) Q E s')/\xh prog w A.in1.in1 s' km Pk lt/\∀v∈vs,Pk (v,v))
  (h:∀(vs out:List Value) (h':Heap) (p:Addr) (tk n':Nat),vs.length=n->(∀j v,vs[j]?=some v->P j v)->out.Perm vs->out.Pairwise (λx y=>lt (y,y) (x,x)=false)->(∀b o,s.heap.get? b=some o->h'.get? b=some o)->s.heap.objs.size<=p ->
   h'.get? p=some (jh "list" out.toArray n')->Q (.ref p) { s with heap:=h',toks:=tk }) :
  jd (jf prog w) A (call (.builtin "sorted") [.ref r]) Q E s:=by
 refine Calls.call_function_entry mq lR lV (mP _) ?_;unfold Builtin.«sorted»;refine jc (m:=mK "sorted" 1 1 _) (jg ?_);refine jc (He K hh hok (by rw[jt];lia) λh0 tk acc hk0 hsz0 hi=>?_)
 have hl:acc.toList.length=n:=by rw[bf];exact hi.1
 have hP:∀j v,acc.toList[j]?=some v->P j v:=λj v e=>hi.2 j v (by rw[←cP];exact e)
 have hs:acc.toList.length<64:=by rw[hl];exact hn
 generalize acc.toList=vs at hl hP hs;refine jc (jO ?_ (by rw[jt];lia))
 have hoL:(h0.push (jh "list" vs.toArray 0)).get? h0.objs.size=some (jh "list" vs.toArray 0):=aB _ rfl;show jd _ _ _ _ _ { s with heap:=h0.push (jh "list" vs.toArray 0),toks:=tk }
 have hsz:s.heap.objs.size<=h0.objs.size:=bB hsz0;have k1:∀b o,s.heap.get? b=some o->(h0.push (jh "list" vs.toArray 0)).get? b=some o:=λb o e=>ab _ (hk0 b o e)
 have hlt:∀b o,s.heap.get? b=some o->b≠h0.objs.size:=λb o e=>ao (ag (hk0 b o e))
 generalize h0.push (jh "list" vs.toArray 0)=G at hoL k1 ⊢
 clear hsz0
 generalize h0.objs.size=p at hoL hsz hlt ⊢;have k2:∀b o,s.heap.get? b=some o->(qK G p vs).get? b=some o:=λb o e=>by
  refine ab _ (ab _ ?_);rw[aV _ _ _ _ (hlt b o e)];exact k1 b o e
 obtain⟨q1,q2,q3⟩:=hC vs hl hP { s with heap:=qK G p vs,toks:=tk }
 refine jc (jy (ku kY ⟨_,hoL,rfl⟩ kP (yQ (s:={ s with heap:=G,toks:=tk }) (Pk:=Pk) (lt:=lt) hoL hs q1 q2 (λx hx=>?_) λxs a1 a2=>⟨_,rfl,?_⟩) (mB _)))
 .obtain ⟨m1,m2⟩:=uE hx;have:x=(x.1,x.1):=fA rfl m2;rw[this];exact q3 _ m1
 .obtain ⟨v1,v2⟩:=xY a1 a2;obtain⟨e1,ho1⟩:=Ez vs hoL;obtain⟨n1,g1⟩:=Fp (xs.map (·.2)) ho1;refine jg ⟨_,rfl,h vs _ (kx G p vs (xs.map (·.2))) p tk n1 hl hP v1 v2 (λb o e=>?_) hsz ?_⟩
  .unfold kx;rw[aV _ _ _ _ (hlt b o e)];exact k2 b o e
  .rw [show (xs.map (·.2)).toList.toArray=xs.map (·.2) from eS]
   exact g1
end
end MrS
namespace Mr
open PySem PySem.W PySem.Spec PyProof.Rows L2
section
variable {X:Cx}
theorem Jp:∀{us:List Value}{ns:List Int},us.length=ns.length->(∀(j:Nat) (v:Value) (n:Int),us[j]?=some v->ns[j]?=some n->∃t,v=gd n t)->jA us ns
 | [],[],_,_=>.nil
 | [],_::_,h,_=>by simp at h
 |_::_,[],h,_=>by simp at h
 |u::us,n::ns,h,g=>by
  obtain⟨t,rfl⟩:=g 0 u n rfl rfl;exact .cons n t (Jp (by simpa using h) λj v m e1 e2=>g (j+1) v m (by simpa using e1) (by simpa using e2))
theorem Qy:∀{kvs:List (oJ×V)}{ws:List (oJ×Value)},KV kvs ws->kvs.map (·.1)=ws.map (·.1):=λ{kvs ws} r=>by
 induction r with
 |nil=>rfl
 |cons a b ih=>rw[ar,ar,ih,a.1]
theorem EK(hc:X.calm=true):vM X (.builtin "sorted") (λxs H Q=>∃(a:Addr) (kvs:List (oJ×V)) (ns:List Int),xs=[.ref a]/\ns.length<64/\H a=some (.dK kvs)/\kvs.map (·.1)=ns.map az/\∀p,H p=none->Q (.ref p) (qr H p (.lst ((qF ns).map V.int)))):=by
 intro nF s σ H xs us Q I r h;obtain⟨a,kvs,ns,rfl,hf,ha,hk,q⟩:=h;obtain⟨u,rfl,ru⟩:=uy r;cases ru;obtain⟨hz,sa,vs,kv,d⟩:=(show qp X.prog X.w H s.heap a (.dK kvs) from I.hok a _ ha)
 obtain⟨ep,da⟩:=d.dictAt;have hl:=Paired.length kv;have hlen:ns.length=vs.length:=by
  have:=congrArg bb hk;rw[lMq,lMq]at this;rw[←this,hl]
 have hkv:vs.map (·.1)=ns.map az:=by rw[←Qy kv,hk]
 have hI:∀us:List Value,us.length=vs.length->(∀(j:Nat) (v:Value),us[j]?=some v->∃k x,vs[j]?=some (k,x)/\(qN X.prog X.w).is k v=true)->jA us ns:=λus h1 h2=>Jp (by rw[h1,hlen]) λj v m e1 e2=>by
  obtain⟨k,x,g1,g2⟩:=h2 j v e1;have e3:(vs.map (·.1))[j]?=some k:=by rw[gMq,g1];rfl
  rw[hkv,gMq,e2]at e3;have e4:(az m:oJ)=k:=by simpa using e3
  subst e4;rcases qv (k:=az m) (v:=v) g2 with ⟨i,t,e5,e6⟩|⟨z,t,e5,_⟩
  .cases e5;exact⟨t,e6⟩
  .cases e5
 refine MrS.Gb (kdl_dict (knd:=qN X.prog X.w) (d:=a) (kvs:=vs) (ep:=ep) sa) (I.ok.hd hc) da (by lia) (Pk:=λx:je=>∃a t,x.1=gd a t) (lt:=Wf) (λus h1 h2 s'=>⟨λh3 Q q=>?_,Uw _ _ _ _,λv m=>(EV (hI us h1 h2)).2 v m⟩) λus out h' p tk n' h1 h2 o1 o2 o3 op o4=>?_
 .have hi:=hI us h1 h2
  match us,hi,h3 with
  | [],_,h3=>simp at h3
  | [_],_,h3=>simp at h3
  |v₁::v₂::sH,hi,_ =>
   rw[keyKind_ints hi];exact jg q
 .obtain ⟨en,hv⟩:=EV (hI us h1 h2);have ho:∀v∈out,∃a t,v = .int a t:=λv m=>hv v (o1.mem_iff.mp m)
  have e:out.map intOf=qF ns:=by
   refine KC (by rw[en];exact o1.map _) ?_
   rw[aJ];refine o2.imp_of_mem λ{x y} mx my h=>?_
   obtain⟨a,t,rfl⟩:=ho x mx;obtain⟨b,u,rfl⟩:=ho y my;have h':¬ b<a:=of_decide_eq_false h;show a<=b;lia
  have hp:H p=none:=I.hok.fresh op;refine⟨.ref p,_,I.laid (t':=tk) o3 op (show qp X.prog X.w _ h' _ (.lst ((qF ns).map V.int)) from ⟨?_,out,n',?_,o4⟩),rfl,q _ hp⟩
  .rw [lMq,(qY ns).length_eq,hlen,←hl];exact hz
  .rw [←e];exact vals_ints ho
end
end Mr
namespace Z
open PySem L2 Mr
abbrev St:=L2.St
inductive D where
 |non|bl (b:Bool)|int (i:Int)|str (x:Str)|ty (n:String)|list (xs:List D)|tup (xs:List D)|dict (kvs:List (oJ×D))|scr (ns:List Int)|exc (c:Str) (fs:List (Str×Int))|cls (c:Str)|fd (kvs:List (oJ×D))|ins (c:Str) (fs:List (Str×D))
inductive qd (K:W.Frag) (H:Hp):D->V->Prop
 |non:qd K H .non .non
 |bl {b:Bool}:qd K H (.bl b) (.bl b)
 |int {i:Int}:qd K H (.int i) (.int i)
 |str {x:Str}:qd K H (.str x) (.str x)
 |ty {n:String}:qd K H (.ty n) (.ty n)
 |list {p:Addr}{vs:List V}{ds:List D}(h:H p=some (.lst vs)) (l:ds.length=vs.length) (e:∀(i:Nat) (d:D) (v:V),ds[i]?=some d->vs[i]?=some v->qd K H d v):qd K H (.list ds) (.ref p)
 |tup {p:Addr}{vs:List V}{ds:List D}(h:H p=some (.tup vs)) (l:ds.length=vs.length) (e:∀(i:Nat) (d:D) (v:V),ds[i]?=some d->vs[i]?=some v->qd K H d v):qd K H (.tup ds) (.ref p)
 |dict {p:Addr}{kvs:List (oJ×V)}{ds:List (oJ×D)}(h:H p=some (.dK kvs)) (l:ds.map (·.1)=kvs.map (·.1)) (e:∀(i:Nat) (d:oJ×D) (v:oJ×V),ds[i]?=some d->kvs[i]?=some v->qd K H d.2 v.2):qd K H (.dict ds) (.ref p)
 |scr {p:Addr}{ns:List Int}(h:qw K H p (ns.map V.int)):qd K H (.scr ns) (.ref p)
 |exc {c:Str}{fs:List (Str×Int)}{e C M dx:Addr}(rf:Xe.WE K c C M) (nf:∀p∈fs,W.findIn K (.ref C) p.1=some none) (h:H e=some (Xe.Xj e C (some dx))) (hx:H dx=some (.xd (fs.map λp=>(p.1,V.int p.2)))):qd K H (.exc c fs) (.ref e)
 |exc0 {c:Str}{e C M:Addr}(rf:Xe.WE K c C M) (h:H e=some (Xe.Xj e C none)):qd K H (.exc c []) (.ref e)
 |cls {c:Str}{C:Addr}(h:Xe.XM K c C):qd K H (.cls c) (.ref C)
 |fd {p:Addr}{o:Obj}{kvs:List (oJ×V)}{ds:List (oJ×D)}(h:H p=some (.frz o (.dK kvs))) (l:ds.map (·.1)=kvs.map (·.1)) (e:∀(i:Nat) (d:oJ×D) (v:oJ×V),ds[i]?=some d->kvs[i]?=some v->qd K H d.2 v.2):qd K H (.fd ds) (.ref p)
 |ins {c:Str}{a C dx:Addr}{gs:List (Str×V)}{fs:List (Str×D)}(rf:W.nsIn K jn c=some (some (.ref C))) (h:H a=some (.ins C dx gs)) (l:fs.map (·.1)=gs.map (·.1)) (e:∀(i:Nat) (d:Str×D) (v:Str×V),fs[i]?=some d->gs[i]?=some v->qd K H d.2 v.2):qd K H (.ins c fs) (.ref a)
def oH(K:W.Frag) (H:Hp) (ds:List D) (vs:List V):Prop:=ds.length=vs.length/\∀(i:Nat) (d:D) (v:V),ds[i]?=some d->vs[i]?=some v->qd K H d v
def uR(K:W.Frag) (H:Hp) (ds:List (oJ×D)) (kvs:List (oJ×V)):Prop:=ds.map (·.1)=kvs.map (·.1)/\∀(i:Nat) (d:oJ×D) (v:oJ×V),ds[i]?=some d->kvs[i]?=some v->qd K H d.2 v.2
section
variable {K:W.Frag}{H H':Hp}
theorem qd.mono{d:D}{v:V}(h:qd K H d v) (s:oM H H'):qd K H' d v:=by
 induction h with
 |non=>exact .non
 |bl=>exact .bl
 |int=>exact .int
 |str=>exact .str
 |ty=>exact .ty
 |list h l _ ih=>exact .list (s _ _ h) l ih
 |tup h l _ ih=>exact .tup (s _ _ h) l ih
 |dict h l _ ih=>exact .dict (s _ _ h) l ih
 |scr h=>exact .scr (s.seq h)
 |exc rf nf h hx=>exact .exc rf nf (s _ _ h) (s _ _ hx)
 |exc0 rf h=>exact .exc0 rf (s _ _ h)
 |cls h=>exact .cls h
 |fd h l _ ih=>exact .fd (s _ _ h) l ih
 |ins rf h l _ ih=>exact .ins rf (s _ _ h) l ih
theorem oH.mono{ds:List D}{vs:List V}(h:oH K H ds vs) (s:oM H H'):oH K H' ds vs:=⟨h.1,λi d v a b=>(h.2 i d v a b).mono s⟩
theorem uR.mono{ds:List (oJ×D)}{vs:List (oJ×V)}(h:uR K H ds vs) (s:oM H H'):uR K H' ds vs:=⟨h.1,λi d v a b=>(h.2 i d v a b).mono s⟩
theorem oH.nil:oH K H [] []:=⟨rfl,λi d v a=>by simp at a⟩
theorem oH.cons{d:D}{v:V}{ds:List D}{vs:List V}(h:qd K H d v) (t:oH K H ds vs):oH K H (d::ds) (v::vs):=⟨by simp[t.1],λi e w a b=>by
 cases i with
 |zero =>
  simp at a b;subst a b;exact h
 |succ i=>exact t.2 i e w (by simpa using a) (by simpa using b)⟩
theorem oH.cons_iff{d:D}{v:V}{ds:List D}{vs:List V}:oH K H (d::ds) (v::vs)↔qd K H d v/\oH K H ds vs :=
 ⟨λh=>⟨h.2 0 d v rfl rfl,by have:=h.1;simpa using this,λi e w a b=>h.2 (i+1) e w (by simpa using a) (by simpa using b)⟩,λh=>.cons h.1 h.2⟩
theorem oH.nil_inv{vs:List V}(h:oH K H [] vs):vs=[]:=by
 have:=h.1;cases vs with
 |nil=>rfl
 |cons _ _=>simp at this
theorem oH.cons_inv{d:D}{ds:List D}{vs:List V}(h:oH K H (d::ds) vs):∃v ws,vs=v::ws/\qd K H d v/\oH K H ds ws:=by
 cases vs with
 |nil=>have:=h.1;simp at this
 |cons v ws=>exact⟨v,ws,rfl,oH.cons_iff.mp h⟩
theorem oH.append:∀{ds es:List D}{vs ws:List V},oH K H ds vs->oH K H es ws->oH K H (ds++es) (vs++ws)
 | [],es,vs,ws,h,g=>by rw[h.nil_inv];exact g
 |d::ds,es,vs,ws,h,g=>by
  obtain⟨v,us,rfl,h1,h2⟩:=h.cons_inv;exact .cons h1 (oH.append h2 g)
theorem oH.take{ds:List D}{vs:List V}(h:oH K H ds vs) (n:Nat):oH K H (ds.take n) (vs.take n):=⟨by rw[lTq,lTq,h.1],λi d v a b=>by
 rw[List.getElem?_take]at a b;split at a
 .rename_i hi;rw[oQ hi]at b;exact h.2 i d v a b
 .cases a⟩
theorem oH.drop{ds:List D}{vs:List V}(h:oH K H ds vs) (n:Nat):oH K H (ds.drop n) (vs.drop n):=⟨by rw[bj,bj,h.1],λi d v a b=>by
 rw[gQ]at a b;exact h.2 _ d v a b⟩
theorem oH.get{ds:List D}{vs:List V}(h:oH K H ds vs) {i:Nat}{d:D}(e:ds[i]?=some d):∃v,vs[i]?=some v/\qd K H d v:=by
 have hi:i<ds.length:=(gSq.mp e).1;have hj:i<vs.length:=h.1 ▸ hi;exact⟨vs[i],gEg hj,h.2 i d _ e (gEg hj)⟩
theorem oH.get'{ds:List D}{vs:List V}(h:oH K H ds vs) {i:Nat}{v:V}(e:vs[i]?=some v):∃d,ds[i]?=some d/\qd K H d v:=by
 have hi:i<vs.length:=(gSq.mp e).1;have hj:i<ds.length:=h.1.symm ▸ hi;exact⟨ds[i],gEg hj,h.2 i _ v (gEg hj) e⟩
theorem qd.list_inv{ds:List D}{v:V}(h:qd K H (.list ds) v):∃p vs,v = .ref p/\H p=some (.lst vs)/\oH K H ds vs:=by
 cases h with
 |list h l e=>exact⟨_,_,rfl,h,l,e⟩
theorem qd.tup_inv{ds:List D}{v:V}(h:qd K H (.tup ds) v):∃p vs,v = .ref p/\H p=some (.tup vs)/\oH K H ds vs:=by
 cases h with
 |tup h l e=>exact⟨_,_,rfl,h,l,e⟩
theorem qd.dict_inv{ds:List (oJ×D)}{v:V}(h:qd K H (.dict ds) v):∃p kvs,v = .ref p/\H p=some (.dK kvs)/\uR K H ds kvs:=by
 cases h with
 |dict h l e=>exact⟨_,_,rfl,h,l,e⟩
theorem qd.mk_list{ds:List D}{p:Addr}{vs:List V}(h:H p=some (.lst vs)) (r:oH K H ds vs):qd K H (.list ds) (.ref p):=.list h r.1 r.2
theorem qd.mk_tup{ds:List D}{p:Addr}{vs:List V}(h:H p=some (.tup vs)) (r:oH K H ds vs):qd K H (.tup ds) (.ref p):=.tup h r.1 r.2
theorem qd.mk_dict{ds:List (oJ×D)}{p:Addr}{vs:List (oJ×V)}(h:H p=some (.dK vs)) (r:uR K H ds vs):qd K H (.dict ds) (.ref p):=.dict h r.1 r.2
end
def D.scal:D->Bool
 | .non=>true
 | .bl _=>true
 | .int _=>true
 | .str _=>true
 | .ty _=>true
 |_=>false
theorem qd.scal{K:W.Frag}{H H':Hp}{d:D}{v:V}(h:qd K H d v) (s:d.scal=true):qd K H' d v:=by
 cases h with
 |non=>exact .non
 |bl=>exact .bl
 |int=>exact .int
 |str=>exact .str
 |ty=>exact .ty
 |_=>cases s
inductive AV where
 |sh (d:D)|ow (avs:List AV)|owd (kvs:List (oJ×D))|owl (kvs:List (oJ×List Int))
mutual
def nW:AV->D
 | .sh d=>d
 | .ow avs=>.list (Cm avs)
 | .owd kvs=>.dict kvs
 | .owl kvs=>.dict (kvs.map λx=>(x.1,.list (x.2.map .int)))
def Cm:List AV->List D
 | []=>[]
 |a::as=>nW a::Cm as
end
theorem D8:∀avs:List AV,Cm avs=avs.map nW
 | []=>by simp[Cm]
 |a::as=>by simp[Cm,D8 as]
@[simp] theorem pK (d:D):nW (.sh d)=d:=by simp[nW]
@[simp] theorem qJ (avs:List AV):nW (.ow avs) = .list (avs.map nW):=by simp[nW,D8]
@[simp] theorem AW (kvs:List (oJ×D)):nW (.owd kvs) = .dict kvs:=by simp[nW]
theorem DP(kvs:List (oJ×List Int)):nW (.owl kvs) = .dict (kvs.map λx=>(x.1,.list (x.2.map .int))):=by simp[nW]
inductive oR (K:W.Frag) (Hf H:Hp):AV->V->List Addr->Prop
 |sh {d:D}{v:V}(r:qd K Hf d v):oR K Hf H (.sh d) v []
 |ow {p:Addr}{vs:List V}{avs:List AV}{Fs:List (List Addr)}(h:H p=some (.lst vs)) (n:Hf p=none) (l:avs.length=vs.length) (lf:avs.length=Fs.length)
   (e:∀(i:Nat) (a:AV) (v:V) (F:List Addr),avs[i]?=some a->vs[i]?=some v->Fs[i]?=some F->oR K Hf H a v F):oR K Hf H (.ow avs) (.ref p) (p::Fs.flatten)
 |owd {p:Addr}{kvs:List (oJ×V)}{ds:List (oJ×D)}(h:H p=some (.dK kvs)) (n:Hf p=none) (r:uR K Hf ds kvs):oR K Hf H (.owd ds) (.ref p) [p]
 |owl {p:Addr}{kvs:List (oJ×List Int)}{qs:List Addr}(h:H p=some (.dK (bh (λx q=>(x.1,V.ref q)) kvs qs))) (n:Hf p=none) (l:kvs.length=qs.length) (e:∀(i:Nat) (q:Addr) (x:oJ×List Int),qs[i]?=some q->kvs[i]?=some x->H q=some (.lst (x.2.map V.int))/\Hf q=none):oR K Hf H (.owl kvs) (.ref p) (p::qs)
theorem JG{K:W.Frag}{H:Hp}{p:Addr}{kvs:List (oJ×List Int)}{qs:List Addr}(h:H p=some (.dK (bh (λx q=>(x.1,V.ref q)) kvs qs))) (l:kvs.length=qs.length) (e:∀(i:Nat) (q:Addr) (x:oJ×List Int),qs[i]?=some q->kvs[i]?=some x->H q=some (.lst (x.2.map V.int))):qd K H (.dict (kvs.map λx=>(x.1,.list (x.2.map .int)))) (.ref p):=by
 refine .dict h ?_ λi d v h1 h2=>?_
 .refine dz λi=>?_
  rw[gMq,gMq,gMq,dA]
  by_cases c:i<kvs.length
  .rw [gEg c,gEg (l ▸ c)];rfl
  .rw [bz (dG c)];rfl
 .rw [gMq]at h1;rw[dA]at h2;cases hk:kvs[i]? with
  |none=>rw[hk]at h1;cases h1
  |some x =>
   cases hq:qs[i]? with
   |none=>rw[hk,hq]at h2;cases h2
   |some q =>
    rw[hk]at h1 h2;rw[hq]at h2;cases h1;cases h2;refine .list (e i q x hq hk) (by rw[lMq,lMq]) λj d v e1 e2=>?_
    rw[gMq]at e1 e2;cases hj:x.2[j]? with
    |none=>rw[hj]at e1;cases e1
    |some m =>
     rw[hj]at e1 e2;cases e1;cases e2;exact .int
theorem SJ{kvs:List (oJ×List Int)}{qs:List Addr}(l:kvs.length=qs.length) {q:Addr}(hq:q∈qs):∃(i:Nat) (x:oJ×List Int),qs[i]?=some q/\kvs[i]?=some x:=by
 obtain⟨i,hi⟩:=aD.mp hq;have hl:=(gSq.mp hi).1;exact⟨i,_,hi,gEg (l ▸ hl)⟩
section
variable {K:W.Frag}{Hf Hf' H H':Hp}{av:AV}{v:V}{F:List Addr}
theorem oR.owned(h:oR K Hf H av v F):∀q∈F,H q≠none/\Hf q=none:=by
 induction h with
 |sh _=>intro q hq;cases hq
 | @ow p vs avs Fs h n l lf e ih =>
  intro q hq;rcases ah.mp hq with rfl|hq
  .exact ⟨by rw[h];simp,n⟩
  .obtain ⟨F,hF,hq⟩:=mFq.mp hq;obtain⟨i,hi,rfl⟩:=bM.mp hF;exact ih i avs[i] vs[i] Fs[i] (by simp) (by simp) (by simp) q hq
 |owd h n r =>
  intro q hq;have:=mSq.mp hq;subst this;exact⟨by rw[h];simp,n⟩
 |owl h n l e =>
  intro q hq;rcases ah.mp hq with z|z
  .rw [z];exact⟨by rw[h];simp,n⟩
  .obtain ⟨i,x,h1,h2⟩:=SJ l z;obtain⟨e1,e2⟩:=e i q x h1 h2;exact⟨by rw[e1];simp,e2⟩
theorem oR.keep(h:oR K Hf H av v F) (s:oM Hf Hf') (hk:∀q∈F,H' q=H q) (hn:∀q∈F,Hf' q=none):oR K Hf' H' av v F:=by
 induction h with
 |sh r=>exact .sh (r.mono s)
 | @ow p vs avs Fs h n l lf e ih =>
  refine .ow (by rw[hk p (by simp)];exact h) (hn p (by simp)) l lf λi a v F h1 h2 h3=>ih i a v F h1 h2 h3 (λq hq=>hk q ?_) λq hq=>hn q ?_
  all_goals exact mCo _ (mFq.mpr ⟨F,mGq h3,hq⟩)
 |owd h n r=>exact .owd (by rw[hk _ (by simp)];exact h) (hn _ (by simp)) (r.mono s)
 | @owl p kvs qs h n l e =>
  refine .owl (by rw[hk _ (aj ..)];exact h) (hn _ (aj ..)) l λi q x h1 h2=>?_
  have m:q∈p::qs:=mCo _ (mGq h1);exact⟨by rw[hk q m];exact(e i q x h1 h2).1,hn q m⟩
theorem oR.rep(h:oR K Hf H av v F) (s:oM Hf H):qd K H (nW av) v:=by
 induction h with
 |sh r=>rw[pK];exact r.mono s
 | @ow p vs avs Fs h n l lf e ih =>
  rw[qJ];refine .list h (by simp[l]) λi d v h1 h2=>?_
  rw[gMq]at h1;cases ea:avs[i]? with
  |none=>rw[ea]at h1;cases h1
  |some a =>
   rw[ea]at h1;cases h1;have hi:i<Fs.length:=lf ▸ (gSq.mp ea).1;exact ih i a v Fs[i] ea h2 (gEg hi)
 |owd h n r=>rw[AW];exact .mk_dict h (r.mono s)
 |owl h n l e=>rw[DP];exact JG h l λi q x h1 h2=>(e i q x h1 h2).1
def frz(Hf H:Hp) (F:List Addr):Hp:=λb=>if b∈F then H b else Hf b
theorem zo{b:Addr}(h:b∈F):frz Hf H F b=H b:=oQ h
theorem tm{b:Addr}(h:b∉F):frz Hf H F b=Hf b:=oT h
theorem rJ(h:∀q∈F,Hf q=none):oM Hf (frz Hf H F):=λb o e=>by
 rw[tm λm=>by rw[h b m]at e;cases e]
 exact e
theorem QG(s:oM Hf H):oM (frz Hf H F) H:=λb o e=>by
 by_cases m:b∈F
 .rw [zo m]at e;exact e
 .rw [tm m]at e;exact s b o e
theorem oR.frozen(h:oR K Hf H av v F) (s:oM Hf Hf') (hk:∀q∈F,Hf' q=H q):qd K Hf' (nW av) v:=by
 induction h with
 |sh r=>rw[pK];exact r.mono s
 | @ow p vs avs Fs h n l lf e ih =>
  rw[qJ];refine .list (by rw[hk p (by simp)];exact h) (by simp[l]) λi d v h1 h2=>?_
  rw[gMq]at h1;cases ea:avs[i]? with
  |none=>rw[ea]at h1;cases h1
  |some a =>
   rw[ea]at h1;cases h1;have hi:i<Fs.length:=lf ▸ (gSq.mp ea).1;exact ih i a v Fs[i] ea h2 (gEg hi) λq hq=>hk q (mCo _ (mFq.mpr ⟨Fs[i],gRq hi,hq⟩))
 |owd h n r=>rw[AW];exact .mk_dict (by rw[hk _ (by simp)];exact h) (r.mono s)
 |owl h n l e=>rw[DP];exact JG (by rw[hk _ (aj ..)];exact h) l λi q x h1 h2=>by rw[hk q (mCo _ (mGq h1))];exact(e i q x h1 h2).1
end
abbrev AS:=List (Option AV)
structure pJ (K:W.Frag) (H₀ Hf₀ Hf:Hp) (S:AS) (σ:St) (H:Hp) (Fs:List (List Addr)):Prop where
 len:S.length=σ.length
 lenF:Fs.length=S.length
 rep:∀(i:Nat) (av:AV),S[i]?=some (some av)->∃v F,σ[i]?=some (some v)/\Fs[i]?=some F/\oR K Hf H av v F
 emp:∀i:Nat,S[i]?=some none->Fs[i]?=some []
 nd:Fs.flatten.Nodup
 fresh:∀p∈Fs.flatten,H₀ p=none
 sub:oM Hf H
 fr:oM H₀ H
 lim:∀b,Hf₀ b=none->H₀ b≠none->Hf b=none
 sf:oM Hf₀ Hf
structure xa (Hf H:Hp) (Fs:List (List Addr)) (Hf' H':Hp) (Fs':List (List Addr)):Prop where
 sf:oM Hf Hf'
 sh:oM H H'
 own:∀p∈Fs'.flatten,p∈Fs.flatten
 gr:∀b,Hf b=none->Hf' b≠none->H b=none∨b∈Fs.flatten
theorem xa.refl{Hf H:Hp}{Fs:List (List Addr)}:xa Hf H Fs Hf H Fs:=⟨.refl _,.refl _,λ_ h=>h,λb h g=>absurd h g⟩
theorem P9{H H':Hp}(s:oM H H') {b:Addr}(h:H b≠none):H' b≠none:=by
 cases e:H b with
 |none=>exact absurd e h
 |some o=>rw[s b o e];simp
theorem xa.trans{Hf H Hf1 H1 Hf2 H2:Hp}{Fs Fs1 Fs2:List (List Addr)}(a:xa Hf H Fs Hf1 H1 Fs1) (b:xa Hf1 H1 Fs1 Hf2 H2 Fs2):xa Hf H Fs Hf2 H2 Fs2 :=
 ⟨a.sf.trans b.sf,a.sh.trans b.sh,λp h=>a.own p (b.own p h),λc h g=>by
  by_cases e:Hf1 c=none
  .rcases b.gr c e g with q|q
   .exact .inl (a.sh.free q)
   .exact .inr (a.own c q)
  .exact a.gr c h e⟩
section
variable {K:W.Frag}{H₀ Hf₀ Hf Hf' H H':Hp}{S:AS}{σ:St}{Fs Fs':List (List Addr)}
theorem JB{b:Addr}(s:oM H H') (h:H b≠none):H' b=H b:=by
 cases e:H b with
 |none=>exact absurd e h
 |some o=>exact s b o e
theorem pJ.mem(R:pJ K H₀ Hf₀ Hf S σ H Fs) {q:Addr}(h:q∈Fs.flatten):H q≠none/\Hf q=none:=by
 obtain⟨F,hF,hq⟩:=mFq.mp h;obtain⟨i,hi,rfl⟩:=bM.mp hF;have hiS:i<S.length:=R.lenF ▸ hi;cases e:S[i] with
 |none =>
  have:=R.emp i (by rw[gEg hiS,e])
  rw[gEg hi]at this;rw[aM.inj this]at hq;cases hq
 |some av =>
  obtain⟨v,F,_,e2,r⟩:=R.rep i av (by rw[gEg hiS,e])
  rw[gEg hi]at e2;rw[aM.inj e2]at hq;exact r.owned q hq
theorem pJ.more(R:pJ K H₀ Hf₀ Hf S σ H Fs) (s:oM H H') (sf:oM Hf Hf') (sub:oM Hf' H') (hn:∀q∈Fs.flatten,Hf' q=none) (lim:∀b,Hf₀ b=none->H₀ b≠none->Hf' b=none):pJ K H₀ Hf₀ Hf' S σ H' Fs where
 len:=R.len
 lenF:=R.lenF
 rep:=λi av e=>by
  obtain⟨v,F,e1,e2,r⟩:=R.rep i av e;refine⟨v,F,e1,e2,r.keep sf (λq hq=>JB s (r.owned q hq).1) λq hq=>hn q (mFq.mpr ⟨F,mGq e2,hq⟩)⟩
 emp:=R.emp
 nd:=R.nd
 fresh:=R.fresh
 sub:=sub
 fr:=R.fr.trans s
 lim:=lim
 sf:=R.sf.trans sf
theorem pJ.laid(R:pJ K H₀ Hf₀ Hf S σ H Fs) (s:oM H H'):pJ K H₀ Hf₀ Hf S σ H' Fs:=R.more s (.refl _) (R.sub.trans s) (λq h=>(R.mem h).2) R.lim
theorem rD{F:List Addr}{i:Nat}{p:Addr}(h:p∈(Fs.set i F).flatten):p∈F∨p∈Fs.flatten:=by
 obtain⟨G,hG,hp⟩:=mFq.mp h;rcases List.mem_or_eq_of_mem_set hG with q|q
 .exact .inr (mFq.mpr ⟨G,q,hp⟩)
 .subst q;exact .inl hp
theorem qW:∀{Fs:List (List Addr)}{F:List Addr}(i:Nat),Fs.flatten.Nodup->F.Nodup->(∀p∈F,p∉Fs.flatten)->(Fs.set i F).flatten.Nodup
 | [],F,i,h,_,_=>by simp
 |G::Gs,F,0,h,hF,hd=>by
  rw[dS,fCq,nAq];rw[fCq,nAq]at h;refine⟨hF,h.2.1,λa ha b hb e=>hd a ha ?_⟩
  rw[fCq];exact ay _ (e ▸ hb)
 |G::Gs,F,i+1,h,hF,hd=>by
  rw[dU,fCq,nAq];rw[fCq,nAq]at h;refine⟨h.1,qW i h.2.1 hF λp hp m=>hd p hp (by rw[fCq];exact ay _ m),λa ha b hb e=>?_⟩
  rcases rD hb with q|q
  .exact hd b q (by rw[fCq];exact cB _ (e ▸ ha))
  .exact h.2.2 a ha b q e
theorem pJ.set(R:pJ K H₀ Hf₀ Hf S σ H Fs) {av:AV}{v:V}{F:List Addr}(i:Nat) (r:oR K Hf H av v F) (nd:F.Nodup) (hf:∀q∈F,H₀ q=none/\q∉Fs.flatten) :
  pJ K H₀ Hf₀ Hf (S.set i (some av)) (σ.set i (some v)) H (Fs.set i F) where
 len:=by simp[R.len]
 lenF:=by simp[R.lenF]
 rep:=λj a e=>by
  rw[bp]at e
  by_cases hij:i=j
  .subst hij;rw[oQ rfl]at e;split at e
   .rename_i hi;cases e;exact⟨v,F,by rw[aH (R.len ▸ hi)],by rw[aH (R.lenF.symm ▸ hi)],r⟩
   .cases e
  .rw [oT hij]at e;obtain⟨w,G,e1,e2,q⟩:=R.rep j a e;exact⟨w,G,by rw[aA hij];exact e1,by rw[aA hij];exact e2,q⟩
 emp:=λj e=>by
  rw[bp]at e
  by_cases hij:i=j
  .subst hij;rw[oQ rfl]at e;split at e <;> cases e
  .rw [oT hij]at e;rw[aA hij];exact R.emp j e
 nd:=qW i R.nd nd λp hp=>(hf p hp).2
 fresh:=λp hp=>by
  rcases rD hp with q|q
  .exact (hf p q).1
  .exact R.fresh p q
 sub:=R.sub
 fr:=R.fr
 lim:=R.lim
 sf:=R.sf
theorem qt{i:Nat}{p:Addr}(h:p∈(Fs.set i []).flatten):p∈Fs.flatten:=by
 rcases rD h with q|q
 .cases q
 .exact q
theorem tU:∀{Fs:List (List Addr)}{F:List Addr}{i:Nat}{p:Addr},Fs.flatten.Nodup->Fs[i]?=some F->p∈F->p∉(Fs.set i []).flatten
 | [],F,i,p,_,e,_,_=>by simp at e
 |G::Gs,F,0,p,h,e,hp,m=>by
  simp at e;subst e;rw[dS,fCq,fW]at m;rw[fCq,nAq]at h;exact h.2.2 p hp p m rfl
 |G::Gs,F,i+1,p,h,e,hp,m=>by
  rw[dU,fCq]at m;rw[fCq,nAq]at h;have e':Gs[i]?=some F:=by simpa using e
  rcases mAq.mp m with q|q
  .exact h.2.2 p q p (mFq.mpr ⟨F,mGq e',hp⟩) rfl
  .exact tU h.2.1 e' hp q
theorem pJ.move(R:pJ K H₀ Hf₀ Hf S σ H Fs) {i:Nat}{av:AV}(e:S[i]?=some (some av)):∃v F,σ[i]?=some (some v)/\Fs[i]?=some F/\oR K Hf H av v F/\F.Nodup/\(∀q∈F,H₀ q=none/\q∉(Fs.set i []).flatten) /\
  pJ K H₀ Hf₀ Hf (S.set i none) σ H (Fs.set i []):=by
 obtain⟨v,F,e1,e2,r⟩:=R.rep i av e;have hin:∀q∈F,q∈Fs.flatten:=λq hq=>mFq.mpr ⟨F,mGq e2,hq⟩
 refine⟨v,F,e1,e2,r,bJ.sublist (au (mGq e2)) R.nd,λq hq=>⟨R.fresh q (hin q hq),tU R.nd e2 hq⟩,?_⟩
 refine⟨by simp[R.len],by simp[R.lenF],λj a ej=>?_,λj ej=>?_,qW i R.nd aN (λp hp=>by cases hp),λp hp=>R.fresh p (qt hp),R.sub,R.fr,R.lim,R.sf⟩
 .rw [bp]at ej
  by_cases hij:i=j
  .subst hij;rw[oQ rfl]at ej;split at ej <;> cases ej
  .rw [oT hij]at ej;obtain⟨w,G,f1,f2,q⟩:=R.rep j a ej;exact⟨w,G,f1,by rw[aA hij];exact f2,q⟩
 .rw [bp]at ej
  by_cases hij:i=j
  .subst hij;rw[oQ rfl]at ej;split at ej
   .rename_i hi;rw[aH (R.lenF.symm ▸ hi)]
   .cases ej
  .rw [oT hij]at ej;rw[aA hij];exact R.emp j ej
theorem pJ.frz(R:pJ K H₀ Hf₀ Hf S σ H Fs) {F:List Addr}(hf:∀q∈F,H₀ q=none/\q∉Fs.flatten) (hn:∀q∈F,Hf q=none):pJ K H₀ Hf₀ (frz Hf H F) S σ H Fs:=by
 refine R.more (.refl _) (rJ hn) (QG R.sub) (λq hq=>?_) λb h1 h2=>?_
 .rw [tm λm=>(hf q m).2 hq]
  exact(R.mem hq).2
 .rw [tm λm=>h2 (hf b m).1]
  exact R.lim b h1 h2
end
abbrev ME:=AS->Option (D×AS)
abbrev MK:=AS->Option (AV×AS)
abbrev ML:=AS->Option (List D×AS)
abbrev MT:=AS->Option (Bool×AS)
abbrev MA:=AS->Option (List AV×AS)
def pB(K:W.Frag) (Hf H:Hp) (avs:List AV) (vs:List V) (Gs:List (List Addr)):Prop :=
 avs.length=vs.length/\avs.length=Gs.length/\∀(i:Nat) (a:AV) (v:V) (F:List Addr),avs[i]?=some a->vs[i]?=some v->Gs[i]?=some F->oR K Hf H a v F
structure wx (H₀ H:Hp) (Fs Fs':List (List Addr)) (F:List Addr):Prop where
 nd:F.Nodup
 fr:∀q∈F,H₀ q=none
 out:∀q∈F,q∉Fs'.flatten
 new:∀q∈F,H q=none∨q∈Fs.flatten
theorem wx.nil{H₀ H:Hp}{Fs Fs':List (List Addr)}:wx H₀ H Fs Fs' []:=⟨aN,λq h=>(by cases h),λq h=>(by cases h),λq h=>(by cases h)⟩
section
variable (K:W.Frag)
def SR(te:TE) (m:ME):Prop:=∀{H₀ Hf₀ Hf:Hp}{S:AS}{σ:St}{H:Hp}{Fs:List (List Addr)}{d:D}{S':AS},pJ K H₀ Hf₀ Hf S σ H Fs->m S=some (d,S')->∀Q:VK,
 (∀Hf' H' Fs' v,xa Hf H Fs Hf' H' Fs'->pJ K H₀ Hf₀ Hf' S' σ H' Fs'->qd K H' d v->Q v H')->te σ H Q
def SK(te:TE) (m:MK):Prop:=∀{H₀ Hf₀ Hf:Hp}{S:AS}{σ:St}{H:Hp}{Fs:List (List Addr)}{a:AV}{S':AS},pJ K H₀ Hf₀ Hf S σ H Fs->m S=some (a,S')->∀Q:VK,
 (∀Hf' H' Fs' v F,xa Hf H Fs Hf' H' Fs'->pJ K H₀ Hf₀ Hf' S' σ H' Fs'->oR K Hf' H' a v F->wx H₀ H Fs Fs' F->Q v H')->te σ H Q
def SL(te:TE) (m:ML):Prop:=∀{H₀ Hf₀ Hf:Hp}{S:AS}{σ:St}{H:Hp}{Fs:List (List Addr)}{ds:List D}{S':AS},pJ K H₀ Hf₀ Hf S σ H Fs->m S=some (ds,S')->∀Q:VK,
 (∀Hf' H' Fs' p vs,xa Hf H Fs Hf' H' Fs'->pJ K H₀ Hf₀ Hf' S' σ H' Fs'->H' p=some (.lst vs)->oH K Hf' ds vs->Q (.ref p) H')->te σ H Q
def Fv(tt:TT) (m:MT):Prop:=∀{H₀ Hf₀ Hf:Hp}{S:AS}{σ:St}{H:Hp}{Fs:List (List Addr)}{b:Bool}{S':AS},pJ K H₀ Hf₀ Hf S σ H Fs->m S=some (b,S')->∀Q:Bool->Hp->Prop,
 (∀Hf' H' Fs',xa Hf H Fs Hf' H' Fs'->pJ K H₀ Hf₀ Hf' S' σ H' Fs'->Q b H')->tt σ H Q
def SA(ta:TA) (m:MA):Prop:=∀{H₀ Hf₀ Hf:Hp}{S:AS}{σ:St}{H:Hp}{Fs:List (List Addr)}{as:List AV}{S':AS},pJ K H₀ Hf₀ Hf S σ H Fs->m S=some (as,S')->∀Q:List V->Hp->Prop,
 (∀Hf' H' Fs' vs Gs,xa Hf H Fs Hf' H' Fs'->pJ K H₀ Hf₀ Hf' S' σ H' Fs'->pB K Hf' H' as vs Gs->wx H₀ H Fs Fs' Gs.flatten->Q vs H')->ta σ H Q
def PU(ta:TA) (m:ML):Prop:=∀{H₀ Hf₀ Hf:Hp}{S:AS}{σ:St}{H:Hp}{Fs:List (List Addr)}{ds:List D}{S':AS},pJ K H₀ Hf₀ Hf S σ H Fs->m S=some (ds,S')->∀Q:List V->Hp->Prop,
 (∀Hf' H' Fs' vs,xa Hf H Fs Hf' H' Fs'->pJ K H₀ Hf₀ Hf' S' σ H' Fs'->oH K H' ds vs->Q vs H')->ta σ H Q
end
section
variable {K:W.Frag}{H₀ Hf₀ Hf Hf' H H':Hp}{S S':AS}{σ:St}{Fs Fs':List (List Addr)}
theorem oR.stp{av:AV}{v:V}{F:List Addr}(r:oR K Hf H av v F) (ho:∀q∈F,q∉Fs.flatten) (t:xa Hf H Fs Hf' H' Fs'):oR K Hf' H' av v F :=
 r.keep t.sf (λq hq=>JB t.sh (r.owned q hq).1) λq hq=>by
  by_cases e:Hf' q=none
  .exact e
  .rcases t.gr q (r.owned q hq).2 e with z|z
   .exact absurd z (r.owned q hq).1
   .exact absurd z (ho q hq)
theorem pJ.new(R:pJ K H₀ Hf₀ Hf S σ H Fs) {p:Addr}{o:HO}(hp:H p=none):xa Hf H Fs Hf (qr H p o) Fs/\pJ K H₀ Hf₀ Hf S σ (qr H p o) Fs/\Hf p=none/\H₀ p=none/\p∉Fs.flatten :=
 ⟨⟨.refl _,vF hp,λ_ h=>h,λb h g=>absurd h g⟩,R.laid (vF hp),R.sub.free hp,R.fr.free hp,λm=>(R.mem m).1 hp⟩
theorem vq(n:Nat):(aL n ([]:List Addr)).flatten=[]:=by
 induction n with
 |zero=>rfl
 |succ n ih=>rw[gD,fCq,ih];rfl
theorem oR.new{p:Addr}{vs:List V}{ds:List D}(h:H p=some (.lst vs)) (n:Hf p=none) (r:oH K Hf ds vs):oR K Hf H (.ow (ds.map .sh)) (.ref p) [p]:=by
 have e:[p]=p::(aL ds.length ([]:List Addr)).flatten:=by rw[vq]
 rw[e];refine .ow h n (by simp[r.1]) (by simp) λi a v F h1 h2 h3=>?_
 rw[gMq]at h1;cases q:ds[i]? with
 |none=>rw[q]at h1;cases h1
 |some d =>
  rw[q]at h1;cases h1;have:F=[]:=df (mGq h3);subst this;exact .sh (r.2 i d v q h2)
theorem oR.news{p:Addr}{vs:List V}{avs:List AV}{Gs:List (List Addr)}(h:H p=some (.lst vs)) (n:Hf p=none) (r:pB K Hf H avs vs Gs):oR K Hf H (.ow avs) (.ref p) (p::Gs.flatten):=.ow h n r.1 r.2.1 r.2.2
theorem oR.ow_inv{avs:List AV}{v:V}{F:List Addr}(h:oR K Hf H (.ow avs) v F):∃p vs Gs,v = .ref p/\F=p::Gs.flatten/\H p=some (.lst vs)/\Hf p=none/\pB K Hf H avs vs Gs:=by
 cases h with
 |ow h n l lf e=>exact⟨_,_,_,rfl,rfl,h,n,l,lf,e⟩
theorem oR.owd_inv{ds:List (oJ×D)}{v:V}{F:List Addr}(h:oR K Hf H (.owd ds) v F):∃p kvs,v = .ref p/\F=[p]/\H p=some (.dK kvs)/\Hf p=none/\uR K Hf ds kvs:=by
 cases h with
 |owd h n r=>exact⟨_,_,rfl,rfl,h,n,r⟩
theorem oR.sh_inv{d:D}{v:V}{F:List Addr}(h:oR K Hf H (.sh d) v F):F=[]/\qd K Hf d v:=by
 cases h with
 |sh r=>exact⟨rfl,r⟩
theorem pJ.give{H1:Hp}{Fs1:List (List Addr)}(R:pJ K H₀ Hf₀ Hf' S σ H1 Fs1) (t:xa Hf H Fs Hf' H1 Fs1) {av:AV}{v:V}{F:List Addr}(r:oR K Hf' H1 av v F) (o:wx H₀ H Fs Fs1 F) :
  pJ K H₀ Hf₀ (Z.frz Hf' H1 F) S σ H1 Fs1/\qd K (Z.frz Hf' H1 F) (nW av) v/\xa Hf H Fs (Z.frz Hf' H1 F) H1 Fs1:=by
 have n:∀q∈F,Hf' q=none:=λq hq=>(r.owned q hq).2
 refine⟨R.frz (λq hq=>⟨o.fr q hq,o.out q hq⟩) n,r.frozen (rJ n) λq hq=>zo hq,t.sf.trans (rJ n),t.sh,t.own,λb h g=>?_⟩
 by_cases m:b∈F
 .exact o.new b m
 .rw [tm m]at g;exact t.gr b h g
theorem pB.nil:pB K Hf H [] [] []:=⟨rfl,rfl,λi a v F h=>by simp at h⟩
theorem pB.cons{a:AV}{v:V}{F:List Addr}{as:List AV}{vs:List V}{Gs:List (List Addr)}(h:oR K Hf H a v F) (t:pB K Hf H as vs Gs):pB K Hf H (a::as) (v::vs) (F::Gs) :=
 ⟨by simp[t.1],by simp[t.2.1],λi b w G h1 h2 h3=>by
  cases i with
  |zero =>
   simp at h1 h2 h3;subst h1 h2 h3;exact h
  |succ i=>exact t.2.2 i b w G (by simpa using h1) (by simpa using h2) (by simpa using h3)⟩
theorem pB.nil_inv{vs:List V}{Gs:List (List Addr)}(h:pB K Hf H [] vs Gs):vs=[]/\Gs=[]:=by
 obtain⟨a,b,_⟩:=h;exact⟨aU.mp a.symm,aU.mp b.symm⟩
theorem pB.cons_inv{a:AV}{as:List AV}{vs:List V}{Gs:List (List Addr)}(h:pB K Hf H (a::as) vs Gs):∃v ws F Gs',vs=v::ws/\Gs=F::Gs'/\oR K Hf H a v F/\pB K Hf H as ws Gs':=by
 obtain⟨h1,h2,h3⟩:=h;cases vs with
 |nil=>simp at h1
 |cons v ws =>
  cases Gs with
  |nil=>simp at h2
  |cons F Gs'=>exact⟨v,ws,F,Gs',rfl,rfl,h3 0 a v F rfl rfl rfl,by simpa using h1,by simpa using h2,λi b w G q1 q2 q3=>h3 (i+1) b w G (by simpa using q1) (by simpa using q2) (by simpa using q3)⟩
theorem pB.frozen(h:pB K Hf H as vs Gs) (s:oM Hf Hf') (hk:∀q∈Gs.flatten,Hf' q=H q):oH K Hf' (as.map nW) vs :=
 ⟨by simp[h.1],λi d v h1 h2=>by
  rw[gMq]at h1;cases ea:as[i]? with
  |none=>rw[ea]at h1;cases h1
  |some a =>
   rw[ea]at h1;cases h1;have hi:i<Gs.length:=h.2.1 ▸ (gSq.mp ea).1;exact(h.2.2 i a v Gs[i] ea h2 (gEg hi)).frozen s λq hq=>hk q (mFq.mpr ⟨Gs[i],gRq hi,hq⟩)⟩
theorem pB.owned(h:pB K Hf H as vs Gs):∀q∈Gs.flatten,H q≠none/\Hf q=none:=λq hq=>by
 obtain⟨F,hF,hq⟩:=mFq.mp hq;obtain⟨i,hi,rfl⟩:=bM.mp hF;have h1:i<as.length:=h.2.1.symm ▸ hi;have h2:i<vs.length:=h.1 ▸ h1;exact(h.2.2 i as[i] vs[i] Gs[i] (gEg h1) (gEg h2) (gEg hi)).owned q hq
theorem pJ.gives{H1:Hp}{Fs1:List (List Addr)}(R:pJ K H₀ Hf₀ Hf' S σ H1 Fs1) (t:xa Hf H Fs Hf' H1 Fs1) {as:List AV}{vs:List V}{Gs:List (List Addr)}(r:pB K Hf' H1 as vs Gs) (o:wx H₀ H Fs Fs1 Gs.flatten) :
  pJ K H₀ Hf₀ (Z.frz Hf' H1 Gs.flatten) S σ H1 Fs1/\oH K (Z.frz Hf' H1 Gs.flatten) (as.map nW) vs/\xa Hf H Fs (Z.frz Hf' H1 Gs.flatten) H1 Fs1:=by
 have n:∀q∈Gs.flatten,Hf' q=none:=λq hq=>(r.owned q hq).2
 refine⟨R.frz (λq hq=>⟨o.fr q hq,o.out q hq⟩) n,r.frozen (rJ n) λq hq=>zo hq,t.sf.trans (rJ n),t.sh,t.own,λb h g=>?_⟩
 by_cases m:b∈Gs.flatten
 .exact o.new b m
 .rw [tm m]at g;exact t.gr b h g
theorem wx.stp{Hf1 H1 Hf2 H2:Hp}{Fs1 Fs2:List (List Addr)}{F:List Addr}(o:wx H₀ H Fs Fs1 F) (t:xa Hf1 H1 Fs1 Hf2 H2 Fs2):wx H₀ H Fs Fs2 F:=⟨o.nd,o.fr,λq h m=>o.out q h (t.own q m),o.new⟩
theorem wx.back{Hf1 H1:Hp}{Fs1 Fs2:List (List Addr)}{F:List Addr}(t:xa Hf H Fs Hf1 H1 Fs1) (o:wx H₀ H1 Fs1 Fs2 F):wx H₀ H Fs Fs2 F:=⟨o.nd,o.fr,o.out,λq h=>(o.new q h).elim (λe=>.inl (t.sh.free e)) λm=>.inr (t.own q m)⟩
theorem wx.app{F G:List Addr}(a:wx H₀ H Fs Fs' F) (b:wx H₀ H Fs Fs' G) (d:∀q∈F,q∉G):wx H₀ H Fs Fs' (F++G) :=
 ⟨nAq.mpr ⟨a.nd,b.nd,λx hx y hy e=>d x hx (e ▸ hy)⟩,λq h=>(mAq.mp h).elim (a.fr q) (b.fr q),λq h=>(mAq.mp h).elim (a.out q) (b.out q),λq h=>(mAq.mp h).elim (a.new q) (b.new q)⟩
theorem wx.apart{Hf1 H1:Hp}{Fs1 Fs2:List (List Addr)}{F G:List Addr}(a:wx H₀ H Fs Fs1 F) (ha:∀q∈F,H1 q≠none) (b:wx H₀ H1 Fs1 Fs2 G):∀q∈F,q∉G:=λq h m=>by
 rcases b.new q m with e|e
 .exact ha q h e
 .exact a.out q h e
theorem wx.one(R:pJ K H₀ Hf₀ Hf S σ H Fs) {p:Addr}(hp:H p=none):wx H₀ H Fs Fs [p] :=
 ⟨by simp,λq h=>by rw[mSq.mp h];exact R.fr.free hp,λq h m=>by rw[mSq.mp h]at m;exact(R.mem m).1 hp,λq h=>by rw[mSq.mp h];exact .inl hp⟩
end
def nN(i:Nat):ME:=λS=>(S[i]?.join).map λa=>(nW a,S)
def oi(i:Nat):MK:=λS=>(S[i]?.join).map λa=>(.sh (nW a),S.set i (some (.sh (nW a))))
def Ir(i:Nat):MK:=λS=>(S[i]?.join).map λa=>(a,S.set i none)
def EI(i:Nat):ML:=λS=>match S[i]?.join with
 |some (.sh (.list ds))=>some (ds,S)
 |some (.ow avs)=>some (avs.map nW,S.set i (some (.ow ((avs.map nW).map .sh))))
 |_=>none
def rOf(k:MK):ME:=λS=>(k S).map λx=>(nW x.1,x.2)
def kSc(m:ME):MK:=λS=>(m S).bind λx=>if x.1.scal then some (.sh x.1,x.2) else none
def lOf(k:MK):ML:=λS=>(k S).bind λx=>match x.1 with
 | .sh (.list ds)=>some (ds,x.2)
 | .ow avs=>some (avs.map nW,x.2)
 |_=>none
def uN(k:MK):MK:=λS=>(k S).map λx=>(.sh (nW x.1),x.2)
def rC(d:D):ME:=λS=>if d.scal then some (d,S) else none
section
variable {K:W.Frag}
theorem pH{S:AS}{i:Nat}{a:AV}(h:S[i]?.join=some a):S[i]?=some (some a):=by
 cases e:S[i]? with
 |none=>rw[e]at h;cases h
 |some z=>rw[e]at h;exact congrArg some h
theorem nK(i:Nat):SR K (yN i) (nN i):=by
 intro H₀ Hf₀ Hf S σ H Fs d S' R e Q q;obtain⟨a,ea,e⟩:=oMq.mp e;cases e;obtain⟨v,F,s1,s2,r⟩:=R.rep i a (pH ea);exact⟨v,s1,q _ _ _ v .refl R (r.rep R.sub)⟩
theorem Ax(i:Nat):SK K (yN i) (Ir i):=by
 intro H₀ Hf₀ Hf S σ H Fs a S' R e Q q;obtain⟨b,ea,e⟩:=oMq.mp e;cases e;obtain⟨v,F,s1,s2,r,nd,o,R1⟩:=R.move (pH ea);exact⟨v,s1,q _ _ _ v F ⟨.refl _,.refl _,λp hp=>qt hp,λb h g=>absurd h g⟩ R1 r ⟨nd,λq hq=>(o q hq).1,λq hq=>(o q hq).2,λq hq=>.inr (mFq.mpr ⟨F,mGq s2,hq⟩)⟩⟩
theorem pJ.again{H₀ Hf₀ Hf H:Hp}{S:AS}{σ:St}{Fs:List (List Addr)}{i:Nat}{av:AV}{v:V}{F G:List Addr}(R:pJ K H₀ Hf₀ Hf (S.set i none) σ H (Fs.set i [])) (s1:σ[i]?=some (some v)) (r:oR K Hf H av v G) (nd:G.Nodup) (hf:∀q∈G,H₀ q=none/\q∉(Fs.set i []).flatten) :
  pJ K H₀ Hf₀ Hf (S.set i (some av)) σ H (Fs.set i G):=by
 have R2:=R.set i r nd hf;rw[eZ,eZ]at R2;have e:σ.set i (some v)=σ:=by
  obtain⟨hk,ev⟩:=gSq.mp s1;rw[←ev];exact eK hk
 rw[e]at R2;exact R2
theorem nV(i:Nat):SK K (yN i) (oi i):=by
 intro H₀ Hf₀ Hf S σ H Fs a S' R e Q q;obtain⟨b,ea,e⟩:=oMq.mp e;cases e;obtain⟨v,F,s1,s2,r,nd,o,R1⟩:=R.move (pH ea);have n:∀q∈F,Hf q=none:=λq hq=>(r.owned q hq).2
 have R2:=R1.frz o n;have r2:=r.frozen (rJ (H:=H) n) λq hq=>zo hq
 have R3:=R2.again (F:=F) (G:=[]) s1 (.sh r2) aN λq h=>(by cases h)
 refine⟨v,s1,q _ _ _ v [] ⟨rJ n,.refl _,λp hp=>qt hp,λb h g=>?_⟩ R3 (.sh r2) .nil⟩
 by_cases m:b∈F
 .exact .inr (mFq.mpr ⟨F,mGq s2,m⟩)
 .rw [tm m]at g;exact absurd h g
theorem AH(i:Nat):SL K (yN i) (EI i):=by
 intro H₀ Hf₀ Hf S σ H Fs ds S' R e Q q;unfold EI at e;split at e
 .rename_i ds' ea;cases e;obtain⟨v,F,s1,s2,r⟩:=R.rep i _ (pH ea);obtain⟨p,vs,rfl,h1,h2⟩:=r.sh_inv.2.list_inv;exact⟨_,s1,q _ _ _ p vs .refl R (R.sub _ _ h1) h2⟩
 .rename_i avs ea;cases e;obtain⟨v,F,s1,s2,r,nd,o,R1⟩:=R.move (pH ea);obtain⟨p,vs,Gs,rfl,rfl,h1,h2,h3⟩:=r.ow_inv;have n:∀q∈Gs.flatten,Hf q=none:=λq hq=>(h3.owned q hq).2
  have R2:=R1.frz (F:=Gs.flatten) (λq hq=>o q (mCo _ hq)) n
  have r2:=h3.frozen (rJ (H:=H) n) λq hq=>zo hq
  have np:p∉Gs.flatten:=(aC.mp nd).1;have r3:oR K (Z.frz Hf H Gs.flatten) H (.ow ((avs.map nW).map .sh)) (.ref p) [p]:=oR.new h1 (by rw[tm np];exact h2) r2
  have R3:=R2.again (F:=p::Gs.flatten) (G:=[p]) s1 r3 (by simp) λq hq=>by rw[mSq.mp hq];exact o p (by simp)
  refine⟨_,s1,q _ _ _ p vs ⟨rJ n,.refl _,λb hb=>?_,λb h g=>?_⟩ R3 h1 r2⟩
  .rcases rD hb with z|z
   .rw [mSq.mp z];exact mFq.mpr ⟨_,mGq s2,by simp⟩
   .exact z
  .by_cases m:b∈Gs.flatten
   .exact .inr (mFq.mpr ⟨_,mGq s2,mCo _ m⟩)
   .rw [tm m]at g;exact absurd h g
 .cases e
theorem SK.rOf{te:TE}{k:MK}(h:SK K te k):SR K te (rOf k):=by
 intro H₀ Hf₀ Hf S σ H Fs d S' R e Q q;obtain⟨x,ea,e⟩:=oMq.mp e;cases e;exact h R (a:=x.1) (S':=x.2) ea Q λHf' H' Fs' v F t R' r o=>q _ _ _ v t R' (r.rep R'.sub)
theorem SR.kSc{te:TE}{m:ME}(h:SR K te m):SK K te (kSc m):=by
 intro H₀ Hf₀ Hf S σ H Fs a S' R e Q q;obtain⟨x,ea,e⟩:=oBq.mp e;split at e
 .rename_i hs;cases e;exact h R (d:=x.1) (S':=x.2) ea Q λHf' H' Fs' v t R' r=>q _ _ _ v [] t R' (.sh (r.scal hs)) .nil
 .cases e
theorem SK.frz{te:TE}{k:MK}(h:SK K te k):SK K te (uN k):=by
 intro H₀ Hf₀ Hf S σ H Fs a S' R e Q q;obtain⟨x,ea,e⟩:=oMq.mp e;cases e;refine h R (a:=x.1) (S':=x.2) ea Q λHf' H' Fs' v F t R' r o=>?_
 obtain⟨R2,r2,t2⟩:=R'.give t r o;exact q _ _ _ v [] t2 R2 (.sh r2) .nil
theorem SK.lOf{te:TE}{k:MK}(h:SK K te k):SL K te (lOf k):=by
 intro H₀ Hf₀ Hf S σ H Fs ds S' R e Q q;obtain⟨x,ea,e⟩:=oBq.mp e;refine h R (a:=x.1) (S':=x.2) ea Q λHf' H' Fs' v F t R' r o=>?_
 split at e
 .rename_i ds' hx;cases e;rw[hx]at r;obtain⟨p,vs,rfl,h1,h2⟩:=r.sh_inv.2.list_inv;exact q _ _ _ p vs t R' (R'.sub _ _ h1) h2
 .rename_i avs hx;cases e;obtain⟨R2,r2,t2⟩:=R'.give t r o;rw[hx,qJ]at r2;obtain⟨p,vs,rfl,h1,h2⟩:=r2.list_inv;exact q _ _ _ p vs t2 R2 (R2.sub _ _ h1) h2
 .cases e
theorem Qr{v:V}{d:D}(h:∀H,qd K H d v):SR K (tC v) (rC d):=by
 intro H₀ Hf₀ Hf S σ H Fs d' S' R e Q q;unfold rC at e;split at e
 .cases e;exact q _ _ _ v .refl R (h _)
 .cases e
theorem nR{i:Int}:SR K (tC (.int i)) (rC (.int i)):=Qr λ_=>.int
theorem NC{i:Str}:SR K (tC (.str i)) (rC (.str i)):=Qr λ_=>.str
theorem A6{i:Bool}:SR K (tC (.bl i)) (rC (.bl i)):=Qr λ_=>.bl
theorem Rr{T:String}:SR K (tC (.ty T)) (rC (.ty T)):=Qr λ_=>.ty
end
def tR{α:Type}(p:Prop) (x:Option α):Option α:=@ite (Option α) p (cL p) x none
theorem uT{α:Type}{p:Prop}(h:p) (x:Option α):tR p x=x:=oQ h
theorem wN{α:Type}(x:Option α):tR True x=x:=oQ trivial
theorem oK{α:Type}{p:Prop}{x y:Option α}(h:tR p x=y):(p/\x=y)∨none=y:=by
 by_cases c:p
 .rw [uT c]at h;exact .inl ⟨c,h⟩
 .exact .inr ((@if_neg p (cL p) c _ x none).symm.trans h)
def pN(f:D->D->Option D) (a b:ME):ME:=λS=>(a S).bind λx=>(b x.2).bind λy=>(f x.1 y.1).map λd=>(d,y.2)
def Hz(f:D->Option D) (a:ME):ME:=λS=>(a S).bind λx=>(f x.1).map λd=>(d,x.2)
def Fu(K:W.Frag) (r:R2) (f:D->D->Option D):Prop:=∀{x y:V}{H:Hp}{Q:VK}{dx dy d:D},qd K H dx x->qd K H dy y->f dx dy=some d->(∀v,qd K H d v->Q v H)->r x y H Q
def WW(K:W.Frag) (r:V->Hp->VK->Prop) (f:D->Option D):Prop:=∀{x:V}{H:Hp}{Q:VK}{dx d:D},qd K H dx x->f dx=some d->(∀v,qd K H d v->Q v H)->r x H Q
section
variable {K:W.Frag}{r:R2}{f:D->D->Option D}{ta tb:TE}{a b:ME}
theorem nZ(hr:Fu K r f) (ha:SR K ta a) (hb:SR K tb b):SR K (Pd r ta tb) (pN f a b):=by
 intro H₀ Hf₀ Hf S σ H Fs d S' R e Q q;obtain⟨x,e1,e⟩:=oBq.mp e;obtain⟨y,e2,e⟩:=oBq.mp e;obtain⟨z,e3,e⟩:=oMq.mp e;cases e;refine ha R (d:=x.1) (S':=x.2) e1 _ λHf1 H1 Fs1 v1 t1 R1 r1=>hb R1 (d:=y.1) (S':=y.2) e2 _ λHf2 H2 Fs2 v2 t2 R2 r2=>?_
 exact hr (r1.mono t2.sh) r2 e3 λv rv=>q _ _ _ v (t1.trans t2) R2 rv
theorem A8{r:V->Hp->VK->Prop}{f:D->Option D}(hr:WW K r f) (ha:SR K ta a):SR K (WY r ta) (Hz f a):=by
 intro H₀ Hf₀ Hf S σ H Fs d S' R e Q q;obtain⟨x,e1,e⟩:=oBq.mp e;obtain⟨z,e3,e⟩:=oMq.mp e;cases e;exact ha R (d:=x.1) (S':=x.2) e1 _ λHf1 H1 Fs1 v1 t1 R1 r1=>hr r1 e3 λv rv=>q _ _ _ v t1 R1 rv
end
def JM(c:Int->Int->Prop) (g:Int->Int->D):D->D->Option D
 | .int i,.int j=>tR (c i j) (some (g i j))
 |_,_=>none
def W7(g:Int->D):D->Option D
 | .int i=>some (g i)
 |_=>none
abbrev Fk:=JM (λ_ _=>True) λi j=>.int (i+j)
abbrev Bx:=JM (λ_ _=>True) λi j=>.int (i-j)
abbrev CY:=JM M7 λi j=>.int (i*j)
abbrev uZ:=JM (λ_ j=>0<j) λi j=>.int (i % j)
abbrev yM:=JM T9 λi j=>.int (i / j)
abbrev Rc:=JM S8 λi j=>.int (i ^ j.toNat)
abbrev Ud:=JM (λ_ _=>True) λi j=>.bl (decide (i<j))
abbrev XY:=JM (λ_ _=>True) λi j=>.bl (decide (i<=j))
abbrev IJ:=JM (λ_ _=>True) λi j=>.bl (decide (j<i))
abbrev X0:=JM (λ_ _=>True) λi j=>.bl (decide (j<=i))
abbrev zx:=W7 λi=>.int (-i)
def L3(b:Bool):Option D:=some (.bl b)
def EB(x y:D):Option D:=match x with
 | .int i=>(match y with|.int j=>L3 (decide (i=j))|.non=>L3 false|.str _=>L3 false|_=>none)
 | .str i=>(match y with|.str j=>L3 (decide (i=j))|.non=>L3 false|.int _=>L3 false|_=>none)
 | .bl i=>(match y with|.bl j=>L3 (decide (i=j))|.non=>L3 false|_=>none)
 | .non=>(match y with|.non=>L3 true|.int _=>L3 false|.str _=>L3 false|.bl _=>L3 false|_=>none)
 |_=>none
def Tv:D->Option D
 | .bl b=>some (.bl (!b))
 |_=>none
def OI(x y:D):Option D:=(EB x y).bind Tv
section
variable {K:W.Frag}
theorem JU{C:Int->Int->Prop}{g:Int->Int->V}{g':Int->Int->D}(hg:∀H i j,qd K H (g' i j) (g i j)):Fu K (rI C g) (JM C g'):=by
 intro x y H Q dx dy d rx ry e q;unfold JM at e;split at e
 .rename_i i j;cases rx;cases ry;rcases oK e with ⟨h,e⟩|e
  .cases e;exact⟨i,j,rfl,rfl,h,q _ (hg H i j)⟩
  .cases e
 .cases e
theorem Ek{g:Int->Int->V}{g':Int->Int->D}(hg:∀H i j,qd K H (g' i j) (g i j)):Fu K (Oj g) (JM (λ_ _=>True) g'):=by
 intro x y H Q dx dy d rx ry e q;unfold JM at e;split at e
 .rename_i i j;cases rx;cases ry;rw[wN]at e;cases e;exact⟨i,j,rfl,rfl,q _ (hg H i j)⟩
 .cases e
theorem zf:Fu K (Oj λi j=>.int (i+j)) Fk:=Ek λ_ _ _=>.int
theorem Ay:Fu K (Oj λi j=>.int (i-j)) Bx:=Ek λ_ _ _=>.int
theorem AQ:Fu K (rI M7 λi j=>.int (i*j)) CY:=JU λ_ _ _=>.int
theorem sW:Fu K (rI (λ_ j=>0<j) λi j=>.int (i % j)) uZ:=JU λ_ _ _=>.int
theorem xC:Fu K (rI T9 λi j=>.int (i / j)) yM:=JU λ_ _ _=>.int
theorem Mw:Fu K (rI S8 λi j=>.int (i ^ j.toNat)) Rc:=JU λ_ _ _=>.int
theorem RO:Fu K (Oj λi j=>.bl (decide (i<j))) Ud:=Ek λ_ _ _=>.bl
theorem DJ:Fu K (Oj λi j=>.bl (decide (j<i))) IJ:=Ek λ_ _ _=>.bl
theorem yh:WW K (rU λi=>.int (-i)) zx:=by
 intro x H Q dx d rx e q;cases rx <;> simp only[W7]at e
 all_goals first|(exfalso;simp at e;done)|skip
 rename_i i;cases e;exact⟨i,rfl,q _ .int⟩
theorem xD:Fu K W8 EB:=by
 intro x y H Q dx dy d rx ry e q;unfold EB at e;cases rx <;> first|(cases e;done)|(cases ry <;> first|(cases e;done)|skip)
 all_goals (cases e;refine⟨rfl,q _ ?_⟩;simp only[reduceCtorEq,decide_false,decide_true,V.int.injEq,V.str.injEq,V.bl.injEq];exact .bl)
theorem Gm:Fu K W3 OI:=by
 intro x y H Q dx dy d rx ry e q;obtain⟨b,e1,e2⟩:=oBq.mp e;obtain⟨h1,h2⟩:=xD rx ry e1 (Q:=λv _=>qd K H b v) λv h=>h
 cases h2;cases e2;exact⟨h1,q _ .bl⟩
end
def Xu(a b:ME):ME:=λS=>(a S).bind λx=>match x.1 with
 | .bl true=>b x.2
 | .bl false=>some (.bl false,x.2)
 |_=>none
def XX(a b:ME):ME:=λS=>(a S).bind λx=>match x.1 with
 | .bl true=>some (.bl true,x.2)
 | .bl false=>b x.2
 |_=>none
def XN(a:ME):ME:=Hz Tv a
def uM(a:ME):MT:=λS=>(a S).bind λx=>match x.1 with
 | .bl b=>some (b,x.2)
 |_=>none
def Ck(a b:MT):MT:=λS=>(a S).bind λx=>if x.1=true then b x.2 else some (false,x.2)
def EJ(a b:MT):MT:=λS=>(a S).bind λx=>if x.1=true then some (true,x.2) else b x.2
def D3(a:MT):MT:=λS=>(a S).map λx=>(!x.1,x.2)
def XW(c:MT) (a b:ME):ME:=λS=>(c S).bind λx=>if x.1=true then a x.2 else b x.2
def XZ(c:MT) (a b:MK):MK:=λS=>(c S).bind λx=>if x.1=true then a x.2 else b x.2
section
variable {K:W.Frag}{ta tb:TE}{a b:ME}{ca cb:TT}{ma mb:MT}
theorem Bc(ha:SR K ta a):Fv K (tB ta) (uM a):=by
 intro H₀ Hf₀ Hf S σ H Fs d S' R e Q q;obtain⟨x,e1,e⟩:=oBq.mp e;refine ha R (d:=x.1) (S':=x.2) e1 _ λHf1 H1 Fs1 v1 t1 R1 r1=>?_
 split at e
 .rename_i b hx;rw[hx]at r1;cases r1;cases e;exact⟨_,rfl,q _ _ _ t1 R1⟩
 .cases e
theorem qa(ha:SR K ta a):Fv K (Ry ta) (uM a):=Bc ha
theorem HV(ha:Fv K ca ma) (hb:Fv K cb mb):Fv K (VB ca cb) (Ck ma mb):=by
 intro H₀ Hf₀ Hf S σ H Fs d S' R e Q q;obtain⟨x,e1,e⟩:=oBq.mp e;refine ha R (b:=x.1) (S':=x.2) e1 _ λHf1 H1 Fs1 t1 R1=>?_
 split at e
 .rename_i hx;rw[hx];exact Ij (hb R1 e Q λHf2 H2 Fs2 t2 R2=>q _ _ _ (t1.trans t2) R2)
 .rename_i hx;cases e;rw[cM]at hx;rw[hx];exact HR (q _ _ _ t1 R1)
theorem Jq(ha:Fv K ca ma) (hb:Fv K cb mb):Fv K (Xo ca cb) (EJ ma mb):=by
 intro H₀ Hf₀ Hf S σ H Fs d S' R e Q q;obtain⟨x,e1,e⟩:=oBq.mp e;refine ha R (b:=x.1) (S':=x.2) e1 _ λHf1 H1 Fs1 t1 R1=>?_
 split at e
 .rename_i hx;cases e;rw[hx];exact Ij (q _ _ _ t1 R1)
 .rename_i hx;rw[cM]at hx;rw[hx];exact HR (hb R1 e Q λHf2 H2 Fs2 t2 R2=>q _ _ _ (t1.trans t2) R2)
theorem Nw(ha:Fv K ca ma):Fv K (Uz ca) (D3 ma):=by
 intro H₀ Hf₀ Hf S σ H Fs d S' R e Q q;obtain⟨x,e1,e⟩:=oMq.mp e;cases e;exact ha R (b:=x.1) (S':=x.2) e1 _ λHf1 H1 Fs1 t1 R1=>q _ _ _ t1 R1
end
abbrev qU:Nat:=16777216
theorem vH:jk=qU:=jt
def SQ(K:W.Frag) (te:TE) (m:ML):Prop:=∀{H₀ Hf₀ Hf:Hp}{S:AS}{σ:St}{H:Hp}{Fs:List (List Addr)}{ds:List D}{S':AS},pJ K H₀ Hf₀ Hf S σ H Fs->m S=some (ds,S')->∀Q:VK,
 (∀Hf' H' Fs' p vs,xa Hf H Fs Hf' H' Fs'->pJ K H₀ Hf₀ Hf' S' σ H' Fs'->qw K H' p vs->oH K Hf' ds vs->Q (.ref p) H')->te σ H Q
theorem SL.q{K:W.Frag}{te:TE}{m:ML}(h:SL K te m):SQ K te m:=by
 intro H₀ Hf₀ Hf S σ H Fs ds S' R e Q q;exact h R e Q λHf' H' Fs' p vs t R' hp r=>q _ _ _ p vs t R' (qw.of hp) r
def sD(i:Nat):ML:=λS=>match S[i]?.join with
 |some (.sh (.scr ns))=>some (ns.map .int,S)
 |some (.sh (.list ds))=>some (ds,S)
 |some (.ow avs)=>some (avs.map nW,S.set i (some (.ow ((avs.map nW).map .sh))))
 |_=>none
theorem sA{K:W.Frag}{H:Hp}:∀ns:List Int,oH K H (ns.map .int) (ns.map V.int)
 | []=>.nil
 |n::ns=>.cons .int (sA ns)
theorem qC{K:W.Frag}(i:Nat):SQ K (yN i) (sD i):=by
 intro H₀ Hf₀ Hf S σ H Fs ds S' R e Q q;unfold sD at e;split at e
 .rename_i ns ea;cases e;obtain⟨v,F,s1,s2,r⟩:=R.rep i _ (pH ea);cases r.sh_inv.2 with
  |scr h=>exact⟨_,s1,q _ _ _ _ _ .refl R (R.sub.seq h) (sA ns)⟩
 .rename_i ds' ea;cases e;refine AH i R (ds:=ds) (S':=S) ?_ Q λHf' H' Fs' p vs t R' hp r=>q _ _ _ p vs t R' (qw.of hp) r
  unfold EI;rw[ea]
 .rename_i avs ea;refine AH i R (ds:=ds) (S':=S') ?_ Q λHf' H' Fs' p vs t R' hp r=>q _ _ _ p vs t R' (qw.of hp) r
  unfold EI;rw[ea];exact e
 .cases e
section
variable {K:W.Frag}{H₀ Hf₀ Hf Hf' H H':Hp}{S S':AS}{σ:St}{Fs Fs':List (List Addr)}
theorem pB.stp{as:List AV}{vs:List V}{Gs:List (List Addr)}(r:pB K Hf H as vs Gs) (ho:∀q∈Gs.flatten,q∉Fs.flatten) (t:xa Hf H Fs Hf' H' Fs'):pB K Hf' H' as vs Gs :=
 ⟨r.1,r.2.1,λi a v F h1 h2 h3=>(r.2.2 i a v F h1 h2 h3).stp (λq hq=>ho q (mFq.mpr ⟨F,mGq h3,hq⟩)) t⟩
theorem pJ.layF(R:pJ K H₀ Hf₀ Hf S σ H Fs) {p:Addr}{o:HO}(hp:H p=none):xa Hf H Fs (qr Hf p o) (qr H p o) Fs/\pJ K H₀ Hf₀ (qr Hf p o) S σ (qr H p o) Fs:=by
 have hf:Hf p=none:=R.sub.free hp;refine⟨⟨vF hf,vF hp,λ_ h=>h,λb h g=>?_⟩,R.more (vF hp) (vF hf) (λb u e=>?_) (λq hq=>?_) λb h1 h2=>?_⟩
 .by_cases m:b=p
  .subst m;exact .inl hp
  .rw [nX m]at g;exact absurd h g
 .by_cases m:b=p
  .subst m;rw[oz]at e ⊢;exact e
  .rw [nX m]at e ⊢;exact R.sub b u e
 .rw [nX λe=>(R.mem hq).1 (by rw[e];exact hp)]
  exact(R.mem hq).2
 .rw [nX λe=>h2 (by rw[e];exact R.fr.free hp)]
  exact R.lim b h1 h2
end
def oC:MA:=λS=>some ([],S)
def nO(k:MK) (r:MA):MA:=λS=>(k S).bind λx=>(r x.2).map λy=>(x.1::y.1,y.2)
def og:ML:=λS=>some ([],S)
def nL(k:ME) (r:ML):ML:=λS=>(k S).bind λx=>(r x.2).map λy=>(x.1::y.1,y.2)
section
variable {K:W.Frag}{te ta tb:TE}{tr:TA}
theorem oa:SA K vI oC:=by
 intro H₀ Hf₀ Hf S σ H Fs as S' R e Q q;cases e;exact q _ _ _ [] [] .refl R .nil .nil
theorem nM{k:MK}{r:MA}(hk:SK K te k) (hr:SA K tr r):SA K (rY te tr) (nO k r):=by
 intro H₀ Hf₀ Hf S σ H Fs as S' R e Q q;obtain⟨x,e1,e⟩:=oBq.mp e;obtain⟨y,e2,e⟩:=oMq.mp e;cases e;refine hk R (a:=x.1) (S':=x.2) e1 _ λHf1 H1 Fs1 v F t1 R1 r1 o1=>hr R1 (as:=y.1) (S':=y.2) e2 _ λHf2 H2 Fs2 vs Gs t2 R2 r2 o2=>?_
 refine q _ _ _ (v::vs) (F::Gs) (t1.trans t2) R2 (.cons (r1.stp o1.out t2) r2) ?_;rw[fCq];exact(o1.stp t2).app (o2.back t1) (o1.apart (Hf1:=Hf1) (λq hq=>(r1.owned q hq).1) o2)
theorem oj:PU K vI og:=by
 intro H₀ Hf₀ Hf S σ H Fs as S' R e Q q;cases e;exact q _ _ _ [] .refl R .nil
theorem nT{k:ME}{r:ML}(hk:SR K te k) (hr:PU K tr r):PU K (rY te tr) (nL k r):=by
 intro H₀ Hf₀ Hf S σ H Fs as S' R e Q q;obtain⟨x,e1,e⟩:=oBq.mp e;obtain⟨y,e2,e⟩:=oMq.mp e;cases e;refine hk R (d:=x.1) (S':=x.2) e1 _ λHf1 H1 Fs1 v t1 R1 r1=>hr R1 (ds:=y.1) (S':=y.2) e2 _ λHf2 H2 Fs2 vs t2 R2 r2=>?_
 exact q _ _ _ (v::vs) (t1.trans t2) R2 (.cons (r1.mono t2.sh) r2)
end
def vT(a:MA):MK:=λS=>(a S).bind λx=>tR (x.1.length<=qU) (some (.ow x.1,x.2))
def Nj(a:MA):MK:=λS=>(a S).bind λx=>tR (x.1.length<=qU) (some (.sh (.tup (x.1.map nW)),x.2))
section
variable {K:W.Frag}{ta:TA}{a:MA}
theorem rP(ha:SA K ta a):SK K (Vm ta) (vT a):=by
 intro H₀ Hf₀ Hf S σ H Fs av S' R e Q q;obtain⟨x,e1,e⟩:=oBq.mp e;rcases oK e with ⟨hl,e⟩|e
 .skip
  cases e;refine ha R (as:=x.1) (S':=x.2) e1 _ λHf1 H1 Fs1 vs Gs t1 R1 r1 o1=>⟨by rw[vH,←r1.1];exact hl,λp hp=>?_⟩
  obtain⟨t2,R2,n1,n2,n3⟩:=R1.new (o:=.lst vs) hp;refine q _ _ _ (.ref p) (p::Gs.flatten) (t1.trans t2) R2 (oR.news oz n1 (r1.stp o1.out t2)) ?_;have o2:=(wx.one R1 hp).back t1;refine(show wx _ _ _ _ ([p]++Gs.flatten) from o2.app o1 λq hq m=>?_)
  rw[mSq.mp hq]at m;exact(r1.owned p m).1 hp
 .cases e
theorem IY(ha:SA K ta a):SK K (Va ta) (Nj a):=by
 intro H₀ Hf₀ Hf S σ H Fs av S' R e Q q;obtain⟨x,e1,e⟩:=oBq.mp e;rcases oK e with ⟨hl,e⟩|e
 .skip
  cases e;refine ha R (as:=x.1) (S':=x.2) e1 _ λHf1 H1 Fs1 vs Gs t1 R1 r1 o1=>⟨by rw[vH,←r1.1];exact hl,λp hp=>?_⟩
  obtain⟨R2,r2,t2⟩:=R1.gives t1 r1 o1;obtain⟨t3,R3⟩:=R2.layF (o:=.tup vs) hp;exact q _ _ _ (.ref p) [] (t2.trans t3) R3 (.sh (.mk_tup oz (r2.mono t3.sf))) .nil
 .cases e
end
def Ol(a b:ML):MK:=λS=>(a S).bind λx=>(b x.2).bind λy=>tR (x.1.length+y.1.length<=qU) (some (.ow ((x.1++y.1).map .sh),y.2))
section
variable {K:W.Frag}{ta tb:TE}{a b:ML}
theorem Ih(ha:SL K ta a) (hb:SL K tb b):SK K (Pd Ut ta tb) (Ol a b):=by
 intro H₀ Hf₀ Hf S σ H Fs av S' R e Q q;obtain⟨x,e1,e⟩:=oBq.mp e;obtain⟨y,e2,e⟩:=oBq.mp e;rcases oK e with ⟨hl,e⟩|e
 .skip
  cases e;refine ha R (ds:=x.1) (S':=x.2) e1 _ λHf1 H1 Fs1 p1 vs1 t1 R1 h1 r1=>hb R1 (ds:=y.1) (S':=y.2) e2 _ λHf2 H2 Fs2 p2 vs2 t2 R2 h2 r2=>?_
  refine⟨p1,p2,vs1,vs2,rfl,rfl,t2.sh _ _ h1,h2,by rw[vH,←r1.1,←r2.1];exact hl,λp hp=>?_⟩
  obtain⟨t3,R3,n1,n2,n3⟩:=R2.new (o:=.lst (vs1++vs2)) hp;exact q _ _ _ (.ref p) [p] ((t1.trans t2).trans t3) R3 (oR.new oz n1 ((r1.mono t2.sf).append r2)) ((wx.one R2 hp).back (t1.trans t2))
 .cases e
end
abbrev MO:=AS->Option (Option Int×AS)
def SO(K:W.Frag) (to:TO) (m:MO):Prop:=∀{H₀ Hf₀ Hf:Hp}{S:AS}{σ:St}{H:Hp}{Fs:List (List Addr)}{o:Option Int}{S':AS},pJ K H₀ Hf₀ Hf S σ H Fs->m S=some (o,S')->∀Q:Option Int->Hp->Prop,
 (∀Hf' H' Fs',xa Hf H Fs Hf' H' Fs'->pJ K H₀ Hf₀ Hf' S' σ H' Fs'->Q o H')->to σ H Q
def wF:MO:=λS=>some (none,S)
def ud(m:ME):MO:=λS=>(m S).bind λx=>match x.1 with
 | .int i=>some (some i,x.2)
 |_=>none
def xi{α:Type}(xs:List α) (lo hi:Option Int):List α:=(xs.drop (HT.D5 xs.length 0 lo)).take (HT.D5 xs.length xs.length hi-HT.D5 xs.length 0 lo)
def HA(l:ML) (lo hi:MO):MK:=λS=>(l S).bind λx=>(lo x.2).bind λy=>(hi y.2).map λz=>(.ow ((xi x.1 y.1 z.1).map .sh),z.2)
section
variable {K:W.Frag}{te:TE}{tl th:TO}{l:ML}{lo hi:MO}{m:ME}
theorem tZ:SO K Jw wF:=by
 intro H₀ Hf₀ Hf S σ H Fs o S' R e Q q;cases e;exact q _ _ _ .refl R
theorem rq(h:SR K te m):SO K (RN te) (ud m):=by
 intro H₀ Hf₀ Hf S σ H Fs o S' R e Q q;obtain⟨x,e1,e⟩:=oBq.mp e;refine h R (d:=x.1) (S':=x.2) e1 _ λHf1 H1 Fs1 v t1 R1 r1=>?_
 split at e
 .rename_i i hx;rw[hx]at r1;cases r1;cases e;exact⟨i,rfl,q _ _ _ t1 R1⟩
 .cases e
theorem oH.cut{H:Hp}{ds:List D}{vs:List V}(r:oH K H ds vs) (lo hi:Option Int):oH K H (xi ds lo hi) (IQ vs lo hi):=by
 unfold xi IQ;rw[r.1];exact(r.drop _).take _
theorem wQ(hl:SQ K te l) (hlo:SO K tl lo) (hhi:SO K th hi):SK K (WS (UA K) te tl th) (HA l lo hi):=by
 intro H₀ Hf₀ Hf S σ H Fs av S' R e Q q;obtain⟨x,e1,e⟩:=oBq.mp e;obtain⟨y,e2,e⟩:=oBq.mp e;obtain⟨z,e3,e⟩:=oMq.mp e;cases e;refine hl R (ds:=x.1) (S':=x.2) e1 _ λHf1 H1 Fs1 p1 vs1 t1 R1 h1 r1=>hlo R1 (o:=y.1) (S':=y.2) e2 _ λHf2 H2 Fs2 t2 R2=>hhi R2 (o:=z.1) (S':=z.2) e3 _ λHf3 H3 Fs3 t3 R3=>?_
 refine⟨p1,vs1,rfl,(t2.sh.trans t3.sh).seq h1,λp hp=>?_⟩
 obtain⟨t4,R4,n1,n2,n3⟩:=R3.new (o:=.lst (IQ vs1 y.1 z.1)) hp;exact q _ _ _ (.ref p) [p] (((t1.trans t2).trans t3).trans t4) R4 (oR.new oz n1 ((r1.mono (t2.sf.trans t3.sf)).cut _ _)) ((wx.one R3 hp).back ((t1.trans t2).trans t3))
end
def Hy:D->D->Option D
 | .list ds,.int i=>atI ds i
 | .scr ns,.int i=>(atI ns i).map .int
 |_,_=>none
def wG:D->D->Option D
 | .tup ds,.int i=>atI ds i
 |_,_=>none
def L5(l:ML) (b:ME):MK:=λS=>(l S).bind λx=>(b x.2).bind λy=>match y.1 with
 | .int i=>(atI x.1 i).map λd=>(.sh d,y.2)
 |_=>none
def Tu(k:MK) (b:ME):MK:=λS=>(k S).bind λx=>(b x.2).bind λy=>match x.1,y.1 with
 | .sh (.tup ds),.int i=>(atI ds i).map λd=>(.sh d,y.2)
 |_,_=>none
section
variable {K:W.Frag}{ta tb:TE}
theorem oH.atI{H:Hp}{ds:List D}{vs:List V}{i:Int}{d:D}(r:oH K H ds vs) (h:L2.atI ds i=some d):∃v,L2.atI vs i=some v/\qd K H d v:=by
 unfold L2.atI at h ⊢;rw[r.1]at h;obtain⟨j,h1,h2⟩:=oBq.mp h;rw[h1];exact r.get h2
theorem zJ:Fu K (P4 K) Hy:=by
 intro x y H Q dx dy d rx ry e q;unfold Hy at e;split at e
 .rename_i ds i;cases ry;obtain⟨p,vs,rfl,h,r⟩:=rx.list_inv;obtain⟨l,e'⟩:=r;obtain⟨v,h1,h2⟩:=oH.atI (K:=K) (H:=H) (ds:=ds) (vs:=vs) ⟨l,e'⟩ e;exact⟨p,vs,i,v,rfl,rfl,qw.of h,h1,q v h2⟩
 .rename_i ns i;cases ry;cases rx;rename_i p h;obtain⟨n,h1,h2⟩:=oMq.mp e;subst h2;obtain⟨v,h3,h4⟩:=oH.atI (K:=K) (H:=H) (sA ns) (i:=i) (d:=.int n) (by
   unfold L2.atI at h1 ⊢;rw[lMq];obtain⟨j,g1,g2⟩:=oBq.mp h1;rw[g1];show (ns.map D.int)[j]?=_;rw[gMq,g2];rfl)
  exact⟨p,_,i,v,rfl,rfl,h,h3,q v h4⟩
 .cases e
theorem vD:Fu K (T6 K) wG:=by
 intro x y H Q dx dy d rx ry e q;unfold wG at e;split at e
 .rename_i ds i;cases ry;obtain⟨p,vs,rfl,h,r⟩:=rx.tup_inv;obtain⟨v,h1,h2⟩:=oH.atI (K:=K) (H:=H) (ds:=ds) (vs:=vs) r e;exact⟨p,vs,i,v,rfl,rfl,As.of h,h1,q v h2⟩
 .cases e
theorem D4{l:ML}{b:ME}(hl:SQ K ta l) (hb:SR K tb b):SK K (Pd (P4 K) ta tb) (L5 l b):=by
 intro H₀ Hf₀ Hf S σ H Fs av S' R e Q q;obtain⟨x,e1,e⟩:=oBq.mp e;obtain⟨y,e2,e⟩:=oBq.mp e;refine hl R (ds:=x.1) (S':=x.2) e1 _ λHf1 H1 Fs1 p1 vs1 t1 R1 h1 r1=>hb R1 (d:=y.1) (S':=y.2) e2 _ λHf2 H2 Fs2 v2 t2 R2 r2=>?_
 split at e
 .rename_i i hy;rw[hy]at r2;cases r2;obtain⟨d,e3,e⟩:=oMq.mp e;cases e;obtain⟨v,g1,g2⟩:=(r1.mono t2.sf).atI e3;exact⟨p1,vs1,i,v,rfl,rfl,t2.sh.seq h1,g1,q _ _ _ v [] (t1.trans t2) R2 (.sh g2) .nil⟩
 .cases e
theorem SI{k:MK}{b:ME}(hk:SK K ta k) (hb:SR K tb b):SK K (Pd (T6 K) ta tb) (Tu k b):=by
 intro H₀ Hf₀ Hf S σ H Fs av S' R e Q q;obtain⟨x,e1,e⟩:=oBq.mp e;obtain⟨y,e2,e⟩:=oBq.mp e;refine hk R (a:=x.1) (S':=x.2) e1 _ λHf1 H1 Fs1 v1 F t1 R1 r1 o1=>hb R1 (d:=y.1) (S':=y.2) e2 _ λHf2 H2 Fs2 v2 t2 R2 r2=>?_
 split at e
 .rename_i ds i hx hy;rw[hy]at r2;rw[hx]at r1;cases r2;obtain⟨d,e3,e⟩:=oMq.mp e;cases e;obtain⟨p,vs,rfl,h1,h2⟩:=(r1.sh_inv.2.mono t2.sf).tup_inv;obtain⟨v,g1,g2⟩:=h2.atI e3;exact⟨p,vs,i,v,rfl,rfl,As.of (R2.sub _ _ h1),g1,q _ _ _ v [] (t1.trans t2) R2 (.sh g2) .nil⟩
 .cases e
end
def Vf(K:W.Frag) (r:List V->Hp->VK->Prop) (f:List D->Option D):Prop:=∀{vs:List V}{H:Hp}{Q:VK}{ds:List D}{d:D},oH K H ds vs->f ds=some d->(∀v,qd K H d v->Q v H)->r vs H Q
def uP(f:List D->Option D) (a:ML):ME:=λS=>(a S).bind λx=>(f x.1).map λd=>(d,x.2)
theorem qI{K:W.Frag}{r:List V->Hp->VK->Prop}{f:List D->Option D}{ta:TA}{a:ML}(hr:Vf K r f) (ha:PU K ta a):SR K (JY r ta) (uP f a):=by
 intro H₀ Hf₀ Hf S σ H Fs d S' R e Q q;obtain⟨x,e1,e⟩:=oBq.mp e;obtain⟨z,e3,e⟩:=oMq.mp e;cases e;exact ha R (ds:=x.1) (S':=x.2) e1 _ λHf1 H1 Fs1 vs t1 R1 r1=>hr r1 e3 λv rv=>q _ _ _ v t1 R1 rv
def qu:List D->Option D
 | [.list ds]=>some (.int ds.length)
 | [.tup ds]=>some (.int ds.length)
 | [.scr ns]=>some (.int ns.length)
 | [.str x]=>tR (x.length<=qU) (some (.int x.length))
 |_=>none
def Xv:List D->Option D
 | [.int i]=>some (.int (if i<0 then -i else i))
 |_=>none
def W6:List D->Option D
 | [.int i,.int j]=>some (.int (if j>i then j else i))
 |_=>none
def Xn:List D->Option D
 | [.int i,.int j]=>some (.int (if j<i then j else i))
 |_=>none
def WV:List D->Option D
 | [.int i]=>some (.int i)
 | [.bl k]=>some (.int (if k then 1 else 0))
 |_=>none
def Xl:D->String->Option D
 | .int _,T=>if T = "int" then some (.bl true) else if T = "bool" then some (.bl false) else none
 | .bl _,T=>if T = "bool" ∨ T = "int" then some (.bl true) else none
 | .str _,T=>if T = "str" then some (.bl true) else none
 | .list _,T=>if T = "list" then some (.bl true) else none
 | .tup _,T=>if T = "tuple" then some (.bl true) else none
 | .dict _,T=>if T = "dict" then some (.bl true) else none
 |_,_=>none
def G3:List D->Option D
 | [x,.ty T]=>Xl x T
 |_=>none
def qj:List D->Option (List Int)
 | []=>some []
 | .int i::ds=>(qj ds).map (i :: ·)
 |_=>none
theorem sM:∀{ds:List D}{ns:List Int},qj ds=some ns->ds=ns.map .int
 | [],ns,h=>by cases h;rfl
 |d::ds,ns,h=>by
  cases d with
  |int i =>
   obtain⟨ms,h1,h2⟩:=oMq.mp (show (qj ds).map (i :: ·)=some ns from h)
   subst h2;rw[sM h1];rfl
  |_=>cases h
@[simp] theorem qm (ns:List Int):qj (ns.map .int)=some ns:=by
 induction ns with
 |nil=>rfl
 |cons n ns ih=>show (qj (ns.map .int)).map (n :: ·)=_;rw[ih];rfl
theorem oU{K:W.Frag}{H:Hp}:∀{ns:List Int}{vs:List V},oH K H (ns.map .int) vs->vs=ns.map V.int
 | [],vs,h=>h.nil_inv
 |n::ns,vs,h=>by
  obtain⟨v,ws,rfl,h1,h2⟩:=oH.cons_inv (d:=.int n) (ds:=ns.map .int) h;cases h1;rw[oU h2];rfl
def JH:List Int->Option Int
 | []=>none
 |n::ns=>some (ns.foldl min n)
theorem wt:∀(ns:List Int) (n:Int),ns.foldl min n∈n::ns
 | [],n=>by simp
 |m::ns,n=>by
  have h:=wt ns (min n m);rw[bY];rcases ah.mp h with e|e
  .rw [e]
   by_cases c:n<=m
   .rw [Int.min_eq_left c];simp
   .rw [Int.min_eq_right (by lia)];simp
  .exact mCo _ (mCo _ e)
theorem uX:∀(ns:List Int) (n:Int),(ns.foldl min n<=n)/\∀x∈ns,ns.foldl min n<=x
 | [],n=>⟨gf _,λx h=>by cases h⟩
 |m::ns,n=>by
  obtain⟨h1,h2⟩:=uX ns (min n m);rw[bY];refine⟨by lia,λx hx=>?_⟩
  rcases ah.mp hx with e|e
  .subst e;lia
  .exact h2 x e
def Pp:List D->Option D
 | [.list ds]=>(qj ds).bind λns=>(JH ns).map .int
 |_=>none
section
variable {K:W.Frag}
theorem qo:Vf K (λxs H Q=>∃x n,xs=[x]/\Ug K x H n/\Q (.int n) H) qu:=by
 intro vs H Q ds d r e q;unfold qu at e;split at e
 .obtain ⟨v,ws,rfl,h1,h2⟩:=r.cons_inv;rw[h2.nil_inv];obtain⟨p,us,rfl,h3,h4⟩:=h1.list_inv;cases e;exact⟨_,_,rfl,.inl ⟨us,qw.of h3,h4.1⟩,q _ .int⟩
 .obtain ⟨v,ws,rfl,h1,h2⟩:=r.cons_inv;rw[h2.nil_inv];obtain⟨p,us,rfl,h3,h4⟩:=h1.tup_inv;cases e;exact⟨_,_,rfl,.inr ⟨us,As.of h3,h4.1⟩,q _ .int⟩
 .obtain ⟨v,ws,rfl,h1,h2⟩:=r.cons_inv;rw[h2.nil_inv];cases e;cases h1 with
  |scr h=>exact⟨_,_,rfl,.inl ⟨_,h,(lMq _).symm⟩,q _ .int⟩
 .rcases oK e with ⟨hl,e⟩|e
  .skip
   obtain⟨v,ws,rfl,h1,h2⟩:=r.cons_inv;rw[h2.nil_inv];cases e;cases h1;exact⟨_,_,rfl,⟨by rw[vH];exact hl,rfl⟩,q _ .int⟩
  .cases e
 .cases e
theorem S4:Vf K (λxs H Q=>∃(a:Addr) (ns:List Int),xs=[.ref a]/\qw K H a (ns.map V.int)/\0<ns.length/\∀M,M∈ns->(∀x,x∈ns->M<=x)->Q (.int M) H) Pp:=by
 intro vs H Q ds d r e q;unfold Pp at e;split at e
 .obtain ⟨v,ws,rfl,h1,h2⟩:=r.cons_inv;rw[h2.nil_inv];obtain⟨ns,e1,e⟩:=oBq.mp e;obtain⟨m,e2,e⟩:=oMq.mp e;cases e;rw[sM e1]at h1;obtain⟨p,us,rfl,h3,h4⟩:=h1.list_inv;rw[oU h4]at h3;cases ns with
  |nil=>cases e2
  |cons n ns =>
   cases e2;refine⟨p,_,rfl,qw.of h3,by simp,λM hM hm=>?_⟩
   have e3:M=ns.foldl min n:=by
    have a1:=hm _ (wt ns n);have a2:=uX ns n;have a3:ns.foldl min n<=M:=by
     rcases ah.mp hM with z|z
     .subst z;exact a2.1
     .exact a2.2 M z
    lia
   rw[e3];exact q _ .int
 .cases e
theorem Ni:Vf K (λxs H Q=>∃x T b,xs=[x,.ty T]/\U8 K x H T b/\Q (.bl b) H) G3:=by
 intro vs H Q ds d r e q;unfold G3 at e;split at e
 rotate_left
 .cases e
 rename_i x T;obtain⟨v,ws,rfl,h1,h2⟩:=r.cons_inv;obtain⟨u,zs,rfl,h3,h4⟩:=h2.cons_inv;rw[h4.nil_inv];cases h3;unfold Xl at e;cases x <;> first|(cases e;done)|dsimp only at e
 case int =>
  cases h1;split at e
  .rename_i hT;cases e;exact⟨_,_,_,rfl,.inl ⟨hT,rfl⟩,q _ .bl⟩
  .split at e
   .rename_i hT;cases e;exact⟨_,_,_,rfl,.inr ⟨hT,rfl⟩,q _ .bl⟩
   .cases e
 case bl =>
  cases h1;split at e
  .rename_i hT;cases e;rcases hT with hT|hT
   .exact ⟨_,_,_,rfl,.inl ⟨hT,rfl⟩,q _ .bl⟩
   .exact ⟨_,_,_,rfl,.inr ⟨hT,rfl⟩,q _ .bl⟩
  .cases e
 case str =>
  cases h1;split at e
  .rename_i hT;cases e;exact⟨_,_,_,rfl,⟨hT,rfl⟩,q _ .bl⟩
  .cases e
 case list =>
  obtain⟨p,us,rfl,g3,g4⟩:=h1.list_inv;split at e
  .rename_i hT;cases e;exact⟨_,_,_,rfl,.inl ⟨hT,rfl,us,qw.of g3⟩,q _ .bl⟩
  .cases e
 case tup =>
  obtain⟨p,us,rfl,g3,g4⟩:=h1.tup_inv;split at e
  .rename_i hT;cases e;exact⟨_,_,_,rfl,.inr (.inr ⟨hT,rfl,us,As.of g3⟩),q _ .bl⟩
  .cases e
 case dict =>
  obtain⟨p,us,rfl,g3,g4⟩:=h1.dict_inv;split at e
  .rename_i hT;cases e;exact⟨_,_,_,rfl,.inr (.inl ⟨hT,rfl,us,g3⟩),q _ .bl⟩
  .cases e
end
abbrev MF:=List D->Option AV
def oO(K:W.Frag) (f:MF):Sp:=λvs H Q _=>∃(Hf:Hp) (ds:List D) (a:AV),oM Hf H/\oH K Hf ds vs/\f ds=some a /\
 ∀Hf' H' v F,oM Hf Hf'->oM H H'->oM Hf' H'->(∀b,Hf b=none->H b≠none->Hf' b=none)->oR K Hf' H' a v F->F.Nodup->(∀q∈F,H q=none)->Q v H'
def ou(f:MF) (a:MA):MK:=λS=>(a S).bind λx=>(f (x.1.map nW)).map λr=>(r,x.2)
theorem oh{K:W.Frag}{f:MF}{ta:TA}{a:MA}(ha:SA K ta a):SK K (Kr (oO K f) [] E0 ta) (ou f a):=by
 intro H₀ Hf₀ Hf S σ H Fs av S' R e Q q;obtain⟨x,e1,e⟩:=oBq.mp e;obtain⟨z,e3,e⟩:=oMq.mp e;cases e;refine ha R (as:=x.1) (S':=x.2) e1 _ λHf1 H1 Fs1 vs Gs t1 R1 r1 o1=>?_
 obtain⟨R2,r2,t2⟩:=R1.gives t1 r1 o1;rw[aNq];refine⟨_,_,av,R2.sub,r2,e3,λHf' H' v F s1 s2 s3 l r nd fr=>?_⟩
 have t3:xa (Z.frz Hf1 H1 Gs.flatten) H1 Fs1 Hf' H' Fs1:=⟨s1,s2,λ_ h=>h,λb h g=>.inl (by
  by_cases e:H1 b=none
  .exact e
  .exact absurd (l b h e) g)⟩
 have hn:∀q∈Fs1.flatten,Hf' q=none:=λq hq=>l q (R2.mem hq).2 (R2.mem hq).1
 have R3:pJ K H₀ Hf₀ Hf' x.2 σ H' Fs1:=R2.more s2 s1 s3 hn λb h1 h2=>l b (R2.lim b h1 h2) (P9 R2.fr h2)
 refine q _ _ _ v F (t2.trans t3) R3 r ⟨nd,λq hq=>R2.fr.free (fr q hq),λq hq m=>(R2.mem m).1 (fr q hq),λq hq=>.inl (t1.sh.free (fr q hq))⟩
inductive Jn where
 |nx (S:AS)|rt (a:AV)|bk (S:AS)|ct (S:AS)
abbrev MS:=AS->Option Jn
def D1(K:W.Frag) (H₀ Hf₀ Hf:Hp) (D:zy):Jn->Prop
 | .nx S=>∀Hf' σ' H' Fs',oM Hf Hf'->pJ K H₀ Hf₀ Hf' S σ' H' Fs'->D.nx σ' H'
 | .bk S=>∀Hf' σ' H' Fs',oM Hf Hf'->pJ K H₀ Hf₀ Hf' S σ' H' Fs'->D.bk σ' H'
 | .ct S=>∀Hf' σ' H' Fs',oM Hf Hf'->pJ K H₀ Hf₀ Hf' S σ' H' Fs'->D.ct σ' H'
 | .rt a=>∀Hf' H' v F,oM Hf₀ Hf'->oM H₀ H'->oM Hf' H'->(∀b,Hf₀ b=none->H₀ b≠none->Hf' b=none)->oR K Hf' H' a v F->F.Nodup->(∀q∈F,H₀ q=none)->D.rt v H'
def SS(K:W.Frag) (t:TS) (m:MS):Prop:=∀{H₀ Hf₀ Hf:Hp}{S:AS}{σ:St}{H:Hp}{Fs:List (List Addr)}{o:Jn},pJ K H₀ Hf₀ Hf S σ H Fs->m S=some o->∀D:zy,D1 K H₀ Hf₀ Hf D o->t D σ H
theorem D1.mono{K:W.Frag}{H₀ Hf₀ Hf Hf':Hp}{D:zy}{o:Jn}(s:oM Hf Hf') (h:D1 K H₀ Hf₀ Hf D o):D1 K H₀ Hf₀ Hf' D o:=by
 cases o with
 |nx S=>exact λHf2 σ' H' Fs' s2 R=>h Hf2 σ' H' Fs' (s.trans s2) R
 |bk S=>exact λHf2 σ' H' Fs' s2 R=>h Hf2 σ' H' Fs' (s.trans s2) R
 |ct S=>exact λHf2 σ' H' Fs' s2 R=>h Hf2 σ' H' Fs' (s.trans s2) R
 |rt a=>exact h
def sr:MS:=λS=>some (.nx S)
def Wj:MS:=λS=>some (.bk S)
def W9:MS:=λS=>some (.ct S)
def AI:MS:=λ_=>none
def oy(a b:MS):MS:=λS=>(a S).bind λo=>match o with
 | .nx S'=>b S'
 |o=>some o
def pI(i:Nat) (k:MK):MS:=λS=>(k S).map λx=>.nx (x.2.set i (some x.1))
def OL(k:MK):MS:=λS=>(k S).map λx=>.nx x.2
def ri(k:MK):MS:=λS=>(k S).map λx=>.rt x.1
def Cj(c:MT) (a b:MS):MS:=λS=>(c S).bind λx=>if x.1=true then a x.2 else b x.2
section
variable {K:W.Frag}{t u:TS}{a b:MS}{te:TE}{k:MK}
theorem rE:SS K RM sr:=by
 intro H₀ Hf₀ Hf S σ H Fs o R e D h;cases e;exact h _ _ _ _ (.refl _) R
theorem Aa:SS K MV AI:=by
 intro H₀ Hf₀ Hf S σ H Fs o R e D h;cases e
theorem nU(ha:SS K t a) (hb:SS K u b):SS K (O3 t u) (oy a b):=by
 intro H₀ Hf₀ Hf S σ H Fs o R e D h;obtain⟨x,e1,e⟩:=oBq.mp e;refine ha R e1 _ ?_;cases x with
 |nx S'=>exact λHf' σ' H' Fs' s R'=>hb R' e D (h.mono s)
 |rt a=>cases e;exact h
 |bk a=>cases e;exact h
 |ct a=>cases e;exact h
theorem ox{i:Nat}(hk:SK K te k):SS K (HB te (sP i)) (pI i k):=by
 intro H₀ Hf₀ Hf S σ H Fs o R e D h;obtain⟨x,e1,e⟩:=oMq.mp e;cases e;refine hk R (a:=x.1) (S':=x.2) e1 _ λHf1 H1 Fs1 v F t1 R1 r1 o1=>?_
 exact h _ _ _ _ t1.sf (R1.set i r1 o1.nd λq hq=>⟨o1.fr q hq,o1.out q hq⟩)
theorem PX(hk:SK K te k):SS K (A3 te) (OL k):=by
 intro H₀ Hf₀ Hf S σ H Fs o R e D h;obtain⟨x,e1,e⟩:=oMq.mp e;cases e;exact hk R (a:=x.1) (S':=x.2) e1 _ λHf1 H1 Fs1 v F t1 R1 r1 o1=>h _ _ _ _ t1.sf R1
theorem oX(hk:SK K te k):SS K (Vv te) (ri k):=by
 intro H₀ Hf₀ Hf S σ H Fs o R e D h;obtain⟨x,e1,e⟩:=oMq.mp e;cases e;exact hk R (a:=x.1) (S':=x.2) e1 _ λHf1 H1 Fs1 v F t1 R1 r1 o1=>h _ _ v F R1.sf R1.fr R1.sub R1.lim r1 o1.nd o1.fr
theorem vv{c:TT}{m:MT}(hc:Fv K c m) (ha:SS K t a) (hb:SS K u b):SS K (Ri c t u) (Cj m a b):=by
 intro H₀ Hf₀ Hf S σ H Fs o R e D h;obtain⟨x,e1,e⟩:=oBq.mp e;refine hc R (b:=x.1) (S':=x.2) e1 _ λHf1 H1 Fs1 t1 R1=>?_
 split at e
 .rename_i hx;rw[hx];exact Ij (ha R1 e D (h.mono t1.sf))
 .rename_i hx;rw[cM]at hx;rw[hx];exact HR (hb R1 e D (h.mono t1.sf))
end
def qM(S:AS) (i:Nat):Option (List AV):=match S[i]?.join with
 |some (.ow avs)=>some avs
 |_=>none
def xF(S:AS) (i:Nat):Option (List (oJ×D)):=match S[i]?.join with
 |some (.owd kvs)=>some kvs
 |_=>none
def Av(i:Nat) (k:MK):MS:=λS=>(qM S i).bind λ_=>(k S).bind λx=>(qM x.2 i).bind λavs =>
 tR (avs.length<qU) (some (.nx (x.2.set i (some (.ow (avs++[x.1]))))))
def HJ(i:Nat) (l:ML):MS:=λS=>(qM S i).bind λ_=>(l S).bind λx=>(qM x.2 i).bind λavs =>
 tR (avs.length+x.1.length<=qU) (some (.nx (x.2.set i (some (.ow (avs++x.1.map .sh))))))
def intOf:D->Option Int
 | .int i=>some i
 |_=>none
def XC(i:Nat) (b:ME) (k:MK):MS:=λS=>(uN k S).bind λx=>(qM x.2 i).bind λ_=>(b x.2).bind λy=>(qM y.2 i).bind λavs=>(intOf y.1).bind λj=>(Hb avs.length j).map λn =>
 .nx (y.2.set i (some (.ow (((avs.map nW).set n (nW x.1)).map .sh))))
def wb:D->Option oJ
 | .int i=>some (.inl i)
 | .str x=>some (.inr x)
 |_=>none
def xN(kvs:List (oJ×D)) (k:oJ) (d:D):List (oJ×D):=if kvs.any (λkv=>decide (kv.1=k)) then kvs.map (λkv=>if kv.1=k then (kv.1,d) else kv) else kvs++[(k,d)]
def getD(kvs:List (oJ×D)) (k:oJ):Option D:=(kvs.find? λkv=>decide (kv.1=k)).map (·.2)
def yW(i:Nat) (b:ME) (k:MK):MS:=λS=>(uN k S).bind λx=>(xF x.2 i).bind λ_=>(b x.2).bind λy=>(xF y.2 i).bind λkvs=>(wb y.1).bind λkey =>
 tR (kvs.length<qU) (some (.nx (y.2.set i (some (.owd (xN kvs key (nW x.1)))))))
section
variable {K:W.Frag}{H₀ Hf₀ Hf H:Hp}{S:AS}{σ:St}{Fs:List (List Addr)}
theorem pJ.turn(R:pJ K H₀ Hf₀ Hf S σ H Fs) {i:Nat}{av:AV}{p:Addr}{o:HO}{F F':List Addr}(s1:σ[i]?=some (some (.ref p))) (s2:Fs[i]?=some F) (hp:p∈F) (r:oR K Hf (qr H p o) av (.ref p) F') (nd:F'.Nodup)
  (hf:∀q∈F',H₀ q=none/\q∉(Fs.set i []).flatten):pJ K H₀ Hf₀ Hf (S.set i (some av)) σ (qr H p o) (Fs.set i F'):=by
 have hin:p∈Fs.flatten:=mFq.mpr ⟨F,mGq s2,hp⟩;have pn:Hf p=none:=(R.mem hin).2;have p0:H₀ p=none:=R.fresh p hin;have out:=tU R.nd s2 hp;have R1:pJ K H₀ Hf₀ Hf (S.set i none) σ (qr H p o) (Fs.set i []):=by
  refine⟨by simp[R.len],by simp[R.lenF],λj a ej=>?_,λj ej=>?_,qW i R.nd aN (λp hp=>by cases hp),λp hp=>R.fresh p (qt hp),λb u e=>?_,λb u e=>?_,R.lim,R.sf⟩
  .rw [bp]at ej
   by_cases hij:i=j
   .subst hij;rw[oQ rfl]at ej;split at ej <;> cases ej
   .rw [oT hij]at ej;obtain⟨w,G,f1,f2,q⟩:=R.rep j a ej;refine⟨w,G,f1,by rw[aA hij];exact f2,q.keep (.refl _) (λc hc=>nX λe=>out ?_) λc hc=>(q.owned c hc).2⟩
    subst e;exact mFq.mpr ⟨G,mGq (i:=j) (by rw[aA hij];exact f2),hc⟩
  .rw [bp]at ej
   by_cases hij:i=j
   .subst hij;rw[oQ rfl]at ej;split at ej
    .rename_i hi;rw[aH (R.lenF.symm ▸ hi)]
    .cases ej
   .rw [oT hij]at ej;rw[aA hij];exact R.emp j ej
  .rw [nX λz=>by rw[z,pn]at e;cases e]
   exact R.sub b u e
  .rw [nX λz=>by rw[z,p0]at e;cases e]
   exact R.fr b u e
 exact R1.again (F:=F) s1 r nd hf
theorem pP{i:Nat}{F:List Addr}{q:Addr}(s2:Fs[i]?=some F) (h:q∈F):q∈Fs.flatten:=mFq.mpr ⟨F,mGq s2,h⟩
theorem pB.snoc{as:List AV}{vs:List V}{Gs:List (List Addr)}{a:AV}{v:V}{F:List Addr}(r:pB K Hf H as vs Gs) (s:oR K Hf H a v F):pB K Hf H (as++[a]) (vs++[v]) (Gs++[F]):=by
 obtain⟨h1,h2,h3⟩:=r;refine⟨by simp[h1],by simp[h2],λi b w G e1 e2 e3=>?_⟩
 by_cases hi:i<as.length
 .rw [gZq hi]at e1;rw[gZq (h1 ▸ hi)]at e2;rw[gZq (h2 ▸ hi)]at e3;exact h3 i b w G e1 e2 e3
 .have hi':i=as.length:=by
   have:=(gSq.mp e1).1;rw[lAq,lSq]at this;lia
  subst hi';rw[gYq (ae _),dE]at e1;rw[h1,gYq (ae _),dE]at e2;rw[h2,gYq (ae _),dE]at e3;cases e1;cases e2;cases e3;exact s
theorem pB.keepUpd{as:List AV}{vs:List V}{Gs:List (List Addr)}{p:Addr}{o:HO}(r:pB K Hf H as vs Gs) (hp:p∉Gs.flatten):pB K Hf (qr H p o) as vs Gs :=
 ⟨r.1,r.2.1,λi a v F h1 h2 h3=>by
  have q:=r.2.2 i a v F h1 h2 h3;refine q.keep (.refl _) (λc hc=>nX λe=>hp ?_) λc hc=>(q.owned c hc).2
  subst e;exact mFq.mpr ⟨F,mGq h3,hc⟩⟩
theorem oR.keepUpd{a:AV}{v:V}{F:List Addr}{p:Addr}{o:HO}(q:oR K Hf H a v F) (hp:p∉F):oR K Hf (qr H p o) a v F :=
 q.keep (.refl _) (λc hc=>nX λe=>hp (e ▸ hc)) λc hc=>(q.owned c hc).2
theorem Pt{ds:List D}{vs:List V}(r:oH K Hf ds vs):pB K Hf H (ds.map .sh) vs (aL ds.length []) :=
 ⟨by simp[r.1],by simp,λi a v F h1 h2 h3=>by
  rw[gMq]at h1;cases q:ds[i]? with
  |none=>rw[q]at h1;cases h1
  |some d =>
   rw[q]at h1;cases h1;have:F=[]:=df (mGq h3);subst this;exact .sh (r.2 i d v q h2)⟩
theorem pB.append{as bs:List AV}{vs ws:List V}{Gs Es:List (List Addr)}(r:pB K Hf H as vs Gs) (s:pB K Hf H bs ws Es):pB K Hf H (as++bs) (vs++ws) (Gs++Es):=by
 obtain⟨h1,h2,h3⟩:=r;refine⟨by simp[h1,s.1],by simp[h2,s.2.1],λi b w G e1 e2 e3=>?_⟩
 by_cases hi:i<as.length
 .rw [gZq hi]at e1;rw[gZq (h1 ▸ hi)]at e2;rw[gZq (h2 ▸ hi)]at e3;exact h3 i b w G e1 e2 e3
 .rw [gYq (by lia)]at e1
  rw[gYq (by lia),←h1]at e2
  rw[gYq (by lia),←h2]at e3
  exact s.2.2 _ b w G e1 e2 e3
end
section
variable {K:W.Frag}{te ta tb:TE}{k:MK}{b:ME}{l:ML}
theorem qc{S:AS}{i:Nat}{avs:List AV}(h:qM S i=some avs):S[i]?=some (some (.ow avs)):=by
 unfold qM at h;split at h
 .rename_i z e;cases h;exact pH e
 .cases h
theorem Cc{S:AS}{i:Nat}{kvs:List (oJ×D)}(h:xF S i=some kvs):S[i]?=some (some (.owd kvs)):=by
 unfold xF at h;split at h
 .rename_i z e;cases h;exact pH e
 .cases h
theorem pJ.ow{H₀ Hf₀ Hf H:Hp}{S:AS}{σ:St}{Fs:List (List Addr)}(R:pJ K H₀ Hf₀ Hf S σ H Fs) {i:Nat}{avs:List AV}(h:S[i]?=some (some (.ow avs))):∃p vs Gs,σ[i]?=some (some (.ref p))/\Fs[i]?=some (p::Gs.flatten)/\H p=some (.lst vs)/\Hf p=none/\pB K Hf H avs vs Gs /\
  p∉Gs.flatten/\Gs.flatten.Nodup/\∀q∈p::Gs.flatten,H₀ q=none/\q∉(Fs.set i []).flatten:=by
 obtain⟨v,F,s1,s2,r,nd,o,_⟩:=R.move h;obtain⟨p,vs,Gs,rfl,rfl,h1,h2,h3⟩:=r.ow_inv;exact⟨p,vs,Gs,s1,s2,h1,h2,h3,(aC.mp nd).1,(aC.mp nd).2,o⟩
theorem zd{i:Nat}(hk:SK K te k):SS K (A3 (QL K "list" Ab (yN i) (rY te vI))) (Av i k):=by
 intro H₀ Hf₀ Hf S σ H Fs o R e D h;obtain⟨a0,e0,e⟩:=oBq.mp e;obtain⟨x,e1,e⟩:=oBq.mp e;obtain⟨avs,e2,e⟩:=oBq.mp e;rcases oK e with ⟨hl,e⟩|e
 .skip
  cases e;obtain⟨p,vs,Gs,s1,_,h1,_⟩:=R.ow (qc e0);refine⟨.ref p,s1,.inl ⟨rfl,vs,qw.of h1⟩,hk R (a:=x.1) (S':=x.2) e1 _ λHf1 H1 Fs1 v F t1 R1 r1 o1=>?_⟩
  obtain⟨p',vs',Gs',s1',s2',h1',h2',h3',h4',h5',h6'⟩:=R1.ow (qc e2);rw[s1]at s1';cases s1';have pF:p∉F:=λm=>o1.out p m (pP s2' (by simp))
  refine⟨p,vs',v,rfl,rfl,h1',by rw[vH,←h3'.1];exact hl,h _ _ _ _ t1.sf (R1.turn s1 s2' (by simp) (F':=p::(Gs'++[F]).flatten) (oR.news oz h2' ((h3'.keepUpd h4').snoc (r1.keepUpd pF))) ?_ λq hq=>?_)⟩
  .rw [fAq,aX];refine aC.mpr ⟨λm=>(mAq.mp m).elim h4' pF,nAq.mpr ⟨h5',o1.nd,λa ha b hb e=>o1.out b hb (pP s2' (mCo _ (e ▸ ha)))⟩⟩
  .rw [fAq,aX]at hq;rcases ah.mp hq with z|z
   .exact h6' q (by rw[z];simp)
   .rcases mAq.mp z with z|z
    .exact h6' q (mCo _ z)
    .exact ⟨o1.fr q z,λm=>o1.out q z (qt m)⟩
 .cases e
theorem CF{i:Nat}(hl:SL K te l):SS K (A3 (QL K "list" JP (yN i) (rY te vI))) (HJ i l):=by
 intro H₀ Hf₀ Hf S σ H Fs o R e D h;obtain⟨a0,e0,e⟩:=oBq.mp e;obtain⟨x,e1,e⟩:=oBq.mp e;obtain⟨avs,e2,e⟩:=oBq.mp e;rcases oK e with ⟨hle,e⟩|e
 .skip
  cases e;obtain⟨p,vs,Gs,s1,_,h1,_⟩:=R.ow (qc e0);refine⟨.ref p,s1,.inl ⟨rfl,vs,qw.of h1⟩,hl R (ds:=x.1) (S':=x.2) e1 _ λHf1 H1 Fs1 b ws t1 R1 hb r1=>?_⟩
  obtain⟨p',vs',Gs',s1',s2',h1',h2',h3',h4',h5',h6'⟩:=R1.ow (qc e2);rw[s1]at s1';cases s1';refine⟨p,b,vs',ws,rfl,rfl,h1',hb,by rw[vH,←h3'.1,←r1.1];exact hle,h _ _ _ _ t1.sf (R1.turn s1 s2' (by simp) (F':=p::(Gs'++aL x.1.length []).flatten) (oR.news oz h2' ((h3'.keepUpd h4').append (Pt r1))) ?_ λq hq=>?_)⟩
  .rw [fAq,vq,aNq];exact aC.mpr ⟨h4',h5'⟩
  .rw [fAq,vq,aNq]at hq;exact h6' q hq
 .cases e
theorem BU{H:Hp}:∀{ds:List (oJ×D)}{kvs:List (oJ×V)}{key:oJ},uR K H ds kvs->match getD ds key with
  |some d=>∃v,zE kvs key=some v/\qd K H d v
  |none=>zE kvs key=none
 | [],kvs,key,h=>by
  have:kvs=[]:=by
   have:=congrArg bb h.1;simpa using this.symm
  subst this;rfl
 |d::ds,[],key,h=>by
  have:=congrArg bb h.1;simp at this
 |d::ds,v::kvs,key,h=>by
  have h1:d.1=v.1/\ds.map (·.1)=kvs.map (·.1):=by
   have:=h.1;simpa using this
  have h2:qd K H d.2 v.2:=h.2 0 d v rfl rfl;have ht:uR K H ds kvs:=⟨h1.2,λi a b e1 e2=>h.2 (i+1) a b (by simpa using e1) (by simpa using e2)⟩
  unfold getD zE
  by_cases c:d.1=key
  .rw [bO (by simp[c]),bO (by simp[←h1.1,c])]
   exact⟨v.2,rfl,h2⟩
  .rw [bC (by simp[c]),bC (by simp[←h1.1,c])]
   exact BU ht
theorem yD{H:Hp}{d:D}{v:V}{key:oJ}(h:wb d=some key) (r:qd K H d v):v=kV key:=by
 cases r <;> simp only[wb]at h
 all_goals first|(exfalso;simp at h;done)|skip
 all_goals (cases h;rfl)
theorem uR.key{H:Hp}{ds:List (oJ×D)}{kvs:List (oJ×V)}(h:uR K H ds kvs) {i:Nat}{d:oJ×D}{v:oJ×V}(e1:ds[i]?=some d) (e2:kvs[i]?=some v):d.1=v.1:=by
 have:=congrArg (λl=>l[i]?) h.1
 simp only[gMq,e1,e2,fV]at this;exact aM.inj this
theorem uR.len{H:Hp}{ds:List (oJ×D)}{kvs:List (oJ×V)}(h:uR K H ds kvs):ds.length=kvs.length:=by
 have:=congrArg bb h.1;simpa using this
theorem M0{H:Hp}{ds:List (oJ×D)}{kvs:List (oJ×V)}{key:oJ}{d:D}{v:V}(h:uR K H ds kvs) (r:qd K H d v):uR K H (xN ds key d) (xZ kvs key v):=by
 have ha:(ds.any λkv=>decide (kv.1=key))=kvs.any λkv=>decide (kv.1=key):=by
  have e1:(ds.any λkv=>decide (kv.1=key))=(ds.map (·.1)).any λk=>decide (k=key):=by rw[iV];rfl
  have e2:(kvs.any λkv=>decide (kv.1=key))=(kvs.map (·.1)).any λk=>decide (k=key):=by rw[iV];rfl
  rw[e1,e2,h.1]
 unfold xN xZ;rw[ha];split
 .refine ⟨?_,λi a b e1 e2=>?_⟩
  .rw [mPq,mPq];have e1:((λkv:oJ×D=>kv.1)∘λkv:oJ×D=>if kv.1=key then (kv.1,d) else kv)=λkv=>kv.1:=by
    funext kv;show (if kv.1=key then (kv.1,d) else kv).1=kv.1
    split <;> rfl
   have e2:((λkv:oJ×V=>kv.1)∘λkv:oJ×V=>if kv.1=key then (kv.1,v) else kv)=λkv=>kv.1:=by
    funext kv;show (if kv.1=key then (kv.1,v) else kv).1=kv.1
    split <;> rfl
   rw[e1,e2];exact h.1
  .rw [gMq]at e1 e2;obtain⟨a',f1,rfl⟩:=oMq.mp e1;obtain⟨b',f2,rfl⟩:=oMq.mp e2;have hk:=h.key f1 f2
   by_cases c:a'.1=key
   .rw [oQ c,oQ (hk ▸ c)];exact r
   .rw [oT c,oT (hk ▸ c)];exact h.2 i a' b' f1 f2
 .refine ⟨by rw[mBq,mBq,h.1];rfl,λi a b e1 e2=>?_⟩
  by_cases hi:i<ds.length
  .rw [gZq hi]at e1;rw[gZq (h.len ▸ hi)]at e2;exact h.2 i a b e1 e2
  .have hi':i=ds.length:=by
    have:=(gSq.mp e1).1;rw[lAq,lSq]at this;lia
   subst hi';rw[gYq (ae _),dE]at e1;rw[h.len,gYq (ae _),dE]at e2;cases e1;cases e2;exact r
def DA:MK:=λS=>some (.owd [],S)
theorem BF:SK K M3 DA:=by
 intro H₀ Hf₀ Hf S σ H Fs av S' R e Q q;cases e;intro p hp;obtain⟨t,R2,n1,n2,n3⟩:=R.new (o:=.dK []) hp;exact q _ _ _ (.ref p) [p] t R2 (.owd oz n1 ⟨rfl,λi d v h=>by simp at h⟩) (wx.one R hp)
theorem pJ.owd{H₀ Hf₀ Hf H:Hp}{S:AS}{σ:St}{Fs:List (List Addr)}(R:pJ K H₀ Hf₀ Hf S σ H Fs) {i:Nat}{ds:List (oJ×D)}(h:S[i]?=some (some (.owd ds))):∃p kvs,σ[i]?=some (some (.ref p))/\Fs[i]?=some [p]/\H p=some (.dK kvs)/\Hf p=none/\uR K Hf ds kvs /\
  H₀ p=none/\p∉(Fs.set i []).flatten:=by
 obtain⟨v,F,s1,s2,r,nd,o,_⟩:=R.move h;obtain⟨p,kvs,rfl,rfl,h1,h2,h3⟩:=r.owd_inv;exact⟨p,kvs,s1,s2,h1,h2,h3,(o p (by simp)).1,(o p (by simp)).2⟩
theorem xq{i:Nat}(hk:SK K te k) (hb:SR K tb b):SS K (Ro (yN i) tb te) (yW i b k):=by
 intro H₀ Hf₀ Hf S σ H Fs o R e D h;obtain⟨x,e1,e⟩:=oBq.mp e;obtain⟨a0,e0,e⟩:=oBq.mp e;obtain⟨y,e2,e⟩:=oBq.mp e;obtain⟨kvs,e3,e⟩:=oBq.mp e;obtain⟨key,e4,e⟩:=oBq.mp e;rcases oK e with ⟨hl,e⟩|e
 .skip
  cases e;have hk':SK K te (uN k):=SK.frz hk;refine hk' R (a:=x.1) (S':=x.2) e1 _ λHf1 H1 Fs1 v F t1 R1 r1 o1=>?_
  obtain⟨p',_,s1,_⟩:=R1.owd (Cc e0);refine⟨_,s1,hb R1 (d:=y.1) (S':=y.2) e2 _ λHf2 H2 Fs2 w t2 R2 r2=>?_⟩
  obtain⟨q',kv,s1',s2',h1',h2',h3',h4',h5'⟩:=R2.owd (Cc e3);rw[s1]at s1';cases s1';obtain⟨x1,hx1⟩:∃d,x.1 = .sh d:=by
   obtain⟨w,_,e⟩:=oMq.mp e1;rw[←e];exact⟨_,rfl⟩
  rw[hx1]at r1;have rv:=(r1.sh_inv.2).mono t2.sf;have hw:=yD e4 r2;subst hw;refine⟨p',_,rfl,OM.k h1' (by rw[vH,←h3'.len];exact hl),h _ _ _ _ (t1.sf.trans t2.sf) (R2.turn s1 s2' (by simp) (F':=[p']) (.owd oz h2' ?_) (by simp) λq hq=>by rw[mSq.mp hq];exact⟨h4',h5'⟩)⟩
  rw[hx1,pK];exact M0 h3' rv
 .cases e
def XS(a b:ME):ME:=λS=>(a S).bind λx=>(b x.2).bind λy=>match y.1 with
 | .dict kvs=>(wb x.1).map λkey=>(.bl (getD kvs key).isSome,y.2)
 |_=>none
def xn(a b:ME):ME:=λS=>(a S).bind λx=>(b x.2).bind λy=>match y.1 with
 | .dict kvs=>(wb x.1).map λkey=>(.bl (!(getD kvs key).isSome),y.2)
 |_=>none
def vY(a b:ME):ME:=λS=>(a S).bind λx=>(b x.2).bind λy=>match x.1 with
 | .dict kvs=>(wb y.1).bind λkey=>(getD kvs key).map λd=>(d,y.2)
 |_=>none
theorem LK{H:Hp}{kvs:List (oJ×D)}{x:V}{key:oJ}{d:D}(r:qd K H (.dict kvs) x) (e:getD kvs key=some d):∃a v,x = .ref a/\B9 H a (kV key) (some v)/\qd K H d v:=by
 obtain⟨p,vs,rfl,h1,h2⟩:=r.dict_inv;have g:=BU (key:=key) h2;rw[e]at g;obtain⟨v,g1,g2⟩:=g;exact⟨p,v,rfl,by rw[←g1];exact B9.k h1,g2⟩
theorem M5{H:Hp}{kvs:List (oJ×D)}{x:V}{key:oJ}(r:qd K H (.dict kvs) x):∃a o,x = .ref a/\B9 H a (kV key) o/\o.isSome=(getD kvs key).isSome:=by
 obtain⟨p,vs,rfl,h1,h2⟩:=r.dict_inv;have g:=BU (key:=key) h2;refine⟨p,_,rfl,B9.k h1,?_⟩;cases e:getD kvs key with
 |none=>rw[e]at g;rw[g];rfl
 |some d=>rw[e]at g;obtain⟨v,g1,_⟩:=g;rw[g1];rfl
theorem yu{a:ME}(ha:SR K ta a) (hb:SR K tb b):SR K (Jo ta tb) (xn a b):=by
 intro H₀ Hf₀ Hf S σ H Fs d S' R e Q q;obtain⟨x,e1,e⟩:=oBq.mp e;obtain⟨y,e2,e⟩:=oBq.mp e;refine ha R (d:=x.1) (S':=x.2) e1 _ λHf1 H1 Fs1 v1 t1 R1 r1=>hb R1 (d:=y.1) (S':=y.2) e2 _ λHf2 H2 Fs2 v2 t2 R2 r2=>?_
 split at e
 .rename_i kvs hy;rw[hy]at r2;obtain⟨key,e3,e⟩:=oMq.mp e;cases e;obtain⟨p,o,rfl,g1,g2⟩:=M5 (key:=key) r2;refine⟨p,o,rfl,by rw[yD e3 r1];exact g1,?_⟩
  rw[g2];exact q _ _ _ _ (t1.trans t2) R2 .bl
 .cases e
theorem yI{a:ME}(ha:SR K ta a) (hb:SR K tb b):SR K (RH ta tb) (vY a b):=by
 intro H₀ Hf₀ Hf S σ H Fs d S' R e Q q;obtain⟨x,e1,e⟩:=oBq.mp e;obtain⟨y,e2,e⟩:=oBq.mp e;refine ha R (d:=x.1) (S':=x.2) e1 _ λHf1 H1 Fs1 v1 t1 R1 r1=>hb R1 (d:=y.1) (S':=y.2) e2 _ λHf2 H2 Fs2 v2 t2 R2 r2=>?_
 split at e
 .rename_i kvs hy;rw[hy]at r1;obtain⟨key,e3,e⟩:=oBq.mp e;obtain⟨d',e4,e⟩:=oMq.mp e;cases e;obtain⟨p,v,rfl,g1,g2⟩:=LK (r1.mono t2.sh) e4;exact⟨p,v,rfl,by rw[yD e3 r2];exact g1,q _ _ _ _ (t1.trans t2) R2 g2⟩
 .cases e
end
def ux(x:Nat) (body:MS):List D->AS->Option Jn
 | [],S=>some (.nx S)
 |d::ds,S=>(body (S.set x (some (.sh d)))).bind λo=>match o with
  | .nx S'=>ux x body ds S'
  | .ct S'=>ux x body ds S'
  | .bk S'=>some (.nx S')
  | .rt a=>some (.rt a)
def tj:D->Option (List D)
 | .list ds=>some ds
 | .scr ns=>some (ns.map .int)
 |_=>none
def En(x:Nat) (k:MK) (body:MS):MS:=λS=>(uN k S).bind λy=>(tj (nW y.1)).bind λds=>ux x body ds y.2
def pS(lo:Int) (n:Nat):List D:=(bQ n).map λi:Nat=>.int (lo+i)
def Dc:List D->Option (List D)
 | [.int j]=>tR (-(2 ^ 62)<=j/\j<2 ^ 62) (some (pS 0 j.toNat))
 |_=>none
def Wc:List D->Option (List D)
 | [.int i,.int j]=>tR (-(2 ^ 62)<=i/\i<2 ^ 62/\-(2 ^ 62)<=j/\j<2 ^ 62) (some (pS i (j-i).toNat))
 |_=>none
def Eg(x:Nat) (a:ML) (body:MS):MS:=λS=>(a S).bind λy=>(Dc y.1).bind λds=>ux x body ds y.2
def Wp(x:Nat) (a:ML) (body:MS):MS:=λS=>(a S).bind λy=>(Wc y.1).bind λds=>ux x body ds y.2
def AJ(x y:Nat) (body:MS):Nat->List D->AS->Option Jn
 |_,[],S=>some (.nx S)
 |i,d::ds,S=>(body ((S.set x (some (.sh (.int i)))).set y (some (.sh d)))).bind λo=>match o with
  | .nx S'=>AJ x y body (i+1) ds S'
  | .ct S'=>AJ x y body (i+1) ds S'
  | .bk S'=>some (.nx S')
  | .rt a=>some (.rt a)
def Kg(x y:Nat) (k:MK) (body:MS):MS:=λS=>(uN k S).bind λz=>(tj (nW z.1)).bind λds=>AJ x y body 0 ds z.2
def xv(x y:Nat) (body:MS):List D->List D->AS->Option Jn
 |d::ds,e::es,S=>(body ((S.set x (some (.sh d))).set y (some (.sh e)))).bind λo=>match o with
  | .nx S'=>xv x y body ds es S'
  | .ct S'=>xv x y body ds es S'
  | .bk S'=>some (.nx S')
  | .rt a=>some (.rt a)
 |_,_,S=>some (.nx S)
def GO(x y:Nat) (k l:MK) (body:MS):MS:=λS=>(uN k S).bind λz=>(uN l z.2).bind λw=>(tj (nW z.1)).bind λds=>(tj (nW w.1)).bind λes =>
 if ds.length=es.length then xv x y body ds es w.2 else none
def tG(c:MT) (body:MS):Nat->MS
 |0,_=>none
 |n+1,S=>(c S).bind λx=>if x.1=true then (body x.2).bind λo=>match o with
   | .nx S'=>tG c body n S'
   | .ct S'=>tG c body n S'
   | .bk S'=>some (.nx S')
   | .rt a=>some (.rt a)
  else some (.nx x.2)
section
variable {K:W.Frag}{te tf:TE}{k l:MK}{tb:TS}{body:MS}{x y:Nat}
theorem wz{H:Hp}{d:D}{ds:List D}{v:V}(e:tj d=some ds) (r:qd K H d v):∃a vs,v = .ref a/\qw K H a vs/\oH K H ds vs:=by
 cases d with
 |list es =>
  cases e;obtain⟨p,vs,rfl,h1,h2⟩:=r.list_inv;exact⟨p,vs,rfl,qw.of h1,h2⟩
 |scr ns =>
  cases e;cases r with
  |scr h=>exact⟨_,_,rfl,h,sA ns⟩
 |_=>cases e
theorem xQ{te:TE}{S:AS}{z:AV×AS}(e:uN k S=some z):∃d,z.1 = .sh d:=by
 obtain⟨w,_,e⟩:=oMq.mp e;rw[←e];exact⟨_,rfl⟩
theorem pJ.setD{H₀ Hf₀ Hf H:Hp}{S:AS}{σ:St}{Fs:List (List Addr)}{d:D}{v:V}(R:pJ K H₀ Hf₀ Hf S σ H Fs) (i:Nat) (r:qd K Hf d v):pJ K H₀ Hf₀ Hf (S.set i (some (.sh d))) (σ.set i (some v)) H (Fs.set i []) :=
 R.set i (.sh r) aN λq h=>(by cases h)
theorem yr(hk:SK K te k) (hb:SS K tb body):SS K (M8 (Og K te) (sP x) tb) (En x k body):=by
 intro H₀ Hf₀ Hf S σ H Fs o R e D h;obtain⟨z,e1,e⟩:=oBq.mp e;obtain⟨ds,e2,e⟩:=oBq.mp e;have hk':SK K te (uN k):=SK.frz hk;refine hk' R (a:=z.1) (S':=z.2) e1 _ λHf1 H1 Fs1 v F t1 R1 r1 o1=>?_
 obtain⟨d,hd⟩:=xQ (te:=te) e1;rw[hd]at r1;rw[hd,pK]at e2;obtain⟨a,vs,rfl,g1,g2⟩:=wz e2 r1.sh_inv.2;refine⟨a,rfl,⟨vs,R1.sub.seq g1⟩,NM (xs:=vs) (λi σ' H'=>∃Hf' S' Fs',pJ K H₀ Hf₀ Hf' S' σ' H' Fs'/\oM Hf1 Hf'/\ux x body (ds.drop i) S'=some o) ⟨Hf1,z.2,Fs1,R1,.refl _,e⟩
  (λi σ' H' _ ⟨Hf',S',Fs',R',s',_⟩=>R'.sub.seq (s'.seq g1)) ?_ ?_⟩
 .rintro i w σ' H' hw ⟨Hf',S',Fs',R',s',e'⟩;obtain⟨di,hdi,rw'⟩:=g2.get' hw;have hlt:i<ds.length:=(gSq.mp hdi).1;rw[aw hlt]at e';have hdi':ds[i]=di:=(gSq.mp hdi).2;rw[hdi']at e';obtain⟨ob,e3,e4⟩:=oBq.mp e';refine hb (R'.setD x (rw'.mono s')) e3 _ ?_;cases ob with
  |nx S2=>exact λHf2 σ2 H2 Fs2 s2 R2=>⟨Hf2,S2,Fs2,R2,s'.trans s2,e4⟩
  |ct S2=>exact λHf2 σ2 H2 Fs2 s2 R2=>⟨Hf2,S2,Fs2,R2,s'.trans s2,e4⟩
  |bk S2=>cases e4;exact λHf2 σ2 H2 Fs2 s2 R2=>h _ _ _ _ ((t1.sf.trans s').trans s2) R2
  |rt a=>cases e4;exact h
 .rintro σ' H' ⟨Hf',S',Fs',R',s',e'⟩;rw[←g2.1,eM]at e';cases e';exact h _ _ _ _ (t1.sf.trans s') R'
theorem Lp{H₀ Hf₀ Hf1 H1:Hp}{S1:AS}{σ:St}{Fs1:List (List Addr)}{o:Jn}{D:zy}{lo:Int}{n:Nat}(hb:SS K tb body) (R1:pJ K H₀ Hf₀ Hf1 S1 σ H1 Fs1) (e:ux x body (pS lo n) S1=some o) (h:D1 K H₀ Hf₀ Hf1 D o) :
  ∃W:Nat->Nat->St->Hp->Prop,(∃m,W 0 m σ H1)/\∀i m σ H,W i m σ H ->
   ((Qi lo n).stop i H/\D.nx σ H)∨((Qi lo n).go i H/\∃N:St->Hp->Prop,(∀σ' H',N σ' H'->∃m',m'<m/\W (i+1) m' σ' H')/\∀v H',(Qi lo n).yld i H v H'->sP x v σ H' λσ2 H2=>tb { D with nx:=N,ct:=N,bk:=D.nx } σ2 H2):=by
 refine KY (λi σ' H'=>∃Hf' S' Fs',pJ K H₀ Hf₀ Hf' S' σ' H' Fs'/\oM Hf1 Hf'/\ux x body ((pS lo n).drop i) S'=some o) ⟨Hf1,S1,Fs1,R1,.refl _,e⟩ ?_ ?_
 .rintro i σ' H' hi ⟨Hf',S',Fs',R',s',e'⟩;have hlt:i<(pS lo n).length:=by unfold pS;rw[lMq,cF];exact hi
  rw[aw hlt]at e';have hdi:(pS lo n)[i] = .int (lo+i):=by simp[pS]
  rw[hdi]at e';obtain⟨ob,e3,e4⟩:=oBq.mp e';refine hb (R'.setD x .int) e3 _ ?_;cases ob with
  |nx S2=>exact λHf2 σ2 H2 Fs2 s2 R2=>⟨Hf2,S2,Fs2,R2,s'.trans s2,e4⟩
  |ct S2=>exact λHf2 σ2 H2 Fs2 s2 R2=>⟨Hf2,S2,Fs2,R2,s'.trans s2,e4⟩
  |bk S2=>cases e4;exact λHf2 σ2 H2 Fs2 s2 R2=>h _ _ _ _ (s'.trans s2) R2
  |rt a=>cases e4;exact h
 .rintro σ' H' ⟨Hf',S',Fs',R',s',e'⟩;have hl:(pS lo n).length=n:=by unfold pS;rw[lMq,cF]
  rw[bw (cK hl)]at e';cases e';exact h _ _ _ _ s' R'
theorem GY{ta:TA}{a:ML}(ha:PU K ta a) (hb:SS K tb body):SS K (M8 (N0 ta) (sP x) tb) (Eg x a body):=by
 intro H₀ Hf₀ Hf S σ H Fs o R e D h;obtain⟨z,e1,e⟩:=oBq.mp e;obtain⟨ds,e2,e⟩:=oBq.mp e;refine ha R (ds:=z.1) (S':=z.2) e1 _ λHf1 H1 Fs1 vs t1 R1 r1=>?_
 unfold Dc at e2;split at e2
 .rename_i j hz;rcases oK e2 with ⟨hj,e2⟩|e2
  .skip
   cases e2;rw[hz]at r1;obtain⟨v,ws,rfl,h1,h2⟩:=r1.cons_inv;rw[h2.nil_inv];cases h1;exact⟨j,rfl,hj.1,hj.2,Lp hb R1 e (h.mono t1.sf)⟩
  .cases e2
 .cases e2
theorem JD(hk:SK K te k) (hb:SS K tb body):SS K (M8 (Rx K (rY te vI)) (KZ K 2 (xK (sP x) (xK (sP y) Lo))) tb) (Kg x y k body):=by
 intro H₀ Hf₀ Hf S σ H Fs o R e D h;obtain⟨z,e1,e⟩:=oBq.mp e;obtain⟨ds,e2,e⟩:=oBq.mp e;have hk':SK K te (uN k):=SK.frz hk;refine hk' R (a:=z.1) (S':=z.2) e1 _ λHf1 H1 Fs1 v F t1 R1 r1 o1=>?_
 obtain⟨d,hd⟩:=xQ (te:=te) e1;rw[hd]at r1;rw[hd,pK]at e2;obtain⟨a,vs,rfl,g1,g2⟩:=wz e2 r1.sh_inv.2;refine⟨a,rfl,⟨vs,R1.sub.seq g1⟩,O6 (xs:=vs) (λi σ' H'=>∃Hf' S' Fs',pJ K H₀ Hf₀ Hf' S' σ' H' Fs'/\oM Hf1 Hf'/\AJ x y body i (ds.drop i) S'=some o) ⟨Hf1,z.2,Fs1,R1,.refl _,e⟩
  (λi σ' H' _ ⟨Hf',S',Fs',R',s',_⟩=>R'.sub.seq (s'.seq g1)) ?_ ?_⟩
 .rintro i w σ' H' T hw ⟨Hf',S',Fs',R',s',e'⟩ hT;obtain⟨di,hdi,rw'⟩:=g2.get' hw;have hlt:i<ds.length:=(gSq.mp hdi).1;rw[aw hlt]at e';have hdi':ds[i]=di:=(gSq.mp hdi).2;rw[hdi']at e';obtain⟨ob,e3,e4⟩:=oBq.mp e';have R2:=(R'.new (o:=.tup [.int i,w]) hT).2.1;refine hb ((R2.setD x .int).setD y (rw'.mono s')) e3 _ ?_;cases ob with
  |nx S2=>exact λHf2 σ2 H2 Fs2 s2 R2=>⟨Hf2,S2,Fs2,R2,s'.trans s2,e4⟩
  |ct S2=>exact λHf2 σ2 H2 Fs2 s2 R2=>⟨Hf2,S2,Fs2,R2,s'.trans s2,e4⟩
  |bk S2=>cases e4;exact λHf2 σ2 H2 Fs2 s2 R2=>h _ _ _ _ ((t1.sf.trans s').trans s2) R2
  |rt a=>cases e4;exact h
 .rintro σ' H' ⟨Hf',S',Fs',R',s',e'⟩;rw[←g2.1,eM]at e';cases e';exact h _ _ _ _ (t1.sf.trans s') R'
theorem J6(hk:SK K te k) (hl:SK K tf l) (hb:SS K tb body):SS K (M8 (UB K (rY te (rY tf vI))) (KZ K 2 (xK (sP x) (xK (sP y) Lo))) tb) (GO x y k l body):=by
 intro H₀ Hf₀ Hf S σ H Fs o R e D h;obtain⟨z,e1,e⟩:=oBq.mp e;obtain⟨w,e1',e⟩:=oBq.mp e;obtain⟨ds,e2,e⟩:=oBq.mp e;obtain⟨es,e2',e⟩:=oBq.mp e;split at e
 .rename_i hlen;have hk':SK K te (uN k):=SK.frz hk;have hl':SK K tf (uN l):=SK.frz hl;refine hk' R (a:=z.1) (S':=z.2) e1 _ λHf1 H1 Fs1 v F t1 R1 r1 o1=>hl' R1 (a:=w.1) (S':=w.2) e1' _ λHf2 H2 Fs2 v2 F2 t2 R2 r2 o2=>?_
  obtain⟨d,hd⟩:=xQ (te:=te) e1;obtain⟨d2,hd2⟩:=xQ (te:=te) e1';rw[hd]at r1;rw[hd,pK]at e2;rw[hd2]at r2;rw[hd2,pK]at e2';obtain⟨a,vs,rfl,g1,g2⟩:=wz e2 (r1.sh_inv.2.mono t2.sf);obtain⟨b,ws,rfl,g3,g4⟩:=wz e2' r2.sh_inv.2;refine⟨a,b,rfl,⟨vs,R2.sub.seq g1⟩,⟨ws,R2.sub.seq g3⟩,Po (xs:=vs) (ys:=ws) (λi σ' H'=>∃Hf' S' Fs',pJ K H₀ Hf₀ Hf' S' σ' H' Fs'/\oM Hf2 Hf'/\xv x y body (ds.drop i) (es.drop i) S'=some o) ⟨Hf2,w.2,Fs2,R2,.refl _,e⟩ (by rw[←g2.1,←g4.1,hlen])
   (λi σ' H' _ ⟨Hf',S',Fs',R',s',_⟩=>⟨R'.sub.seq (s'.seq g1),R'.sub.seq (s'.seq g3)⟩) ?_ ?_⟩
  .rintro i u u' σ' H' T hu hu' ⟨Hf',S',Fs',R',s',e'⟩ hT;obtain⟨di,hdi,rw'⟩:=g2.get' hu;obtain⟨ei,hei,rw2⟩:=g4.get' hu';have hlt:i<ds.length:=(gSq.mp hdi).1;have hlt2:i<es.length:=(gSq.mp hei).1;rw[aw hlt,aw hlt2,(gSq.mp hdi).2,(gSq.mp hei).2]at e';obtain⟨ob,e3,e4⟩:=oBq.mp e';have R3:=(R'.new (o:=.tup [u,u']) hT).2.1;refine hb ((R3.setD x (rw'.mono s')).setD y (rw2.mono s')) e3 _ ?_;cases ob with
   |nx S2=>exact λHf2 σ2 H2 Fs2 s2 R2=>⟨Hf2,S2,Fs2,R2,s'.trans s2,e4⟩
   |ct S2=>exact λHf2 σ2 H2 Fs2 s2 R2=>⟨Hf2,S2,Fs2,R2,s'.trans s2,e4⟩
   |bk S2=>cases e4;exact λHf2 σ2 H2 Fs2 s2 R2=>h _ _ _ _ (((t1.sf.trans t2.sf).trans s').trans s2) R2
   |rt a=>cases e4;exact h
  .rintro σ' H' ⟨Hf',S',Fs',R',s',e'⟩;have e0:ds.drop vs.length=[]:=by rw[←g2.1,eM]
   rw[e0]at e';have e0':xv x y body [] (es.drop vs.length) S'=some (.nx S'):=by
    cases es.drop vs.length <;> rfl
   rw[e0']at e';cases e';exact h _ _ _ _ ((t1.sf.trans t2.sf).trans s') R'
 .cases e
theorem BX{c:TT}{m:MT}(n:Nat) (hc:Fv K c m) (hb:SS K tb body):SS K (NS c tb) (tG m body n):=by
 intro H₀ Hf₀ Hf S σ H Fs o R e D h;refine⟨λn σ' H'=>∃Hf' S' Fs',pJ K H₀ Hf₀ Hf' S' σ' H' Fs'/\oM Hf Hf'/\tG m body n S'=some o,⟨n,Hf,S,Fs,R,.refl _,e⟩,?_⟩
 rintro n σ' H' ⟨Hf',S',Fs',R',s',e'⟩;cases n with
 |zero=>cases e'
 |succ n =>
  obtain⟨z,e1,e2⟩:=oBq.mp e';refine hc R' (b:=z.1) (S':=z.2) e1 _ λHf1 H1 Fs1 t1 R1=>?_
  split at e2
  .rename_i hz;rw[hz];refine Ij ⟨λσ2 H2=>∃Hf' S' Fs',pJ K H₀ Hf₀ Hf' S' σ2 H2 Fs'/\oM Hf Hf'/\tG m body n S'=some o,λσ2 H2 w=>⟨n,dH n,w⟩,?_⟩
   obtain⟨ob,e3,e4⟩:=oBq.mp e2;refine hb R1 e3 _ ?_;cases ob with
   |nx S2=>exact λHf2 σ2 H2 Fs2 s2 R2=>⟨Hf2,S2,Fs2,R2,(s'.trans t1.sf).trans s2,e4⟩
   |ct S2=>exact λHf2 σ2 H2 Fs2 s2 R2=>⟨Hf2,S2,Fs2,R2,(s'.trans t1.sf).trans s2,e4⟩
   |bk S2=>cases e4;exact λHf2 σ2 H2 Fs2 s2 R2=>h _ _ _ _ ((s'.trans t1.sf).trans s2) R2
   |rt a=>cases e4;exact h
  .rename_i hz;rw[cM]at hz;rw[hz];cases e2;exact HR (h _ _ _ _ (s'.trans t1.sf) R1)
end
def rZ(np n:Nat) (m:MS):MF:=λds=>if ds.length=np then (m (ds.map (λd=>some (.sh d))++aL (n-ds.length) none)).bind λo=>match o with
  | .rt a=>some a
  | .nx _=>some (.sh .non)
  |_=>none
 else none
theorem DH{K:W.Frag}{Hf H:Hp}{ds:List D}{vs:List V}(N:List Str) (s:oM Hf H) (r:oH K Hf ds vs) :
  pJ K H Hf Hf (ds.map (λd=>some (.sh d))++aL (N.length-ds.length) none) (L2.wV N vs) H (aL (ds.length+(N.length-ds.length)) []):=by
 have fl:=vq (ds.length+(N.length-ds.length));refine⟨by simp[L2.wV,r.1],by simp,λi av e=>?_,λi e=>?_,by rw[fl];exact aN,λp hp=>(by rw[fl]at hp;cases hp),s,oM.refl _,λb h _=>h,oM.refl _⟩
 .by_cases hi:i<ds.length
  .rw [gZq (by simpa using hi),gMq]at e
   obtain⟨d,e1,e2⟩:=oMq.mp e;cases e2;obtain⟨v,e3,rv⟩:=r.get e1;refine⟨v,[],?_,?_,.sh rv⟩
   .unfold L2.wV;rw[gZq (by simpa [←r.1] using hi),gMq,e3]
    rfl
   .rw [cH,oQ (by lia)]
  .rw [gYq (by simpa using hi)]at e
   have:=mGq e;rw[df this]at e;have h2:=df this;cases h2
 .rw [cH];have hi:=(gSq.mp e).1;rw[lAq,lMq,dw]at hi;rw[oQ hi]
theorem oA{K:W.Frag}{t:TS}{m:MS}{np:Nat}(N:List Str) (h:SS K t m) {vs:List V}{H:Hp}{Q:VK}{E:XK}(hs:oO K (rZ np N.length m) vs H Q E):t { nx:=λ_ H'=>Q .non H',rt:=Q } (L2.wV N vs) H:=by
 obtain⟨Hf,ds,a,s,r,e,q⟩:=hs;unfold rZ at e;split at e
 .obtain ⟨o,e1,e2⟩:=oBq.mp e;refine h (DH N s r) e1 _ ?_;cases o with
  |rt a' =>
   cases e2;exact λHf' H' v F s1 s2 s3 l r nd fr=>q Hf' H' v F s1 s2 s3 l r nd fr
  |nx S' =>
   cases e2;exact λHf' σ' H' Fs' s1 R=>q Hf' H' .non [] R.sf R.fr R.sub R.lim (.sh .non) aN λq h=>(by cases h)
  |bk S'=>cases e2
  |ct S'=>cases e2
 .cases e
theorem pO{K:W.Frag}{m:MS}{np n:Nat}{vs:List V}{H:Hp}{Q:VK}{E:XK}(hs:oO K (rZ np n m) vs H Q E):vs.length=np:=by
 obtain⟨Hf,ds,a,s,r,e,q⟩:=hs;unfold rZ at e;split at e
 .rename_i h;rw[←r.1,h]
 .cases e
def fzAll:List Nat->AS->Option AS
 | [],S=>some S
 |j::js,S=>(S[j]?.join).bind λa=>fzAll js (S.set j (some (.sh (nW a))))
def RV:Option AV->Option AV
 |some (.sh d)=>some (.sh d)
 |_=>none
def EH(S:AS):List Nat->Option AS
 | []=>some []
 |j::js=>(RV S[j]?.join).bind λa=>(EH S js).map (some a :: ·)
def qh(tf:MT) (te:MK) (cap:AS):List D->Option (List AV)
 | []=>some []
 |d::ds=>(tf (some (.sh d)::cap)).bind λb=>if b.1=true then (te b.2).bind λa=>(qh tf te cap ds).map (a.1 :: ·) else qh tf te cap ds
abbrev MI:=AS->Option (List D×AS)
def xJ(k:MK):MI:=λS=>(uN k S).bind λy=>(tj (nW y.1)).map λds=>(ds,y.2)
def SX(a:ML):MI:=λS=>(a S).bind λy=>(Dc y.1).map λds=>(ds,y.2)
def rS(src:MI) (fr:List Nat) (tf:MT) (te:MK):MK:=λS=>(src S).bind λy=>(fzAll fr y.2).bind λS2=>(EH S2 fr).bind λcap=>tR (y.1.length<=qU) ((qh tf te cap y.1).map λavs=>(.ow avs,S2))
def pV:MT:=λS=>some (true,S)
section
variable {K:W.Frag}{H₀ Hf₀ Hf Hf' H H':Hp}{S S':AS}{σ:St}{Fs Fs':List (List Addr)}
theorem pJ.fz(R:pJ K H₀ Hf₀ Hf S σ H Fs) {j:Nat}{a:AV}(e:S[j]?.join=some a):∃Hf' Fs',xa Hf H Fs Hf' H Fs'/\pJ K H₀ Hf₀ Hf' (S.set j (some (.sh (nW a)))) σ H Fs':=by
 obtain⟨v,F,s1,s2,r,nd,o,R1⟩:=R.move (pH e);have n:∀q∈F,Hf q=none:=λq hq=>(r.owned q hq).2
 have R2:=R1.frz o n;have r2:=r.frozen (rJ (H:=H) n) λq hq=>zo hq
 have R3:=R2.again (F:=F) (G:=[]) s1 (.sh r2) aN λq h=>(by cases h)
 refine⟨_,_,⟨rJ n,.refl _,λp hp=>qt hp,λb h g=>?_⟩,R3⟩
 by_cases m:b∈F
 .exact .inr (mFq.mpr ⟨F,mGq s2,m⟩)
 .rw [tm m]at g;exact absurd h g
theorem pJ.fzAll:∀{fr:List Nat}{Hf:Hp}{S S':AS}{Fs:List (List Addr)},pJ K H₀ Hf₀ Hf S σ H Fs->fzAll fr S=some S'->∃Hf' Fs',xa Hf H Fs Hf' H Fs'/\pJ K H₀ Hf₀ Hf' S' σ H Fs'
 | [],Hf,S,S',Fs,R,e=>by
  cases e;exact⟨Hf,Fs,.refl,R⟩
 |j::js,Hf,S,S',Fs,R,e=>by
  obtain⟨a,e1,e2⟩:=oBq.mp e;obtain⟨Hf1,Fs1,t1,R1⟩:=R.fz e1;obtain⟨Hf2,Fs2,t2,R2⟩:=pJ.fzAll R1 e2;exact⟨Hf2,Fs2,t1.trans t2,R2⟩
theorem Hm(R:pJ K H₀ Hf₀ Hf S σ H Fs):∀{fr:List Nat}{cap:AS},EH S fr=some cap->cap.length=fr.length/\∀(k:Nat) (a:AV),cap[k]?=some (some a)->∃d v,a = .sh d/\(slots σ fr)[k]?=some (some v)/\qd K Hf d v
 | [],cap,e=>by
  cases e;exact⟨rfl,λk a h=>by simp at h⟩
 |j::js,cap,e=>by
  obtain⟨a,e1,e2⟩:=oBq.mp e;obtain⟨cap',e3,e4⟩:=oMq.mp e2;subst e4;obtain⟨h1,h2⟩:=Hm R e3;refine⟨by simp[h1],λk b hk=>?_⟩
  cases k with
  |zero =>
   cases hk;cases ej:S[j]?.join with
   |none=>rw[ej]at e1;cases e1
   |some c =>
    rw[ej]at e1;cases c with
    |sh d =>
     cases e1;obtain⟨v,F,s1,s2,r⟩:=R.rep j _ (pH ej);refine⟨d,v,rfl,?_,r.sh_inv.2⟩;show some ((σ[j]?).join)=_;rw[s1];rfl
    |_=>cases e1
  |succ k=>exact h2 k b (by simpa using hk)
theorem LL(R:pJ K H₀ Hf₀ Hf S σ H Fs) {fr:List Nat}{cap:AS}(e:EH S fr=some cap) {d:D}{x:V}(rx:qd K Hf d x) :
  pJ K H₀ Hf₀ Hf (some (.sh d)::cap) (some x::slots σ fr) H (aL (cap.length+1) []):=by
 obtain⟨h1,h2⟩:=Hm R e;have fl:=vq (cap.length+1);refine⟨by simp[slots,h1],by simp,λi av ei=>?_,λi ei=>?_,by rw[fl];exact aN,λp hp=>(by rw[fl]at hp;cases hp),R.sub,R.fr,R.lim,R.sf⟩
 .cases i with
  |zero =>
   cases ei;exact⟨x,[],rfl,by simp,.sh rx⟩
  |succ k =>
   have hk:k<cap.length:=(gSq.mp (by simpa using ei)).1
   obtain⟨d',v,rfl,s1,r⟩:=h2 k av (by simpa using ei)
   exact⟨v,[],by simpa using s1,by rw[cH,oQ (by lia)],.sh r⟩
 .rw [cH];have hi:=(gSq.mp ei).1;rw[oQ (by simpa using hi)]
theorem pJ.updOut(R:pJ K H₀ Hf₀ Hf S σ H Fs) {p:Addr}{o:HO}(h1:p∉Fs.flatten) (h2:Hf p=none) (h3:H₀ p=none):pJ K H₀ Hf₀ Hf S σ (qr H p o) Fs where
 len:=R.len
 lenF:=R.lenF
 rep:=λi av e=>by
  obtain⟨v,F,s1,s2,r⟩:=R.rep i av e;exact⟨v,F,s1,s2,r.keepUpd λm=>h1 (pP s2 m)⟩
 emp:=R.emp
 nd:=R.nd
 fresh:=R.fresh
 sub:=λb u e=>by
  rw[nX λz=>by rw[z,h2]at e;cases e]
  exact R.sub b u e
 fr:=λb u e=>by
  rw[nX λz=>by rw[z,h3]at e;cases e]
  exact R.fr b u e
 lim:=R.lim
 sf:=R.sf
theorem pJ.outer{σ2:St}{Fs2 Fs3:List (List Addr)}{Hf3 H3:Hp}{S3:AS}(R:pJ K H₀ Hf₀ Hf S σ H Fs) (R3:pJ K H₀ Hf₀ Hf3 S3 σ2 H3 Fs3) (t:xa Hf H Fs2 Hf3 H3 Fs3) (h0:Fs2.flatten=[]):xa Hf H Fs Hf3 H3 Fs/\pJ K H₀ Hf₀ Hf3 S σ H3 Fs:=by
 have g:∀b,Hf b=none->H b≠none->Hf3 b=none:=λb h1 h2=>by
  by_cases e:Hf3 b=none
  .exact e
  .rcases t.gr b h1 e with z|z
   .exact absurd z h2
   .rw [h0]at z;cases z
 exact⟨⟨t.sf,t.sh,λ_ h=>h,λb h1 h2=>.inl (by
  by_cases e:H b=none
  .exact e
  .exact absurd (g b h1 e) h2)⟩,R.more t.sh t.sf R3.sub (λq hq=>g q (R.mem hq).2 (R.mem hq).1) R3.lim⟩
end
section
variable {K:W.Frag}{tf:TT}{te:TE}{mf:MT}{me:MK}{fr:List Nat}
theorem DD{H₀ Hf₀ Hf1 H1:Hp}{S1:AS}{σ:St}{Fs1:List (List Addr)}{cap:AS}{ds:List D}{avs:List AV}{J:It}{Q:VK}(hf:Fv K tf mf) (he:SK K te me)
  (R1:pJ K H₀ Hf₀ Hf1 S1 σ H1 Fs1) (ec:EH S1 fr=some cap) (hl:ds.length<=qU) (e:qh mf me cap ds=some avs)
  (hgo:∀i H,oM Hf1 H->i<ds.length->J.go i H) (hst:∀H,oM Hf1 H->J.stop ds.length H) (hy:∀i H x H',oM Hf1 H->i<ds.length->J.yld i H x H'->H'=H/\∃d,ds[i]?=some d/\qd K Hf1 d x)
  (q:∀Hf' H' v F,xa Hf1 H1 Fs1 Hf' H' Fs1->pJ K H₀ Hf₀ Hf' S1 σ H' Fs1->oR K Hf' H' (.ow avs) v F->wx H₀ H1 Fs1 Fs1 F->Q v H') :
  ∀acc,H1 acc=none->∃W:Nat->Nat->Hp->Prop,(∃m,W 0 m (qr H1 acc (.lst [])))/\∀i m H,W i m H ->
   (J.stop i H/\Q (.ref acc) H) ∨
   (J.go i H/\∃N:Hp->Prop,(∀H',N H'->∃m',m'<m/\W (i+1) m' H')/\∀x H',J.yld i H x H'->tf (some x::slots σ fr) H' λb H2 =>
    if b=true then te (some x::slots σ fr) H2 λy H3=>∃ys,H3 acc=some (.lst ys)/\ys.length<jk/\N (qr H3 acc (.lst (ys++[y]))) else N H2):=by
 intro acc hacc;obtain⟨t0,R0,n1,n2,n3⟩:=R1.new (o:=.lst []) hacc
 let P:Nat->Hp->Prop:=λi H=>∃Hf as vs Gs sH,pJ K H₀ Hf₀ Hf S1 σ H Fs1/\xa Hf1 H1 Fs1 Hf H Fs1/\H acc=some (.lst vs)/\Hf acc=none/\pB K Hf H as vs Gs/\wx H₀ H1 Fs1 Fs1 (acc::Gs.flatten)/\as.length<=i /\
  qh mf me cap (ds.drop i)=some sH/\avs=as++sH
 refine⟨λi m H=>m=ds.length-i/\i<=ds.length/\P i H,⟨ds.length,by simp,aG _,Hf1,[],[],[],avs,R0,t0,oz,n1,.nil,wx.one R1 hacc,aG _,e,rfl⟩,?_⟩
 rintro i m H ⟨rfl,hi,Hf,as,vs,Gs,sH,R,t,ha,hfa,ra,ow,la,er,ea⟩;have hs:oM Hf1 H:=t.sf.trans R.sub
 by_cases hlt:i<ds.length
 .refine .inr ⟨hgo i H hs hlt,P (i+1),λH' p=>⟨ds.length-(i+1),by lia,rfl,hlt,p⟩,λx H' y=>?_⟩
  obtain⟨rfl,d,hd,rx⟩:=hy i H x H' hs hlt y;rw[aw hlt,(gSq.mp hd).2]at er;obtain⟨b,e1,e2⟩:=oBq.mp er;have fl:=vq (cap.length+1);refine hf (LL R ec (rx.mono t.sf)) (b:=b.1) (S':=b.2) e1 _ λHf2 H2 Fs2 t2 R2=>?_
  obtain⟨t2',R2'⟩:=R.outer R2 t2 fl;have ha2:H2 acc=some (.lst vs):=t2.sh _ _ ha;have hfa2:Hf2 acc=none:=by
   by_cases z:Hf2 acc=none
   .exact z
   .rcases t2.gr acc hfa z with z|z
    .rw [ha]at z;cases z
    .rw [fl]at z;cases z
  have ra2:=ra.stp (λq hq=>ow.out q (mCo _ hq)) t2'
  split at e2
  .rename_i hb;rw[hb];refine Ij ?_;obtain⟨a,e3,e4⟩:=oBq.mp e2;obtain⟨rest',e5,e6⟩:=oMq.mp e4;subst e6;refine he R2 (a:=a.1) (S':=a.2) e3 _ λHf3 H3 Fs3 v F t3 R3 r3 o3=>?_
   have fl2:Fs2.flatten=[]:=by
    cases hz:Fs2.flatten with
    |nil=>rfl
    |cons z zs =>
     have:=t2.own z (by rw[hz];simp)
     rw[fl]at this;cases this
   obtain⟨t3',R3'⟩:=R2'.outer R3 t3 fl2;have ha3:H3 acc=some (.lst vs):=t3.sh _ _ ha2;have hfa3:Hf3 acc=none:=by
    by_cases z:Hf3 acc=none
    .exact z
    .rcases t3.gr acc hfa2 z with z|z
     .rw [ha2]at z;cases z
     .rw [fl2]at z;cases z
   have ra3:=ra2.stp (λq hq=>ow.out q (mCo _ hq)) t3'
   have newF:∀q∈F,H2 q=none:=λq hq=>(o3.new q hq).elim id λz=>by rw[fl2]at z;cases z
   have accF:acc∉F:=λm=>by rw[newF acc m]at ha2;cases ha2
   have accG:acc∉Gs.flatten:=(aC.mp ow.nd).1;have tt:=(t.trans t2').trans t3';refine⟨vs,ha3,?_,?_⟩
   .rw [vH,←ra.1];lia
   .refine ⟨Hf3,as++[a.1],vs++[v],Gs++[F],rest',R3'.updOut n3 hfa3 n2,⟨tt.sf,λb o eb=>?_,λ_ h=>h,tt.gr⟩,oz,hfa3,(ra3.keepUpd accG).snoc (r3.keepUpd accF),?_,by rw[lAq,lSq];lia,e5,by rw[ea];simp⟩
    .rw [nX λz=>by rw[z,hacc]at eb;cases eb]
     exact tt.sh b o eb
    .rw [fAq,aX];have oF:wx H₀ H1 Fs1 Fs1 F:=⟨o3.nd,o3.fr,λq hq m=>(R2'.mem m).1 (newF q hq),λq hq=>.inl ((t.trans t2').sh.free (newF q hq))⟩
     refine(show wx H₀ H1 Fs1 Fs1 ((acc::Gs.flatten)++F) from ow.app oF λq hq m=>?_)
     rcases ah.mp hq with z|z
     .rw [z]at m;exact accF m
     .exact (ra2.owned q z).1 (newF q m)
  .rename_i hb;rw[cM]at hb;rw[hb];exact HR ⟨Hf2,as,vs,Gs,sH,R2',t.trans t2',ha2,hfa2,ra2,ow,by lia,e2,ea⟩
 .have e0:i=ds.length:=by lia
  subst e0;rw[eM]at er;cases er;rw[aNq]at ea;subst ea;exact .inl ⟨hst H hs,q Hf H (.ref acc) _ t R (oR.news ha hfa ra) ow⟩
theorem rg{tl:TE}{k:MK}(hk:SK K tl k) (hf:Fv K tf mf) (he:SK K te me):SK K (J5 (Og K tl) fr tf te) (rS (xJ k) fr mf me):=by
 intro H₀ Hf₀ Hf S σ H Fs av S' R e Q q;obtain⟨y,e1,e⟩:=oBq.mp e;obtain⟨z,e0,e1⟩:=oBq.mp e1;obtain⟨ds,e2,e1⟩:=oMq.mp e1;subst e1;obtain⟨S2,e3,e⟩:=oBq.mp e;obtain⟨cap,e4,e⟩:=oBq.mp e;rcases oK e with ⟨hl,e⟩|e
 .obtain ⟨avs,e5,e⟩:=oMq.mp e;cases e;have hk':SK K tl (uN k):=SK.frz hk;refine hk' R (a:=z.1) (S':=z.2) e0 _ λHf1 H1 Fs1 v F t1 R1 r1 o1=>?_
  obtain⟨d,hd⟩:=xQ (te:=tl) e0;rw[hd]at r1;rw[hd,pK]at e2;obtain⟨Hf2,Fs2,t2,R2⟩:=R1.fzAll e3;obtain⟨a,vs,rfl,g1,g2⟩:=wz e2 (r1.sh_inv.2.mono t2.sf);refine⟨a,rfl,⟨vs,R2.sub.seq g1⟩,DD (K:=K) hf he R2 e4 hl e5 (λi H s hi=>⟨vs,vs[i]'(g2.1 ▸ hi),s.seq g1,gEg (g2.1 ▸ hi)⟩) (λH s=>⟨vs,s.seq g1,cK g2.1.symm⟩) (λi H x H' s hi y=>?_) λHf' H' v F t R' r o=>q _ _ _ v F ((t1.trans t2).trans t) R' r (o.back (t1.trans t2))⟩
  obtain⟨y1,y2⟩:=y;obtain⟨di,h1,h2⟩:=g2.get' (y2 vs (s.seq g1));exact⟨y1,di,h1,h2⟩
 .cases e
theorem zh{lo:Int}{n i:Nat}(h:i<n):(pS lo n)[i]?=some (.int (lo+i)):=by
 unfold pS;rw[gMq,gE h];rfl
theorem qB(lo:Int) (n:Nat):(pS lo n).length=n:=by unfold pS;rw[lMq,cF]
theorem AB{ta:TA}{a:ML}(ha:PU K ta a) (hf:Fv K tf mf) (he:SK K te me):SK K (J5 (N0 ta) fr tf te) (rS (SX a) fr mf me):=by
 intro H₀ Hf₀ Hf S σ H Fs av S' R e Q q;obtain⟨y,e1,e⟩:=oBq.mp e;obtain⟨z,e0,e1⟩:=oBq.mp e1;obtain⟨ds,e2,e1⟩:=oMq.mp e1;subst e1;obtain⟨S2,e3,e⟩:=oBq.mp e;obtain⟨cap,e4,e⟩:=oBq.mp e;rcases oK e with ⟨hl,e⟩|e
 .obtain ⟨avs,e5,e⟩:=oMq.mp e;cases e;refine ha R (ds:=z.1) (S':=z.2) e0 _ λHf1 H1 Fs1 vs t1 R1 r1=>?_
  unfold Dc at e2;split at e2
  .rename_i j hz;rcases oK e2 with ⟨hj,e2⟩|e2
   .skip
    cases e2;rw[hz]at r1;obtain⟨v,ws,rfl,h1,h2⟩:=r1.cons_inv;rw[h2.nil_inv];cases h1;obtain⟨Hf2,Fs2,t2,R2⟩:=R1.fzAll e3;refine⟨j,rfl,hj.1,hj.2,DD (K:=K) hf he R2 e4 hl e5 (λi H s hi=>(by rw[qB]at hi;exact hi)) (λH s=>(by rw[qB];exact ae _)) (λi H x H' s hi y=>?_) λHf' H' v F t R' r o=>q _ _ _ v F ((t1.trans t2).trans t) R' r (o.back (t1.trans t2))⟩
    obtain⟨y1,y2⟩:=y;rw[qB]at hi;exact⟨y1,_,zh hi,by rw[y2];exact .int⟩
   .cases e2
  .cases e2
 .cases e
theorem tx:Fv K Vb pV:=by
 intro H₀ Hf₀ Hf S σ H Fs b S' R e Q q;cases e;exact q _ _ _ .refl R
end
mutual
def py:D->Option PyData
 | .non=>some .none
 | .bl b=>some (.bool b)
 | .int i=>some (.int i)
 | .str x=>some (.str x)
 | .list ds=>(DL ds).map .list
 | .tup ds=>(DL ds).map .tuple
 |_=>none
def DL:List D->Option (List PyData)
 | []=>some []
 |d::ds=>(py d).bind λx=>(DL ds).map (x :: ·)
end
section
variable {X:Cx}
theorem yl{h:Heap}:∀{ds:List D}{vs:List V}{its:List Value}{xs:List PyData},(∀(i:Nat) (d:D) (v:V),ds[i]?=some d->vs[i]?=some v->∀u x,pQ v u->py d=some x->∃as,Reads h u x as)->ds.length=vs.length->oW vs its->DL ds=some xs->∃as,ReadsAll h its xs as
 | [],vs,its,xs,_,hl,hv,e=>by
  have:vs=[]:=aU.mp hl.symm;subst this;cases hv;simp only[DL]at e;cases e;exact⟨_,.nil⟩
 |d::ds,vs,its,xs,ih,hl,hv,e=>by
  cases vs with
  |nil=>simp at hl
  |cons v vs =>
   cases hv with
   |cons r t =>
    simp only[DL]at e;obtain⟨x,e1,e2⟩:=oBq.mp e;obtain⟨ys,e3,e4⟩:=oMq.mp e2;subst e4;obtain⟨as,h1⟩:=ih 0 d v rfl rfl _ x r e1;obtain⟨bs,h2⟩:=yl (λi d' v' q1 q2=>ih (i+1) d' v' (by simpa using q1) (by simpa using q2)) (by simpa using hl) t e3
    exact⟨_,.cons h1 h2⟩
theorem Ap{nF:List (Addr×Obj)}{σ:St}{H:Hp}{s:Shared}(I:Inv X nF σ H s) {d:D}{v:V}(r:qd X.K H d v):∀(u:Value) (x:PyData),pQ v u->py d=some x->∃as,Reads s.heap u x as:=by
 induction r with
 |non=>intro u x ru e;cases ru;simp only[py]at e;cases e;exact⟨_,.none⟩
 |bl=>intro u x ru e;cases ru;simp only[py]at e;cases e;exact⟨_,.bool _⟩
 |int=>intro u x ru e;obtain⟨t,rfl⟩:=ru;simp only[py]at e;cases e;exact⟨_,.int _ _⟩
 |str=>intro u x ru e;obtain⟨t,rfl⟩:=ru;simp only[py]at e;cases e;exact⟨_,.str _ _⟩
 |ty=>intro u x ru e;simp only[py]at e;cases e
 |list h l _ ih =>
  intro u x ru e;cases ru;simp only[py]at e;obtain⟨xs,e1,rfl⟩:=oMq.mp e;obtain⟨its,rv,hl,hz⟩:=I.list (qw.of h);obtain⟨o,ho,hc,n,hd⟩:=hl.isList;obtain⟨as,e2⟩:=yl ih l rv e1;exact⟨_,Reads.list ho hc hd (by simpa using e2)⟩
 |tup h l _ ih =>
  intro u x ru e;cases ru;simp only[py]at e;obtain⟨xs,e1,rfl⟩:=oMq.mp e;obtain⟨its,rv,⟨o,ho,hc,n,hd⟩,hz⟩:=I.tuple (As.of h);obtain⟨as,e2⟩:=yl ih l rv e1;exact⟨_,Reads.tuple ho hc hd (by simpa using e2)⟩
 |dict h l _ ih=>intro u x ru e;simp only[py]at e;cases e
 |fd h l _ ih=>intro u x ru e;simp only[py]at e;cases e
 |scr h=>intro u x ru e;simp only[py]at e;cases e
 |exc rf nf h hx=>intro u x ru e;simp only[py]at e;cases e
 |exc0 rf h=>intro u x ru e;simp only[py]at e;cases e
 |cls h=>intro u x ru e;simp only[py]at e;cases e
 |ins rf h l _ ih=>intro u x ru e;simp only[py]at e;cases e
def Rl(K:W.Frag) (neg:Bool):R2:=λx y H Q=>∃(d e:D) (a b:PyData),qd K H d x/\qd K H e y/\py d=some a/\py e=some b/\SeqAt.shaped a=true/\SeqAt.shaped b=true/\SeqAt.noMix a b=true /\
 Q (.bl (if neg then !(PySem.Spec.same a b) else PySem.Spec.same a b)) H
theorem Nd(hu:X.A.units+64<jw):Fo X (jS .Eq) (Rl X.K false):=by
 intro nF s σ H x y v u Q I rx ry h;obtain⟨d,e,a,b,h1,h2,p1,p2,s1,s2,nm,q⟩:=h;obtain⟨as,r1⟩:=Ap I h1 _ _ rx p1;obtain⟨bs,r2⟩:=Ap I h2 _ _ ry p2;exact iO r1 r2 s1 s2 hu nm (pL I q rfl)
theorem Tz(hu:X.A.units+64<jw):Fo X (jS .NotEq) (Rl X.K true):=by
 intro nF s σ H x y v u Q I rx ry h;obtain⟨d,e,a,b,h1,h2,p1,p2,s1,s2,nm,q⟩:=h;obtain⟨as,r1⟩:=Ap I h1 _ _ rx p1;obtain⟨bs,r2⟩:=Ap I h2 _ _ ry p2;exact iP r1 r2 s1 s2 hu nm (pL I q rfl)
end
def zw(d e:D):Option D:=(py d).bind λa=>(py e).bind λb=>if SeqAt.shaped a=true/\SeqAt.shaped b=true/\SeqAt.noMix a b=true then some (.bl (PySem.Spec.same a b)) else none
def OX(d e:D):Option D:=(zw d e).bind Tv
section
variable {K:W.Frag}
theorem MR:Fu K (Rl K false) zw:=by
 intro x y H Q dx dy d rx ry e q;obtain⟨a,e1,e⟩:=oBq.mp e;obtain⟨b,e2,e⟩:=oBq.mp e;split at e
 .rename_i h;cases e;exact⟨dx,dy,a,b,rx,ry,e1,e2,h.1,h.2.1,h.2.2,q _ .bl⟩
 .cases e
theorem Tq:Fu K (Rl K true) OX:=by
 intro x y H Q dx dy d rx ry e q;obtain⟨c,e,e'⟩:=oBq.mp e;obtain⟨a,e1,e⟩:=oBq.mp e;obtain⟨b,e2,e⟩:=oBq.mp e;split at e
 .rename_i h;cases e;cases e';exact⟨dx,dy,a,b,rx,ry,e1,e2,h.1,h.2.1,h.2.2,q _ .bl⟩
 .cases e
end
abbrev dI(ns:List Int):D:=.list (ns.map .int)
abbrev dM(rs:List (List Int)):D:=.list (rs.map dI)
theorem FJ(ns:List Int):DL (ns.map .int)=some (ns.map PyData.int):=by
 induction ns with
 |nil=>simp[DL]
 |cons n ns ih=>simp[DL,py,ih]
theorem Ti(ns:List Int):py (dI ns)=some (tH ns):=by
 show py (.list _)=_;simp only[py,FJ];rfl
theorem NG(rs:List (List Int)):DL (rs.map dI)=some (rs.map tH):=by
 induction rs with
 |nil=>simp[DL]
 |cons r rs ih =>
  show DL (dI r::rs.map dI)=_;simp only[DL,Ti,ih];rfl
theorem UM(rs:List (List Int)):py (dM rs)=some (zR rs):=by
 show py (.list _)=_;simp only[py,NG];rfl
theorem C6(r:List Int):SeqAt.shaped (tH r)=true:=by
 have h2:=W.depthAll_ints r;have h3:PyData.depth (tH r)<=64:=by simp only[tH,PyData.depth];lia
 show (PyData.canLay0 (tH r) && decide (PyData.depth (tH r)<=64))=true;rw[eJ];exact⟨by simp only[tH,PyData.canLay0];exact W.canLayAll0_ints r,decide_eq_true h3⟩
@[simp] theorem WA (ns ms:List Int):zw (dI ns) (dI ms)=some (.bl (decide (ns=ms))):=by
 unfold zw;rw[Ti,Ti];show (if _ then _ else _)=_
 rw[oQ ⟨C6 ns,C6 ms,by simp only[tH,SeqAt.noMix];exact W.noMix_ints ns ms⟩]
 simp only[tH,PySem.Spec.same,W.same_ints]
@[simp] theorem Wb (rs ts:List (List Int)):zw (dM rs) (dM ts)=some (.bl (decide (rs=ts))):=by
 unfold zw;rw[UM,UM];show (if _ then _ else _)=_
 rw[oQ ⟨Bi rs,Bi ts,by simp only[zR,SeqAt.noMix];exact C2 rs ts⟩]
 simp only[zR,PySem.Spec.same,DX]
def zD(l:ML):MK:=λS=>(l S).map λx=>(.ow (x.1.map .sh),x.2)
def Eo(l:ML):MK:=λS=>(l S).bind λx=>(qj x.1).bind λns=>tR (ns.length<64) (some (.ow ((qF ns).map λn=>.sh (.int n)),x.2))
def qA:List D->Option (List (List Int))
 | []=>some []
 | .list ds::es=>(qj ds).bind λr=>(qA es).map (r :: ·)
 |_=>none
theorem DR:∀{ds:List D}{rs:List (List Int)},qA ds=some rs->ds=rs.map dI
 | [],rs,h=>by cases h;rfl
 |d::ds,rs,h=>by
  cases d with
  |list es =>
   obtain⟨r,h1,h⟩:=oBq.mp (show (qj es).bind (λr=>(qA ds).map (r :: ·))=some rs from h)
   obtain⟨ts,h2,h3⟩:=oMq.mp h;subst h3;rw[DR h2,sM h1];rfl
  |_=>cases h
@[simp] theorem qz (rs:List (List Int)):qA (rs.map dI)=some rs:=by
 induction rs with
 |nil=>rfl
 |cons r rs ih =>
  show (qj (r.map .int)).bind (λr=>(qA (rs.map dI)).map (r :: ·))=_
  rw[qm,ih];rfl
def Wy(l:ML):MK:=λS=>(l S).bind λx=>(qA x.1).bind λrs=>tR (rs.length<64) (some (.ow ((yK rs).map λr=>.sh (dI r)),x.2))
section
variable {K:W.Frag}{te:TE}{l:ML}
theorem Bz(hl:SQ K te l):SK K (JY (λxs H Q=>∃p ys,xs=[.ref p]/\(qw K H p ys∨As K H p ys)/\∀l,H l=none->Q (.ref l) (qr H l (.lst ys))) (rY te vI)) (zD l):=by
 intro H₀ Hf₀ Hf S σ H Fs av S' R e Q q;obtain⟨x,e1,e⟩:=oMq.mp e;cases e;refine hl R (ds:=x.1) (S':=x.2) e1 _ λHf1 H1 Fs1 p1 vs1 t1 R1 h1 r1=>⟨p1,vs1,rfl,.inl h1,λp hp=>?_⟩
 obtain⟨t4,R4,n1,n2,n3⟩:=R1.new (o:=.lst vs1) hp;exact q _ _ _ (.ref p) [p] (t1.trans t4) R4 (oR.new oz n1 r1) ((wx.one R1 hp).back t1)
theorem xM(ns:List Int):(ns.map λn=>AV.sh (.int n))=(ns.map D.int).map .sh:=by rw[mPq];rfl
theorem EX{α:Type}{c:Prop}{x:Option α}{y:α}(e:tR c x=some y):c/\x=some y:=by
 rcases oK e with h|h
 .exact h
 .cases h
theorem G5(hl:SQ K te l):SK K (JY (λxs H Q=>∃(a:Addr) (ns:List Int),xs=[.ref a]/\ns.length<64/\qw K H a (ns.map V.int)/\∀p,H p=none->Q (.ref p) (qr H p (.lst ((qF ns).map V.int)))) (rY te vI)) (Eo l):=by
 intro H₀ Hf₀ Hf S σ H Fs av S' R e Q q;obtain⟨x,e1,e⟩:=oBq.mp e;obtain⟨ns,e2,e⟩:=oBq.mp e;obtain⟨h64,e⟩:=EX e;cases e;refine hl R (ds:=x.1) (S':=x.2) e1 _ λHf1 H1 Fs1 p1 vs1 t1 R1 h1 r1=>?_
 rw[sM e2]at r1;rw[oU r1]at h1;refine⟨p1,ns,rfl,h64,h1,λp hp=>?_⟩
 obtain⟨t4,R4,n1,n2,n3⟩:=R1.new (o:=.lst ((qF ns).map V.int)) hp;rw[xM]at q;exact q _ _ _ (.ref p) [p] (t1.trans t4) R4 (oR.new oz n1 (sA _)) ((wx.one R1 hp).back t1)
theorem yZ{H:Hp}:∀{rs:List (List Int)}{vs:List V},oH K H (rs.map dI) vs->∃ps,vs=ps.map V.ref/\qE H ps rs
 | [],vs,h=>⟨[],h.nil_inv,.nil⟩
 |r::rs,vs,h=>by
  obtain⟨v,ws,rfl,h1,h2⟩:=oH.cons_inv (d:=dI r) (ds:=rs.map dI) h;obtain⟨p,us,rfl,h3,h4⟩:=h1.list_inv;rw[oU h4]at h3;obtain⟨ps,rfl,h5⟩:=yZ h2;exact⟨p::ps,rfl,qE.cons_iff.mpr ⟨h3,h5⟩⟩
theorem Du{H:Hp}:∀{rs:List (List Int)}{ps:List Addr},qE H ps rs->oH K H (rs.map dI) (ps.map V.ref)
 | [],[],_=>.nil
 | [],_::_,h=>by have:=h.length;simp at this
 |_::_,[],h=>by have:=h.length;simp at this
 |r::rs,p::ps,h=>by
  obtain⟨h1,h2⟩:=qE.cons_iff.mp h;exact .cons (.mk_list h1 (sA r)) (Du h2)
end
def Vc:String->D->Bool
 |T,.list _=>T == "list"
 |T,.scr _=>T == "list"
 |T,.str _=>T == "str"
 |_,_=>false
def U4(T:String) (f:D->List D->Option D) (a:ME) (as:ML):ME:=λS=>(a S).bind λx=>if Vc T x.1=true then (as x.2).bind λy=>(f x.1 y.1).map λd=>(d,y.2) else none
def WG(K:W.Frag) (r:V->List V->Hp->VK->Prop) (f:D->List D->Option D):Prop:=∀{x:V}{vs:List V}{H:Hp}{Q:VK}{dx:D}{ds:List D}{d:D},qd K H dx x->oH K H ds vs->f dx ds=some d->(∀v,qd K H d v->Q v H)->r x vs H Q
section
variable {K:W.Frag}{te:TE}{ta:TA}{a:ME}{as:ML}{r:V->List V->Hp->VK->Prop}{f:D->List D->Option D}{T:String}
theorem R9{H:Hp}{d:D}{v:V}(h:Vc T d=true) (rv:qd K H d v):VU K T v H:=by
 cases rv <;> simp only[Vc]at h
 all_goals first|(exfalso;simp at h;done)|skip
 .exact eq_of_beq h
 .rename_i p vs ds h1 l e;exact .inl ⟨eq_of_beq h,vs,qw.of h1⟩
 .rename_i p ns h1;exact .inl ⟨eq_of_beq h,_,h1⟩
theorem Ot(hr:WG K r f) (ha:SR K te a) (hs:PU K ta as):SR K (QL K T r te ta) (U4 T f a as):=by
 intro H₀ Hf₀ Hf S σ H Fs d S' R e Q q;obtain⟨x,e1,e⟩:=oBq.mp e;split at e
 .rename_i hT;obtain⟨y,e2,e⟩:=oBq.mp e;obtain⟨z,e3,e⟩:=oMq.mp e;cases e;refine ha R (d:=x.1) (S':=x.2) e1 _ λHf1 H1 Fs1 v t1 R1 r1=>⟨R9 hT r1,hs R1 (ds:=y.1) (S':=y.2) e2 _ λHf2 H2 Fs2 vs t2 R2 r2=>?_⟩
  exact hr (r1.mono t2.sh) r2 e3 λv rv=>q _ _ _ v (t1.trans t2) R2 rv
 .cases e
def AC:D->List D->Option D
 | .list ds,[.int k]=>(qj ds).bind λns=>if k∈ns then some (.int (ns.idxOf k:Nat)) else none
 |_,_=>none
theorem Fy:WG K (Mg K) AC:=by
 intro x vs H Q dx ds d rx rs e q;unfold AC at e;split at e
 .rename_i es k;obtain⟨ns,e1,e⟩:=oBq.mp e;split at e
  .rename_i hk;cases e;obtain⟨v,ws,rfl,h1,h2⟩:=rs.cons_inv;rw[h2.nil_inv];cases h1;rw[sM e1]at rx;obtain⟨p,us,rfl,h3,h4⟩:=rx.list_inv;rw[oU h4]at h3;exact⟨p,ns,k,rfl,rfl,qw.of h3,hk,q _ .int⟩
  .cases e
 .cases e
def Xc(a:ME):ME:=λS=>(a S).bind λx=>match x.1 with
 | .list ds=>(qA ds).map λrs=>(.int (rs.countP (·=([]:List Int)):Nat),x.2)
 |_=>none
def V9:D->Option Bool
 | .non=>some false
 | .bl b=>some b
 | .int i=>some (i != 0)
 | .list ds=>some (!ds.isEmpty)
 | .tup ds=>some (!ds.isEmpty)
 | .dict ds=>some (!ds.isEmpty)
 |_=>none
def XD(a:ME):MT:=λS=>(a S).bind λx=>(V9 x.1).map λb=>(b,x.2)
end
def pU:AV->List Nat->Option (List AV)
 | .ow avs,[]=>some avs
 | .ow avs,j::js=>(avs[j]?).bind λa=>pU a js
 |_,_=>none
def putAt:AV->List Nat->List AV->AV
 | .ow _,[],as=>.ow as
 | .ow avs,j::js,as=>match avs[j]? with
  |some a=>.ow (avs.set j (putAt a js as))
  |none=>.ow avs
 |a,_,_=>a
def Ew(H:Hp):V->List Nat->V->Prop
 |v,[],w=>v=w
 |v,j::js,w=>∃p vs u,v = .ref p/\H p=some (.lst vs)/\vs[j]?=some u/\Ew H u js w
section
variable {K:W.Frag}{H₀ Hf₀ Hf Hf' H H':Hp}{S S':AS}{σ:St}{Fs Fs':List (List Addr)}
theorem xE:∀{Fs:List (List Addr)}{F G:List Addr}(i:Nat),Fs.flatten.Nodup->Fs[i]?=some G->F.Nodup->(∀p∈F,p∈G∨p∉Fs.flatten)->(Fs.set i F).flatten.Nodup
 | [],F,G,i,h,e,_,_=>by simp at e
 |E::Gs,F,G,0,h,e,hF,hd=>by
  simp at e;subst e;rw[dS,fCq,nAq];rw[fCq,nAq]at h;refine⟨hF,h.2.1,λa ha b hb e=>?_⟩
  subst e;rcases hd a ha with z|z
  .exact h.2.2 a z a hb rfl
  .exact z (by rw[fCq];exact ay _ hb)
 |E::Gs,F,G,i+1,h,e,hF,hd=>by
  rw[dU,fCq,nAq];rw[fCq,nAq]at h;have e':Gs[i]?=some G:=by simpa using e
  refine⟨h.1,xE i h.2.1 e' hF λp hp=>(hd p hp).imp id λz m=>z (by rw[fCq];exact ay _ m),λa ha b hb e=>?_⟩
  subst e;rcases rD hb with q|q
  .rcases hd a q with z|z
   .exact h.2.2 a ha a (mFq.mpr ⟨G,mGq e',z⟩) rfl
   .exact z (by rw[fCq];exact cB _ ha)
  .exact h.2.2 a ha a q rfl
theorem CA:∀{Fs:List (List Addr)}{F G:List Addr}{i j:Nat}{p:Addr},Fs.flatten.Nodup->Fs[i]?=some F->Fs[j]?=some G->i≠j->p∈F->p∉G
 | [],F,G,i,j,p,_,e,_,_,_,_=>by simp at e
 |E::Es,F,G,0,0,p,h,e,f,n,_,_=>n rfl
 |E::Es,F,G,0,j+1,p,h,e,f,n,hp,m=>by
  simp at e;subst e;rw[fCq,nAq]at h;exact h.2.2 p hp p (mFq.mpr ⟨G,mGq (i:=j) (by simpa using f),m⟩) rfl
 |E::Es,F,G,i+1,0,p,h,e,f,n,hp,m=>by
  simp at f;subst f;rw[fCq,nAq]at h;exact h.2.2 p m p (mFq.mpr ⟨F,mGq (i:=i) (by simpa using e),hp⟩) rfl
 |E::Es,F,G,i+1,j+1,p,h,e,f,n,hp,m=>by
  rw[fCq,nAq]at h;exact CA h.2.1 (i:=i) (j:=j) (by simpa using e) (by simpa using f) (λz=>n (by rw[z])) hp m
theorem oR.path:∀{path:List Nat}{av:AV}{v:V}{F:List Addr}{as:List AV},oR K Hf H av v F->F.Nodup->pU av path=some as->∃p vs Gs,Ew H v path (.ref p)/\H p=some (.lst vs)/\Hf p=none/\pB K Hf H as vs Gs/\p∈F/\p∉Gs.flatten/\Gs.flatten.Nodup/\(∀q∈Gs.flatten,q∈F) /\
  ∀as' vs' Gs',pB K Hf (qr H p (.lst vs')) as' vs' Gs'->(p::Gs'.flatten).Nodup->(∀q∈Gs'.flatten,q∈Gs.flatten∨q∉F)->∃F',oR K Hf (qr H p (.lst vs')) (putAt av path as') v F'/\F'.Nodup/\∀q∈F',q∈F∨q∈Gs'.flatten
 | [],av,v,F,as,r,nd,e=>by
  cases av with
  |ow avs =>
   cases e;obtain⟨p,vs,Gs,rfl,rfl,h1,h2,h3⟩:=r.ow_inv;have n:=aC.mp nd;refine⟨p,vs,Gs,rfl,h1,h2,h3,by simp,n.1,n.2,λq hq=>mCo _ hq,λas' vs' Gs' r' nd' _=>⟨p::Gs'.flatten,oR.news oz h2 r',nd',λq hq=>?_⟩⟩
   rcases ah.mp hq with z|z
   .exact .inl (by rw[z];simp)
   .exact .inr z
  |_=>cases e
 |j::js,av,v,F,as,r,nd,e=>by
  cases av with
  |ow avs =>
   obtain⟨a,e1,e2⟩:=oBq.mp (show (avs[j]?).bind (λa=>pU a js)=some as from e)
   obtain⟨p0,vs0,Gs0,rfl,rfl,h1,h2,h3⟩:=r.ow_inv;have n:=aC.mp nd;have hj:j<avs.length:=(gSq.mp e1).1;have hv:vs0[j]?=some (vs0[j]'(h3.1 ▸ hj)):=gEg _;have hg:Gs0[j]?=some (Gs0[j]'(h3.2.1 ▸ hj)):=gEg _;generalize vs0[j]'(h3.1 ▸ hj)=vj at hv;generalize Gs0[j]'(h3.2.1 ▸ hj)=Fj at hg;have rj:=h3.2.2 j a vj Fj e1 hv hg;have ndj:Fj.Nodup:=bJ.sublist (au (mGq hg)) n.2;have sub:∀q∈Fj,q∈Gs0.flatten:=λq hq=>pP hg hq
   obtain⟨p,vs,Gs,g1,g2,g3,g4,g5,g6,g6',g7,g8⟩:=oR.path rj ndj e2;have pne:p0≠p:=λz=>n.1 (z ▸ sub p g5)
   refine⟨p,vs,Gs,⟨p0,vs0,vj,rfl,h1,hv,g1⟩,g2,g3,g4,mCo _ (sub p g5),g6,g6',λq hq=>mCo _ (sub q (g7 q hq)),λas' vs' Gs' r' nd' hd=>?_⟩
   obtain⟨F',k1,k2,k3⟩:=g8 as' vs' Gs' r' nd' λq hq=>(hd q hq).imp id λz m=>z (mCo _ (sub q m))
   have hF':∀q∈F',q∈Fj∨q∉Gs0.flatten:=λq hq=>by
    rcases k3 q hq with z|z
    .exact .inl z
    .rcases hd q z with y|y
     .exact .inl (g7 q y)
     .exact .inr λm=>y (mCo _ m)
   refine⟨p0::(Gs0.set j F').flatten,?_,aC.mpr ⟨λm=>?_,xE j n.2 hg k2 hF'⟩,λq hq=>?_⟩
   .show oR K Hf (qr H p (.lst vs')) (match avs[j]? with|some a=>.ow (avs.set j (putAt a js as'))|none=>.ow avs) (.ref p0) _
    rw[e1];refine .ow (vs:=vs0) (by rw[nX pne];exact h1) h2 (by rw[lZq];exact h3.1) (by rw[lZq,lZq];exact h3.2.1) λi b w G q1 q2 q3=>?_
    rw[bp]at q1 q3
    by_cases hij:j=i
    .subst hij;rw[oQ rfl,oQ hj]at q1;rw[oQ rfl,oQ (h3.2.1 ▸ hj)]at q3;rw[hv]at q2;cases q1;cases q2;cases q3;exact k1
    .rw [oT hij]at q1 q3;exact(h3.2.2 i b w G q1 q2 q3).keepUpd λm=>CA n.2 hg q3 hij g5 m
   .rcases rD m with z|z
    .rcases k3 p0 z with y|y
     .exact n.1 (sub p0 y)
     .rcases hd p0 y with x|x
      .exact n.1 (sub p0 (g7 p0 x))
      .exact x (by simp)
    .exact n.1 z
   .rcases ah.mp hq with z|z
    .exact .inl (by rw[z];simp)
    .rcases rD z with z|z
     .exact (k3 q z).imp (λy=>mCo _ (sub q y)) id
     .exact .inl (mCo _ z)
  |_=>cases e
theorem pJ.turnAny(R:pJ K H₀ Hf₀ Hf S σ H Fs) {i:Nat}{av:AV}{p:Addr}{o:HO}{v:V}{F F':List Addr}(s1:σ[i]?=some (some v)) (s2:Fs[i]?=some F) (hp:p∈F) (r:oR K Hf (qr H p o) av v F') (nd:F'.Nodup)
  (hf:∀q∈F',H₀ q=none/\q∉(Fs.set i []).flatten):pJ K H₀ Hf₀ Hf (S.set i (some av)) σ (qr H p o) (Fs.set i F'):=by
 have hin:p∈Fs.flatten:=mFq.mpr ⟨F,mGq s2,hp⟩;have pn:Hf p=none:=(R.mem hin).2;have p0:H₀ p=none:=R.fresh p hin;have out:=tU R.nd s2 hp;have R1:pJ K H₀ Hf₀ Hf (S.set i none) σ (qr H p o) (Fs.set i []):=by
  refine⟨by simp[R.len],by simp[R.lenF],λj a ej=>?_,λj ej=>?_,qW i R.nd aN (λp hp=>by cases hp),λp hp=>R.fresh p (qt hp),λb u e=>?_,λb u e=>?_,R.lim,R.sf⟩
  .rw [bp]at ej
   by_cases hij:i=j
   .subst hij;rw[oQ rfl]at ej;split at ej <;> cases ej
   .rw [oT hij]at ej;obtain⟨w,G,f1,f2,q⟩:=R.rep j a ej;refine⟨w,G,f1,by rw[aA hij];exact f2,q.keep (.refl _) (λc hc=>nX λe=>out ?_) λc hc=>(q.owned c hc).2⟩
    subst e;exact mFq.mpr ⟨G,mGq (i:=j) (by rw[aA hij];exact f2),hc⟩
  .rw [bp]at ej
   by_cases hij:i=j
   .subst hij;rw[oQ rfl]at ej;split at ej
    .rename_i hi;rw[aH (R.lenF.symm ▸ hi)]
    .cases ej
   .rw [oT hij]at ej;rw[aA hij];exact R.emp j ej
  .rw [nX λz=>by rw[z,pn]at e;cases e]
   exact R.sub b u e
  .rw [nX λz=>by rw[z,p0]at e;cases e]
   exact R.fr b u e
 exact R1.again (F:=F) s1 r nd hf
theorem pJ.kill(R:pJ K H₀ Hf₀ Hf S σ H Fs) (x:Nat):pJ K H₀ Hf₀ Hf (S.set x none) σ H (Fs.set x []):=by
 refine⟨by simp[R.len],by simp[R.lenF],λj a ej=>?_,λj ej=>?_,qW x R.nd aN (λp hp=>by cases hp),λp hp=>R.fresh p (qt hp),R.sub,R.fr,R.lim,R.sf⟩
 .rw [bp]at ej
  by_cases hij:x=j
  .subst hij;rw[oQ rfl]at ej;split at ej <;> cases ej
  .rw [oT hij]at ej;obtain⟨w,G,f1,f2,q⟩:=R.rep j a ej;exact⟨w,G,f1,by rw[aA hij];exact f2,q⟩
 .rw [bp]at ej
  by_cases hij:x=j
  .subst hij;rw[oQ rfl]at ej;split at ej
   .rename_i hi;rw[aH (R.lenF.symm ▸ hi)]
   .cases ej
  .rw [oT hij]at ej;rw[aA hij];exact R.emp j ej
theorem pJ.any(R:pJ K H₀ Hf₀ Hf (S.set x none) σ H Fs) (v:V):pJ K H₀ Hf₀ Hf (S.set x none) (σ.set x (some v)) H Fs where
 len:=by rw[R.len,lZq]
 lenF:=R.lenF
 rep:=λi av e=>by
  by_cases hij:x=i
  .subst hij;rw[bp]at e;rw[oQ rfl]at e;split at e <;> cases e
  .obtain ⟨w,G,f1,f2,q⟩:=R.rep i av e;exact⟨w,G,by rw[aA hij];exact f1,f2,q⟩
 emp:=R.emp
 nd:=R.nd
 fresh:=R.fresh
 sub:=R.sub
 fr:=R.fr
 lim:=R.lim
 sf:=R.sf
end
abbrev aI(ns:List Int):AV:=.ow (ns.map λn=>.sh (.int n))
def A9:List AV->Option (List Int)
 | []=>some []
 | .sh (.int i)::r=>(A9 r).map (i :: ·)
 |_=>none
def Ct:List AV->Option (List (List Int))
 | []=>some []
 | .ow as::r=>(A9 as).bind λns=>(Ct r).map (ns :: ·)
 |_=>none
theorem GL:∀{as:List AV}{ns:List Int},A9 as=some ns->as=ns.map λn=>.sh (.int n)
 | [],ns,h=>by cases h;rfl
 |a::as,ns,h=>by
  cases a with
  |sh d =>
   cases d with
   |int i =>
    obtain⟨ms,h1,h2⟩:=oMq.mp (show (A9 as).map (i :: ·)=some ns from h)
    subst h2;rw[GL h1];rfl
   |_=>cases h
  |_=>cases h
theorem GB:∀{as:List AV}{rs:List (List Int)},Ct as=some rs->as=rs.map aI
 | [],rs,h=>by cases h;rfl
 |a::as,rs,h=>by
  cases a with
  |ow es =>
   obtain⟨r,h1,h⟩:=oBq.mp (show (A9 es).bind (λns=>(Ct as).map (ns :: ·))=some rs from h)
   obtain⟨ts,h2,h3⟩:=oMq.mp h;subst h3;rw[GB h2,GL h1];rfl
  |_=>cases h
@[simp] theorem KW (ns:List Int):A9 (ns.map λn=>.sh (.int n))=some ns:=by
 induction ns with
 |nil=>rfl
 |cons n ns ih=>show (A9 (ns.map λn=>.sh (.int n))).map (n :: ·)=_;rw[ih];rfl
@[simp] theorem KS (rs:List (List Int)):Ct (rs.map aI)=some rs:=by
 induction rs with
 |nil=>rfl
 |cons r rs ih=>show (A9 (r.map λn=>.sh (.int n))).bind (λns=>(Ct (rs.map aI)).map (ns :: ·))=_;rw[KW,ih];rfl
def Fe(k:MK):MK:=λS=>(k S).bind λx=>match x.1 with
 | .ow avs=>(Ct avs).bind λrs=>tR (rs.length<64) (some (.ow ((yK rs).map aI),x.2))
 |_=>none
section
variable {K:W.Frag}{Hf H:Hp}
theorem IT{ns:List Int}{v:V}{F:List Addr}(h:oR K Hf H (aI ns) v F):∃p,v = .ref p/\F=[p]/\H p=some (.lst (ns.map V.int))/\Hf p=none:=by
 obtain⟨p,vs,Gs,rfl,rfl,h1,h2,h3⟩:=h.ow_inv;have e:∀{ns:List Int}{vs:List V}{Gs:List (List Addr)},pB K Hf H (ns.map λn=>AV.sh (.int n)) vs Gs->vs=ns.map V.int/\Gs.flatten=[]:=by
  intro ns
  induction ns with
  |nil =>
   intro vs Gs h;obtain⟨a,b⟩:=h.nil_inv;exact⟨a,by rw[b];rfl⟩
  |cons n ns ih =>
   intro vs Gs h;obtain⟨v,ws,F,Gs',rfl,rfl,r1,r2⟩:=pB.cons_inv (a:=.sh (.int n)) h;obtain⟨f1,f2⟩:=r1.sh_inv;subst f1;cases f2;obtain⟨g1,g2⟩:=ih r2;rw[g1];exact⟨rfl,by rw[fCq,g2];rfl⟩
 obtain⟨e1,e2⟩:=e h3;rw[e2];subst e1;exact⟨p,rfl,rfl,h1,h2⟩
theorem T4{ns:List Int}{p:Addr}(h1:H p=some (.lst (ns.map V.int))) (h2:Hf p=none):oR K Hf H (aI ns) (.ref p) [p]:=by
 have:=oR.new (K:=K) (Hf:=Hf) (H:=H) (ds:=ns.map D.int) h1 h2 (sA ns);rw[←xM]at this;exact this
theorem xX:∀{rs:List (List Int)}{vs:List V}{Gs:List (List Addr)},pB K Hf H (rs.map aI) vs Gs->∃ps,vs=ps.map V.ref/\Gs=ps.map (λp=>[p])/\qE H ps rs/\∀p∈ps,Hf p=none
 | [],vs,Gs,h=>by
  obtain⟨a,b⟩:=h.nil_inv;exact⟨[],a,b,.nil,λp hp=>by cases hp⟩
 |r::rs,vs,Gs,h=>by
  obtain⟨v,ws,F,Gs',rfl,rfl,r1,r2⟩:=pB.cons_inv (a:=aI r) (as:=rs.map aI) h;obtain⟨p,rfl,rfl,h1,h2⟩:=IT r1;obtain⟨ps,rfl,rfl,h3,h4⟩:=xX r2;exact⟨p::ps,rfl,rfl,qE.cons_iff.mpr ⟨h1,h3⟩,λq hq=>(ah.mp hq).elim (λe=>e ▸ h2) (h4 q)⟩
theorem B4:∀{rs:List (List Int)}{ps:List Addr},qE H ps rs->(∀p∈ps,Hf p=none)->pB K Hf H (rs.map aI) (ps.map V.ref) (ps.map λp=>[p])
 | [],[],_,_=>.nil
 | [],_::_,h,_=>by have:=h.length;simp at this
 |_::_,[],h,_=>by have:=h.length;simp at this
 |r::rs,p::ps,h,n=>by
  obtain⟨h1,h2⟩:=qE.cons_iff.mp h;exact .cons (T4 h1 (n p (by simp))) (B4 h2 λq hq=>n q (mCo _ hq))
theorem Fw(ps:List Addr):(ps.map λp=>[p]).flatten=ps:=by
 induction ps with
 |nil=>rfl
 |cons p ps ih=>rw[ar,fCq,ih];rfl
theorem Lz{te:TE}{k:MK}(hk:SK K te k):SK K (JY (λxs H Q=>∃(a:Addr) (ps:List Addr) (rs:List (List Int)),xs=[.ref a]/\ps.length<64/\qw K H a (ps.map V.ref)/\qE H ps rs /\
  ∀p qs,H p=none->qs.Perm ps->qE (qr H p (.lst (qs.map V.ref))) qs (yK rs)->Q (.ref p) (qr H p (.lst (qs.map V.ref)))) (rY te vI)) (Fe k):=by
 intro H₀ Hf₀ Hf S σ H Fs av S' R e Q q;obtain⟨x,e1,e⟩:=oBq.mp e;refine hk R (a:=x.1) (S':=x.2) e1 _ λHf1 H1 Fs1 v F t1 R1 r1 o1=>?_
 split at e
 .rename_i avs hx;obtain⟨rs,e2,e⟩:=oBq.mp e;obtain⟨h64,e⟩:=EX e;cases e;rw[hx,GB e2]at r1;obtain⟨p0,vs,Gs,rfl,rfl,h1,h2,h3⟩:=r1.ow_inv;obtain⟨ps,rfl,rfl,hE,hn⟩:=xX h3;rw[Fw]at o1;refine⟨p0,ps,rs,rfl,by rw[hE.length];exact h64,qw.of h1,hE,λp qs hp hq hE2=>?_⟩
  obtain⟨t4,R4,n1,n2,n3⟩:=R1.new (o:=.lst (qs.map V.ref)) hp;have pq:p∉qs:=λm=>hE.free (H:=H1) hp (hq.mem_iff.mp m)
  have hm:∀z∈qs,z∈p0::ps:=λz hz=>mCo _ (hq.mem_iff.mp hz)
  refine q _ _ _ (.ref p) (p::(qs.map λp=>[p]).flatten) (t1.trans t4) R4 (oR.news oz n1 (B4 hE2 λz hz=>hn z (hq.mem_iff.mp hz))) ?_
  rw[Fw];refine⟨aC.mpr ⟨pq,hq.nodup_iff.mpr (aC.mp o1.nd).2⟩,λz hz=>?_,λz hz=>?_,λz hz=>?_⟩
  .rcases ah.mp hz with y|y
   .rw [y];exact n2
   .exact o1.fr z (hm z y)
  .rcases ah.mp hz with y|y
   .rw [y];exact n3
   .exact o1.out z (hm z y)
  .rcases ah.mp hz with y|y
   .rw [y];exact .inl (t1.sh.free hp)
   .exact o1.new z (hm z y)
 .cases e
def OT:AV->Option D
 | .sh d=>if d.scal=true then some d else none
 |_=>none
def sZ(f:MF) (a:ML):ME:=λS=>(a S).bind λx=>(f x.1).bind λr=>(OT r).map λd=>(d,x.2)
theorem xu{f:MF}{ta:TA}{a:ML}(ha:PU K ta a):SR K (Kr (oO K f) [] E0 ta) (sZ f a):=by
 intro H₀ Hf₀ Hf S σ H Fs d S' R e Q q;obtain⟨x,e1,e⟩:=oBq.mp e;obtain⟨r,e2,e⟩:=oBq.mp e;obtain⟨z,e3,e⟩:=oMq.mp e;cases e;refine ha R (ds:=x.1) (S':=x.2) e1 _ λHf1 H1 Fs1 vs t1 R1 r1=>?_
 rw[aNq];refine⟨H1,x.1,r,.refl _,r1,e2,λHf' H' v F s1 s2 s3 l rv nd fr=>?_⟩
 have t2:xa Hf1 H1 Fs1 Hf1 H' Fs1:=⟨.refl _,s2,λ_ h=>h,λb h g=>absurd h g⟩
 cases r with
 |sh d' =>
  simp only[OT]at e3;split at e3
  .rename_i hs;cases e3;exact q _ _ _ v (t1.trans t2) (R1.laid s2) (rv.sh_inv.2.scal hs)
  .cases e3
 |_=>cases e3
end
section
variable (S:AS)
@[simp] theorem Uu (i:Nat):nN i S=(S[i]?.join).map λa=>(nW a,S):=rfl
@[simp] theorem Ui (i:Nat):oi i S=(S[i]?.join).map λa=>(.sh (nW a),S.set i (some (.sh (nW a)))):=rfl
@[simp] theorem Vk (i:Nat):Ir i S=(S[i]?.join).map λa=>(a,S.set i none):=rfl
@[simp] theorem We (k:MK):rOf k S=(k S).map λx=>(nW x.1,x.2):=rfl
@[simp] theorem Wv (m:ME):kSc m S=(m S).bind λx=>if x.1.scal then some (.sh x.1,x.2) else none:=rfl
@[simp] theorem Ul (k:MK):uN k S=(k S).map λx=>(.sh (nW x.1),x.2):=rfl
@[simp] theorem XA (d:D):rC d S=if d.scal then some (d,S) else none:=rfl
@[simp] theorem Wq (f:D->D->Option D) (a b:ME):pN f a b S=(a S).bind λx=>(b x.2).bind λy=>(f x.1 y.1).map λd=>(d,y.2):=rfl
@[simp] theorem WQ (f:D->Option D) (a:ME):Hz f a S=(a S).bind λx=>(f x.1).map λd=>(d,x.2):=rfl
@[simp] theorem Si (a b:MT):Ck a b S=(a S).bind λx=>if x.1=true then b x.2 else some (false,x.2):=rfl
@[simp] theorem Vp (a b:MT):EJ a b S=(a S).bind λx=>if x.1=true then some (true,x.2) else b x.2:=rfl
@[simp] theorem Su (a:MT):D3 a S=(a S).map λx=>(!x.1,x.2):=rfl
def Vs:D->Option Bool
 | .bl b=>some b
 |_=>none
@[simp] theorem Wu (a:ME):uM a S=(a S).bind λx=>(Vs x.1).map λb=>(b,x.2):=by
 show (a S).bind _=_;congr 1;funext x;obtain⟨d,S'⟩:=x;cases d <;> rfl
@[simp] theorem Qo (b:Bool):Vs (.bl b)=some b:=rfl
@[simp] theorem VM:oC S=some ([],S):=rfl
@[simp] theorem RQ (k:MK) (r:MA):nO k r S=(k S).bind λx=>(r x.2).map λy=>(x.1::y.1,y.2):=rfl
@[simp] theorem Sj:og S=some ([],S):=rfl
@[simp] theorem P5 (k:ME) (r:ML):nL k r S=(k S).bind λx=>(r x.2).map λy=>(x.1::y.1,y.2):=rfl
@[simp] theorem Vq (a:MA):vT a S=(a S).bind λx=>tR (x.1.length<=qU) (some (.ow x.1,x.2)):=rfl
@[simp] theorem U0 (a:MA):Nj a S=(a S).bind λx=>tR (x.1.length<=qU) (some (.sh (.tup (x.1.map nW)),x.2)):=rfl
@[simp] theorem UT (a b:ML):Ol a b S=(a S).bind λx=>(b x.2).bind λy=>tR (x.1.length+y.1.length<=qU) (some (.ow ((x.1++y.1).map .sh),y.2)):=rfl
@[simp] theorem TY:wF S=some (none,S):=rfl
@[simp] theorem R8 (m:ME):ud m S=(m S).bind λx=>(intOf x.1).map λi=>(some i,x.2):=by
 show (m S).bind _=_;congr 1;funext x;obtain⟨d,S'⟩:=x;cases d <;> rfl
@[simp] theorem Lf (i:Int):intOf (.int i)=some i:=rfl
@[simp] theorem WD (l:ML) (lo hi:MO):HA l lo hi S=(l S).bind λx=>(lo x.2).bind λy=>(hi y.2).map λz=>(.ow ((xi x.1 y.1 z.1).map .sh),z.2):=rfl
@[simp] theorem V6 (l:ML) (b:ME):L5 l b S=(l S).bind λx=>(b x.2).bind λy=>(intOf y.1).bind λi=>(atI x.1 i).map λd=>(.sh d,y.2):=by
 show (l S).bind _=_;congr 1;funext x;show (b x.2).bind _=_;congr 1;funext y;obtain⟨d,S'⟩:=y;cases d <;> rfl
@[simp] theorem Ws (f:List D->Option D) (a:ML):uP f a S=(a S).bind λx=>(f x.1).map λd=>(d,x.2):=rfl
@[simp] theorem Tg (f:MF) (a:MA):ou f a S=(a S).bind λx=>(f (x.1.map nW)).map λr=>(r,x.2):=rfl
@[simp] theorem TL (f:MF) (a:ML):sZ f a S=(a S).bind λx=>(f x.1).bind λr=>(OT r).map λd=>(d,x.2):=rfl
@[simp] theorem Sx:sr S=some (.nx S):=rfl
@[simp] theorem Rb:AI S=none:=rfl
def NN(o:Option Jn) (b:MS):Option Jn:=o.bind λo=>match o with
 | .nx S'=>b S'
 |o=>some o
@[simp] theorem Na (b:MS):NN (some (.nx S)) b=b S:=rfl
@[simp] theorem Oc (a:AV) (b:MS):NN (some (.rt a)) b=some (.rt a):=rfl
@[simp] theorem Uj (a b:MS):oy a b S=NN (a S) b:=rfl
@[simp] theorem VA (i:Nat) (k:MK):pI i k S=(k S).map λx=>.nx (x.2.set i (some x.1)):=rfl
@[simp] theorem T5 (k:MK):OL k S=(k S).map λx=>.nx x.2:=rfl
@[simp] theorem UK (k:MK):ri k S=(k S).map λx=>.rt x.1:=rfl
@[simp] theorem WJ (c:MT) (a b:MS):Cj c a b S=(c S).bind λx=>if x.1=true then a x.2 else b x.2:=rfl
@[simp] theorem U3 (i:Nat) (k:MK):Av i k S=(qM S i).bind λ_=>(k S).bind λx=>(qM x.2 i).bind λavs=>tR (avs.length<qU) (some (.nx (x.2.set i (some (.ow (avs++[x.1])))))):=rfl
@[simp] theorem Uo (i:Nat) (l:ML):HJ i l S=(qM S i).bind λ_=>(l S).bind λx=>(qM x.2 i).bind λavs=>tR (avs.length+x.1.length<=qU) (some (.nx (x.2.set i (some (.ow (avs++x.1.map .sh)))))):=rfl
@[simp] theorem T7 (i:Nat) (b:ME) (k:MK):yW i b k S=(uN k S).bind λx=>(xF x.2 i).bind λ_=>(b x.2).bind λy=>(xF y.2 i).bind λkvs=>(wb y.1).bind λkey =>
 tR (kvs.length<qU) (some (.nx (y.2.set i (some (.owd (xN kvs key (nW x.1))))))):=rfl
def Jc:D->Option (List (oJ×D))
 | .dict kvs=>some kvs
 |_=>none
@[simp] theorem Gj (kvs:List (oJ×D)):Jc (.dict kvs)=some kvs:=rfl
@[simp] theorem K1 (i:Int):wb (.int i)=some (.inl i):=rfl
@[simp] theorem NL (a b:ME):xn a b S=(a S).bind λx=>(b x.2).bind λy=>(Jc y.1).bind λkvs=>(wb x.1).map λkey=>(.bl (!(getD kvs key).isSome),y.2):=by
 show (a S).bind _=_;congr 1;funext x;show (b x.2).bind _=_;congr 1;funext y;obtain⟨d,S'⟩:=y;cases d <;> rfl
@[simp] theorem RW (a b:ME):vY a b S=(a S).bind λx=>(b x.2).bind λy=>(Jc x.1).bind λkvs=>(wb y.1).bind λkey=>(getD kvs key).map λd=>(d,y.2):=by
 show (a S).bind _=_;congr 1;funext x;show (b x.2).bind _=_;congr 1;funext y;obtain⟨d,S'⟩:=x;cases d <;> rfl
@[simp] theorem Td:DA S=some (.owd [],S):=rfl
@[simp] theorem U1 (x:Nat) (k:MK) (body:MS):En x k body S=(uN k S).bind λy=>(tj (nW y.1)).bind λds=>ux x body ds y.2:=rfl
@[simp] theorem Pj (x:Nat) (a:ML) (body:MS):Eg x a body S=(a S).bind λy=>(Dc y.1).bind λds=>ux x body ds y.2:=rfl
@[simp] theorem Sg (x y:Nat) (k:MK) (body:MS):Kg x y k body S=(uN k S).bind λz=>(tj (nW z.1)).bind λds=>AJ x y body 0 ds z.2:=rfl
@[simp] theorem SZ (x y:Nat) (k l:MK) (body:MS):GO x y k l body S=(uN k S).bind λz=>(uN l z.2).bind λw=>(tj (nW z.1)).bind λds=>(tj (nW w.1)).bind λes =>
 if ds.length=es.length then xv x y body ds es w.2 else none:=rfl
@[simp] theorem Sn (src:MI) (fr:List Nat) (tf:MT) (te:MK):rS src fr tf te S=(src S).bind λy=>(fzAll fr y.2).bind λS2=>(EH S2 fr).bind λcap=>tR (y.1.length<=qU) ((qh tf te cap y.1).map λavs=>(.ow avs,S2)):=rfl
@[simp] theorem UQ (k:MK):xJ k S=(uN k S).bind λy=>(tj (nW y.1)).map λds=>(ds,y.2):=rfl
@[simp] theorem WB (a:ML):SX a S=(a S).bind λy=>(Dc y.1).map λds=>(ds,y.2):=rfl
@[simp] theorem K2:fzAll [] S=some S:=rfl
@[simp] theorem IA (j:Nat) (js:List Nat):fzAll (j::js) S=(S[j]?.join).bind λa=>fzAll js (S.set j (some (.sh (nW a)))):=rfl
@[simp] theorem Nc:EH S []=some []:=rfl
@[simp] theorem L0 (j:Nat) (js:List Nat):EH S (j::js)=(RV S[j]?.join).bind λa=>(EH S js).map (some a :: ·):=rfl
@[simp] theorem SH (l:ML):zD l S=(l S).map λx=>(.ow (x.1.map .sh),x.2):=rfl
@[simp] theorem PY (l:ML):Eo l S=(l S).bind λx=>(qj x.1).bind λns=>tR (ns.length<64) (some (.ow ((qF ns).map λn=>.sh (.int n)),x.2)):=rfl
def Th:AV->Option (List AV)
 | .ow avs=>some avs
 |_=>none
@[simp] theorem Qz (avs:List AV):Th (.ow avs)=some avs:=rfl
@[simp] theorem NT (k:MK):Fe k S=(k S).bind λx=>(Th x.1).bind λavs=>(Ct avs).bind λrs=>tR (rs.length<64) (some (.ow ((yK rs).map aI),x.2)):=by
 show (k S).bind _=_;congr 1;funext x;obtain⟨d,S'⟩:=x;cases d <;> rfl
@[simp] theorem Wt (T:String) (f:D->List D->Option D) (a:ME) (as:ML):U4 T f a as S=(a S).bind λx=>if Vc T x.1=true then (as x.2).bind λy=>(f x.1 y.1).map λd=>(d,y.2) else none:=rfl
def WT:D->Option (List D)
 | .list ds=>some ds
 |_=>none
def UP:AV->Option (List D)
 | .sh (.list ds)=>some ds
 | .ow avs=>some (avs.map nW)
 |_=>none
@[simp] theorem Tf (ds:List D):UP (.sh (.list ds))=some ds:=rfl
@[simp] theorem TR (avs:List AV):UP (.ow avs)=some (avs.map nW):=rfl
@[simp] theorem WN (k:MK):lOf k S=(k S).bind λx=>(UP x.1).map λds=>(ds,x.2):=by
 show (k S).bind _=_;congr 1;funext x;obtain⟨a,S'⟩:=x;cases a with
 |sh d=>cases d <;> rfl
 |_=>rfl
end
@[simp] theorem Nt (ds:List D):(ds.map AV.sh).map nW=ds:=by
 rw[mPq];have:nW∘AV.sh=id:=by funext d;simp
 rw[this,bV]
def VS:AV->AV
 | .ow avs=>.ow ((avs.map nW).map .sh)
 |a=>a
@[simp] theorem R6 (d:D):VS (.sh d) = .sh d:=rfl
@[simp] theorem TN (avs:List AV):VS (.ow avs) = .ow ((avs.map nW).map .sh):=rfl
theorem Co{S:AS}{i:Nat}{a:AV}(h:S[i]?=some (some a)):S.set i (some a)=S:=by
 obtain⟨hk,ev⟩:=gSq.mp h;rw[←ev];exact eK hk
@[simp] theorem Um (S:AS) (i:Nat):EI i S=(S[i]?.join).bind λa=>(UP a).map λds=>(ds,S.set i (some (VS a))):=by
 unfold EI;cases e:S[i]?.join with
 |none=>rfl
 |some a =>
  cases a with
  |sh d =>
   cases d with
   |list ds =>
    show some (ds,S)=some (ds,S.set i (some (.sh (.list ds))));rw[Co (pH e)]
   |_=>rfl
  |ow avs=>rfl
  |owd kvs=>rfl
  |owl kvs=>rfl
def VP:AV->Option (List D)
 | .sh (.scr ns)=>some (ns.map .int)
 |a=>UP a
@[simp] theorem Rk (ns:List Int):VP (.sh (.scr ns))=some (ns.map .int):=rfl
@[simp] theorem TV (ds:List D):VP (.sh (.list ds))=some ds:=rfl
@[simp] theorem SG (avs:List AV):VP (.ow avs)=some (avs.map nW):=rfl
@[simp] theorem UJ (S:AS) (i:Nat):sD i S=(S[i]?.join).bind λa=>(VP a).map λds=>(ds,S.set i (some (VS a))):=by
 unfold sD;cases e:S[i]?.join with
 |none=>rfl
 |some a =>
  cases a with
  |sh d =>
   cases d with
   |list ds =>
    show some (ds,S)=some (ds,S.set i (some (.sh (.list ds))));rw[Co (pH e)]
   |scr ns =>
    show some (ns.map D.int,S)=some (ns.map D.int,S.set i (some (.sh (.scr ns))));rw[Co (pH e)]
   |_=>rfl
  |ow avs=>rfl
  |owd kvs=>rfl
  |owl kvs=>rfl
@[simp] theorem MQ (i:Int):(D.int i).scal=true:=rfl
@[simp] theorem PN (i:Bool):(D.bl i).scal=true:=rfl
@[simp] theorem Nh (i:Str):(D.str i).scal=true:=rfl
@[simp] theorem OQ:D.non.scal=true:=rfl
@[simp] theorem Px (i:String):(D.ty i).scal=true:=rfl
@[simp] theorem OC (i:Int):OT (.sh (.int i))=some (.int i):=rfl
@[simp] theorem OP:OT (.sh .non)=some .non:=rfl
@[simp] theorem P3 (i j:Int):EB (.int i) (.int j)=some (.bl (decide (i=j))):=rfl
@[simp] theorem Qm (i j:Int):OI (.int i) (.int j)=some (.bl (!decide (i=j))):=rfl
@[simp] theorem LZ (ds:List D):qu [.list ds]=some (.int ds.length):=rfl
@[simp] theorem MD (ns:List Int):qu [.scr ns]=some (.int ns.length):=rfl
@[simp] theorem E4 (ds:List D):tj (.list ds)=some ds:=rfl
@[simp] theorem Nb (ds:List D) (i:Int):Hy (.list ds) (.int i)=atI ds i:=rfl
@[simp] theorem Pu (ns:List Int) (i:Int):Hy (.scr ns) (.int i)=(atI ns i).map .int:=rfl
@[simp] theorem PD (d:D):RV (some (.sh d))=some (.sh d):=rfl
@[simp] theorem Nr (ds:List D):Vc "list" (.list ds)=true:=rfl
theorem Qe(S:AS) (i:Nat):qM S i=(S[i]?.join).bind Th:=by
 unfold qM;cases S[i]?.join with
 |none=>rfl
 |some a=>cases a <;> rfl
def Rz:AV->Option (List (oJ×D))
 | .owd kvs=>some kvs
 |_=>none
@[simp] theorem KR (kvs:List (oJ×D)):Rz (.owd kvs)=some kvs:=rfl
theorem Om(S:AS) (i:Nat):xF S i=(S[i]?.join).bind Rz:=by
 unfold xF;cases S[i]?.join with
 |none=>rfl
 |some a=>cases a <;> rfl
theorem GF{x:Nat}{body:MS}(P:Nat->AS->Prop):∀{ds:List D}{S:AS}{k:Nat},P k S->(∀i d S,ds[i]?=some d->P (k+i) S->∃S',(body (S.set x (some (.sh d)))=some (.nx S')∨body (S.set x (some (.sh d)))=some (.ct S'))/\P (k+i+1) S')->∃S',ux x body ds S=some (.nx S')/\P (k+ds.length) S'
 | [],S,k,h0,_=>⟨S,rfl,h0⟩
 |d::ds,S,k,h0,hs=>by
  obtain⟨S',e,h1⟩:=hs 0 d S rfl h0;have hs':∀i d S,ds[i]?=some d->P (k+1+i) S->∃S',(body (S.set x (some (.sh d)))=some (.nx S')∨body (S.set x (some (.sh d)))=some (.ct S'))/\P (k+1+i+1) S':=λi d S h p=>by
   have:=hs (i+1) d S (by simpa using h) (by rw[show k+(i+1)=k+1+i by lia];exact p)
   rw[show k+(i+1)=k+1+i by lia]at this
   exact this
  obtain⟨S2,e2,h2⟩:=GF P (k:=k+1) h1 hs';refine⟨S2,?_,by rw[lCq,show k+(ds.length+1)=k+1+ds.length by lia];exact h2⟩
  show (body _).bind _=_;rcases e with e|e <;> (rw[e];exact e2)
theorem yV{x:Nat}{body:MS}(P:Nat->AS->Prop) {ds:List D}{S:AS}(h0:P 0 S) (hs:∀i d S,ds[i]?=some d->P i S->∃S',body (S.set x (some (.sh d)))=some (.nx S')/\P (i+1) S'):∃S',ux x body ds S=some (.nx S')/\P ds.length S':=by
 have:=GF (x:=x) (body:=body) P (ds:=ds) (k:=0) h0 λi d S h p=>by
  rw[aK]at p ⊢;obtain⟨S',e,q⟩:=hs i d S h p;exact⟨S',.inl e,q⟩
 rw[aK]at this;exact this
theorem MJ{x y:Nat}{body:MS}(P:Nat->AS->Prop):∀{ds:List D}{S:AS}{k:Nat},P k S->(∀i d S,ds[i]?=some d->P (k+i) S->∃S',body ((S.set x (some (.sh (.int (k+i:Nat))))).set y (some (.sh d)))=some (.nx S')/\P (k+i+1) S')->∃S',AJ x y body k ds S=some (.nx S')/\P (k+ds.length) S'
 | [],S,k,h0,_=>⟨S,rfl,h0⟩
 |d::ds,S,k,h0,hs=>by
  obtain⟨S',e,h1⟩:=hs 0 d S rfl h0;have hs':∀i d S,ds[i]?=some d->P (k+1+i) S->∃S',body ((S.set x (some (.sh (.int (k+1+i:Nat))))).set y (some (.sh d)))=some (.nx S')/\P (k+1+i+1) S':=λi d S h p=>by
   have:=hs (i+1) d S (by simpa using h) (by rw[show k+(i+1)=k+1+i by lia];exact p)
   rw[show k+(i+1)=k+1+i by lia]at this
   exact this
  obtain⟨S2,e2,h2⟩:=MJ P (k:=k+1) h1 hs';refine⟨S2,?_,by rw[lCq,show k+(ds.length+1)=k+1+ds.length by lia];exact h2⟩
  show (body ((S.set x (some (.sh (.int (k:Nat))))).set y (some (.sh d)))).bind _=_;rw[iW]at e;rw[e];exact e2
theorem Oy{x y:Nat}{body:MS}(P:Nat->AS->Prop):∀{ds es:List D}{S:AS}{k:Nat},ds.length=es.length->P k S->(∀i d e S,ds[i]?=some d->es[i]?=some e->P (k+i) S->∃S',body ((S.set x (some (.sh d))).set y (some (.sh e)))=some (.nx S')/\P (k+i+1) S')->∃S',xv x y body ds es S=some (.nx S')/\P (k+ds.length) S'
 | [],[],S,k,_,h0,_=>⟨S,rfl,h0⟩
 | [],_::_,S,k,hl,_,_=>by simp at hl
 |_::_,[],S,k,hl,_,_=>by simp at hl
 |d::ds,b::es,S,k,hl,h0,hs=>by
  obtain⟨S',e,h1⟩:=hs 0 d b S rfl rfl h0;have hs':∀i d e S,ds[i]?=some d->es[i]?=some e->P (k+1+i) S->∃S',body ((S.set x (some (.sh d))).set y (some (.sh e)))=some (.nx S')/\P (k+1+i+1) S':=λi d e S h h' p=>by
   have:=hs (i+1) d e S (by simpa using h) (by simpa using h') (by rw[show k+(i+1)=k+1+i by lia];exact p)
   rw[show k+(i+1)=k+1+i by lia]at this
   exact this
  obtain⟨S2,e2,h2⟩:=Oy P (k:=k+1) (by simpa using hl) h1 hs'
  refine⟨S2,?_,by rw[lCq,show k+(ds.length+1)=k+1+ds.length by lia];exact h2⟩
  show (body _).bind _=_;rw[e];exact e2
theorem qq{te:MK}{cap:AS}(g:D->AV):∀{ds:List D},(∀d∈ds,∃S',te (some (.sh d)::cap)=some (g d,S'))->qh pV te cap ds=some (ds.map g)
 | [],_=>rfl
 |d::ds,h=>by
  obtain⟨S',e⟩:=h d (by simp)
  show (te (some (.sh d)::cap)).bind (λa=>(qh pV te cap ds).map (a.1 :: ·))=_
  rw[e,qq g λx hx=>h x (mCo _ hx)]
  rfl
theorem Be{tf:MT}{te:MK}{cap:AS}(p:D->Bool) (g:D->AV):∀{ds:List D},(∀d∈ds,∃S1,tf (some (.sh d)::cap)=some (p d,S1)/\(p d=true->∃S',te S1=some (g d,S')))->qh tf te cap ds=some ((ds.filter p).map g)
 | [],_=>rfl
 |d::ds,h=>by
  obtain⟨S1,e1,e2⟩:=h d (by simp)
  have ih:=Be (tf:=tf) (te:=te) (cap:=cap) p g λx hx=>h x (mCo _ hx)
  show (tf (some (.sh d)::cap)).bind _=_;rw[e1];show (if p d=true then _ else _)=_
  by_cases c:p d=true
  .obtain ⟨S',e3⟩:=e2 c;rw[oQ c,e3,List.filter_cons_of_pos c];show (qh tf te cap ds).map _=_;rw[ih];rfl
  .rw [oT c,List.filter_cons_of_neg c,ih]
theorem wZ{α β:Type}(f:α->β) (xs:List α) (lo hi:Option Int):xi (xs.map f) lo hi=(xi xs lo hi).map f:=by
 unfold xi;rw[lMq,iS,iT]
theorem yG{α:Type}(xs:List α) (i:Nat) (h:i<=xs.length):xi xs (some (i:Int)) none=xs.drop i:=by
 unfold xi;rw[HT.BH,HT.Gf,dv h,eA (by rw[bj];exact ae _)]
theorem yE{α:Type}(xs:List α) (i:Nat) (h:i<=xs.length):xi xs none (some (i:Int))=xs.take i:=by
 unfold xi;rw[HT.BH,HT.Gf,dv h,fq,fN]
theorem Hg{α:Type}(xs:List α) (i j:Nat):xi xs (some (i:Int)) (some (j:Int))=(xs.drop i).take (j-i):=by
 unfold xi;rw[HT.BH,HT.BH]
 by_cases h:i<=xs.length
 .rw [dv h]
  by_cases h2:j<=xs.length
  .rw [dv h2]
  .rw [iq (by lia),eA (by rw[bj];exact ae _),eA (by rw[bj];lia)]
 .have e:min i xs.length=xs.length:=iq (by lia)
  rw[e,bD (ae xs.length),bD (show xs.length<=i by lia)]
  simp
theorem Jy{α:Type}{xs:List α}{i:Int}(h0:0<=i):atI xs i=xs[i.toNat]?:=by
 unfold atI Hb;rw[oQ h0]
 by_cases h:i<xs.length
 .rw [oQ h];rfl
 .rw [oT h,bz (by lia)]
  rfl
theorem Pn{α β:Type}(f:α->β) (xs:List α) (i:Int):atI (xs.map f) i=(atI xs i).map f:=by
 unfold atI;rw[lMq];cases Hb xs.length i with
 |none=>rfl
 |some j=>show (xs.map f)[j]?=_;rw[gMq];rfl
theorem JJ{n:Nat}{i:Nat}(h:i<n):Hb n (i:Int)=some i:=by
 unfold Hb;rw[oQ (by lia),oQ (by lia)]
 simp
theorem BM(ns:List Int):(ns.map D.int).map AV.sh=ns.map λn=>AV.sh (.int n):=by rw[mPq];rfl
theorem BJ(ns:List Int):(ns.map λn=>AV.sh (.int n)).map nW=ns.map D.int:=by rw[mPq];exact mCq λn _=>by simp
theorem xt(rs:List (List Int)):(rs.map aI).map nW=rs.map dI:=by
 rw[mPq];refine mCq λr _=>?_
 show nW (.ow (r.map λn=>AV.sh (.int n)))=_
 rw[qJ,BJ]
theorem Py(rs:List (List Int)):(rs.map dI).map AV.sh=rs.map λr=>AV.sh (dI r):=by rw[mPq];rfl
theorem oB(ns:List Int):nW (aI ns)=dI ns:=by
 show nW (.ow (ns.map λn=>AV.sh (.int n)))=_
 rw[qJ,BJ]
theorem PL(i j:Int):Fk (.int i) (.int j)=some (.int (i+j)):=wN _
theorem QU(i j:Int):Bx (.int i) (.int j)=some (.int (i-j)):=wN _
theorem SV(i j:Int):Ud (.int i) (.int j)=some (.bl (decide (i<j))):=wN _
theorem S5(i j:Int):IJ (.int i) (.int j)=some (.bl (decide (j<i))):=wN _
theorem SD(i:Int):zx (.int i)=some (.int (-i)):=rfl
theorem W5:Rc (.int 10) (.int 40)=some (.int (10 ^ 40)):=uT ⟨by decide,by decide,by decide⟩ _
theorem Jt{i j:Int}(h1:-(2 ^ 64)<i) (h2:i<2 ^ 64):CY (.int i) (.int j)=some (.int (i*j)):=uT (.inl ⟨h1,h2⟩) _
theorem FU{i j:Int}(h1:-(2 ^ 64)<j) (h2:j<2 ^ 64):CY (.int i) (.int j)=some (.int (i*j)):=uT (.inr ⟨h1,h2⟩) _
theorem tD{i j:Int}(h:0<j):uZ (.int i) (.int j)=some (.int (i % j)):=uT h _
theorem wo{i j:Int}(h:0<j) (h2:j<1073741824):yM (.int i) (.int j)=some (.int (i / j)):=uT ⟨h,h2⟩ _
theorem UD:(0:Nat)<=qU:=by decide
theorem UO:(1:Nat)<=qU:=by decide
theorem Vo:(2:Nat)<=qU:=by decide
theorem VI:(3:Nat)<=qU:=by decide
theorem wj{n:Nat}(h:n<=16777216):n<=qU:=h
theorem Nv{n:Nat}(h:n<16777216):n<qU:=h
theorem zU{n:Nat}(h:n<1000000):Dc [.int (n:Int)]=some (pS 0 n):=by
 have e:Dc [.int (n:Int)]=some (pS 0 (n:Int).toNat):=uT ⟨by lia,by lia⟩ _
 rw[e,cV]
theorem uK(n:Nat):pS 0 n=(bQ n).map λi:Nat=>D.int i:=by
 unfold pS;exact mCq λi _=>by rw[gV]
theorem Us(np n:Nat) (m:MS) (ds:List D):rZ np n m ds=if ds.length=np then (m (ds.map (λd=>some (.sh d))++aL (n-ds.length) none)).bind λo=>match o with
  | .rt a=>some a
  | .nx _=>some (.sh .non)
  |_=>none
 else none:=rfl
theorem XO{α:Type}{a b:α}{l:List α}:(a::b::l)[1]?=some b:=rfl
theorem QN{α:Type}{a b v:α}{l:List α}:(a::b::l).set 1 v=a::v::l:=rfl
theorem XG{α:Type}{a b c:α}{l:List α}:(a::b::c::l)[2]?=some c:=rfl
theorem zK{α:Type}{a b c v:α}{l:List α}:(a::b::c::l).set 2 v=a::b::v::l:=rfl
theorem XJ{α:Type}{a b c d:α}{l:List α}:(a::b::c::d::l)[3]?=some d:=rfl
theorem V5{α:Type}{a b c d v:α}{l:List α}:(a::b::c::d::l).set 3 v=a::b::c::v::l:=rfl
theorem XQ{α:Type}{a b c d:α}{l:List α}{n:Nat}:(a::b::c::d::l)[n+4]?=l[n]?:=rfl
theorem V3{α:Type}{a b c d v:α}{l:List α}{n:Nat}:(a::b::c::d::l).set (n+4) v=a::b::c::d::l.set n v:=rfl
def zq:=aa @Z.wN (aa @Z.UD (aa @Z.UO (aa @Z.Vo (aa @Z.VI (aa @Z.Uu (aa @Z.Ui (aa @Z.Vk (aa @Z.We (aa @Z.Wv (aa @Z.Ul (aa @Z.XA (aa @Z.Wq (aa @Z.WQ (aa @Z.Si (aa @Z.Vp (aa @Z.Su (aa @Z.Wu (aa @Z.Qo (aa @Z.VM (aa @Z.RQ (aa @Z.Sj (aa @Z.P5 (aa @Z.Vq (aa @Z.U0 (aa @Z.UT (aa @Z.TY (aa @Z.R8 (aa @Z.Lf (aa @Z.WD (aa @Z.V6 (aa @Z.Ws (aa @Z.Tg (aa @Z.TL (aa @Z.Sx (aa @Z.Rb (aa @Z.Na (aa @Z.Oc (aa @Z.Uj (aa @Z.VA (aa @Z.T5 (aa @Z.UK (aa @Z.WJ (aa @Z.U3 (aa @Z.Uo (aa @Z.T7 (aa @Z.Gj (aa @Z.K1 (aa @Z.NL (aa @Z.RW (aa @Z.Td (aa @Z.U1 (aa @Z.Pj (aa @Z.Sg (aa @Z.SZ (aa @Z.Sn (aa @Z.UQ (aa @Z.WB (aa @Z.K2 (aa @Z.IA (aa @Z.Nc (aa @Z.L0 (aa @Z.SH (aa @Z.PY (aa @Z.Qz (aa @Z.NT (aa @Z.Wt (aa @Z.Tf (aa @Z.TR (aa @Z.WN (aa @Z.Nt (aa @Z.R6 (aa @Z.TN (aa @Z.Um (aa @Z.Rk (aa @Z.TV (aa @Z.SG (aa @Z.UJ (aa @Z.MQ (aa @Z.PN (aa @Z.Nh (aa @Z.OQ (aa @Z.Px (aa @Z.OC (aa @Z.OP (aa @Z.PL (aa @Z.QU (aa @Z.SV (aa @Z.S5 (aa @Z.SD (aa @Z.W5 (aa @Z.BM (aa @Z.BJ (aa @Z.xt (aa @Z.Py (aa @Z.P3 (aa @Z.Qm (aa @Z.LZ (aa @Z.MD (aa @Z.E4 (aa @Z.Nb (aa @Z.Pu (aa @Z.PD (aa @Z.Nr (aa @Z.Qe (aa @Z.Om (aa @Z.KR (aa @Z.pK (aa @Z.qJ (aa @Z.AW (aa @Z.Us (aa @Z.qm (aa @Z.KS (aa @List.getElem?_cons_zero.{0} (aa @Z.XO (aa @Z.XG (aa @Z.XJ (aa @Z.XQ (aa @List.set_cons_zero.{0} (aa @Z.QN (aa @Z.zK (aa @Z.V5 (aa @Z.V3 (aa @Option.join_some.{0} (aa @Option.map_some.{0, 0} (aa @Option.bind_some.{0, 0} (aa @List.length_cons.{0} (aa @List.length_nil.{0} (aa @List.map_cons.{0, 0} (aa @List.map_nil.{0, 0} (aa @List.nil_append.{0} (aa @List.cons_append.{0} (aa @List.length_map.{0, 0} (aa @Bool.not_true (aa @Bool.not_false (aa @Bool.false_eq_true (aa @decide_true (aa @decide_false (aa @Nat.zero_add (aa @List.replicate_zero.{0} @List.append_nil.{0})))))))))))))))))))))))))))))))))))))))))))))))))))))))))))))))))))))))))))))))))))))))))))))))))))))))))))))))))))))))))))))))))))))))))))
theorem Rg{K:W.Frag}{f:MF}(h:∀ns:List Int,ns.length<=63->f [.scr ns]=some (.sh (.bl true))):∀vs H Q E,Kt K vs H Q E->oO K f vs H Q E:=by
 rintro vs H Q E ⟨a,ns,rfl,hS,hl,q⟩;refine⟨H,[.scr ns],_,.refl _,.cons (.scr hS) .nil,h ns hl,λHf' H' v F _ _ _ _ r _ _=>?_⟩
 cases r.sh_inv.2;exact q H'
end Z
namespace Mr
open PySem PySem.Spec PyProof.Rows L2
section
variable {X:Cx}{tg:Expr}
def Iu{α:Type}(P:α->Prop):List α->Prop
 | []=>True
 |a::l=>P a/\Iu P l
theorem Iu.mem{α:Type}{P:α->Prop}:∀{l:List α},Iu P l->∀a∈l,P a
 | [],_,a,h=>by cases h
 |b::l,hp,a,h=>(ah.mp h).elim (λe=>e ▸ hp.1) (Iu.mem hp.2 a)
theorem sy.of{scope:jQ}{cl:List (Str×Addr)}{x:Str}{N:List Str}{fr:List Nat}(h1:N.Nodup) (h2:N[0]?=some x) (h3:N.length=fr.length+1)
  (h4:Iu (λp=>X.env.cells.lookup p.1=some p.2) cl) (h5:Iu (λp=>(p.2 = .cell∨p.2 = .free)->∃c,cl.lookup p.1=some c) (lg scope X.env).names)
  (h6:Iu (λp=>X.N[p.1]?=some p.2/\X.env.scope.names.lookup p.2=some .cell/\(lg scope X.env).names.lookup p.2=some .cell) (fr.zip (N.drop 1))):sy X scope cl x N fr where
 names:=h1
 own:=h2
 len:=h3
 sub:=λy c e=>h4.mem (y,c) (PySem.mem_of_lookup e)
 has:=λy e=>by
  rcases e with e|e
  .exact h5.mem _ (PySem.mem_of_lookup e) (.inl rfl)
  .exact h5.mem _ (PySem.mem_of_lookup e) (.inr rfl)
 get:=λk j y e1 e2=>by
  have hm:(j,y)∈fr.zip (N.drop 1):=by
   refine mGq (i:=k) ?_;rw[cW];exact⟨e1,by rw[gQ,iX];exact e2⟩
  exact h6.mem _ hm
end
end Mr
namespace Mr
open PySem PySem.W PySem.Spec PyProof.Rows L2
abbrev g2(K:W.Frag):TG:=KZ K 2 (xK (sP 0) (xK (sP 1) Lo))
end Mr
namespace Z
open PySem L2 Mr
theorem Qj(c:MT) (body:MS) (n:Nat) (S:AS):tG c body (n+1) S=(c S).bind λx=>if x.1=true then (body x.2).bind λo=>match o with
   | .nx S'=>tG c body n S'
   | .ct S'=>tG c body n S'
   | .bk S'=>some (.nx S')
   | .rt a=>some (.rt a)
  else some (.nx x.2):=rfl
end Z
namespace Z
open PySem L2 Mr Xe
inductive W2 where
 |ok (a:AV)|ex (c:Str) (fs:List (Str×Int))
abbrev Xs:=List D->Option W2
inductive Tc where
 |ok (o:Jn)|ex (c:Str) (fs:List (Str×Int))
abbrev MX:=AS->Option Tc
def UZ(f:AV->Option Tc):W2->Option Tc
 | .ok r=>f r
 | .ex c fs=>some (.ex c fs)
def SM(K:W.Frag) (te:TE) (m:ME):Prop:=∀{H₀ Hf₀ Hf:Hp}{S:AS}{σ:St}{H:Hp}{Fs:List (List Addr)}{d:D}{S':AS},pJ K H₀ Hf₀ Hf S σ H Fs->m S=some (d,S')->∀Q:VK,
 (∀Hf' H' Fs' v,oM Hf Hf'->pJ K H₀ Hf₀ Hf' S' σ H' Fs'->qd K Hf' d v->Q v H')->te σ H Q
def Sl:AV->Option D
 | .sh d=>some d
 |_=>none
theorem Mb{a:AV}{d:D}(h:Sl a=some d):a = .sh d:=by
 unfold Sl at h;split at h <;> cases h
 rfl
def yA(i:Nat) (b:ME):ME:=λS=>(qM S i).bind λ_=>(b S).bind λy=>(intOf y.1).bind λz=>(qM y.2 i).bind λavs=>tR (0<=z/\z<avs.length/\avs.length<=qU) ((avs[z.toNat]?.bind Sl).map λd=>(d,y.2.set i (some (.ow (avs.eraseIdx z.toNat)))))
def CI(i:Nat):ME:=λS=>(qM S i).bind λavs=>(avs[avs.length-1]?.bind Sl).map λd=>(d,S.set i (some (.ow avs.dropLast)))
def U2(kvs:List (oJ×D)) (k:oJ):List (oJ×D):=kvs.filter λkv=>decide (kv.1≠k)
def WZ(i:Nat) (b:ME):ME:=λS=>(xF S i).bind λ_=>(b S).bind λy=>(wb y.1).bind λkey=>(xF y.2 i).bind λkvs=>(getD kvs key).map λd=>(d,y.2.set i (some (.owd (U2 kvs key))))
section
variable {K:W.Frag}
theorem pB.erase{Hf H:Hp}{as:List AV}{vs:List V}{Gs:List (List Addr)}(r:pB K Hf H as vs Gs) (k:Nat):pB K Hf H (as.eraseIdx k) (vs.eraseIdx k) (Gs.eraseIdx k):=by
 obtain⟨h1,h2,h3⟩:=r;refine⟨by rw[dF,dF,h1],by rw[dF,dF,h2],λi b w G e1 e2 e3=>?_⟩
 rw[List.getElem?_eraseIdx]at e1 e2 e3;split at e1
 .rename_i q;rw[oQ q]at e2 e3;exact h3 i b w G e1 e2 e3
 .rename_i q;rw[oT q]at e2 e3;exact h3 (i+1) b w G e1 e2 e3
theorem Jb{Gs:List (List Addr)}{k:Nat}(h:Gs[k]?=some []):(Gs.eraseIdx k).flatten=Gs.flatten:=by
 induction Gs generalizing k with
 |nil=>cases h
 |cons g r ih =>
  cases k with
  |zero =>
   simp at h;subst h;rfl
  |succ k =>
   rw[cJ,fCq,fCq,ih (by simpa using h)]
theorem pJ.lose{H₀ Hf₀ Hf H:Hp}{S:AS}{σ:St}{Fs:List (List Addr)}(R:pJ K H₀ Hf₀ Hf S σ H Fs) {i k:Nat}{avs:List AV}{d:D}(h:S[i]?=some (some (.ow avs))) (hk:avs[k]?=some (.sh d)) :
  ∃p vs y F',σ[i]?=some (some (.ref p))/\H p=some (.lst vs)/\avs.length=vs.length/\vs[k]?=some y/\qd K Hf d y/\pJ K H₀ Hf₀ Hf (S.set i (some (.ow (avs.eraseIdx k)))) σ (qr H p (.lst (vs.eraseIdx k))) (Fs.set i F'):=by
 obtain⟨p,vs,Gs,s1,s2,h1,h2,h3,h4,h5,h6⟩:=R.ow h;have lk:k<avs.length:=(gSq.mp hk).1;obtain⟨y,hy⟩:∃y,vs[k]?=some y:=⟨_,gEg (by rw[←h3.1];exact lk)⟩
 obtain⟨G,hG⟩:∃G,Gs[k]?=some G:=⟨_,gEg (by rw[←h3.2.1];exact lk)⟩
 obtain⟨hG0,ry⟩:=(h3.2.2 k _ _ _ hk hy hG).sh_inv;subst hG0;have hf:=Jb hG;refine⟨p,vs,y,p::(Gs.eraseIdx k).flatten,s1,h1,h3.1,hy,ry,R.turn s1 s2 (by simp) (oR.news oz h2 ((h3.keepUpd h4).erase k)) ?_ ?_⟩
 .rw [hf];exact aC.mpr ⟨h4,h5⟩
 .rw [hf];exact h6
theorem GA{i:Nat}{tb:TE}{b:ME}(hb:SR K tb b):SM K (QL K "list" Of (yN i) (rY tb vI)) (yA i b):=by
 intro H₀ Hf₀ Hf S σ H Fs d S' R e Q q;obtain⟨a0,e0,e⟩:=oBq.mp e;obtain⟨y,e1,e⟩:=oBq.mp e;obtain⟨z,e2,e⟩:=oBq.mp e;obtain⟨avs,e3,e⟩:=oBq.mp e;rcases oK e with ⟨⟨z0,z1,z2⟩,e⟩|e
 .obtain ⟨d',e4,e⟩:=oMq.mp e;cases e;obtain⟨a,e4,e5⟩:=oBq.mp e4;have e5:=Mb e5;subst e5;obtain⟨p,vs,Gs,s1,_,h1,_⟩:=R.ow (qc e0);refine⟨.ref p,s1,.inl ⟨rfl,vs,qw.of h1⟩,hb R (d:=y.1) (S':=y.2) e1 _ λHf1 H1 Fs1 v t1 R1 r1=>?_⟩
  obtain⟨p',vs',w,F',s1',hp,hl,hw,rw',R2⟩:=R1.lose (qc e3) e4;rw[s1]at s1';cases s1';have hv:v = .int z:=by
   have:y.1 = .int z:=by
    revert e2
    unfold intOf;split <;> intro e2 <;> cases e2
    assumption
   rw[this]at r1;cases r1;rfl
  subst hv;have hz:(avs.length:Int)<=16777216:=by
   have:avs.length<=16777216:=z2;lia
  refine⟨p,vs',z,z.toNat,w,rfl,rfl,hp,by lia,by lia,?_,hw,q _ _ _ _ t1.sf R2 rw'⟩
  rw[←hl];unfold mR;have n1:¬ z<0:=by lia
  have n2:(decide (0<=z) && decide (z<(avs.length:Int)))=true:=by
   rw[decide_eq_true z0,decide_eq_true z1];rfl
  simp only[n1,if_false];exact oQ n2
 .cases e
theorem TC{i:Nat}:SM K (QL K "list" S6 (yN i) vI) (CI i):=by
 intro H₀ Hf₀ Hf S σ H Fs d S' R e Q q;obtain⟨avs,e0,e⟩:=oBq.mp e;obtain⟨d',e4,e⟩:=oMq.mp e;cases e;obtain⟨a,e4,e5⟩:=oBq.mp e4;have e5:=Mb e5;subst e5;obtain⟨p,vs,w,F',s1,hp,hl,hw,rw',R2⟩:=R.lose (qc e0) e4;refine⟨.ref p,s1,.inl ⟨rfl,vs,qw.of hp⟩,p,vs,w,rfl,rfl,hp,by rw[←hl];exact hw,?_⟩
 rw[zi,hl,zi]at R2;exact q _ _ _ _ (.refl _) R2 rw'
def Dy(i:Nat) (m:ME):MS:=λS=>(m S).map λx=>.nx (x.2.set i (some (.sh x.1)))
theorem QX{i:Nat}{te:TE}{m:ME}(h:SM K te m):SS K (HB te (sP i)) (Dy i m):=by
 intro H₀ Hf₀ Hf S σ H Fs o R e D hd;obtain⟨x,e1,e⟩:=oMq.mp e;cases e;refine h R (d:=x.1) (S':=x.2) e1 _ λHf1 H1 Fs1 v t1 R1 r1=>?_
 exact hd _ _ _ _ t1 (R1.setD i r1)
def Xg(i:Nat) (m:ME):MS:=λS=>(qM S i).bind λ_=>(m S).bind λx=>(qM x.2 i).bind λavs=>tR (avs.length<qU) (some (.nx (x.2.set i (some (.ow (avs++[.sh x.1]))))))
def Wz(i:Nat) (b:ME) (m:ME):MS:=λS=>(m S).bind λx=>(xF x.2 i).bind λ_=>(b x.2).bind λy=>(xF y.2 i).bind λkvs=>(wb y.1).bind λkey =>
 tR (kvs.length<qU) (some (.nx (y.2.set i (some (.owd (xN kvs key x.1))))))
end
theorem RZ(d:D):Sl (.sh d)=some d:=rfl
theorem MB(S:AS) (i:Nat) (b:ME):yA i b S=(qM S i).bind λ_=>(b S).bind λy=>(intOf y.1).bind λz=>(qM y.2 i).bind λavs=>tR (0<=z/\z<avs.length/\avs.length<=qU) ((avs[z.toNat]?.bind Sl).map λd=>(d,y.2.set i (some (.ow (avs.eraseIdx z.toNat))))):=rfl
theorem TZ(S:AS) (i:Nat):CI i S=(qM S i).bind λavs=>(avs[avs.length-1]?.bind Sl).map λd=>(d,S.set i (some (.ow avs.dropLast))):=rfl
theorem TH(S:AS) (i:Nat) (m:ME):Dy i m S=(m S).map λx=>.nx (x.2.set i (some (.sh x.1))):=rfl
def Xx:=aa @RZ (aa @MB (aa @TZ @TH))
section
variable {K:W.Frag}{H₀ Hf₀ Hf H:Hp}{S:AS}{σ:St}{Fs:List (List Addr)}{te tb:TE}{k:MK}{b:ME}
theorem pJ.poke(R:pJ K H₀ Hf₀ Hf S σ H Fs) {p:Addr}{o:HO}(pn:Hf p=none) (p0:H₀ p=none) (pf:p∉Fs.flatten):pJ K H₀ Hf₀ Hf S σ (qr H p o) Fs:=by
 refine⟨R.len,R.lenF,λj a ej=>?_,R.emp,R.nd,R.fresh,λb u e=>?_,λb u e=>?_,R.lim,R.sf⟩
 .obtain ⟨w,G,f1,f2,q⟩:=R.rep j a ej;refine⟨w,G,f1,f2,q.keep (.refl _) (λc hc=>nX λe=>pf ?_) λc hc=>(q.owned c hc).2⟩
  subst e;exact pP f2 hc
 .rw [nX λz=>by rw[z,pn]at e;cases e]
  exact R.sub b u e
 .rw [nX λz=>by rw[z,p0]at e;cases e]
  exact R.fr b u e
theorem xa.stays{Hf' H':Hp}{Fs':List (List Addr)}(t:xa Hf H Fs Hf' H' Fs') {p:Addr}(pn:Hf p=none) (ph:H p≠none) (pf:p∉Fs.flatten):Hf' p=none/\p∉Fs'.flatten:=by
 refine⟨?_,λm=>pf (t.own p m)⟩
 by_cases h:Hf' p=none
 .exact h
 .exact ((t.gr p pn h).elim (λe=>absurd e ph) λm=>absurd m pf)
def EN(b:ME) (k:MK):MK:=λS=>(b S).bind λy=>(uN k y.2).bind λx=>(wb y.1).map λkey=>(.owd [(key,nW x.1)],x.2)
theorem Hw(hb:SR K tb b) (hk:SK K te k):SK K (RE [(tb,te)]) (EN b k):=by
 intro H₀ Hf₀ Hf S σ H Fs av S' R e Q q;obtain⟨y,e1,e⟩:=oBq.mp e;obtain⟨x,e2,e⟩:=oBq.mp e;obtain⟨key,e3,e⟩:=oMq.mp e;cases e;have hk':SK K te (uN k):=SK.frz hk;intro p hp;obtain⟨t0,R0,n1,n2,n3⟩:=R.new (o:=.dK []) hp;have own0:=wx.one R hp;refine hb R0 (d:=y.1) (S':=y.2) e1 _ λHf1 H1 Fs1 w t1 R1 r1=>?_
 have p0:qr H p (HO.dK []) p=some (.dK []):=oz;have p1:H1 p=some (.dK []):=t1.sh p _ p0;obtain⟨a1,a2⟩:=t1.stays n1 (by rw[p0];simp) n3
 refine hk' R1 (a:=x.1) (S':=x.2) e2 _ λHf2 H2 Fs2 v F t2 R2 r2 o2=>?_
 have p2:H2 p=some (.dK []):=t2.sh p _ p1;obtain⟨b1,b2⟩:=t2.stays a1 (by rw[p1];simp) a2
 obtain⟨x1,hx1⟩:∃d,x.1 = .sh d:=by
  obtain⟨w,_,e⟩:=oMq.mp e2;rw[←e];exact⟨_,rfl⟩
 rw[hx1]at r2;have rv:=r2.sh_inv.2;have hw:=yD e3 r1;subst hw;refine⟨p2,[(key,v)],rfl,by simp,?_⟩
 have t12:=(t0.trans t1).trans t2;have hs:oM H (qr H2 p (HO.dK (AA [] [(key,v)]))):=λc u e=>by
  rw[nX λz=>by rw[z,hp]at e;cases e]
  exact t12.sh c u e
 refine q Hf2 _ Fs2 (.ref p) [p] ⟨t12.sf,hs,t12.own,t12.gr⟩ (R2.poke b1 n2 b2) (.owd oz b1 ⟨rfl,λi d u h1 h2=>?_⟩) ⟨by simp,λc h=>by rw[mSq.mp h];exact n2,λc h=>by rw[mSq.mp h];exact b2,λc h=>by rw[mSq.mp h];exact .inl hp⟩
 match i,h1,h2 with
 |0,h1,h2 =>
  cases h1;cases h2;rw[hx1,pK];exact rv
 |i+1,h1,_=>simp at h1
theorem Eh{i:Nat}:SM K (Vj K "list" S6 (yN i)) (CI i):=TC
def yY:List (oJ×D)->Option (List Int)
 | []=>some []
 | (.inl i,_)::r=>(yY r).map (i :: ·)
 |_=>none
theorem Gc:∀{kvs:List (oJ×D)}{ns:List Int},yY kvs=some ns->kvs.map (·.1)=ns.map az
 | [],ns,h=>by cases h;rfl
 | (.inl i,d)::r,ns,h=>by
  obtain⟨ms,h1,h2⟩:=oMq.mp (show (yY r).map (i :: ·)=some ns from h)
  subst h2;rw[ar,ar,Gc h1]
 | (.inr _,_)::_,_,h=>by cases h
def Ff(a:ME):MK:=λS=>(a S).bind λx=>match x.1 with
 | .dict kvs=>(yY kvs).bind λns=>tR (ns.length<64) (some (.ow ((qF ns).map λn=>.sh (.int n)),x.2))
 |_=>none
theorem MH(hb:SR K te b):SK K (JY (λxs H Q=>∃(a:Addr) (kvs:List (oJ×V)) (ns:List Int),xs=[.ref a]/\ns.length<64/\H a=some (.dK kvs)/\kvs.map (·.1)=ns.map az/\∀p,H p=none->Q (.ref p) (qr H p (.lst ((qF ns).map V.int)))) (rY te vI)) (Ff b):=by
 intro H₀ Hf₀ Hf S σ H Fs av S' R e Q q;obtain⟨x,e1,e⟩:=oBq.mp e;obtain⟨x1,x2⟩:=x;cases x1 with
 |dict kvs =>
  obtain⟨ns,e2,e⟩:=oBq.mp (show (yY kvs).bind (λns=>tR (ns.length<64) (some (AV.ow ((qF ns).map λn=>.sh (.int n)),x2)))=some (av,S') from e)
  obtain⟨h64,e⟩:=EX e;cases e;refine hb R (d:=.dict kvs) (S':=S') e1 _ λHf1 H1 Fs1 w t1 R1 r1=>?_
  obtain⟨p1,vs,rfl,h1,h2⟩:=r1.dict_inv;refine⟨p1,vs,ns,rfl,h64,h1,by rw[←h2.1];exact Gc e2,λp hp=>?_⟩
  obtain⟨t4,R4,n1,n2,n3⟩:=R1.new (o:=.lst ((qF ns).map V.int)) hp;rw[xM]at q;exact q _ _ _ (.ref p) [p] (t1.trans t4) R4 (oR.new oz n1 (sA _)) ((wx.one R1 hp).back t1)
 |_=>cases e
end
theorem Pi(S:AS) (b:ME) (k:MK):EN b k S=(b S).bind λy=>(uN k y.2).bind λx=>(wb y.1).map λkey=>(.owd [(key,nW x.1)],x.2):=rfl
def Rq:D->AS->Option (AV×AS)
 | .dict kvs,S=>(yY kvs).bind λns=>tR (ns.length<64) (some (.ow ((qF ns).map λn=>.sh (.int n)),S))
 |_,_=>none
theorem PQ(S:AS) (a:ME):Ff a S=(a S).bind λx=>Rq x.1 x.2:=by
 unfold Ff;congr 1;funext x;obtain⟨x1,x2⟩:=x;cases x1 <;> rfl
theorem Sb(kvs:List (oJ×D)) (S:AS):Rq (.dict kvs) S=(yY kvs).bind λns=>tR (ns.length<64) (some (.ow ((qF ns).map λn=>.sh (.int n)),S)):=rfl
theorem D7{α:Type}(f:α->Int) (g:α->D):∀l:List α,yY (l.map λx=>(az (f x),g x))=some (l.map f)
 | []=>rfl
 |x::l=>by
  show (yY (l.map λx=>(az (f x),g x))).map (f x :: ·)=_
  rw[D7 f g l];rfl
def XB:=aa @Pi (aa @PQ @Sb)
section
variable {K:W.Frag}{H₀ Hf₀ Hf Hf' H H':Hp}{S S':AS}{σ σ':St}{Fs Fs':List (List Addr)}
theorem Ew.same(s:oM H H'):∀{path:List Nat}{v w:V},Ew H v path w->Ew H' v path w
 | [],v,w,h=>h
 |j::js,v,w,⟨p,vs,u,h1,h2,h3,h4⟩=>⟨p,vs,u,h1,s _ _ h2,h3,Ew.same s h4⟩
theorem Ew.one:∀{path:List Nat}{v w w':V},Ew H v path w->Ew H v path w'->w=w'
 | [],v,w,w',h,h'=>h.symm.trans h'
 |j::js,v,w,w',hz,hy=>by
  obtain⟨p,vs,u,h1,h2,h3,h4⟩:=hz;obtain⟨p',vs',u',g1,g2,g3,g4⟩:=hy;rw[h1]at g1;cases g1;rw[h2]at g2;cases g2;rw[h3]at g3;cases g3;exact h4.one g4
theorem Ew.snoc:∀{path:List Nat}{v:V}{p:Addr}{vs:List V}{n:Nat}{u:V},Ew H v path (.ref p)->H p=some (.lst vs)->vs[n]?=some u->Ew H v (path++[n]) u
 | [],v,p,vs,n,u,h,h1,h2=>⟨p,vs,u,h,h1,h2,rfl⟩
 |j::js,v,p,vs,n,u,⟨p',vs',u',g1,g2,g3,g4⟩,h1,h2=>⟨p',vs',u',g1,g2,g3,g4.snoc h1 h2⟩
theorem Ew.kept:∀{path:List Nat}{av:AV}{v w:V}{F:List Addr}{as:List AV},oR K Hf H av v F->pU av path=some as->Ew H v path w->(∀q∈F,H' q=H q)->Ew H' v path w
 | [],av,v,w,F,as,_,_,h,_=>h
 |j::js,av,v,w,F,as,r,e,hz,hk=>by
  obtain⟨p,vs,u,h1,h2,h3,h4⟩:=hz;cases av with
  |ow avs =>
   obtain⟨p',vs',Gs,e1,e2,e3,e4,e5⟩:=r.ow_inv;rw[h1]at e1;cases e1;rw[h2]at e3;cases e3;obtain⟨a,ea,e⟩:=oBq.mp (show (avs[j]?).bind (λa=>pU a js)=some as from e)
   have hj:j<avs.length:=(gSq.mp ea).1;have hG:=gEg (e5.2.1 ▸ hj);have rj:=e5.2.2 j a u _ ea h3 hG;refine⟨p,vs,u,h1,by rw[hk p (by rw[e2];simp)];exact h2,h3,h4.kept rj e λq hq=>hk q ?_⟩
   rw[e2];exact mCo _ (pP hG hq)
  |_=>cases e
def V2(H₀ H:Hp) (F:List Addr):Hp:=λb=>if b∈F then H b else H₀ b
theorem El{F:List Addr}{b:Addr}(h:b∈F):V2 H₀ H F b=H b:=oQ h
theorem yF{F:List Addr}{b:Addr}(h:b∉F):V2 H₀ H F b=H₀ b:=oT h
theorem pJ.frame(R:pJ K H₀ Hf₀ Hf S σ H Fs) {i:Nat}{F:List Addr}(s2:Fs[i]?=some F):pJ K (V2 H₀ H F) Hf₀ Hf (S.set i none) σ H (Fs.set i []):=by
 have R1:=R.kill i;have hF:∀q∈F,q∈Fs.flatten:=λq hq=>pP s2 hq
 refine⟨R1.len,R1.lenF,R1.rep,R1.emp,R1.nd,λp hp=>?_,R1.sub,λb u e=>?_,λb h1 h2=>?_,R1.sf⟩
 .have hn:p∉F:=λz=>tU R.nd s2 z hp
  rw[yF hn];exact R1.fresh p hp
 .by_cases hb:b∈F
  .rw [El hb]at e;exact e
  .rw [yF hb]at e;exact R.fr b u e
 .by_cases hb:b∈F
  .exact (R.mem (hF b hb)).2
  .rw [yF hb]at h2;exact R.lim b h1 h2
theorem EU{α:Type}{l:List α}{i:Nat}{a:α}(h:l[i]?=some a):l.set i a=l:=by
 obtain⟨hk,ev⟩:=gSq.mp h;rw[←ev];exact eK hk
theorem pJ.unframe(R:pJ K H₀ Hf₀ Hf S σ H Fs) {i:Nat}{av:AV}{v:V}{F:List Addr}(s2:Fs[i]?=some F) (r:oR K Hf H av v F) (nd:F.Nodup) (h0:∀q∈F,H₀ q=none)
  (R':pJ K (V2 H₀ H F) Hf₀ Hf' S' σ' H' Fs') (e':S'[i]?=some none) (s1:σ'[i]?=some (some v)) (sf:oM Hf Hf') :
  (∀q∈F,H' q=H q)/\oR K Hf' H' av v F/\pJ K H₀ Hf₀ Hf' (S'.set i (some av)) σ' H' (Fs'.set i F):=by
 have hk:∀q∈F,H' q=H q:=λq hq=>by
  have hn:=(R.mem (pP s2 hq)).1;cases hu:H q with
  |none=>exact absurd hu hn
  |some u=>exact R'.fr q u (by rw[El hq];exact hu)
 have hf:∀q∈F,Hf' q=none:=λq hq=>by
  have hm:=R.mem (pP s2 hq);refine R'.lim q ?_ (by rw[El hq];exact hm.1)
  cases hz:Hf₀ q with
  |none=>rfl
  |some u=>rw[R.sf q u hz]at hm;exact absurd hm.2 (by simp)
 have r':=r.keep sf hk hf;refine⟨hk,r',?_⟩;have R1:pJ K H₀ Hf₀ Hf' (S'.set i none) σ' H' (Fs'.set i []):=by
  rw[EU e',EU (R'.emp i e')];refine⟨R'.len,R'.lenF,R'.rep,R'.emp,R'.nd,λp hp=>?_,R'.sub,λb u e=>?_,λb h1 h2=>?_,R'.sf⟩
  .have:=R'.fresh p hp
   by_cases hb:p∈F
   .exact h0 p hb
   .rwa [yF hb]at this
  .refine R'.fr b u ?_;rw[yF λz=>by rw[h0 b z]at e;cases e]
   exact e
  .refine R'.lim b h1 ?_;rw[yF λz=>h2 (h0 b z)]
   exact h2
 refine R1.again (F:=F) s1 r' nd λq hq=>⟨h0 q hq,λm=>?_⟩
 rw[EU (R'.emp i e')]at m;have:=R'.fresh q m;rw[El hq]at this;exact(R.mem (pP s2 hq)).1 this
end
abbrev MP:=AS->Option (List Nat×AS)
def Mx(i:Nat):MP:=λS=>(qM S i).map λ_=>([],S)
def Vt(i:Nat) (pf:MP) (b:ME):MP:=λS=>(pf S).bind λx=>(b x.2).bind λy=>(intOf y.1).bind λj=>(qM y.2 i).bind λavs=>(pU (.ow avs) x.1).bind λas=>(Hb as.length j).map λn=>(x.1++[n],y.2)
def Vh(K:W.Frag) (i:Nat) (te:TE) (pf:MP):Prop:=∀{H₀ Hf₀ Hf:Hp}{S:AS}{σ:St}{H:Hp}{Fs:List (List Addr)}{path:List Nat}{S':AS},pJ K H₀ Hf₀ Hf S σ H Fs->pf S=some (path,S')->∀Q:VK,
 (∀Hf' H' Fs' v w,xa Hf H Fs Hf' H' Fs'->pJ K H₀ Hf₀ Hf' S' σ H' Fs'->σ[i]?=some (some v)->Ew H' v path w->Q w H')->te σ H Q
section
variable {K:W.Frag}
theorem JR(i:Nat):Vh K i (yN i) (Mx i):=by
 intro H₀ Hf₀ Hf S σ H Fs path S' R e Q q;obtain⟨avs,e1,e⟩:=oMq.mp e;cases e;obtain⟨p,vs,Gs,s1,_⟩:=R.ow (qc e1);exact⟨_,s1,q _ _ _ _ _ .refl R s1 rfl⟩
theorem Ai{H₀ Hf₀ Hf H:Hp}{S:AS}{σ:St}{Fs:List (List Addr)}{i:Nat}{avs as:List AV}{path:List Nat}{v w:V}(R:pJ K H₀ Hf₀ Hf S σ H Fs) (e:S[i]?=some (some (.ow avs))) (s1:σ[i]?=some (some v)) (en:pU (.ow avs) path=some as) (h:Ew H v path w) :
  ∃p vs,w = .ref p/\H p=some (.lst vs)/\vs.length=as.length:=by
 obtain⟨v',F,t1,t2,r,nd,_⟩:=R.move e;rw[s1]at t1;cases t1;obtain⟨p,vs,Gs,g1,g2,g3,g4,_⟩:=r.path nd en;exact⟨p,vs,h.one g1,g2,g4.1.symm⟩
theorem M1{i:Nat}{te tb:TE}{pf:MP}{b:ME}(hp:Vh K i te pf) (hb:SR K tb b):Vh K i (Pd (P4 K) te tb) (Vt i pf b):=by
 intro H₀ Hf₀ Hf S σ H Fs path S' R e Q q;obtain⟨x,e1,e⟩:=oBq.mp e;obtain⟨y,e2,e⟩:=oBq.mp e;obtain⟨j,e3,e⟩:=oBq.mp e;obtain⟨avs,e4,e⟩:=oBq.mp e;obtain⟨as,e5,e⟩:=oBq.mp e;obtain⟨n,e6,e⟩:=oMq.mp e;cases e;refine hp R (path:=x.1) (S':=x.2) e1 _ λHf1 H1 Fs1 v w t1 R1 s1 a1=>hb R1 (d:=y.1) (S':=y.2) e2 _ λHf2 H2 Fs2 u t2 R2 r2=>?_
 have hy:y.1 = .int j:=by
  cases hx:y.1 <;> rw[hx]at e3 <;> first|(cases e3;rfl)|cases e3
 rw[hy]at r2;cases r2;have a2:=a1.same t2.sh;obtain⟨p,vs,rfl,h1,h2⟩:=Ai R2 (qc e4) s1 e5 a2;have hix:=e6;obtain⟨_,hn,_⟩:=J0 e6;have hn':n<vs.length:=by rw[h2];exact hn
 obtain⟨u,hv⟩:∃u,vs[n]?=some u:=⟨_,gEg hn'⟩;refine⟨p,vs,j,u,rfl,rfl,qw.of h1,?_,q _ _ _ v _ (t1.trans t2) R2 s1 (a2.snoc h1 hv)⟩;unfold atI;rw[h2,e6];exact hv
end
section
variable {K:W.Frag}
theorem pJ.grow{H₀ Hf₀ Hf H:Hp}{S:AS}{σ:St}{Fs:List (List Addr)}{i:Nat}{avs as:List AV}{path:List Nat}{v:V}{p:Addr}(R:pJ K H₀ Hf₀ Hf S σ H Fs) (e:S[i]?=some (some (.ow avs))) (s1:σ[i]?=some (some v)) (en:pU (.ow avs) path=some as) (h:Ew H v path (.ref p)) :
  ∃vs,H p=some (.lst vs)/\as.length=vs.length/\∀(bs:List AV) (ws:List V) (Gs:List (List Addr)),pB K Hf H bs ws Gs->Gs.flatten.Nodup->(∀q∈Gs.flatten,H₀ q=none/\q∉Fs.flatten) ->
   ∃Fs',pJ K H₀ Hf₀ Hf (S.set i (some (putAt (.ow avs) path (as++bs)))) σ (qr H p (.lst (vs++ws))) Fs':=by
 obtain⟨v',F,t1,t2,r,nd,oo,_⟩:=R.move e;rw[s1]at t1;cases t1;obtain⟨p',vs,Es,g1,g2,g3,g4,g5,g6,g6',g7,g8⟩:=r.path nd en;have hpp:V.ref p=V.ref p':=h.one g1;cases hpp;refine⟨vs,g2,g4.1,λbs ws Gs rb nG oG=>?_⟩
 have pG:p∉Gs.flatten:=λm=>(oG p m).2 (pP t2 g5)
 have hfl:(Es++Gs).flatten=Es.flatten++Gs.flatten:=fAq;obtain⟨F',k1,k2,k3⟩:=g8 (as++bs) (vs++ws) (Es++Gs) ((g4.keepUpd g6).append (rb.keepUpd pG)) (by
  rw[hfl];refine aC.mpr ⟨λm=>(mAq.mp m).elim g6 pG,nAq.mpr ⟨g6',nG,λa ha b hb z=>(oG b hb).2 (pP t2 (g7 b (z ▸ ha)))⟩⟩) (λq hq=>by
  rw[hfl]at hq;exact(mAq.mp hq).imp id λm z=>(oG q m).2 (pP t2 z))
 refine⟨_,R.turnAny s1 t2 g5 k1 k2 λq hq=>?_⟩
 rcases k3 q hq with z|z
 .exact oo q z
 .rw [hfl]at z;rcases mAq.mp z with z|z
  .exact oo q (g7 q z)
  .exact ⟨(oG q z).1,λm=>(oG q z).2 (qt m)⟩
def Xa(i:Nat) (pf:MP) (k:MK):MS:=λS=>(pf S).bind λx=>(qM x.2 i).bind λa0=>(pU (.ow a0) x.1).bind λ_=>(k x.2).bind λy=>(qM y.2 i).bind λavs=>(pU (.ow avs) x.1).bind λas=>tR (as.length<qU) (some (.nx (y.2.set i (some (putAt (.ow avs) x.1 (as++[y.1]))))))
def Xh(i:Nat) (pf:MP) (l:ML):MS:=λS=>(pf S).bind λx=>(qM x.2 i).bind λa0=>(pU (.ow a0) x.1).bind λ_=>(l x.2).bind λy=>(qM y.2 i).bind λavs=>(pU (.ow avs) x.1).bind λas=>tR (as.length+y.1.length<=qU) (some (.nx (y.2.set i (some (putAt (.ow avs) x.1 (as++y.1.map .sh))))))
def Xb(x i:Nat) (path:List Nat) (S:AS) (σ:St) (H:Hp):Prop:=∃v p avs as,S[i]?=some (some (.ow avs))/\pU (.ow avs) path=some as/\σ[x]?=some (some (.ref p))/\σ[i]?=some (some v)/\Ew H v path (.ref p)
def O4(K:W.Frag) (x i:Nat) (t:TS) (m:List Nat->MS):Prop:=∀{path:List Nat}{H₀ Hf₀ Hf:Hp}{S:AS}{σ:St}{H:Hp}{Fs:List (List Addr)}{o:Jn},pJ K H₀ Hf₀ Hf S σ H Fs->Xb x i path S σ H->m path S=some o->∀D:zy,D1 K H₀ Hf₀ Hf D o->t D σ H
def Q4(x i:Nat) (pf:MP) (m:List Nat->MS):MS:=λS=>(pf S).bind λy=>(qM y.2 i).bind λavs=>(pU (.ow avs) y.1).bind λ_=>tR (x≠i/\x<y.2.length) (m y.1 (y.2.set x none))
theorem Sv{x i:Nat}{te:TE}{pf:MP}{t:TS}{m:List Nat->MS}(hp:Vh K i te pf) (hm:O4 K x i t m):SS K (O3 (HB te (sP x)) t) (Q4 x i pf m):=by
 intro H₀ Hf₀ Hf S σ H Fs o R e D h;obtain⟨y,e1,e⟩:=oBq.mp e;obtain⟨avs,e2,e⟩:=oBq.mp e;obtain⟨as,e3,e⟩:=oBq.mp e;rcases oK e with ⟨⟨hne,hlt⟩,e⟩|e
 .refine hp R (path:=y.1) (S':=y.2) e1 _ λHf1 H1 Fs1 v w t1 R1 s1 a1=>?_
  obtain⟨p,vs,rfl,h1,h2⟩:=Ai R1 (qc e2) s1 e3 a1;have R2:=(R1.kill x).any (V.ref p);refine hm R2 ⟨v,p,avs,as,?_,e3,?_,?_,a1⟩ e D (h.mono t1.sf)
  .rw [aA hne];exact qc e2
  .exact aH (by rw[←R1.len];exact hlt)
  .rw [aA hne];exact s1
 .cases e
theorem Rw{x i:Nat}{t:TS}{m:MS}(h:SS K t m):O4 K x i t (λ_=>m):=λR _ e D o=>h R e D o
theorem Te{x i:Nat}{t u:TS}{a:List Nat->MS}{b:MS}(ha:O4 K x i t a) (hb:SS K u b):O4 K x i (O3 t u) (λpath=>oy (a path) b):=by
 intro path H₀ Hf₀ Hf S σ H Fs o R A e D h;obtain⟨y,e1,e⟩:=oBq.mp e;refine ha R A e1 _ ?_;cases y with
 |nx S'=>exact λHf' σ' H' Fs' s R'=>hb R' e D (h.mono s)
 |rt a=>cases e;exact h
 |bk a=>cases e;exact h
 |ct a=>cases e;exact h
def GU(i:Nat) (c:MT) (a b:List Nat->MS):List Nat->MS:=λpath S=>(c S).bind λy=>(qM y.2 i).bind λavs=>(pU (.ow avs) path).bind λ_=>if y.1=true then a path y.2 else b path y.2
theorem OA{x i:Nat}{c:TT}{m:MT}{t u:TS}{a b:List Nat->MS}(hc:Fv K c m) (ha:O4 K x i t a) (hb:O4 K x i u b):O4 K x i (Ri c t u) (GU i m a b):=by
 intro path H₀ Hf₀ Hf S σ H Fs o R A e D h;obtain⟨y,e1,e⟩:=oBq.mp e;obtain⟨avs,e2,e⟩:=oBq.mp e;obtain⟨as,e3,e⟩:=oBq.mp e;obtain⟨v,p,_,_,_,_,s2,s1,at0⟩:=A;refine hc R (b:=y.1) (S':=y.2) e1 _ λHf1 H1 Fs1 t1 R1=>?_
 have A1:Xb x i path y.2 σ H1:=⟨v,p,avs,as,qc e2,e3,s2,s1,at0.same t1.sh⟩;split at e
 .rename_i hx;rw[hx];exact Ij (ha R1 A1 e D (h.mono t1.sf))
 .rename_i hx;rw[cM]at hx;rw[hx];exact HR (hb R1 A1 e D (h.mono t1.sf))
def Jx(i:Nat) (k:MK):List Nat->MS:=λpath S=>(k S).bind λy=>(qM y.2 i).bind λavs=>(pU (.ow avs) path).bind λas=>tR (as.length<qU) (some (.nx (y.2.set i (some (putAt (.ow avs) path (as++[y.1]))))))
theorem Tr{x i:Nat}{te:TE}{k:MK}(hk:SK K te k):O4 K x i (A3 (QL K "list" Ab (yN x) (rY te vI))) (Jx i k):=by
 intro path H₀ Hf₀ Hf S σ H Fs o R A e D h;obtain⟨y,e4,e⟩:=oBq.mp e;obtain⟨avs,e5,e⟩:=oBq.mp e;obtain⟨as,e6,e⟩:=oBq.mp e;rcases oK e with ⟨hl,e⟩|e
 .cases e;obtain⟨v,p,a0,n0,e2,e3,s2,s1,at0⟩:=A;obtain⟨p',vs,hp,h1,h2⟩:=Ai R e2 s1 e3 at0;cases hp;refine⟨.ref p,s2,.inl ⟨rfl,vs,qw.of h1⟩,hk R (a:=y.1) (S':=y.2) e4 _ λHf2 H2 Fs2 u F t2 R2 r2 o2=>?_⟩
  obtain⟨vs',g1,g2,g3⟩:=R2.grow (qc e5) s1 e6 (at0.same t2.sh);obtain⟨Fs',R3⟩:=g3 [y.1] [u] [F] (pB.nil.snoc r2) (by rw[aX];exact o2.nd) (λq hq=>by rw[aX]at hq;exact⟨o2.fr q hq,o2.out q hq⟩)
  exact⟨p,vs',u,rfl,rfl,g1,by rw[vH,←g2];exact hl,h _ _ _ _ t2.sf R3⟩
 .cases e
def W4(i:Nat) (l:ML):List Nat->MS:=λpath S=>(l S).bind λy=>(qM y.2 i).bind λavs=>(pU (.ow avs) path).bind λas=>tR (as.length+y.1.length<=qU) (some (.nx (y.2.set i (some (putAt (.ow avs) path (as++y.1.map .sh))))))
def Er(i:Nat) (mm:ME):List Nat->MS:=λpath S=>(qM S i).bind λavs=>(pU (.ow avs) path).bind λas=>(mm (S.set i none)).bind λy=>tR (y.2[i]?=some none/\as.length<qU) (some (.nx (y.2.set i (some (putAt (.ow avs) path (as++[.sh y.1]))))))
theorem QZ{x i:Nat}{te:TE}{mm:ME}(hk:SM K te mm):O4 K x i (A3 (QL K "list" Ab (yN x) (rY te vI))) (Er i mm):=by
 intro path H₀ Hf₀ Hf S σ H Fs o R A e D h;obtain⟨avs,e2,e⟩:=oBq.mp e;obtain⟨as,e3,e⟩:=oBq.mp e;obtain⟨y,e4,e⟩:=oBq.mp e;rcases oK e with ⟨⟨hn,hl⟩,e⟩|e
 .cases e;obtain⟨v,p,a0,n0,_,_,s2,s1,at0⟩:=A;have e2':=qc e2;obtain⟨p',vs,hp,h1,h2⟩:=Ai R e2' s1 e3 at0;cases hp;obtain⟨v',F,t1,t2,r,nd,oo,_⟩:=R.move e2';rw[s1]at t1;cases t1;refine⟨.ref p,s2,.inl ⟨rfl,vs,qw.of h1⟩,hk (R.frame t2) (d:=y.1) (S':=y.2) e4 _ λHf2 H2 Fs2 u t3 R2 r2=>?_⟩
  obtain⟨k1,k2,R3⟩:=R.unframe t2 r nd (λq hq=>(oo q hq).1) R2 hn s1 t3
  have hlt:i<y.2.length:=(gSq.mp hn).1;have e5:(y.2.set i (some (.ow avs)))[i]?=some (some (.ow avs)):=aH hlt;obtain⟨vs',g1,g2,g3⟩:=R3.grow e5 s1 e3 (at0.kept r e3 k1);obtain⟨Fs',R4⟩:=g3 [.sh y.1] [u] [[]] (pB.nil.snoc (.sh r2)) (by simp) (λq hq=>by simp at hq)
  rw[eZ]at R4;exact⟨p,vs',u,rfl,rfl,g1,by rw[vH,←g2];exact hl,h _ _ _ _ t3 R4⟩
 .cases e
def So(K:W.Frag) (J:List Nat) (t:TS) (m:MS):Prop:=∀{H₀ Hf₀ Hf:Hp}{S:AS}{σ:St}{H:Hp}{Fs:List (List Addr)}{S':AS},pJ K H₀ Hf₀ Hf S σ H Fs->m S=some (.nx S')->∀D:zy,(∀Hf' σ' H' Fs',oM Hf Hf'->pJ K H₀ Hf₀ Hf' S' σ' H' Fs'->(∀j∈J,σ'[j]?=σ[j]?)->D.nx σ' H')->t D σ H
theorem Ox{J:List Nat}{t:TS}(h:∀D σ H,D.nx σ H->t D σ H):So K J t sr:=by
 intro H₀ Hf₀ Hf S σ H Fs S' R e D q;cases e;exact h _ _ _ (q _ _ _ _ (.refl _) R λ_ _=>rfl)
theorem Ko{J:List Nat}{y:Nat}{te:TE}{k:MK}(hk:SK K te k) (hJ:y∉J):So K J (HB te (sP y)) (pI y k):=by
 intro H₀ Hf₀ Hf S σ H Fs S' R e D q;obtain⟨x,e1,e⟩:=oMq.mp e;cases e;refine hk R (a:=x.1) (S':=x.2) e1 _ λHf1 H1 Fs1 v F t1 R1 r1 o1=>?_
 exact q _ _ _ _ t1.sf (R1.set y r1 o1.nd λq hq=>⟨o1.fr q hq,o1.out q hq⟩) λj hj=>aA (show y≠j from λz=>hJ (by rw[z];exact hj))
theorem OE{J:List Nat}{y:Nat}{te:TE}{m:ME}(hk:SM K te m) (hJ:y∉J):So K J (HB te (sP y)) (Dy y m):=by
 intro H₀ Hf₀ Hf S σ H Fs S' R e D q;obtain⟨x,e1,e⟩:=oMq.mp e;cases e;refine hk R (d:=x.1) (S':=x.2) e1 _ λHf1 H1 Fs1 v t1 R1 r1=>?_
 exact q _ _ _ _ t1 (R1.setD y r1) λj hj=>aA (show y≠j from λz=>hJ (by rw[z];exact hj))
theorem S7{J:List Nat}{c:TT}{m:MT}{t u:TS}{a b:MS}(hc:Fv K c m) (ha:So K J t a) (hb:So K J u b):So K J (Ri c t u) (Cj m a b):=by
 intro H₀ Hf₀ Hf S σ H Fs S' R e D q;obtain⟨x,e1,e⟩:=oBq.mp e;refine hc R (b:=x.1) (S':=x.2) e1 _ λHf1 H1 Fs1 t1 R1=>?_
 split at e
 .rename_i hx;rw[hx];exact Ij (ha R1 e D λHf' σ' H' Fs' s R' j=>q _ _ _ _ (t1.sf.trans s) R' j)
 .rename_i hx;rw[cM]at hx;rw[hx];exact HR (hb R1 e D λHf' σ' H' Fs' s R' j=>q _ _ _ _ (t1.sf.trans s) R' j)
def EE(i:Nat) (a:MS) (m:List Nat->MS):List Nat->MS:=λpath S=>(qM S i).bind λavs=>(a (S.set i none)).bind λo=>match o with
 | .nx S1=>tR (S1[i]?=some none) (m path (S1.set i (some (.ow avs))))
 |_=>none
theorem Je{x i:Nat}{t u:TS}{a:MS}{m:List Nat->MS}(ha:So K [x,i] t a) (hm:O4 K x i u m):O4 K x i (O3 t u) (EE i a m):=by
 intro path H₀ Hf₀ Hf S σ H Fs o R A e D h;obtain⟨avs,e2,e⟩:=oBq.mp e;obtain⟨oo,e3,e⟩:=oBq.mp e;cases oo with
 |nx S1 =>
  rcases oK (show tR (S1[i]?=some none) (m path (S1.set i (some (.ow avs))))=some o from e) with ⟨hn,e⟩|e
  .obtain ⟨v,p,a0,n0,e2',e4,s2,s1,at0⟩:=A;have e5:=qc e2;rw[e5]at e2';cases e2';obtain⟨v',F,t1,t2,r,nd,ow,_⟩:=R.move e5;rw[s1]at t1;cases t1;refine ha (R.frame t2) e3 _ λHf' σ' H' Fs' s R' hJ=>?_
   have j1:σ'[x]?=σ[x]?:=hJ x (by simp)
   have j2:σ'[i]?=σ[i]?:=hJ i (by simp)
   obtain⟨k1,k2,R3⟩:=R.unframe t2 r nd (λq hq=>(ow q hq).1) R' hn (j2.trans s1) s
   have hlt:i<S1.length:=(gSq.mp hn).1;exact hm R3 ⟨v,p,avs,n0,aH hlt,e4,j1.trans s2,j2.trans s1,at0.kept r e4 k1⟩ e D (h.mono s)
  .cases e
 |_=>cases e
end
theorem Vr(S:AS) (i:Nat):Mx i S=(qM S i).map λ_=>([],S):=rfl
theorem WM(S:AS) (i:Nat) (pf:MP) (b:ME):Vt i pf b S=(pf S).bind λx=>(b x.2).bind λy=>(intOf y.1).bind λj=>(qM y.2 i).bind λavs=>(pU (.ow avs) x.1).bind λas=>(Hb as.length j).map λn=>(x.1++[n],y.2):=rfl
theorem UL(S:AS) (x i:Nat) (pf:MP) (m:List Nat->MS):Q4 x i pf m S=(pf S).bind λy=>(qM y.2 i).bind λavs=>(pU (.ow avs) y.1).bind λ_=>tR (x≠i/\x<y.2.length) (m y.1 (y.2.set x none)):=rfl
theorem Vu(S:AS) (i:Nat) (c:MT) (a b:List Nat->MS) (path:List Nat):GU i c a b path S=(c S).bind λy=>(qM y.2 i).bind λavs=>(pU (.ow avs) path).bind λ_=>if y.1=true then a path y.2 else b path y.2:=rfl
theorem Sw(S:AS) (i:Nat) (k:MK) (path:List Nat):Jx i k path S=(k S).bind λy=>(qM y.2 i).bind λavs=>(pU (.ow avs) path).bind λas=>tR (as.length<qU) (some (.nx (y.2.set i (some (putAt (.ow avs) path (as++[y.1])))))):=rfl
theorem Rm(S:AS) (i:Nat) (mm:ME) (path:List Nat):Er i mm path S=(qM S i).bind λavs=>(pU (.ow avs) path).bind λas=>(mm (S.set i none)).bind λy=>tR (y.2[i]?=some none/\as.length<qU) (some (.nx (y.2.set i (some (putAt (.ow avs) path (as++[.sh y.1])))))):=rfl
def UH(i:Nat) (avs:List AV) (m:List Nat->MS) (path:List Nat):Jn->Option Jn
 | .nx S1=>tR (S1[i]?=some none) (m path (S1.set i (some (.ow avs))))
 |_=>none
theorem Uk(S:AS) (i:Nat) (a:MS) (m:List Nat->MS) (path:List Nat):EE i a m path S=(qM S i).bind λavs=>(a (S.set i none)).bind (UH i avs m path):=by
 unfold EE;congr 1
theorem Qw(i:Nat) (avs:List AV) (m:List Nat->MS) (path:List Nat) (S1:AS):UH i avs m path (.nx S1)=tR (S1[i]?=some none) (m path (S1.set i (some (.ow avs)))):=rfl
theorem IF(avs:List AV):pU (.ow avs) []=some avs:=rfl
theorem FE(avs:List AV) (j:Nat) (js:List Nat):pU (.ow avs) (j::js)=(avs[j]?).bind λa=>pU a js:=rfl
theorem Jf{avs:List AV}{j:Nat}{js:List Nat}{as:List AV}{a:AV}(h:avs[j]?=some a):putAt (.ow avs) (j::js) as = .ow (avs.set j (putAt a js as)):=by
 show (match avs[j]? with|some a=>_|none=>_)=_
 rw[h]
def Xw:=aa @Vr (aa @WM (aa @UL (aa @Vu (aa @Sw (aa @Rm (aa @Uk (aa @Qw @IF)))))))
section
variable {K:W.Frag}
def E7(m:ME):MS:=λS=>(m S).map λx=>.nx x.2
theorem My{te:TE}{m:ME}(h:SM K te m):SS K (A3 te) (E7 m):=by
 intro H₀ Hf₀ Hf S σ H Fs o R e D hd;obtain⟨x,e1,e⟩:=oMq.mp e;cases e;exact h R (d:=x.1) (S':=x.2) e1 _ λHf1 H1 Fs1 v t1 R1 r1=>hd _ _ _ _ t1 R1
def XU(i:Nat):MS:=λS=>(qM S i).map λavs=>.nx (S.set i (some (.ow avs.reverse)))
end
theorem Qu(S:AS) (m:ME):E7 m S=(m S).map λx=>.nx x.2:=rfl
def XF:=@Qu
end Z
namespace HT
open PySem PyProof.Rows
open PySem.SeqAt
open PySem.AutoSeq1 (wpAny_loadPart')
open PySem.MeetsSeq PySem.MeetsSeq2 PySem.MeetsSeq3
def oZ:List (List Int)->List (List Int)->Bool
 |_,[]=>false
 | [],_::_=>true
 |x::xs,y::ys=>if x=y then oZ xs ys else pR x y
def AG(h:Heap) (ps:List Addr) (rs:List (List Int)):Prop:=∀(i:Nat) (p:Addr) (r:List Int),ps[i]?=some p->rs[i]?=some r->∃vs:List Value,mE h p vs.toArray/\jA vs r
theorem Nl(r t:List Int):PyData.eqv (Mr.tH r) (Mr.tH t)=decide (r=t):=by
 rw[←same_eq_eqv _ _ (by simp[Mr.tH,SeqAt.noMix,W.noMix_ints r t])]
 simp[Mr.tH,PySem.Spec.same,W.same_ints r t]
theorem Np{h:Heap}{ps:List Addr}{rs:List (List Int)}(hr:AG h ps rs) {items:Array Value}(hi:items.toList=ps.map ai) (hl:ps.length=rs.length) {i:Nat}(h1:i<items.size):∃p r vs,items[i]?=some (.ref p)/\rs.drop i=r::rs.drop (i+1)/\mE h p vs.toArray/\jA vs r:=by
 have z:ps.length=items.size:=by
  have:=congrArg bb hi;rw[lMq,bf]at this;exact this.symm
 obtain⟨p,hp⟩:∃p,ps[i]?=some p:=⟨_,gEg (by lia)⟩
 obtain⟨r,hr'⟩:∃r,rs[i]?=some r:=⟨_,gEg (by lia)⟩
 obtain⟨vs,a,b⟩:=hr i p r hp hr';refine⟨p,r,vs,?_,?_,a,b⟩
 .rw [←cP,hi,gMq,hp];rfl
 .obtain ⟨hlt,e⟩:=gSq.mp hr';rw[aw hlt,e]
theorem Dh(l b:Addr) (items items2:Array Value) (n n2:Nat) (dd dd2:Option Addr) (sl sl2:Array (Option Value)) (ps qs:List Addr) (rs ts:List (List Int)) (hi:items.toList=ps.map ai) (hj:items2.toList=qs.map ai) (lr:ps.length=rs.length) (ls:qs.length=ts.length) (k:Nat) :
  ∀i:Nat,min items.size items2.size-i=k->i<=items.size->i<=items2.size->Meets (Builtin.«list.__eq__.loop» ⟨[.ref l,.ref b,kR i,kR 0],[]⟩)
   (λA R s=>A.units+32<jw/\AG s.heap ps rs/\AG s.heap qs ts/\s.heap.get? l=some { cls:=.type "list", dict:=dd,data:=.seq items n,slots:=sl }/\s.heap.get? b=some { cls:=.type "list", dict:=dd2,data:=.seq items2 n2,slots:=sl2 } /\
    R (.ok (.ret (.bool (oZ (rs.drop i) (ts.drop i))))) s):=by
 have z1:rs.length=items.size:=by
  have:=congrArg bb hi;rw[lMq,bf]at this;lia
 have z2:ts.length=items2.size:=by
  have:=congrArg bb hj;rw[lMq,bf]at this;lia
 induction k with
 |zero =>
  intro i hk h1 h2 prog w A R s h;obtain⟨hp,g,d,tk,os⟩:=s;obtain⟨hu,ra,rb,hl,hb,h⟩:=h
  wp_walk using wpAny_loadPart' hl,wpAny_loadPart' hb
  have fin:oZ (rs.drop i) (ts.drop i)=decide (items.size<items2.size):=by
   by_cases c:i=items.size
   .have e1:rs.drop i=[]:=bw (by lia)
    rw[e1]
    by_cases c2:i<items2.size
    .rw [aw (by lia:i<ts.length)]
     exact(decide_eq_true (by lia)).symm
    .rw [bw (by lia:ts.length<=i)]
     exact(decide_eq_false (by lia)).symm
   .have c2:i=items2.size:=by lia
    rw[bw (by lia:ts.length<=i)]
    have e0:oZ (rs.drop i) []=false:=by cases rs.drop i <;> rfl
    rw[e0];exact(decide_eq_false (by lia)).symm
  rw[fin]at h
  by_cases c:i=items.size
  .have hi1:items[((i:Nat):Int).toNat]?=none:=by simp;lia
   rw[hi1]
   wp_walk using wpAny_loadPart' hl,wpAny_loadPart' hb
   exact h
  .have c2:i=items2.size:=by lia
   have hi1:items[((i:Nat):Int).toNat]?=some (items[i]'(by lia)):=by simp
   have hi2:items2[((i:Nat):Int).toNat]?=none:=by simp;lia
   rw[hi1,hi2]
   wp_walk using wpAny_loadPart' hl,wpAny_loadPart' hb
   exact h
 |succ k ih =>
  intro i hk h1 h2 prog w A R s h;obtain⟨hp,g,d,tk,os⟩:=s;obtain⟨hu,ra,rb,hl,hb,h⟩:=h
  wp_walk using wpAny_loadPart' hl,wpAny_loadPart' hb
  have hlt:i<items.size:=by lia
  have hlt2:i<items2.size:=by lia
  obtain⟨p,x,vs,ex,dx,px,ix⟩:=Np ra hi lr hlt;obtain⟨q,y,ws,ey,dy,py,iy⟩:=Np rb hj ls hlt2;have hi1:items[((i:Nat):Int).toNat]?=some (.ref p):=by
   rw[←ex];simp
  have hi2:items2[((i:Nat):Int).toNat]?=some (.ref q):=by
   rw[←ey];simp
  have hc:((i:Int)+1)=((i+1:Nat):Int):=by push_cast;rfl
  rw[dx,dy,oZ]at h;rw[hi1,hi2];have he:SeqAt.EqAt A.in1 ⟨hp,g,d,tk,os⟩ (.ref p) (.ref q) (decide (x=y)):=by
   rw[←Nl];refine eqAt_reads (Mr.tH x) (Mr.tH y) A.in1 ⟨hp,g,d,tk,os⟩ (.ref p) (.ref q) [p] [q] (W.reads_of_ints px.isList ix) (W.reads_of_ints py.isList iy) (by simp[Mr.tH,PyData.canLay0,W.canLayAll0_ints x]) (by simp[Mr.tH,PyData.canLay0,W.canLayAll0_ints y]) ?_
   have d1:=W.depthAll_ints x;have:(Mr.tH x).depth<=2:=by simp only[Mr.tH,PyData.depth];lia
   show A.units+1+_<jw;lia
  refine jc (he prog w _ _ ?_)
  by_cases e:x=y
  .rw [oQ e]at h;rw[decide_eq_true e]
   wp_walk
   rw[hc];exact⟨jC plain_eq_loop _,jz entry_eq_loop (by
    rw[Around.under_plainId plain_eq_loop _];exact ih (i+1) (by lia) (by lia) (by lia) prog w A R _ ⟨hu,ra,rb,hl,hb,h⟩)⟩
  .rw [oT e]at h;rw[decide_eq_false e];obtain⟨⟨cls,dd3,data,sl3⟩,n3,ho,hc3,hd03,hd3⟩:=px;obtain⟨⟨cls4,dd4,data4,sl4⟩,n4,ho4,hc4,hd04,hd4⟩:=py;simp only at hc3 hd03 hd3 hc4 hd04 hd4;subst hc3 hd03 hd3 hc4 hd04 hd4;have hri:∀(E:Value->Shared->Prop) (Q:Value->Shared->Prop),Q (.bool (pR x y)) ⟨hp,g,d,tk,os⟩->jd (jf prog w) A.in1 (kB .Lt (.ref p) (.ref q)) Q E ⟨hp,g,d,tk,os⟩:=λE Q z =>
    wpAny_richCompare_same_room (op:=.Lt) (T := "list") ⟨_,ho,rfl⟩ ⟨_,ho4,rfl⟩ gq (kf gq ⟨_,ho,rfl⟩ PySem.F.entry_list_lt (PySem.F.args_list_lt_2 _ _) (Aq p q vs.toArray ws.toArray n3 n4 none none sl3 sl4 x y (by simpa using ix) (by simpa using iy)) ⟨ho,ho4,(show gB (pR x y)≠gn/\_ from ⟨λq=>(by cases q),z⟩)⟩) (by show A.units+1<jw;lia)
   wp_walk using wpAny_loadPart' hl,wpAny_loadPart' hb
   rw[hi1,hi2]
   wp_walk using hri
   exact h
theorem Oq(l b:Addr) (items items2:Array Value) (n n2:Nat) (dd dd2:Option Addr) (sl sl2:Array (Option Value)) (ps qs:List Addr) (rs ts:List (List Int)) (hi:items.toList=ps.map ai) (hj:items2.toList=qs.map ai) (lr:ps.length=rs.length) (ls:qs.length=ts.length) :
  Meets (Builtin.«list.__lt__» ⟨[.ref l,.ref b],[]⟩)
   (λA R s=>A.units+32<jw/\AG s.heap ps rs/\AG s.heap qs ts/\s.heap.get? l=some { cls:=.type "list", dict:=dd,data:=.seq items n,slots:=sl }/\s.heap.get? b=some { cls:=.type "list", dict:=dd2,data:=.seq items2 n2,slots:=sl2 } /\
    R (.ok (.ret (.bool (oZ rs ts)))) s):=by
 intro prog w A R s h;obtain⟨hp,g,d,tk,os⟩:=s;obtain⟨hu,ra,rb,hl,hb,h⟩:=h;have f3:=AutoSeq1.sub_list_list
 wp_walk using wpAny_loadPart' hl,wpAny_loadPart' hb
 exact⟨jC plain_eq_loop _,jz entry_eq_loop (by
  rw[Around.under_plainId plain_eq_loop _];exact Dh l b items items2 n n2 dd dd2 sl sl2 ps qs rs ts hi hj lr ls _ 0 rfl (aG _) (aG _) prog w A R _ ⟨hu,ra,rb,hl,hb,h⟩)⟩
theorem uI:∀xs:List (List Int),oZ xs xs=false
 | []=>rfl
 |x::xs=>by rw[oZ,oQ rfl];exact uI xs
theorem tL:∀xs ys:List (List Int),oZ xs ys=true->oZ ys xs=false
 |xs,[],h=>by cases xs <;> cases h
 | [],y::ys,_=>rfl
 |x::xs,y::ys,h=>by
  rw[oZ]at h ⊢
  by_cases e:x=y
  .rw [oQ e]at h;rw[oQ e.symm];exact tL xs ys h
  .rw [oT e]at h;rw[oT (λq=>e q.symm)]
   exact Mr.xP _ _ h
theorem sN:∀xs ys:List (List Int),oZ xs ys=false->oZ ys xs=false->xs=ys
 | [],[],_,_=>rfl
 | [],y::ys,h,_=>by cases h
 |x::xs,[],_,h=>by cases h
 |x::xs,y::ys,h1,h2=>by
  rw[oZ]at h1 h2
  by_cases e:x=y
  .rw [oQ e]at h1;rw[oQ e.symm]at h2;rw[e,sN xs ys h1 h2]
  .rw [oT e]at h1;rw[oT (λq=>e q.symm)]at h2
   exact absurd (Mr.zW _ _ h1 h2) e
theorem qS:∀xs ys zs:List (List Int),oZ ys xs=false->oZ zs ys=false->oZ zs xs=false
 | [],ys,zs,_,_=>by cases zs <;> rfl
 |x::xs,[],zs,h1,_=>by cases h1
 |x::xs,y::ys,[],_,h2=>by cases h2
 |x::xs,y::ys,z::zs,h1,h2=>by
  rw[oZ]at h1 h2 ⊢
  by_cases e1:y=x
  .rw [oQ e1]at h1
   by_cases e2:z=y
   .rw [oQ e2]at h2;rw[oQ (e2.trans e1)];exact qS xs ys zs h1 h2
   .rw [oT e2]at h2;rw[oT (by rw[←e1];exact e2),←e1]
    exact h2
  .rw [oT e1]at h1
   by_cases e2:z=y
   .rw [oT (by rw[e2];exact e1),e2]
    exact h1
   .rw [oT e2]at h2
    by_cases e3:z=x
    .rw [e3]at h2;exact absurd (Mr.zW _ _ h1 h2) e1
    .rw [oT e3];exact Mr.wK _ _ _ h1 h2
end HT
namespace Mr
open PySem PySem.Spec PyProof.Rows L2
def O9(x y:List (List Int)):Bool:=!HT.oZ y x
def ug(ms:List (List (List Int))):List (List (List Int)):=ms.mergeSort O9
theorem AL(ms:List (List (List Int))):(ug ms).Perm ms:=fe _ _
theorem Lk(x y z:List (List Int)) (h1:O9 x y=true) (h2:O9 y z=true):O9 x z=true:=by
 unfold O9 at *;rw[eg]at *;exact HT.qS _ _ _ h1 h2
theorem LP(x y:List (List Int)):(O9 x y || O9 y x)=true:=by
 unfold O9;cases h:HT.oZ y x with
 |false=>rfl
 |true=>rw[HT.tL _ _ h];rfl
theorem yq(ms:List (List (List Int))):(ug ms).Pairwise (λx y=>HT.oZ y x=false):=by
 have:=dX (le:=O9) (λa b c=>Lk a b c) (λa b=>LP a b) ms
 exact this.imp λh=>by unfold O9 at h;rwa [eg]at h
theorem Ad{xs ms:List (List (List Int))}(hp:xs.Perm ms) (h:xs.Pairwise (λx y=>HT.oZ y x=false)):xs=ug ms :=
 dr.eq_of_pairwise (λa b _ _ e1 e2=>HT.sN a b e2 e1) h (yq ms) (hp.trans (AL ms).symm)
def yO(H:Hp) (p:Addr) (m:List (List Int)):Prop:=∃qs,H p=some (.lst (qs.map V.ref))/\qE H qs m
def mapOf(H:Hp) (p:Addr):List (List Int):=match H p with
 |some (.lst vs)=>vs.map λv=>match v with|.ref q=>ye H q|_=>[]
 |_=>[]
theorem yO.eq{H:Hp}{p:Addr}{m:List (List Int)}(h:yO H p m):mapOf H p=m:=by
 obtain⟨qs,h1,h2⟩:=h;unfold mapOf;rw[h1];show (qs.map V.ref).map _=m;rw[mPq,h2.fn];rfl
theorem yO.same{H H':Hp}{p:Addr}{m:List (List Int)}(h:yO H p m) (s:oM H H'):yO H' p m:=by
 obtain⟨qs,h1,h2⟩:=h;exact⟨qs,s _ _ h1,h2.same s⟩
def Kz(H:Hp) (ps:List Addr) (ms:List (List (List Int))):Prop:=ms=ps.map (mapOf H)/\∀p∈ps,yO H p (mapOf H p)
def U7(r:Addr->List (List Int)) (x y:je):Bool:=match x.1,y.1 with
 | .ref p,.ref q=>HT.oZ (r p) (r q)
 |_,_=>false
def DE(h:Heap) (p:Addr) (m:List (List Int)):Prop:=∃qs:List Addr,mE h p (qs.map ai).toArray/\HT.AG h qs m/\qs.length=m.length
theorem Wx{prog:jj}{w:jo}{A:Around}{s:Shared}{ps:List Addr}{r:Addr->List (List Int)}(hu:A.units+40<jw)
  (h:∀p∈ps,DE s.heap p (r p)):MrS.xh prog w A s km (λx=>∃p,x.1 = .ref p/\p∈ps) (U7 r) where
 ask:=by
  rintro⟨_,x⟩ ⟨_,y⟩ ⟨p,e1,hp⟩ ⟨q,e2,hq⟩ E Q k;dsimp only at e1 e2;subst e1 e2;obtain⟨us,⟨o,n,ho,hc,hd0,hd⟩,hi,li⟩:=h p hp;obtain⟨ws,⟨o2,n2,ho2,hc2,hd02,hd2⟩,hj,lj⟩:=h q hq;obtain⟨cls,dd,data,sl⟩:=o;obtain⟨cls2,dd2,data2,sl2⟩:=o2;simp only at hc hd0 hd hc2 hd02 hd2;subst hc hd0 hd hc2 hd02 hd2;rw[kZ,oneLt'_eq];simp only[if_true];refine jc (wpAny_cRoomFor (by lia) ?_)
  refine jc (kL ⟨_,ho,rfl⟩ F.slot_list_lt (kf F.slot_list_lt ⟨_,ho,rfl⟩ F.entry_list_lt (F.args_list_lt_2 _ _)
   (HT.Oq p q _ _ n n2 none none sl sl2 us ws (r p) (r q) (by simp) (by simp) li lj) ⟨?_,hi,hj,ho,ho2,?_⟩))
  .first
    | (show A.units+32<jw;lia)
    | (show A.units+1+32<jw;lia)
    | (show A.units+1+1+32<jw;lia)
  .exact jN k
 asym:=by
  rintro⟨_,x⟩ ⟨_,y⟩ ⟨a,e1,_⟩ ⟨b,e2,_⟩ h;dsimp only at e1 e2;subst e1 e2;exact HT.tL _ _ h
 trans:=by
  rintro⟨_,x⟩ ⟨_,y⟩ ⟨_,z⟩ ⟨a,e1,_⟩ ⟨b,e2,_⟩ ⟨c,e3,_⟩ h1 h2;dsimp only at e1 e2 e3;subst e1 e2 e3;exact HT.qS _ _ _ h1 h2
section
variable {X:Cx}
theorem TK{nF:List (Addr×Obj)}{σ:St}{H:Hp}{s:Shared}(I:Inv X nF σ H s) {p:Addr}{m:List (List Int)}(h:yO H p m):DE s.heap p m:=by
 obtain⟨qs,h1,h2⟩:=h;obtain⟨its,rv,pl,_⟩:=I.list (qw.of h1);have ei:=rh rv;subst ei;refine⟨qs,pl,λi q r hq hr=>?_,h2.length⟩
 obtain⟨r',e1,e2⟩:=h2.get hq;rw[hr]at e1;cases e1;obtain⟨its,rv,pl,_⟩:=I.list (qw.of e2);exact⟨its,pl,uh rv⟩
theorem DE.keep{h h':Heap}(k:∀b o,h.get? b=some o->h'.get? b=some o) {p:Addr}{m:List (List Int)}(x:DE h p m):DE h' p m:=by
 obtain⟨qs,⟨o,n,ho,sH⟩,hr,hl⟩:=x;refine⟨qs,⟨o,n,k _ _ ho,sH⟩,λi q r hq hr'=>?_,hl⟩
 obtain⟨vs,⟨o2,n2,ho2,rest2⟩,hi⟩:=hr i q r hq hr';exact⟨vs,⟨o2,n2,k _ _ ho2,rest2⟩,hi⟩
theorem EC(hu:X.A.units+64<jw):vM X (.builtin "sorted") (λxs H Q=>∃(a:Addr) (ps:List Addr) (ms:List (List (List Int))),xs=[.ref a]/\ps.length<64/\qw X.K H a (ps.map V.ref)/\Kz H ps ms /\
  ∀(p:Addr) (qs:List Addr),H p=none->qs.Perm ps->qs.map (mapOf H)=ug ms->Q (.ref p) (qr H p (.lst (qs.map V.ref)))):=by
 intro nF s σ H xs us Q I r h;obtain⟨a,ps,ms,rfl,hf,hS,⟨hm,hE⟩,q⟩:=h;obtain⟨u,rfl,ru⟩:=uy r;cases ru;obtain⟨its,rv,hl,hz⟩:=I.list hS;have ei:=rh rv;subst ei;have keepL:∀(s':Shared),(∀b o,s.heap.get? b=some o->s'.heap.get? b=some o)->∀p∈ps,DE s'.heap p (mapOf H p):=λs' k p hp=>(TK I (hE p hp)).keep k
 refine MrS.zc (Pk:=λx=>∃p,x.1 = .ref p/\p∈ps) (lt:=U7 (mapOf H)) hl.isList (by simpa using hf) (λs' k=>⟨λh2 Q q=>?_,Wx (by show X.A.units+1+1+40<jw;lia) (keepL s' k)⟩) (λv m=>?_) λout h' n' o1 o2 o3 o4=>?_
 .refine JV (T := "list") h2 (λv hv=>?_) (by rfl) (by rfl) q
  obtain⟨p,hp,rfl⟩:=mMq.mp hv;obtain⟨vs,pl,_⟩:=keepL s' k p hp;intro A Q E s2 k2 q2;obtain⟨o,ho,hc,_⟩:=pl.isList;exact ko (T := "list") ⟨o,k2 _ _ ho,hc⟩ q2
 .obtain ⟨p,hp,rfl⟩:=mMq.mp m;exact⟨p,rfl,hp⟩
 .have ho:∀v∈out,∃p∈ps,v = .ref p:=λv m=>by
   obtain⟨p,hp,rfl⟩:=mMq.mp (o1.mem_iff.mp m);exact⟨p,hp,rfl⟩
  have eo:out=(out.map pE).map ai:=by
   rw[mPq];have e:=mCq (l:=out) (f:=id) (g:=ai∘pE) λv hv=>by
    obtain⟨p,_,rfl⟩:=ho v hv;rfl
   rw[←e,bV]
  have hq:(out.map pE).Perm ps:=by
   have:=o1.map pE;rw[mPq,show pE∘ai=id from rfl,bV]at this
   exact this
  have hp:H (s.heap.objs.size+1)=none:=I.hok.fresh (aT _);generalize out.map pE=qs at eo hq;have es:qs.map (mapOf H)=ug ms:=by
   refine Ad (by rw[hm];exact hq.map _) ?_
   rw[aJ];rw[eo,aJ]at o2;exact o2
  refine⟨.ref (s.heap.objs.size+1),_,I.laid (t':=s.toks) o3 (aT _) (show qp X.prog X.w _ h' _ (.lst (qs.map V.ref)) from ⟨?_,out,n',?_,o4⟩),rfl,q _ qs hp hq es⟩
  .rw [lMq,hq.length_eq];simpa using hz
  .rw [eo];exact tO qs
end
end Mr
namespace Z
open PySem L2 Mr
def Wo:D->Option (List (List Int))
 | .list ds=>qA ds
 |_=>none
def CK:List D->Option (List (List (List Int)))
 | []=>some []
 |d::ds=>(Wo d).bind λm=>(CK ds).map (m :: ·)
theorem BO:∀ms:List (List (List Int)),CK (ms.map dM)=some ms
 | []=>rfl
 |m::ms=>by
  show (qA (m.map dI)).bind _=_;rw[qz,bE,BO ms];rfl
theorem Dt:∀{ds:List D}{ms:List (List (List Int))},CK ds=some ms->ds=ms.map dM
 | [],ms,h=>by cases h;rfl
 |d::ds,ms,h=>by
  obtain⟨m,h1,h⟩:=oBq.mp h;obtain⟨r,h2,h⟩:=oMq.mp h;cases h;cases d with
  |list es =>
   rw[Dt h2,DR (show qA es=some m from h1)]
   rfl
  |_=>cases h1
def IK(l:ML):MK:=λS=>(l S).bind λx=>(CK x.1).bind λms=>tR (ms.length<64) (some (.ow ((ug ms).map λm=>.sh (dM m)),x.2))
theorem Qp(l:ML) (S:AS):IK l S=(l S).bind λx=>(CK x.1).bind λms=>tR (ms.length<64) (some (.ow ((ug ms).map λm=>.sh (dM m)),x.2)):=rfl
section
variable {K:W.Frag}{te:TE}{l:ML}
theorem za{H:Hp}:∀{ms:List (List (List Int))}{vs:List V},oH K H (ms.map dM) vs->∃ps,vs=ps.map V.ref/\Kz H ps ms
 | [],vs,h=>⟨[],h.nil_inv,rfl,λp hp=>by cases hp⟩
 |m::ms,vs,h=>by
  obtain⟨v,ws,rfl,h1,h2⟩:=h.cons_inv;obtain⟨ps,rfl,e1,e2⟩:=za h2;obtain⟨p,us,rfl,g1,g2⟩:=h1.list_inv;obtain⟨qs,rfl,g3⟩:=yZ g2;have im:yO H p m:=⟨qs,g1,g3⟩;refine⟨p::ps,rfl,by rw[ar,im.eq,e1],λq hq=>?_⟩
  rcases ah.mp hq with z|z
  .rw [z,im.eq];exact im
  .exact e2 q z
theorem DQ{H:Hp}:∀{ps:List Addr},(∀p∈ps,yO H p (mapOf H p))->oH K H ((ps.map (mapOf H)).map dM) (ps.map V.ref)
 | [],_=>oH.nil
 |p::ps,h=>by
  obtain⟨qs,g1,g2⟩:=h p (aj ..);exact oH.cons (qd.mk_list g1 (Du g2)) (DQ λq hq=>h q (mCo _ hq))
theorem OH(hl:SQ K te l):SK K (JY (λxs H Q=>∃(a:Addr) (ps:List Addr) (ms:List (List (List Int))),xs=[.ref a]/\ps.length<64/\qw K H a (ps.map V.ref)/\Kz H ps ms /\
  ∀(p:Addr) (qs:List Addr),H p=none->qs.Perm ps->qs.map (mapOf H)=ug ms->Q (.ref p) (qr H p (.lst (qs.map V.ref)))) (rY te vI)) (IK l):=by
 intro H₀ Hf₀ Hf S σ H Fs av S' R e Q q;obtain⟨x,e1,e⟩:=oBq.mp e;obtain⟨ms,e2,e⟩:=oBq.mp e;rcases oK e with ⟨hf,e⟩|e
 rotate_left
 .cases e
 cases e;refine hl R (ds:=x.1) (S':=x.2) e1 _ λHf1 H1 Fs1 p1 vs1 t1 R1 h1 r1=>?_
 rw[Dt e2]at r1;obtain⟨ps,rfl,hm,hE⟩:=za r1;have hsame:∀p∈ps,mapOf H1 p=mapOf Hf1 p:=λp hp=>((hE p hp).same R1.sub).eq
 have hE1:Kz H1 ps ms:=⟨by rw[hm];exact mCq λp hp=>(hsame p hp).symm,λp hp=>by rw[hsame p hp];exact(hE p hp).same R1.sub⟩
 refine⟨p1,ps,ms,rfl,by rw[hm,lMq]at hf;exact hf,h1,hE1,λp qs hp hq es=>?_⟩
 obtain⟨t4,R4,n1,n2,n3⟩:=R1.new (o:=.lst (qs.map V.ref)) hp;have hq2:∀b∈qs,yO Hf1 b (mapOf Hf1 b):=λb hb=>hE b (hq.mem_iff.mp hb)
 have es2:qs.map (mapOf Hf1)=ug ms:=by rw[←es];exact mCq λb hb=>(hsame b (hq.mem_iff.mp hb)).symm
 have e3:(ug ms).map (λm=>AV.sh (dM m))=((ug ms).map dM).map AV.sh:=by rw[mPq];rfl
 rw[e3]at q;refine q _ _ _ (.ref p) [p] (t1.trans t4) R4 (oR.new oz n1 ?_) ((wx.one R1 hp).back t1);rw[←es2];exact DQ hq2
end
end Z
namespace Mr
open PySem L2
open PySem.Spec PyProof.Rows
section
variable {X:Cx}
def Hs(ns:List Int):Prop:=(∀n∈ns,0<=n/\n<=1000000)/\ns.length<=1000000
theorem Mj:∀{ns:List Int}{k:Int},(∀n∈ns,0<=n/\n<=k)->0<=ns.sum/\ns.sum<=k*ns.length
 | [],k,_=>by simp
 |n::ns,k,h=>by
  have h1:=h n (by simp)
  have h2:=Mj (ns:=ns) (k:=k) λm hm=>h m (mCo _ hm)
  have e:k*((ns.length:Int)+1)=k*ns.length+k:=by rw[Int.mul_add,eD]
  rw[iU,lCq,show ((ns.length+1:Nat):Int)=(ns.length:Int)+1 by lia,e]
  lia
theorem LI(hc:X.calm=true):vM X (.builtin "sum") (λxs H Q=>∃(a:Addr) (ns:List Int),xs=[.ref a]/\qw X.K H a (ns.map V.int)/\Hs ns/\Q (.int ns.sum) H):=by
 intro nF s σ H xs us Q I r h;obtain⟨a,ns,rfl,hS,⟨hb,hL⟩,q⟩:=h;obtain⟨u,rfl,ru⟩:=uy r;cases ru;obtain⟨vs,hl,hi,_⟩:=Ce I hS;obtain⟨xs,e⟩:=hi.allInts.items;have hns:ns=xs.toList.map (·.1):=by
  rw[←hi.numsOf,←nums_intItems,←e]
 have hz:xs.size=ns.length:=by rw[hns,lMq,bf]
 rw[e]at hl;have hp:∀j,0<=preSum (numAt xs) j/\preSum (numAt xs) j<=1000000*1000000:=λj=>by
  rw[preSum_eq,←hns];have h1:=Mj (ns:=ns.take j) (k:=1000000) λm hm=>hb m (cY hm)
  have h2:(ns.take j).length<=ns.length:=by rw[lTq];lia
  refine⟨h1.1,?_⟩;have:((ns.take j).length:Int)<=1000000:=by lia
  lia
 refine sum_intList (I.ok.hd hc) hl (λj hj=>⟨?_,?_⟩) λh' tk t' hk=>?_
 .rw [numAt_eq,←hns];have:=hb _ (PySem.getD_mem (by rw[←hz];exact hj):ns.getD j 0∈ns)
  unfold InLong;lia
 .have:=hp (j+1);unfold InLong;lia
 .refine ⟨.int _,H,I.kept hk,⟨t',rfl⟩,?_⟩;rw[preSum_eq,←hns,hz,bA];exact q
end
end Mr
namespace Z
open PySem L2 Mr Xe
def QK(f:D->D->Option D) (m b:ME):ME:=λS=>(m S).bind λx=>(b x.2).bind λy=>(f x.1 y.1).bind λd=>if d.scal then some (d,y.2) else none
def QF(i:Nat) (g:Int->Int->Int) (b:ME):MS:=λS=>(nN i S).bind λx=>(intOf x.1).bind λa=>(b x.2).bind λy=>(intOf y.1).map λc=>.nx (y.2.set i (some (.sh (.int (g a c)))))
def Io(i:Nat) (pf:MP) (mm:ME):MS:=λS=>(pf S).bind λx=>(qM x.2 i).bind λavs=>(pU (.ow avs) x.1).bind λas=>(mm (x.2.set i none)).bind λy=>tR (y.2[i]?=some none/\as.length<qU) (some (.nx (y.2.set i (some (putAt (.ow avs) x.1 (as++[.sh y.1]))))))
def WU(g:MF) (f:Xs) (a:MA):MX:=λS=>(a S).bind λx=>(f (x.1.map nW)).bind (UZ λr=>(g [nW r]).map λz=>.ok (.rt z))
def MW:List D->Option D
 | [.list ds]=>(qj ds).bind λns=>tR (Hs ns) (some (.int ns.sum))
 |_=>none
section
variable {K:W.Frag}
theorem GJ{d:D}{z:Int}(h:intOf d=some z):d = .int z:=by
 cases d <;> first|(cases h;rfl)|cases h
theorem Uh{r:R2}{f:D->D->Option D}{ta tb:TE}{m b:ME}(hr:Fu K r f) (ha:SM K ta m) (hb:SR K tb b):SM K (Pd r ta tb) (QK f m b):=by
 intro H₀ Hf₀ Hf S σ H Fs d S' R e Q q;obtain⟨x,e1,e⟩:=oBq.mp e;obtain⟨y,e2,e⟩:=oBq.mp e;obtain⟨z,e3,e⟩:=oBq.mp e;split at e
 .rename_i hs;cases e;refine ha R (d:=x.1) (S':=x.2) e1 _ λHf1 H1 Fs1 v1 t1 R1 r1=>hb R1 (d:=y.1) (S':=y.2) e2 _ λHf2 H2 Fs2 v2 t2 R2 r2=>?_
  exact hr ((r1.mono R1.sub).mono t2.sh) r2 e3 λv rv=>q _ _ _ v (t1.trans t2.sf) R2 (rv.scal hs)
 .cases e
theorem Ta{i:Nat}{g:Int->Int->Int}{te:TE}{b:ME}(hb:SR K te b):SS K (Vl i te (Ww g)) (QF i g b):=by
 intro H₀ Hf₀ Hf S σ H Fs o R e D hd;obtain⟨x,e1,e⟩:=oBq.mp e;obtain⟨a,e2,e⟩:=oBq.mp e;obtain⟨y,e3,e⟩:=oBq.mp e;obtain⟨c,e4,e⟩:=oMq.mp e;cases e;refine nK i R (d:=x.1) (S':=x.2) e1 (λv H1=>te σ H1 λw H2=>Ww g v w H2 λz H3=>D.nx (σ.set i (some z)) H3) λHf1 H1 Fs1 v t1 R1 r1=>?_
 refine hb R1 (d:=y.1) (S':=y.2) e3 _ λHf2 H2 Fs2 w t2 R2 r2=>?_
 rw[GJ e2]at r1;rw[GJ e4]at r2;cases r1;cases r2;exact⟨a,c,rfl,rfl,hd _ _ _ _ (t1.sf.trans t2.sf) (R2.setD i .int)⟩
theorem OJ{i:Nat}{tp te:TE}{pf:MP}{mm:ME}(hp:Vh K i tp pf) (hk:SM K te mm):SS K (A3 (QL K "list" Ab tp (rY te vI))) (Io i pf mm):=by
 intro H₀ Hf₀ Hf S σ H Fs o R e D h;obtain⟨x,e1,e⟩:=oBq.mp e;obtain⟨avs,e2,e⟩:=oBq.mp e;obtain⟨as,e3,e⟩:=oBq.mp e;obtain⟨y,e4,e⟩:=oBq.mp e;rcases oK e with ⟨⟨hn,hl⟩,e⟩|e
 .cases e;refine hp R (path:=x.1) (S':=x.2) e1 _ λHf1 H1 Fs1 v w t1 R1 s1 at0=>?_
  have e2':=qc e2;obtain⟨p,vs,rfl,h1,h2⟩:=Ai R1 e2' s1 e3 at0;obtain⟨v',F,u1,u2,r,nd,oo,_⟩:=R1.move e2';rw[s1]at u1;cases u1;refine⟨.inl ⟨rfl,vs,qw.of h1⟩,hk (R1.frame u2) (d:=y.1) (S':=y.2) e4 _ λHf2 H2 Fs2 u t3 R2 r2=>?_⟩
  obtain⟨k1,k2,R3⟩:=R1.unframe u2 r nd (λq hq=>(oo q hq).1) R2 hn s1 t3
  have hlt:i<y.2.length:=(gSq.mp hn).1;have e5:(y.2.set i (some (.ow avs)))[i]?=some (some (.ow avs)):=aH hlt;obtain⟨vs',g1,g2,g3⟩:=R3.grow e5 s1 e3 (at0.kept r e3 k1);obtain⟨Fs',R4⟩:=g3 [.sh y.1] [u] [[]] (pB.nil.snoc (.sh r2)) (by simp) (λq hq=>by simp at hq)
  rw[eZ]at R4;exact⟨p,vs',u,rfl,rfl,g1,by rw[vH,←g2];exact hl,h _ _ _ _ (t1.sf.trans t3) R4⟩
 .cases e
theorem TM:Vf K (λxs H Q=>∃(a:Addr) (ns:List Int),xs=[.ref a]/\qw K H a (ns.map V.int)/\Hs ns/\Q (.int ns.sum) H) MW:=by
 intro vs H Q ds d r e q;unfold MW at e;split at e
 .obtain ⟨v,ws,rfl,h1,h2⟩:=r.cons_inv;rw[h2.nil_inv];obtain⟨ns,e1,e⟩:=oBq.mp e;rcases oK e with ⟨hs,e⟩|e
  .cases e;rw[sM e1]at h1;obtain⟨p,us,rfl,h3,h4⟩:=h1.list_inv;rw[oU h4]at h3;exact⟨p,ns,rfl,qw.of h3,hs,q _ .int⟩
  .cases e
 .cases e
end
theorem UY(S:AS) (f:D->D->Option D) (m b:ME):QK f m b S=(m S).bind λx=>(b x.2).bind λy=>(f x.1 y.1).bind λd=>if d.scal then some (d,y.2) else none:=rfl
theorem Vd(S:AS) (i:Nat) (g:Int->Int->Int) (b:ME):QF i g b S=(nN i S).bind λx=>(intOf x.1).bind λa=>(b x.2).bind λy=>(intOf y.1).map λc=>.nx (y.2.set i (some (.sh (.int (g a c))))):=rfl
theorem Qn(S:AS) (i:Nat) (pf:MP) (mm:ME):Io i pf mm S=(pf S).bind λx=>(qM x.2 i).bind λavs=>(pU (.ow avs) x.1).bind λas=>(mm (x.2.set i none)).bind λy=>tR (y.2[i]?=some none/\as.length<qU) (some (.nx (y.2.set i (some (putAt (.ow avs) x.1 (as++[.sh y.1])))))):=rfl
theorem Lb(ns:List Int) (h:Hs ns):MW [.list (ns.map .int)]=some (.int ns.sum):=by
 show (qj (ns.map D.int)).bind (λns=>tR (Hs ns) (some (D.int ns.sum)))=_
 rw[qm,bE];exact uT h _
def XR:=aa @UY (aa @Vd @Qn)
def EM(l:ML):MK:=λS=>(l S).map λx=>(.sh (.tup x.1),x.2)
section
variable {K:W.Frag}
theorem FA{te:TE}{l:ML}(hl:SQ K te l):SK K (JY (λxs H Q=>∃p ys,xs=[.ref p]/\((qw K H p ys/\∀l,H l=none->Q (.ref l) (qr H l (.tup ys)))∨(As K H p ys/\Q (.ref p) H))) (rY te vI)) (EM l):=by
 intro H₀ Hf₀ Hf S σ H Fs av S' R e Q q;obtain⟨x,e1,e⟩:=oMq.mp e;cases e;refine hl R (ds:=x.1) (S':=x.2) e1 _ λHf1 H1 Fs1 p1 vs1 t1 R1 h1 r1=>⟨p1,vs1,rfl,.inl ⟨h1,λp hp=>?_⟩⟩
 obtain⟨t3,R3⟩:=R1.layF (o:=.tup vs1) hp;exact q _ _ _ (.ref p) [] (t1.trans t3) R3 (.sh (.mk_tup oz (r1.mono t3.sf))) .nil
end
theorem Q9(S:AS) (l:ML):EM l S=(l S).map λx=>(.sh (.tup x.1),x.2):=rfl
def Xt:=@Q9
end Z
namespace HT
open PySem PyProof.Rows
open PySem.SeqAt
open PySem.AutoSeq1 (wpAny_loadPart')
open PySem.MeetsSeq PySem.MeetsSeq2 PySem.MeetsSeq3
def TX(A:Around) (s:Shared) (op:CmpOp) (y x:Value) (b:Bool):Prop:=∀(P:jj) (w:jo) (E Q:Value->Shared->Prop),Q (.bool b) s->jd (jf P w) A (kB op y x) Q E s
def GM(e c:Nat->Bool) (z:Bool):List Nat->Bool
 | []=>z
 |j::js=>if e j then GM e c z js else c j
theorem FS{m i:Nat}(h:i<m):(bQ m).drop i=i::(bQ m).drop (i+1):=by
 rw[aw (by simpa using h)]
 simp
section
variable (l b:Addr) (xs ys:Array Value) (n n2:Nat) (dd dd2:Option Addr) (sl sl2:Array (Option Value)) (e c:Nat->Bool)
theorem TF:Meets (Builtin.«tuple.__lt__» ⟨[.ref l,.ref b],[]⟩) (λA R s=>s.heap.get? l=some { cls:=.type "tuple", dict:=dd,data:=.seq xs n,slots:=sl }/\s.heap.get? b=some { cls:=.type "tuple", dict:=dd2,data:=.seq ys n2,slots:=sl2 }/\(∀j (h1:j<xs.size) (h2:j<ys.size),EqAt A.in1 s xs[j] ys[j] (e j))/\(∀j (h1:j<xs.size) (h2:j<ys.size),e j=false->TX A.in1 s .Lt xs[j] ys[j] (c j))/\R (.ok (.ret (.bool (GM e c (decide (xs.size<ys.size)) (bQ (min xs.size ys.size)))))) s) :=
 .of_wp λprog w A R s h=>by
  obtain⟨hp,g,d,tk,os⟩:=s;obtain⟨hl,hb,he,hc,h⟩:=h;have f2:=AutoSeq1.sub_tuple_tuple;have hZ:(xs.toList.zip ys.toList).length=min xs.size ys.size:=by simp
  wp_walk using wpAny_loadPart' hl,wpAny_loadPart' hb,wpAny_forIn_list _ (λsH b s'=>b.1=none/\s'=⟨hp,g,d,tk,os⟩/\∃i,sH=(xs.toList.zip ys.toList).drop i/\R (.ok (.ret (.bool (GM e c (decide (xs.size<ys.size)) ((bQ (min xs.size ys.size)).drop i))))) ⟨hp,g,d,tk,os⟩) _
  case turn =>
   rintro⟨y,x⟩ sH b s' ⟨hb',rfl,i,hz,hR⟩;have hlt:i<(xs.toList.zip ys.toList).length:=Nat.lt_of_not_le λz=>by rw[bD z]at hz;cases hz
   have hm:i<min xs.size ys.size:=hZ ▸ hlt;have h1:i<xs.size:=by lia
   have h2:i<ys.size:=by lia
   rw[aw hlt]at hz;injection hz with hyx hrest
   have hy:y=xs[i]:=by simpa using congrArg Prod.fst hyx
   have hx:x=ys[i]:=by simpa using congrArg Prod.snd hyx
   subst hy hx;rw[FS hm,GM]at hR;refine jc (he i h1 h2 prog w _ _ ?_);cases q:e i with
   |true =>
    rw[q,oQ rfl]at hR
    wp_walk
    exact⟨rfl,rfl,i+1,hrest,hR⟩
   |false =>
    rw[q,oT (by simp)]at hR
    have hri:∀(E Q:Value->Shared->Prop),Q (.bool (c i)) ⟨hp,g,d,tk,os⟩->jd (jf prog w) A.in1 (kB .Lt xs[i] ys[i]) Q E ⟨hp,g,d,tk,os⟩:=λE Q z=>hc i h1 h2 q prog w E Q z
    wp_walk using hri
    exact⟨_,rfl,hR⟩
  case fin =>
   rintro⟨b1,b2⟩ s' ⟨hb',rfl,i,hz,hR⟩;simp only at hb';subst hb';have hge:min xs.size ys.size<=i:=dG λz=>by rw[aw (hZ ▸ z)]at hz;cases hz
   rw[bD (by simpa using hge)]at hR
   wp_walk
   exact⟨_,rfl,by simpa [Builtin.Tuple.tupleCompareSizes,GM] using hR⟩
  case h=>exact⟨rfl,rfl,0,rfl,by simpa using h⟩
end
def tRow(r:List Int):PyData:=.tuple (r.map .int)
theorem O7(r t:List Int):PyData.eqv (tRow r) (tRow t)=decide (r=t):=by
 rw[←same_eq_eqv _ _ (by simp[tRow,SeqAt.noMix,W.noMix_ints r t])]
 simp[tRow,PySem.Spec.same,W.same_ints r t]
def ur(h:Heap) (q:Addr) (r:List Int):Prop:=∃vs:List Value,h.IsTuple q vs.toArray/\jA vs r
def tY(h:Heap) (p:Addr) (c:List (List Int)):Prop:=∃qs:List Addr,h.IsTuple p (qs.map ai).toArray/\qs.length=c.length/\∀(i:Nat) (q:Addr) (r:List Int),qs[i]?=some q->c[i]?=some r->ur h q r
theorem ur.reads{h:Heap}{q:Addr}{r:List Int}(t:ur h q r):Reads h (.ref q) (tRow r) []:=by
 obtain⟨vs,⟨o,ho,hc,n,hd⟩,hi⟩:=t;exact Reads.tuple ho hc hd (by simpa using W.readsAll_of_ints hi)
theorem ur.eq{A:Around}{s:Shared}{q q':Addr}{r r':List Int}(h:ur s.heap q r) (h':ur s.heap q' r') (hu:A.units+4<jw):EqAt A s (.ref q) (.ref q') (decide (r=r')):=by
 rw[←O7];have d1:=W.depthAll_ints r;refine eqAt_reads (tRow r) (tRow r') A s (.ref q) (.ref q') [] [] h.reads h'.reads (by simp[tRow,PyData.canLay0,W.canLayAll0_ints r]) (by simp[tRow,PyData.canLay0,W.canLayAll0_ints r']) ?_
 have:(tRow r).depth<=2:=by simp only[tRow,PyData.depth];lia
 lia
theorem ur.lt{A:Around}{s:Shared}{q q':Addr}{r r':List Int}(h:ur s.heap q r) (h':ur s.heap q' r') (hu:A.units+4<jw):TX A s .Lt (.ref q) (.ref q') (pR r r'):=by
 obtain⟨vs,h1,h2⟩:=h;obtain⟨ws,g1,g2⟩:=h';exact λP w E Q z=>HK (items:=vs.toArray) (items2:=ws.toArray) h1 g1 h2 g2 (by lia) z
theorem Hk(c d:List (List Int)):∀(k i:Nat),min c.length d.length-i=k->i<=c.length->i<=d.length->GM (λj=>decide (c.getD j []=d.getD j [])) (λj=>pR (c.getD j []) (d.getD j [])) (decide (c.length<d.length)) ((bQ (min c.length d.length)).drop i)=oZ (c.drop i) (d.drop i)
 |0,i,hk,h1,h2=>by
  rw[bD (by simp;lia),GM]
  by_cases q:i=c.length
  .rw [bD (l:=c) (by lia)]
   by_cases q2:i<d.length
   .rw [aw q2];exact decide_eq_true (by lia)
   .rw [bD (l:=d) (by lia)]
    exact decide_eq_false (by lia)
  .have q2:i=d.length:=by lia
   rw[bD (l:=d) (by lia),aw (show i<c.length by lia)]
   exact decide_eq_false (by lia)
 |k+1,i,hk,h1,h2=>by
  have a1:i<c.length:=by lia
  have a2:i<d.length:=by lia
  rw[FS (by lia),GM,aw a1,aw a2,oZ]
  have e1:c.getD i []=c[i]:=by rw[gDq,gEg a1];rfl
  have e2:d.getD i []=d[i]:=by rw[gDq,gEg a2];rfl
  rw[e1,e2,Hk c d k (i+1) (by lia) (by lia) (by lia)]
  generalize c[i]=x;generalize d[i]=y
  by_cases q:x=y <;> simp[q]
theorem Fm{qs:List Addr}{j:Nat}(h:j<(qs.map ai).toArray.size):∃q,qs[j]?=some q/\(qs.map ai).toArray[j] = .ref q:=by
 have hj:j<qs.length:=by simpa using h
 exact⟨qs[j],gEg hj,by simp⟩
theorem BD{h:Heap}{qs:List Addr}{c:List (List Int)}(hl:qs.length=c.length) (hr:∀(i:Nat) (q:Addr) (r:List Int),qs[i]?=some q->c[i]?=some r->ur h q r) {j:Nat}{q:Addr}(hq:qs[j]?=some q):ur h q (c.getD j []):=by
 have hj:j<c.length:=by rw[←hl];exact(gSq.mp hq).1
 refine hr j q _ hq ?_;rw[gDq,gEg hj];rfl
theorem tY.lt{A:Around}{s:Shared}{p p':Addr}{c d:List (List Int)}(h:tY s.heap p c) (h':tY s.heap p' d) (hu:A.units+8<jw):TX A s .Lt (.ref p) (.ref p') (oZ c d):=by
 obtain⟨qs,⟨⟨cls,dd,data,sl⟩,ho,hc,n,hd⟩,l1,r1⟩:=h;obtain⟨qs',⟨⟨cls',dd',data',sl'⟩,ho',hc',n',hd'⟩,l2,r2⟩:=h';simp only at hc hd hc' hd';subst hc hd hc' hd';intro P w E Q z;have key:=Hk c d _ 0 rfl (aG _) (aG _);rw[fq,fq,fq]at key;have hi:A.in1.units+4<jw:=by show A.units+1+4<jw;lia
 refine mj (op:=.Lt) ⟨_,ho,rfl⟩ ⟨_,ho',rfl⟩ F.slot_tuple_lt F.entry_tuple_lt (F.args_tuple_lt_2 _ _) (TF p p' (qs.map ai).toArray (qs'.map ai).toArray n n' dd dd' sl sl' (λj=>decide (c.getD j []=d.getD j [])) λj=>pR (c.getD j []) (d.getD j [])) ⟨ho,ho',λj j1 j2=>?_,λj j1 j2 _=>?_,⟨(λx=>nomatch x),?_⟩⟩ (by lia)
 .obtain ⟨q,e1,e2⟩:=Fm j1;obtain⟨q',e3,e4⟩:=Fm j2;rw[e2,e4];exact(BD l1 r1 e1).eq (BD l2 r2 e3) hi
 .obtain ⟨q,e1,e2⟩:=Fm j1;obtain⟨q',e3,e4⟩:=Fm j2;rw[e2,e4];exact(BD l1 r1 e1).lt (BD l2 r2 e3) hi
 .simp only [ak,lMq,l1,l2];rw[key];exact z
theorem ur.keep{h h':Heap}{q:Addr}{r:List Int}(k:∀b o,h.get? b=some o->h'.get? b=some o) (t:ur h q r):ur h' q r:=by
 obtain⟨vs,⟨o,ho,sH⟩,hi⟩:=t;exact⟨vs,⟨o,k _ _ ho,sH⟩,hi⟩
theorem tY.keep{h h':Heap}{p:Addr}{c:List (List Int)}(k:∀b o,h.get? b=some o->h'.get? b=some o) (t:tY h p c):tY h' p c:=by
 obtain⟨qs,⟨o,ho,sH⟩,l1,r1⟩:=t;exact⟨qs,⟨o,k _ _ ho,sH⟩,l1,λi q r e1 e2=>(r1 i q r e1 e2).keep k⟩
section
variable {P0:jj}{w0:jo}{A:Around}{R:mD->Shared->Prop}{I:Addr}{fp wr:List Addr}{n:Nat}{P:Nat->Value->Prop}{St:Nat->Heap->Prop}
def RP(P0:jj) (w0:jo) (A:Around) (P:Nat->Value->Prop) (bt:Nat->Nat->Bool) (G:Heap->Prop):Prop:=∀(i j:Nat) (vi vj:Value) (s:Shared) (Q E:Value->Shared->Prop),G s.heap->P i vi->P j vj->Q (.bool (bt i j)) s->jd (jf P0 w0) A (kB .Lt vi vj) Q E s
theorem KU(W:Walks P0 w0 A.in1 I fp wr n P St) (bt:Nat->Nat->Bool) {G:Heap->Prop}(S:Addr) (hG:∀h h':Heap,G h->(∀b o,b∉wr->b≠S->h.get? b=some o->h'.get? b=some o)->G h') (hc:RP P0 w0 A.in1 P bt G) (hS:S∉fp) :
  ∀(k j:Nat) (s:Shared) (v0:Value) (c:Nat),n-(j+1)=k->j+1<=n->G s.heap->St (j+1) s.heap->P (ka bt j) v0->s.heap.get? S=some { cls:=.type "list", dict:=none,data:=.seq #[v0,v0] c,slots:=#[] } ->
  (∀v h' tk,P (ka bt (n-1)) v->(∀b o,b∉wr->b≠S->s.heap.get? b=some o->h'.get? b=some o)->R (.ok (.ret v)) { s with heap:=h',toks:=tk })->jZ (jf P0 w0) A (.builtin "min.loop" ⟨[.ref I,.none,.ref S],[]⟩) R s:=by
 have hw:S∉wr:=λz=>hS (W.sub _ z);have nm:(toString "min" ++ toString ".loop" : String) = "min.loop" := by decide
 intro k;induction k with
 |zero =>
  intro j s v0 c hk hj hg st hP0 h0 hR;have en:j+1=n:=by lia
  refine jz F.entry_min_loop ?_;rw[Around.under_plainId F.plain_min_loop _];show jd _ A.in1 (lu (.ref S) >>= _) _ _ s;refine jc (jL h0 rfl ?_);show jd _ A.in1 (tryCatch (kh (.ref I)) _ >>= _) _ _ s;refine jc (jI (W.done s _ _ (en ▸ st) λh1 t1 k1=>?_));have h01:=k1 S _ hw h0
  show jd _ A.in1 (lX S (λ_=>#[]) >>= _) _ _ _;refine jc ?_
  refine jT h01 rfl (jc (jP (jg (hR v0 _ t1 (by rw[←en];exact hP0) λb o x1 x2 z=>?_))))
  exact(bq _ _ (Ne.symm x2)).trans (k1 b o x1 z)
 |succ k ih =>
  intro j s v0 c hk hj hg st hP0 h0 hR;have lt:j+1<n:=by lia
  refine jz F.entry_min_loop ?_;rw[Around.under_plainId F.plain_min_loop _];show jd _ A.in1 (lu (.ref S) >>= _) _ _ s;refine jc (jL h0 rfl ?_);show jd _ A.in1 (tryCatch (kh (.ref I)) _ >>= _) _ _ s;refine jc (jI (W.item (j+1) s _ _ lt st λv h1 t1 hP QN k1=>?_));have h01:=k1 S _ hw h0
  have g1:G h1:=hG _ _ hg λb o x1 _ z=>k1 b o x1 z
  show jd _ A.in1 (tryCatch (mS [v,v] (kB .Lt v v0 >>= _)) _ >>= _) _ _ _;refine jc (jI (jy (jc (hc (j+1) (ka bt j) v v0 _ _ _ g1 hP hP0 ?_))));refine jc (jy (jN ?_));refine jc (jP (jg ?_));cases q:bt (j+1) (ka bt j) with
  |true =>
   simp only[if_true];refine jc ?_;refine jT h01 rfl (jc (jP ?_));rw[nm];refine jg ⟨jC F.plain_min_loop _,ih (j+1) _ v _ (by lia) lt (hG _ _ g1 λb o _ x2 z=>(bq _ _ (Ne.symm x2)).trans z) (W.frame _ _ _ QN λb hb o z=>(bq _ _ (λy:S=b=>hS (by rw[y];exact hb))).trans z) (by simp only[ka,q,if_true];exact hP) (eN _ h01 rfl) λv' h2 t2 hP2 k2=>hR v' h2 t2 hP2 λb o x1 x2 z=>k2 b o x1 x2 ((bq _ _ (Ne.symm x2)).trans (k1 b o x1 z))⟩
  |false =>
   simp only[bx,if_false];refine jc (jP ?_);rw[nm];exact jg ⟨jC F.plain_min_loop _,ih (j+1) _ v0 c (by lia) lt g1 QN (by simp only[ka,q,bx,if_false];exact hP0) h01 λv' h2 t2 hP2 k2=>hR v' h2 t2 hP2 λb o x1 x2 z=>k2 b o x1 x2 (k1 b o x1 z)⟩
theorem HI(W:Walks P0 w0 A.in1 I fp wr n P St) (bt:Nat->Nat->Bool) {G:Heap->Prop}(S:Addr) (hG:∀h h':Heap,G h->(∀b o,b∉wr->b≠S->h.get? b=some o->h'.get? b=some o)->G h') (hc:RP P0 w0 A.in1 P bt G) (hS:S∉fp) (hn:0<n) {s:Shared}{c:Nat}(hg:G s.heap) (st:St 0 s.heap)
  (h0:s.heap.get? S=some { cls:=.type "list", dict:=none,data:=.seq #[] c,slots:=#[] }) (hR:∀v h' tk,P (ka bt (n-1)) v->(∀b o,b∉wr->b≠S->s.heap.get? b=some o->h'.get? b=some o)->R (.ok (.ret v)) { s with heap:=h',toks:=tk }) :
  jZ (jf P0 w0) A (.builtin "min.loop" ⟨[.ref I,.none,.ref S],[]⟩) R s:=by
 have hw:S∉wr:=λz=>hS (W.sub _ z);have nm:(toString "min" ++ toString ".loop" : String) = "min.loop" := by decide
 refine jz F.entry_min_loop ?_;rw[Around.under_plainId F.plain_min_loop _];show jd _ A.in1 (lu (.ref S) >>= _) _ _ s;refine jc (jL h0 rfl ?_);show jd _ A.in1 (tryCatch (kh (.ref I)) _ >>= _) _ _ s;refine jc (jI (W.item 0 s _ _ hn st λv h1 t1 hP QN k1=>?_));have h01:=k1 S _ hw h0
 have g1:G h1:=hG _ _ hg λb o x1 _ z=>k1 b o x1 z
 show jd _ A.in1 (lX S (λ_=>#[v,v]) >>= _) _ _ _;refine jc ?_;refine jT h01 rfl ?_;rw[nm]
 exact jg ⟨jC F.plain_min_loop _,KU W bt S hG hc hS _ 0 _ v _ rfl hn (hG _ _ g1 λb o _ x2 z=>(bq _ _ (Ne.symm x2)).trans z) (W.frame _ _ _ QN λb hb o z=>(bq _ _ (λy:S=b=>hS (by rw[y];exact hb))).trans z) hP (eN _ h01 rfl) λv' h2 t2 hP2 k2=>hR v' h2 t2 hP2 λb o x1 x2 z=>k2 b o x1 x2 ((bq _ _ (Ne.symm x2)).trans (k1 b o x1 z))⟩
end
section
variable {P0:jj}{w0:jo}{A:Around}{E:Value->Shared->Prop}{s:Shared}
theorem KO{x:Value}{Q:Value->Shared->Prop}(h:jd (jf P0 w0) A.in1 (pyIter x) (λit s2=>∃(I:Addr) (fp wr:List Addr) (n:Nat) (P:Nat->Value->Prop) (St:Nat->Heap->Prop) (bt:Nat->Nat->Bool) (G:Heap->Prop),it = .ref I/\Walks P0 w0 A.in1 I fp wr n P St/\St 0 s2.heap/\(∀b∈fp,b<s2.heap.objs.size)/\0<n/\G s2.heap/\(∀h h':Heap,G h->(∀b o,b∉wr->b≠s2.heap.objs.size->h.get? b=some o->h'.get? b=some o)->G h')/\RP P0 w0 A.in1 P bt G /\
   ∀v h' tk,P (ka bt (n-1)) v->(∀b o,b∉wr->s2.heap.get? b=some o->h'.get? b=some o)->Q v { s2 with heap:=h',toks:=tk }) E s):jd (jf P0 w0) A (call (.builtin "min") [x]) Q E s:=by
 have nm:(toString "min" ++ toString ".loop" : String) = "min.loop" := by decide
 refine call_function_tree F.kind_min F.plain_min F.entry_min (F.args_min1 _) ?_;show jd _ A.in1 (Builtin.Builtins.bindParams "min" ["key", "default"] 0 ⟨[],[]⟩ >>= _) _ _ s;refine jc (wpAny_of_eq (show Builtin.Builtins.bindParams "min" ["key", "default"] 0 ⟨[],[]⟩=pure [none,none] from rfl) ?_);refine jc (jg ?_)
 refine jc (jv h (λit s2 z=>?_) λ_ _ e=>e);obtain⟨I,fp,wr,n,P,St,bt,G,rfl,W,st,hf,hn,g,hG,hc,hQ⟩:=z
 refine jc (wpAny_newObj_type ?_);have hS:s2.heap.objs.size∉fp:=λm=>cu _ (hf _ m);rw[nm]
 refine jg ⟨jC F.plain_min_loop _,HI W bt s2.heap.objs.size hG hc hS hn (hG _ _ g λb o _ _ z=>ab _ z) (W.frame _ _ _ st λb _ o z=>ab _ z) (aB _ rfl) λv h1 tk hP k1=>?_⟩
 exact hQ v h1 tk hP λb o x1 z=>k1 b o x1 (ao (ag z)) (ab _ z)
end
end HT
namespace Mr
open PySem L2
open PySem.Spec PyProof.Rows
def yi(K:W.Frag) (H:Hp) (p:Addr) (c:List (List Int)):Prop:=∃qs:List Addr,As K H p (qs.map V.ref)/\qs.length=c.length/\∀(i:Nat) (q:Addr) (r:List Int),qs[i]?=some q->c[i]?=some r->As K H q (r.map V.int)
section
variable {X:Cx}
theorem BI{nF:List (Addr×Obj)}{σ:St}{H:Hp}{s:Shared}{p:Addr}{c:List (List Int)}(I:Inv X nF σ H s) (h:yi X.K H p c):HT.tY s.heap p c:=by
 obtain⟨qs,h1,h2,h3⟩:=h;obtain⟨its,rv,pl,_⟩:=I.tuple h1;have ei:=rh rv;subst ei;refine⟨qs,pl,h2,λi q r e1 e2=>?_⟩
 obtain⟨its,rv,pl,_⟩:=I.tuple (h3 i q r e1 e2);exact⟨its,pl,uh rv⟩
def Ve(cs:List (List (List Int))) (i:Nat):Prop:=∀(j:Nat) (c d:List (List Int)),cs[j]?=some c->cs[i]?=some d->HT.oZ c d=false
theorem GG{cs:List (List (List Int))}:∀k,k<cs.length->ka (λi j=>HT.oZ (cs.getD i []) (cs.getD j [])) k<=k/\∀j,j<=k->HT.oZ (cs.getD j []) (cs.getD (ka (λi j=>HT.oZ (cs.getD i []) (cs.getD j [])) k) [])=false
 |0,_=>⟨ae _,λj hj=>by
  have:j=0:=by lia
  subst this;exact HT.uI _⟩
 |k+1,hk=>by
  obtain⟨h1,h2⟩:=GG (cs:=cs) k (by lia)
  simp only[ka]
  by_cases c:HT.oZ (cs.getD (k+1) []) (cs.getD (ka (λi j=>HT.oZ (cs.getD i []) (cs.getD j [])) k) [])=true
  .rw [oQ c];refine⟨ae _,λj hj=>?_⟩
   by_cases hjk:j<=k
   .exact HT.qS _ _ _ (HT.tL _ _ c) (h2 j hjk)
   .have:j=k+1:=by lia
    subst this;exact HT.uI _
  .rw [oT c];refine⟨by lia,λj hj=>?_⟩
   by_cases hjk:j<=k
   .exact h2 j hjk
   .have:j=k+1:=by lia
    subst this;exact hW.mpr c
theorem La(hc:X.calm=true) (hu:X.A.units+64<jw):vM X (.builtin "min") (λxs H Q=>∃(a:Addr) (ps:List Addr) (cs:List (List (List Int))),xs=[.ref a]/\qw X.K H a (ps.map V.ref)/\0<ps.length/\ps.length=cs.length/\(∀(i:Nat) (p:Addr) (c:List (List Int)),ps[i]?=some p->cs[i]?=some c->yi X.K H p c)/\∀i p,ps[i]?=some p->Ve cs i->Q (.ref p) H):=by
 intro nF s σ H xs us Q I r h;obtain⟨a,ps,cs,rfl,hS,hpos,hl,hE,q⟩:=h;obtain⟨u,rfl,ru⟩:=uy r;cases ru;obtain⟨its,rv,pl,hz⟩:=I.list hS;have ei:=rh rv;subst ei;have hL:=pl.isList;have hlt:a<s.heap.objs.size:=by obtain⟨o,e,_⟩:=hL;exact ag e
 have codes:∀i p,ps[i]?=some p->HT.tY s.heap p (cs.getD i []):=λi p hp=>by
  have hi:i<cs.length:=by rw[←hl];exact(gSq.mp hp).1
  exact BI I (hE i p _ hp (by rw[gDq,gEg hi];rfl))
 refine HT.KO (lD hL ?_);have old:∀b o,s.heap.get? b=some o->b≠s.heap.objs.size/\b≠s.heap.objs.size+1:=λb o e=>⟨ao (ag e),ao (ba (ag e))⟩
 refine⟨_,_,_,_,_,_,λi j=>HT.oZ (cs.getD i []) (cs.getD j []),λh=>∀b o,s.heap.get? b=some o->h.get? b=some o,rfl,Walks.list (A:=X.A.in1) (I.ok.hd hc) _ a (ao hlt) (ps.map ai).toArray,⟨⟨_,aB _ rfl,rfl,rfl⟩,hL.push _⟩,λb hb=>?_,by simpa using hpos,λb o e=>ab _ e,λh h' g k b o e=>k b o ?_ ?_ (g b o e),λi j vi vj s' Q E g hi hj z=>?_,λv h' tk hP hk=>?_⟩
 .show b<(s.heap.push _).objs.size;rw[fj];rcases ah.mp hb with rfl|hb
  .exact dH _
  .rw [mSq.mp hb];exact ba hlt
 .intro m;exact(old b o e).1 (mSq.mp m)
 .show b≠(s.heap.push _).objs.size;rw[fj];exact(old b o e).2
 .have gi:∀{i:Nat}{v:Value},(ps.map ai).toArray[i]?=some v->∃p,ps[i]?=some p/\v = .ref p:=λ{i v} h=>by
   rw[eO,gMq]at h;obtain⟨p,h1,rfl⟩:=oMq.mp h;exact⟨p,h1,rfl⟩
  obtain⟨p,h1,rfl⟩:=gi hi;obtain⟨p',h2,rfl⟩:=gi hj;exact((codes i p h1).keep g).lt ((codes j p' h2).keep g) (by show X.A.units+1+8<jw;lia) X.prog X.w E Q z
 .have hn:(ps.map ai).toArray.size=ps.length:=by simp
  rw[hn]at hP;have hb:=GG (cs:=cs) (ps.length-1) (by lia)
  have hP':(ps.map ai).toArray[ka (λi j=>HT.oZ (cs.getD i []) (cs.getD j [])) (ps.length-1)]?=some v:=hP
  rw[eO,gMq]at hP';obtain⟨p,h1,rfl⟩:=oMq.mp hP';refine⟨.ref p,H,I.kept λb o e=>hk b o (λm=>(old b o e).1 (mSq.mp m)) (ab _ e),rfl,q _ p h1 λj c d e1 e2=>?_⟩
  have hj:j<cs.length:=(gSq.mp e1).1;have:=hb.2 j (by lia)
  rw[gDq,e1,gDq,e2]at this;exact this
end
end Mr
namespace Z
open PySem L2 Mr Xe
abbrev dC(c:List (List Int)):D:=.tup (c.map λr=>.tup (r.map .int))
def uu:List D->Option (List (List Int))
 | []=>some []
 | .tup es::ds=>(qj es).bind λr=>(uu ds).map (r :: ·)
 |_=>none
def Dz:D->Option (List (List Int))
 | .tup ds=>uu ds
 |_=>none
def zz:List D->Option (List (List (List Int)))
 | []=>some []
 |d::ds=>(Dz d).bind λc=>(zz ds).map (c :: ·)
theorem vt:∀{ds:List D}{c:List (List Int)},uu ds=some c->ds=c.map λr=>.tup (r.map .int)
 | [],c,h=>by cases h;rfl
 |d::ds,c,h=>by
  cases d with
  |tup es =>
   obtain⟨r,h1,h⟩:=oBq.mp h;obtain⟨c',h2,rfl⟩:=oMq.mp h;rw[vt h2,sM h1];rfl
  |_=>cases h
theorem C8{d:D}{c:List (List Int)}(h:Dz d=some c):d=dC c:=by
 cases d with
 |tup ds=>rw[vt (ds:=ds) h]
 |_=>cases h
theorem AN:∀{ds:List D}{cs:List (List (List Int))},zz ds=some cs->ds=cs.map dC
 | [],cs,h=>by cases h;rfl
 |d::ds,cs,h=>by
  obtain⟨c,h1,h⟩:=oBq.mp h;obtain⟨c',h2,rfl⟩:=oMq.mp h;rw[AN h2,C8 h1];rfl
theorem uF:∀c:List (List Int),uu (c.map λr=>.tup (r.map .int))=some c
 | []=>rfl
 |r::c=>by
  show (qj (r.map .int)).bind _=_;rw[qm,bE,uF c];rfl
theorem Fi(c:List (List Int)):Dz (dC c)=some c:=uF c
theorem zu:∀cs:List (List (List Int)),zz (cs.map dC)=some cs
 | []=>rfl
 |c::cs=>by
  show (Dz (dC c)).bind _=_;rw[Fi,bE,zu cs];rfl
def AK:List (List (List Int))->Option (List (List Int))
 | []=>none
 |c::cs=>some (cs.foldl (λm c=>if HT.oZ c m then c else m) c)
theorem C9:∀(cs:List (List (List Int))) (m:List (List Int)),(cs.foldl (λm c=>if HT.oZ c m then c else m) m=m∨cs.foldl (λm c=>if HT.oZ c m then c else m) m∈cs)/\HT.oZ m (cs.foldl (λm c=>if HT.oZ c m then c else m) m)=false/\∀c∈cs,HT.oZ c (cs.foldl (λm c=>if HT.oZ c m then c else m) m)=false
 | [],m=>⟨.inl rfl,HT.uI _,λc h=>by cases h⟩
 |c::cs,m=>by
  rw[bY]
  by_cases q:HT.oZ c m=true
  .rw [oQ q];obtain⟨h1,h2,h3⟩:=C9 cs c;refine⟨.inr ?_,HT.qS _ _ _ h2 (HT.tL _ _ q),λd hd=>?_⟩
   .rcases h1 with h1|h1
    .rw [h1];simp
    .exact mCo _ h1
   .rcases ah.mp hd with rfl|hd
    .exact h2
    .exact h3 d hd
  .rw [oT q];obtain⟨h1,h2,h3⟩:=C9 cs m;refine⟨?_,h2,λd hd=>?_⟩
   .rcases h1 with h1|h1
    .exact .inl h1
    .exact .inr (mCo _ h1)
   .rcases ah.mp hd with rfl|hd
    .exact HT.qS _ _ _ h2 (hW.mpr q)
    .exact h3 d hd
theorem B8{cs:List (List (List Int))}{m:List (List Int)}(h:AK cs=some m):m∈cs/\∀c∈cs,HT.oZ c m=false:=by
 cases cs with
 |nil=>cases h
 |cons c cs =>
  cases h;obtain⟨h1,h2,h3⟩:=C9 cs c;refine⟨?_,λd hd=>?_⟩
  .rcases h1 with h1|h1
   .rw [h1];simp
   .exact mCo _ h1
  .rcases ah.mp hd with rfl|hd
   .exact h2
   .exact h3 d hd
def On(l:ML):MK:=λS=>(l S).bind λx=>(zz x.1).bind λcs=>(AK cs).map λm=>(.sh (dC m),x.2)
section
variable {K:W.Frag}{te:TE}
theorem CT{H:Hp}{c:List (List Int)}{v:V}(r:qd K H (dC c) v):∃p,v = .ref p/\yi K H p c:=by
 obtain⟨p,vs,rfl,h1,h2⟩:=r.tup_inv;have key:∀{c:List (List Int)}{vs:List V},oH K H (c.map λr=>.tup (r.map .int)) vs->∃qs:List Addr,vs=qs.map V.ref/\qs.length=c.length/\∀(i:Nat) (q:Addr) (r:List Int),qs[i]?=some q->c[i]?=some r->H q=some (.tup (r.map V.int)):=λ{c}=>by
  induction c with
  |nil =>
   intro vs h;exact⟨[],h.nil_inv,rfl,λi q r e=>by cases e⟩
  |cons r c ih =>
   intro vs h;obtain⟨v,ws,rfl,g1,g2⟩:=h.cons_inv;obtain⟨q,us,rfl,k1,k2⟩:=g1.tup_inv;rw[oU k2]at k1;obtain⟨qs,rfl,l1,e1⟩:=ih g2;refine⟨q::qs,rfl,by simp[l1],λi q' r' a b=>?_⟩
   cases i with
   |zero=>cases a;cases b;exact k1
   |succ i=>exact e1 i q' r' (by simpa using a) (by simpa using b)
 obtain⟨qs,rfl,l1,e1⟩:=key h2;exact⟨p,rfl,qs,As.of h1,l1,λi q r a b=>As.of (e1 i q r a b)⟩
theorem C7{H:Hp}:∀{cs:List (List (List Int))}{vs:List V},oH K H (cs.map dC) vs->∃ps:List Addr,vs=ps.map V.ref/\ps.length=cs.length/\∀(i:Nat) (p:Addr) (c:List (List Int)),ps[i]?=some p->cs[i]?=some c->qd K H (dC c) (.ref p)
 | [],vs,h=>⟨[],h.nil_inv,rfl,λi q r e=>by cases e⟩
 |c::cs,vs,h=>by
  obtain⟨v,ws,rfl,g1,g2⟩:=h.cons_inv;obtain⟨p,rfl,_⟩:=CT g1;obtain⟨ps,rfl,l1,e1⟩:=C7 g2;refine⟨p::ps,rfl,by simp[l1],λi q' r' a b=>?_⟩
  cases i with
  |zero=>cases a;cases b;exact g1
  |succ i=>exact e1 i q' r' (by simpa using a) (by simpa using b)
theorem Qx{l:ML}(hl:SQ K te l):SK K (JY (λxs H Q=>∃(a:Addr) (ps:List Addr) (cs:List (List (List Int))),xs=[.ref a]/\qw K H a (ps.map V.ref)/\0<ps.length/\ps.length=cs.length/\(∀(i:Nat) (p:Addr) (c:List (List Int)),ps[i]?=some p->cs[i]?=some c->yi K H p c)/\∀i p,ps[i]?=some p->Ve cs i->Q (.ref p) H) (rY te vI)) (On l):=by
 intro H₀ Hf₀ Hf S σ H Fs av S' R e Q q;obtain⟨x,e1,e⟩:=oBq.mp e;obtain⟨cs,e2,e⟩:=oBq.mp e;obtain⟨m,e3,e⟩:=oMq.mp e;cases e;refine hl R (ds:=x.1) (S':=x.2) e1 _ λHf1 H1 Fs1 p1 vs1 t1 R1 h1 r1=>?_
 rw[AN e2]at r1;obtain⟨ps,rfl,l1,r2⟩:=C7 r1;obtain⟨low1,low2⟩:=B8 e3;have pos:0<ps.length:=by rw[l1];exact eh low1
 refine⟨p1,ps,cs,rfl,h1,pos,l1,λi p c a b=>?_,λi p hp low=>?_⟩
 .obtain ⟨p',e,h⟩:=CT ((r2 i p c a b).mono R1.sub);cases e;exact h
 .have hi:i<cs.length:=by rw[←l1];exact(gSq.mp hp).1
  have hc:cs[i]?=some cs[i]:=gEg hi;obtain⟨j,hj,ej⟩:=bM.mp low1;have em:cs[i]=m:=HT.sN _ _ (low2 _ (gRq hi)) (low j m _ (by rw[gEg hj,ej]) hc)
  have rp:=r2 i p _ hp hc;rw[em]at rp;exact q _ _ _ (.ref p) [] t1 R1 (.sh rp) .nil
end
theorem RS(S:AS) (l:ML):On l S=(l S).bind λx=>(zz x.1).bind λcs=>(AK cs).map λm=>(.sh (dC m),x.2):=rfl
def Xp:=@RS
def WK:=aa zq (aa Xx (aa XB (aa Xw (aa XF (aa XR (aa Xt (Xp)))))))
end Z
local macro_rules | `(tactic| simp_arith [$ls,*]) => `(tactic| simp -implicitDefEqProofs only [Z.WK,fD,gF,fH,fJ,eU,↓reduceIte,reduceCtorEq,$ls,*])
namespace Ms
open PySem PyProof.Rows Mr
def Wh(F:List Int) (k:Int):List Int:=if k∈F then F else F++[k]
def dd(ns:List Int):List Int:=ns.foldl Wh []
def SA(h:Heap) (a:Addr) (es:Array (Int×Value)) (ep:Nat) (t:SetTable):Prop:=∃o,h.get? a=some o/\o.ExactSet/\o.data = .set es ep t
end Ms
namespace Mo
open PySem PyProof.Rows Mr
abbrev Sr(h:Heap) (z TI TO T:Addr) (b:Bool):Prop:=h.get? z=some { cls:=.type "zip", dict:=none,data:=.fields #[kR T,.bool b,.bool false,.ref TI,.ref TO],slots:=#[] }
section
variable {prog:jj}{w:jo}{A:Around}{E:Value->Shared->Prop}{s:Shared}
theorem G8{a:Addr}{o:Obj}{Q:Option Obj->Shared->Prop}(ho:s.heap.get? a=some o) (h:Q (some o) s):jd (jf prog w) A (loadIfAlive a) Q E s:=λΓ p hΓ=>by
 unfold loadIfAlive;rw[Sem.wp_loadIfAlive,ho];exact h
theorem Gk{z TI TO T:Addr}{b:Bool}{o:Obj}{Q:Bool->Shared->Prop}(hz:Sr s.heap z TI TO T b) (ho:s.heap.get? T=some o)
  (h:∀h',Sr h' z TI TO T true->bS z s.heap h'->Q false { s with heap:=h' }):jd (jf prog w) A (Builtin.SmallTypes.ownedTupleIsFree (.ref z)) Q E s:=by
 unfold Builtin.SmallTypes.ownedTupleIsFree;refine jc (kG hz rfl (x:=kR T) rfl ?_);refine jc (G8 (a:=T) ho ?_);refine jc (kG hz rfl (x:=.bool b) rfl ?_);cases b with
 |true=>exact jc (jg (jg (h s.heap hz ⟨rfl,λ_ _=>rfl⟩)))
 |false =>
  refine jc ?_;exact wpAny_setField_rec hz (by simp) λh1 hz1 hs1=>jg (h h1 hz1 hs1)
theorem VH{z TI TO i1 i2 l1 l2 T:Addr}{b:Bool}{o:Obj}{k:Nat}{xs ys:Array Value}{x y:Value}{Q:Value->Shared->Prop}(D:ky z TI TO i1 i2 l1 l2) (hz:Sr s.heap z TI TO T b) (ho:s.heap.get? T=some o)
  (hTI:ki s.heap TI (.ref i1) (.ref i2)) (h1:s.heap.IsListIter i1 l1 k) (h2:s.heap.IsListIter i2 l2 k) (hl1:s.heap.IsList l1 xs) (hl2:s.heap.IsList l2 ys) (hx:xs[k]?=some x) (hy:ys[k]?=some y)
  (hQ:∀h',Sr h' z TI TO T true->h'.IsListIter i1 l1 (k+1)->h'.IsListIter i2 l2 (k+1)->ki h' s.heap.objs.size x y->h'.objs.size=s.heap.objs.size+1->(∀c o,c≠z->c≠i1->c≠i2->s.heap.get? c=some o->h'.get? c=some o)->Q (.ref s.heap.objs.size) { s with heap:=h' }) :
  jd (jf prog w) A (Builtin.«zip.__next__» ⟨[.ref z],[]⟩) (λfin s'=>∃v,fin = .done (.ret v)/\Q v s') E s:=by
 show jd _ _ (field (.ref z) 2 >>= _) _ _ _;refine jc (kG hz rfl (x:=.bool false) rfl ?_);show jd _ _ (field (.ref z) 3 >>= _) _ _ _;refine jc (kG hz rfl (x:=.ref TI) rfl ?_);refine jc (jL hTI rfl ?_);show jd _ _ (Builtin.SmallTypes.ownedTupleIsFree (.ref z) >>= _) _ _ _;refine jc (Gk hz ho λg1 hz1 s1=>?_)
 simp only[bx,if_false];refine jc ?_;rw[fv];simp only[iF,iM];refine jc (jc (jy ?_));show jd _ _ (Builtin.SmallTypes.nextOf (.ref i1) >>= _) _ _ _;refine jc (mh (h1.extBut s1.extBut D.i1z) (hl1.extBut s1.extBut D.l1z) hx λg2 q2 s2=>jg ?_)
 refine jg ?_;refine jc (jc (jy ?_));show jd _ _ (Builtin.SmallTypes.nextOf (.ref i2) >>= _) _ _ _;refine jc (mh ((h2.extBut s1.extBut D.i2z).extBut s2.extBut D.i12.symm) ((hl2.extBut s1.extBut D.l2z).extBut s2.extBut D.l2i1) hy λg3 q3 s3=>jg ?_)
 refine jg (jg ?_);refine jc (kX ?_ (by show 2<=jk;rw[jt];decide))
 have hsz:g3.objs.size=s.heap.objs.size:=by rw[s3.1,s2.1,s1.1]
 have hz3:Sr g3 z TI TO T true:=s3.extBut _ _ D.i2z.symm (s2.extBut _ _ D.i1z.symm hz1);have h13:g3.IsListIter i1 l1 (k+1):=q2.extBut s3.extBut D.i12;have kp:∀c o,c≠z->c≠i1->c≠i2->s.heap.get? c=some o->g3.get? c=some o:=λc o c1 c2 c3 e=>s3.extBut _ _ c3 (s2.extBut _ _ c2 (s1.extBut _ _ c1 e))
 refine jg ⟨_,rfl,?_⟩;show Q (.ref g3.objs.size) _;rw[hsz];exact hQ _ (ab _ hz3) (h13.at λo e=>ab _ e) (q3.at λo e=>ab _ e) (by rw[←hsz];exact aB _ rfl) (by rw[fj,hsz]) λc o c1 c2 c3 e=>ab _ (kp c o c1 c2 c3 e)
end
section
variable {prog:jj}{w:jo}{A:Around}{E:Value->Shared->Prop}{s:Shared}
theorem VD{z TI TO i1 i2 l1 l2 T:Addr}{b:Bool}{o:Obj}{k:Nat}{xs:Array Value}{Q:Fin->Shared->Prop}(hh:A.handled=none) (D:ky z TI TO i1 i2 l1 l2) (hz:Sr s.heap z TI TO T b) (ho:s.heap.get? T=some o)
  (hTI:ki s.heap TI (.ref i1) (.ref i2)) (h1:s.heap.IsListIter i1 l1 k) (hl1:s.heap.IsList l1 xs) (hx:xs[k]?=none)
  (hE:∀h' e,(∀c o,c≠z->c≠i1->s.heap.get? c=some o->h'.get? c=some o)->(∃o,h'.get? e=some o/\o.cls = .type "StopIteration")->E (.ref e) { s with heap:=h' }) :
  jd (jf prog w) A (Builtin.«zip.__next__» ⟨[.ref z],[]⟩) Q E s:=by
 show jd _ _ (field (.ref z) 2 >>= _) _ _ _;refine jc (kG hz rfl (x:=.bool false) rfl ?_);show jd _ _ (field (.ref z) 3 >>= _) _ _ _;refine jc (kG hz rfl (x:=.ref TI) rfl ?_);refine jc (jL hTI rfl ?_);show jd _ _ (Builtin.SmallTypes.ownedTupleIsFree (.ref z) >>= _) _ _ _;refine jc (Gk hz ho λg1 hz1 s1=>?_)
 simp only[bx,if_false];refine jc ?_;rw[fv];simp only[iF,iM];refine jc (jc (jy ?_));show jd _ _ (Builtin.SmallTypes.nextOf (.ref i1) >>= _) _ _ _;refine jc (wpAny_nextOf_list_end hh (h1.extBut s1.extBut D.i1z) (hl1.extBut s1.extBut D.l1z) hx λg2 e s2 he=>?_)
 exact hE g2 e (λc o c1 c2 q=>s2 _ _ c2 (s1.extBut _ _ c1 q)) he
structure PH (h:Heap) (z TI TO i1 i2 l1 l2 d:Addr) (k:Nat) (xs ys:Array Value):Prop where
 f:IsZip h z TI TO .none∨∃T b o,Sr h z TI TO T b/\h.get? T=some o/\T≠z/\T≠TO/\T≠i1/\T≠i2/\T≠d
 ti:ki h TI (.ref i1) (.ref i2)
 to:∃a b,ki h TO a b
 h1:h.IsListIter i1 l1 k
 h2:h.IsListIter i2 l2 k
 l1:h.IsList l1 xs
 l2:h.IsList l2 ys
theorem PH.ty{z TI TO i1 i2 l1 l2 d:Addr}{k:Nat}{xs ys:Array Value}(S:PH s.heap z TI TO i1 i2 l1 l2 d k xs ys):s.TypeIs (.ref z) "zip" := by
 rcases S.f with h|⟨_,_,_,h,_⟩
 .exact ⟨_,h,rfl⟩
 .exact ⟨_,h,rfl⟩
theorem Vx{z TI TO i1 i2 l1 l2 d:Addr}{k:Nat}{xs ys:Array Value}{Q:Option Value->Shared->Prop}(hh:A.handled=none) (D:ky z TI TO i1 i2 l1 l2) (S:PH s.heap z TI TO i1 i2 l1 l2 d k xs ys) (hx:xs[k]?=none)
  (hQ:∀h',(∀c o,c≠z->c≠TO->c≠i1->c≠i2->s.heap.get? c=some o->h'.get? c=some o)->Q none { s with heap:=h' }) :
  jd (jf prog w) A (kh (.ref z)) Q E s:=by
 obtain⟨a,b,hTO⟩:=S.to;rcases S.f with hz|⟨T,f1,o,hz,ho,_⟩
 .exact mF hh D hz S.ti hTO S.h1 S.h2 S.l1 S.l2 (.inl hx) hQ
 .have hT:=S.ty;unfold kh;refine jc (ly (lW (name:=Str.ofString "__next__") hT F.slot_zip_next (ku F.slot_zip_next hT F.entry_zip_next (VD hh D hz ho S.ti S.h1 S.l1 hx λh' e hk he=>?_) (F.args_zip_next_1 _))))
  obtain⟨oe,h3,h4⟩:=he;refine jc (wpAny_isInstance (T := "StopIteration") (b:=true) ⟨oe,h3,h4⟩ isSubtype_stop ?_);exact jg (hQ _ λc o c1 _ c3 _ q=>hk c o c1 c3 q)
end
section
variable {K:Type} [DecidableEq K]
def fz(ks:List K) (ws:List Value) (j:Nat):List (K×Value):=((ks.zip ws).take j).foldl (λm p=>stored m p.1 p.2) []
end
section
variable {prog:jj}{w:jo}{A:Around}{E:Value->Shared->Prop}{s:Shared}{K:Type} [DecidableEq K] {knd:KeyKind prog w K}{R:mD->Shared->Prop}{z TI TO i1 i2 l1 l2 d:Addr}{us ws:List Value}{ks:List K}
theorem PH.keep{h h':Heap}{k:Nat}{xs ys:Array Value}(S:PH h z TI TO i1 i2 l1 l2 d k xs ys) (nd:∀c∈[z,TI,TO,i1,i2,l1,l2],c≠d) (kp:gg d h h'):PH h' z TI TO i1 i2 l1 l2 d k xs ys:=by
 have q:=λc hc o=>kp c o (nd c hc)
 obtain⟨a,b,hTO⟩:=S.to;refine⟨?_,q TI (by simp) _ S.ti,⟨a,b,q TO (by simp) _ hTO⟩,S.h1.at λo e=>q i1 (by simp) o e,S.h2.at λo e=>q i2 (by simp) o e,S.l1.at λo e=>q l1 (by simp) o e,S.l2.at λo e=>q l2 (by simp) o e⟩
 rcases S.f with hz|⟨T,f1,o,hz,ho,n1,n2,n3,n4,n5⟩
 .exact .inl (q z (by simp) _ hz)
 .exact .inr ⟨T,f1,o,q z (by simp) _ hz,kp _ _ n5 ho,n1,n2,n3,n4,n5⟩
end
end Mo
namespace Mr
open PySem L2
open PySem.Spec PyProof.Rows
def Oe:V->Int
 | .int i=>i
 |_=>0
def wq(H:Hp) (p:Addr) (c:List (List Int)):Prop:=∃qs:List Addr,H p=some (.tup (qs.map V.ref))/\qs.length=c.length/\∀(i:Nat) (q:Addr) (r:List Int),qs[i]?=some q->c[i]?=some r->H q=some (.tup (r.map V.int))
def pT(H:Hp) (p:Addr):List (List Int):=match H p with
 |some (.tup vs)=>vs.map λv=>match v with
  | .ref q=>match H q with
   |some (.tup ws)=>ws.map Oe
   |_=>[]
  |_=>[]
 |_=>[]
theorem wq.eq{H:Hp}{p:Addr}{c:List (List Int)}(h:wq H p c):pT H p=c:=by
 obtain⟨qs,h1,h2,h3⟩:=h;unfold pT;rw[h1];show (qs.map V.ref).map _=c;rw[mPq];refine dz λi=>?_
 rw[gMq]
 by_cases hi:i<qs.length
 .have hc:i<c.length:=by lia
  have e:=h3 i qs[i] c[i] (gEg hi) (gEg hc);rw[gEg hi,gEg hc];show some (match H qs[i] with|some (.tup ws)=>ws.map Oe|_=>[])=some c[i]
  rw[e];show some ((c[i].map V.int).map Oe)=_;rw[mPq];exact congrArg some (gW c[i])
 .rw [bz (by lia),bz (by lia)]
  rfl
theorem wq.same{H H':Hp}{p:Addr}{c:List (List Int)}(h:wq H p c) (s:oM H H'):wq H' p c:=by
 obtain⟨qs,h1,h2,h3⟩:=h;exact⟨qs,s _ _ h1,h2,λi q r e1 e2=>s _ _ (h3 i q r e1 e2)⟩
def Kx(H:Hp) (ps:List Addr) (cs:List (List (List Int))):Prop:=cs=ps.map (pT H)/\∀p∈ps,wq H p (pT H p)
theorem FT{prog:jj}{w:jo}{A:Around}{s:Shared}{Q:Bool->Shared->Prop}(hu:A.units+4<jw) {fin:Bool}:∀(qs qs':List Addr) (c d:List (List Int)) (i:Nat),qs.length=c.length->qs'.length=d.length ->
  (∀(i:Nat) (q:Addr) (r:List Int),qs[i]?=some q->c[i]?=some r->HT.ur s.heap q r)->(∀(i:Nat) (q:Addr) (r:List Int),qs'[i]?=some q->d[i]?=some r->HT.ur s.heap q r)->fin=decide (c.length<d.length)->Q (HT.oZ c d) s->W.KatLex prog w A false fin Q ((qs.map ai).zip (qs'.map ai)) i s
 | [],qs',[],d,i,_,l2,_,_,hf,k=>by
  refine W.kat_nil ?_;cases d with
  |nil=>rw[hf];simpa [HT.oZ] using k
  |cons y d=>rw[hf];simpa [HT.oZ] using k
 |q::qs,[],r::c,[],i,_,_,_,_,hf,k=>by
  refine W.kat_nil ?_;rw[hf];simpa [HT.oZ] using k
 |q::qs,q'::qs',r::c,r'::d,i,l1,l2,h1,h2,hf,k=>by
  have t1:=h1 0 q r rfl rfl;have t2:=h2 0 q' r' rfl rfl;refine W.kat_cons (t1.eq t2 hu prog w _ _ ?_);rw[HT.oZ]at k;refine W.kat_go (λe=>?_) λe=>?_
  .have e:=of_decide_eq_true e;rw[oQ e]at k;exact W.kat_yes (FT hu qs qs' c d (i+1) (by simpa using l1) (by simpa using l2) (λj q r a b=>h1 (j+1) q r a b) (λj q r a b=>h2 (j+1) q r a b) (by rw[hf];simp) k)
  .have e:=of_decide_eq_false e;rw[oT e]at k;refine W.kat_no ?_;show jd _ _ (oneLt' false _ _) _ _ _;exact W.kat_one _ _ (t1.lt t2 hu prog w _ _ k)
theorem Ur{prog:jj}{w:jo}{A:Around}{s:Shared}{ps:List Addr}{r:Addr->List (List Int)}(hu:A.units+40<jw)
  (h:∀p∈ps,HT.tY s.heap p (r p)):MrS.xh prog w A s (lK false) (λx=>∃p,x.1 = .ref p/\p∈ps) (U7 r) where
 ask:=by
  rintro⟨_,x⟩ ⟨_,y⟩ ⟨p,e1,hp⟩ ⟨q,e2,hq⟩ E Q k;dsimp only at e1 e2;subst e1 e2;obtain⟨qs,⟨o,ho,hc,n,hd⟩,l1,r1⟩:=h p hp;obtain⟨qs',⟨o',ho',hc',n',hd'⟩,l2,r2⟩:=h q hq;refine W.kat_lt ho hd ho' hd' ?_;exact FT (by lia) qs qs' (r p) (r q) 0 l1 l2 r1 r2 (by simp[l1,l2]) k
 asym:=by
  rintro⟨_,x⟩ ⟨_,y⟩ ⟨a,e1,_⟩ ⟨b,e2,_⟩ h;dsimp only at e1 e2;subst e1 e2;exact HT.tL _ _ h
 trans:=by
  rintro⟨_,x⟩ ⟨_,y⟩ ⟨_,z⟩ ⟨a,e1,_⟩ ⟨b,e2,_⟩ ⟨c,e3,_⟩ h1 h2;dsimp only at e1 e2 e3;subst e1 e2 e3;exact HT.qS _ _ _ h1 h2
theorem Rv{M:Model}{A:Around}{E:Value->Shared->Prop}{s:Shared}{ps:List Addr}{r:Addr->List (List Int)}{Q:jB->Shared->Prop}(h2:2<=ps.length) (h:∀p∈ps,HT.tY s.heap p (r p)) (hne:∀p∈ps,r p≠[]) (q:Q (lK false) s):jd M A (kD (ps.map ai).toArray) Q E s:=by
 have key:∀ps:List Addr,(∀p∈ps,HT.tY s.heap p (r p))->(∀p∈ps,r p≠[])->∃fs:List Addr,fs.length=ps.length/\W.KatTups s.heap (ps.map ai) (fs.map ai)/\∀f∈fs,∃z,HT.ur s.heap f z:=λps=>by
  induction ps with
  |nil=>intro _ _;exact⟨[],rfl,W.KatTups.nil,λf hf=>by cases hf⟩
  |cons p ps ih =>
   intro h hne;obtain⟨fs,a1,a2,a3⟩:=ih (λp hp=>h p (mCo _ hp)) (λp hp=>hne p (mCo _ hp))
   obtain⟨qs,⟨o,ho,hc,n,hd⟩,l1,r1⟩:=h p (aj ..);have n1:=hne p (aj ..);cases hr:r p with
   |nil=>exact absurd hr n1
   |cons z c =>
    rw[hr]at l1 r1;cases qs with
    |nil=>cases l1
    |cons f qs =>
     refine⟨f::fs,by rw[lCq,lCq,a1],W.KatTups.cons ho hc hd rfl a2,λg hg=>?_⟩
     rcases ah.mp hg with w|w
     .rw [w];exact⟨z,r1 0 f z rfl rfl⟩
     .exact a3 g w
 obtain⟨fs,a1,a2,a3⟩:=key ps h hne;refine W.kat_kind (T:=.type "tuple") a2 (by rw[lMq];lia) (λv hv=>?_) (by rfl) q
 obtain⟨f,hf,rfl⟩:=mMq.mp hv;obtain⟨z,vs,⟨o,ho,hc,_⟩,_⟩:=a3 f hf;intro A Q E s2 k2 q2;exact ko (T := "tuple") ⟨o,k2 _ _ ho,hc⟩ q2
end Mr
namespace MrS
open PySem PyProof.Rows
section
variable {prog:jj}{w:jo}{A:Around}{E:Value->Shared->Prop}{s:Shared}{Pk:je->Prop}{lt:je->je->Bool}{κ:jB}
theorem E5{a:Addr}{vs:List Value}{n:Nat}{P:PySem.Fin->Shared->Prop}(ho:s.heap.get? a=some (jh "list" vs.toArray n)) (hs:vs.length<64)
  (hkk:2<=vs.length->∀Q:jB->Shared->Prop,Q κ { s with heap:=qK s.heap a vs }->jd (jf prog w) A (kD vs.toArray) Q E { s with heap:=qK s.heap a vs })
  (C:xh prog w A { s with heap:=qK s.heap a vs } κ Pk lt) (hp:∀x,x∈jG vs->Pk x)
  (h:∀xs:Array je,xs.Perm (jG vs)->vX lt xs 0 (jG vs).size->P (.done (.ret .none)) { s with heap:=kx s.heap a vs (xs.map (·.2)) }) :
  jd (jf prog w) A (Builtin.«list.sort» ⟨[.ref a],[]⟩) P E s:=by
 rw[list_sort_plain];have ha:a<s.heap.objs.size:=ag ho;refine jc (lU ho rfl ?_);refine jc (jF ho rfl ?_ (hsz:=by rw[ak,jt];lia))
 obtain⟨e1,ho1⟩:∃e1,(s.heap.update a (Obj.mapSeq λ_=>#[])).get? a=some (jh "list" #[] e1):=⟨_,jD ho (λ_=>#[])⟩
 refine jc (kj ho1 rfl ?_);refine jc (kX ?_);refine jc (jO ?_);refine jy ?_;have ho6:(qK s.heap a vs).get? a=some (jh "list" #[] e1):=by
  rw[bW _ _ _ (by rw[ke,aW];exact ao (ba ha)),bW _ _ _ (by rw[aW];exact ao ha)]
  exact ho1
 show jd (jf prog w) A _ P E { s with heap:=qK s.heap a vs }
 dsimp only;have hsz:vs.toArray.size=vs.length:=by simp
 have hs':jk=16777216:=jt
 by_cases h2:vs.toArray.size<2
 .rw [oQ h2,oQ h2];refine jc (jg ?_);rw[StateT.run_pure];refine jc (jg ?_);dsimp only;refine jc (kj ho6 rfl ?_);refine jc (jF ho6 rfl ?_ (hsz2:=by rw[ed];show (jG vs).size<=_;rw[jJ,jt];lia))
  simp only[bne_self_eq_false,bx,if_false];refine jg (h _ (gC.refl _) ?_);intro i j x y _ hij hj ex ey;have:i=j:=by rw[jJ]at hj;lia
  subst this;rw[ex]at ey;cases ey;exact C.refl (hp x (aQq ex))
 .rw [oT h2,oT h2];refine jc (hkk (by lia) _ ?_)
  refine jc (jv (Ki C (arr:=jG vs) (g:=7) (E:=E)
   (Q:=λ_ st'=>∃xs p g',st'=Ao κ xs p g'/\xs.Perm (jG vs)/\vX lt xs 0 (jG vs).size) hp (by rw[jJ];lia) (by rw[jJ];lia) λxs p g' a1 a2=>⟨xs,p,g',rfl,a1,a2⟩) ?_ λ_ _ e=>e)
  rintro⟨⟨⟩,st'⟩ s' ⟨rfl,xs,p,g',rfl,hpm,hsg⟩;dsimp only;refine jc (kj ho6 rfl ?_);refine jc (jF ho6 rfl ?_ (hsz2:=by refine aS (cK ((ed ..).trans (hpm.size_eq.trans (jJ _)))) ?_;lia))
  simp only[bne_self_eq_false,bx,if_false];exact jg (h xs hpm hsg)
theorem Ea{l:Addr}{vs:List Value}{Q:Value->Shared->Prop}(hl:s.heap.IsList l vs.toArray) (hs:vs.length<64)
  (hC:∀s':Shared,(∀b o,s.heap.get? b=some o->s'.heap.get? b=some o)->(2<=vs.length->∀Q:jB->Shared->Prop,Q κ s'->jd (jf prog w) A.in1.in1 (kD vs.toArray) Q E s')/\xh prog w A.in1.in1 s' κ Pk lt)
  (hp:∀v∈vs,Pk (v,v))
  (h:∀(out:List Value) (h':Heap) (n':Nat),out.Perm vs->out.Pairwise (λx y=>lt (y,y) (x,x)=false)->(∀b o,s.heap.get? b=some o->h'.get? b=some o) ->
   h'.get? (s.heap.objs.size+1)=some (jh "list" out.toArray n')->Q (.ref (s.heap.objs.size+1)) { s with heap:=h' }) :
  jd (jf prog w) A (call (.builtin "sorted") [.ref l]) Q E s:=by
 refine Calls.call_function_entry mq lR lV (mP _) ?_;unfold Builtin.«sorted»;refine jc (m:=mK "sorted" 1 1 _) (jg ?_);refine jc (mO hl ?_ (by rw[jt];lia))
 refine jc (jO ?_ (by rw[jt];lia))
 have hsz:((s.heap.push (jh "list" #[] 0)).update s.heap.objs.size (Obj.mapSeq (· ++ vs.toArray))).objs.size=s.heap.objs.size+1:=by
  rw[aW,ke]
 have hoL:(((s.heap.push (jh "list" #[] 0)).update s.heap.objs.size (Obj.mapSeq (· ++ vs.toArray))).push (jh "list" vs.toArray 0)).get? (s.heap.objs.size+1)=some (jh "list" vs.toArray 0):=by
  rw[←hsz];exact aB _ rfl
 show jd _ _ _ _ _ { s with heap:=((s.heap.push (jh "list" #[] 0)).update s.heap.objs.size (Obj.mapSeq (· ++ vs.toArray))).push (jh "list" vs.toArray 0) }
 rw[hsz];generalize hG:((s.heap.push (jh "list" #[] 0)).update s.heap.objs.size (Obj.mapSeq (· ++ vs.toArray))).push (jh "list" vs.toArray 0)=G at hoL ⊢;have k1:∀b o,s.heap.get? b=some o->G.get? b=some o:=λb o e=>by
  rw[←hG];refine ab _ ?_;rw[aV _ _ _ _ (ao (ag e))];exact ab _ e
 have k2:∀b o,s.heap.get? b=some o->(qK G (s.heap.objs.size+1) vs).get? b=some o:=λb o e=>by
  refine ab _ (ab _ ?_);rw[aV _ _ _ _ (ao (ba (ag e)))];exact k1 b o e
 obtain⟨q1,q2⟩:=hC { s with heap:=qK G (s.heap.objs.size+1) vs } k2
 refine jc (jy (ku kY ⟨_,hoL,rfl⟩ kP (E5 (Pk:=Pk) (lt:=lt) hoL hs q1 q2 (λx hx=>?_) λxs a1 a2=>⟨_,rfl,?_⟩) (mB _)))
 .obtain ⟨m1,m2⟩:=uE hx;have:x=(x.1,x.1):=fA rfl m2;rw[this];exact hp _ m1
 .obtain ⟨v1,v2⟩:=xY a1 a2;obtain⟨e1,ho1⟩:=Ez vs hoL;obtain⟨n1,g1⟩:=Fp (xs.map (·.2)) ho1;refine jg ⟨_,rfl,h _ (kx G (s.heap.objs.size+1) vs (xs.map (·.2))) n1 v1 v2 (λb o e=>?_) ?_⟩
  .unfold kx;rw[aV _ _ _ _ (ao (ba (ag e)))];exact k2 b o e
  .rw [show (xs.map (·.2)).toList.toArray=xs.map (·.2) from eS]
   exact g1
end
end MrS
namespace Mr
open PySem L2 PySem.Calls
open PySem.Spec PyProof.Rows
section
variable {X:Cx}
theorem RL{nF:List (Addr×Obj)}{σ:St}{H:Hp}{s:Shared}{p:Addr}{c:List (List Int)}(I:Inv X nF σ H s) (h:wq H p c):HT.tY s.heap p c:=by
 obtain⟨qs,h1,h2,h3⟩:=h;exact BI I ⟨qs,As.of h1,h2,λi q r e1 e2=>As.of (h3 i q r e1 e2)⟩
theorem EA(hu:X.A.units+64<jw):vM X (.builtin "sorted") (λxs H Q=>∃(a:Addr) (ps:List Addr) (cs:List (List (List Int))),xs=[.ref a]/\ps.length<64/\qw X.K H a (ps.map V.ref)/\Kx H ps cs/\(∀c∈cs,c≠[]) /\
  ∀(p:Addr) (qs:List Addr),H p=none->qs.Perm ps->qs.map (pT H)=ug cs->Q (.ref p) (qr H p (.lst (qs.map V.ref)))):=by
 intro nF s σ H xs us Q I r h;obtain⟨a,ps,ms,rfl,hf,hS,⟨hm,hE⟩,hne,q⟩:=h;obtain⟨u,rfl,ru⟩:=uy r;cases ru;obtain⟨its,rv,hl,hz⟩:=I.list hS;have ei:=rh rv;subst ei;have keepL:∀(s':Shared),(∀b o,s.heap.get? b=some o->s'.heap.get? b=some o)->∀p∈ps,HT.tY s'.heap p (pT H p):=λs' k p hp=>(RL I (hE p hp)).keep k
 have hne':∀p∈ps,pT H p≠[]:=λp hp=>hne _ (by rw[hm];exact mMq.mpr ⟨p,hp,rfl⟩)
 refine MrS.Ea (κ:=lK false) (Pk:=λx=>∃p,x.1 = .ref p/\p∈ps) (lt:=U7 (pT H)) hl.isList (by simpa using hf) (λs' k=>⟨λh2 Q q=>?_,Ur (by show X.A.units+1+1+40<jw;lia) (keepL s' k)⟩) (λv m=>?_) λout h' n' o1 o2 o3 o4=>?_
 .exact Rv (by simpa using h2) (keepL s' k) hne' q
 .obtain ⟨p,hp,rfl⟩:=mMq.mp m;exact⟨p,rfl,hp⟩
 .have ho:∀v∈out,∃p∈ps,v = .ref p:=λv m=>by
   obtain⟨p,hp,rfl⟩:=mMq.mp (o1.mem_iff.mp m);exact⟨p,hp,rfl⟩
  have eo:out=(out.map pE).map ai:=by
   rw[mPq];have e:=mCq (l:=out) (f:=id) (g:=ai∘pE) λv hv=>by
    obtain⟨p,_,rfl⟩:=ho v hv;rfl
   rw[←e,bV]
  have hq:(out.map pE).Perm ps:=by
   have:=o1.map pE;rw[mPq,show pE∘ai=id from rfl,bV]at this
   exact this
  have hp:H (s.heap.objs.size+1)=none:=I.hok.fresh (aT _);generalize out.map pE=qs at eo hq;have es:qs.map (pT H)=ug ms:=by
   refine Ad (by rw[hm];exact hq.map _) ?_
   rw[aJ];rw[eo,aJ]at o2;exact o2
  refine⟨.ref (s.heap.objs.size+1),_,I.laid (t':=s.toks) o3 (aT _) (show qp X.prog X.w _ h' _ (.lst (qs.map V.ref)) from ⟨?_,out,n',?_,o4⟩),rfl,q _ qs hp hq es⟩
  .rw [lMq,hq.length_eq];simpa using hz
  .rw [eo];exact tO qs
theorem Mn{α:Type} [BEq α] [LawfulBEq α] [DecidableEq α] {ps:List Addr}{g:Addr->α}{c:α}:(ps.map ai).countP (λy=>decide (g (pE y)=c))=(ps.map g).count c:=by
 rw[iG,List.count,iG];refine List.countP_congr λx _=>?_
 show decide (g x=c)=true↔(g x == c)=true;rw[decide_eq_true_iff,beq_iff_eq]
end
end Mr
namespace Z
open PySem L2 Mr Xe
def IC(l:ML):MK:=λS=>(l S).bind λx=>(zz x.1).bind λcs=>tR ((∀c∈cs,c≠[])/\cs.length<64) (some (.ow ((ug cs).map λc=>.sh (dC c)),x.2))
theorem Rj(l:ML) (S:AS):IC l S=(l S).bind λx=>(zz x.1).bind λcs=>tR ((∀c∈cs,c≠[])/\cs.length<64) (some (.ow ((ug cs).map λc=>.sh (dC c)),x.2)):=rfl
section
variable {K:W.Frag}{te:TE}{l:ML}
theorem Kn{H:Hp}{c:List (List Int)}{v:V}(r:qd K H (dC c) v):∃p,v = .ref p/\wq H p c:=by
 obtain⟨p,vs,rfl,h1,h2⟩:=r.tup_inv;have key:∀{c:List (List Int)}{vs:List V},oH K H (c.map λr=>.tup (r.map .int)) vs->∃qs:List Addr,vs=qs.map V.ref/\qs.length=c.length/\∀(i:Nat) (q:Addr) (r:List Int),qs[i]?=some q->c[i]?=some r->H q=some (.tup (r.map V.int)):=λ{c}=>by
  induction c with
  |nil =>
   intro vs h;exact⟨[],h.nil_inv,rfl,λi q r e=>by cases e⟩
  |cons r c ih =>
   intro vs h;obtain⟨v,ws,rfl,g1,g2⟩:=h.cons_inv;obtain⟨q,us,rfl,k1,k2⟩:=g1.tup_inv;rw[oU k2]at k1;obtain⟨qs,rfl,l1,e1⟩:=ih g2;refine⟨q::qs,rfl,by simp[l1],λi q' r' a b=>?_⟩
   cases i with
   |zero=>cases a;cases b;exact k1
   |succ i=>exact e1 i q' r' (by simpa using a) (by simpa using b)
 obtain⟨qs,rfl,l1,e1⟩:=key h2;exact⟨p,rfl,qs,h1,l1,e1⟩
theorem Hc{H:Hp}:∀{cs:List (List (List Int))}{vs:List V},oH K H (cs.map dC) vs->∃ps,vs=ps.map V.ref/\Kx H ps cs/\∀p∈ps,qd K H (dC (pT H p)) (.ref p)
 | [],vs,h=>⟨[],h.nil_inv,⟨rfl,λp hp=>by cases hp⟩,λp hp=>by cases hp⟩
 |c::cs,vs,h=>by
  obtain⟨v,ws,rfl,h1,h2⟩:=h.cons_inv;obtain⟨ps,rfl,⟨e1,e2⟩,e3⟩:=Hc h2;obtain⟨p,rfl,g⟩:=Kn h1;refine⟨p::ps,rfl,⟨by rw[ar,g.eq,e1],λq hq=>?_⟩,λq hq=>?_⟩
  .rcases ah.mp hq with z|z
   .rw [z,g.eq];exact g
   .exact e2 q z
  .rcases ah.mp hq with z|z
   .rw [z,g.eq];exact h1
   .exact e3 q z
theorem Hr{H:Hp}:∀{ps:List Addr},(∀p∈ps,qd K H (dC (pT H p)) (.ref p))->oH K H ((ps.map (pT H)).map dC) (ps.map V.ref)
 | [],_=>oH.nil
 |p::ps,h=>oH.cons (h p (aj ..)) (Hr λq hq=>h q (mCo _ hq))
theorem M4(hl:SQ K te l):SK K (JY (λxs H Q=>∃(a:Addr) (ps:List Addr) (cs:List (List (List Int))),xs=[.ref a]/\ps.length<64/\qw K H a (ps.map V.ref)/\Kx H ps cs/\(∀c∈cs,c≠[]) /\
  ∀(p:Addr) (qs:List Addr),H p=none->qs.Perm ps->qs.map (pT H)=ug cs->Q (.ref p) (qr H p (.lst (qs.map V.ref)))) (rY te vI)) (IC l):=by
 intro H₀ Hf₀ Hf S σ H Fs av S' R e Q q;obtain⟨x,e1,e⟩:=oBq.mp e;obtain⟨ms,e2,e⟩:=oBq.mp e;rcases oK e with ⟨⟨hne,hf⟩,e⟩|e
 .cases e;refine hl R (ds:=x.1) (S':=x.2) e1 _ λHf1 H1 Fs1 p1 vs1 t1 R1 h1 r1=>?_
  rw[AN e2]at r1;obtain⟨ps,rfl,⟨hm,hE⟩,hR⟩:=Hc r1;have hsame:∀p∈ps,pT H1 p=pT Hf1 p:=λp hp=>((hE p hp).same R1.sub).eq
  have hE1:Kx H1 ps ms:=⟨by rw[hm];exact mCq λp hp=>(hsame p hp).symm,λp hp=>by rw[hsame p hp];exact(hE p hp).same R1.sub⟩
  refine⟨p1,ps,ms,rfl,by rw[hm,lMq]at hf;exact hf,h1,hE1,hne,λp qs hp hq es=>?_⟩
  obtain⟨t4,R4,n1,n2,n3⟩:=R1.new (o:=.lst (qs.map V.ref)) hp;have hq2:∀b∈qs,qd K Hf1 (dC (pT Hf1 b)) (.ref b):=λb hb=>hR b (hq.mem_iff.mp hb)
  have es2:qs.map (pT Hf1)=ug ms:=by rw[←es];exact mCq λb hb=>(hsame b (hq.mem_iff.mp hb)).symm
  have e3:(ug ms).map (λm=>AV.sh (dC m))=((ug ms).map dC).map AV.sh:=by rw[mPq];rfl
  rw[e3]at q;refine q _ _ _ (.ref p) [p] (t1.trans t4) R4 (oR.new oz n1 ?_) ((wx.one R1 hp).back t1);rw[←es2];exact Hr hq2
 .cases e
end
end Z
namespace Mr
open PySem L2 PySem.Calls
open PySem.Spec PyProof.Rows
def Xm(r:Addr->List Int) (x y:je):Bool:=match x.1,y.1 with
 | .ref p,.ref q=>HT.pR (r p) (r q)
 |_,_=>false
theorem N9{prog:jj}{w:jo}{A:Around}{s:Shared}{Q:Bool->Shared->Prop}{fin:Bool}:∀{vs:List Value}{c:List Int},jA vs c->∀{us:List Value}{d:List Int},jA us d->∀i:Nat,fin=decide (c.length<d.length)->Q (HT.pR c d) s->W.KatLex prog w A true fin Q (vs.zip us) i s:=by
 intro vs c hv
 induction hv with
 |nil =>
  intro us d hu i hf k;refine W.kat_nil ?_;cases hu with
  |nil=>rw[hf];simpa [HT.pR] using k
  |cons b t h=>rw[hf];simpa [HT.pR] using k
 |cons a t hv ih =>
  intro us d hu i hf k;cases hu with
  |nil =>
   refine W.kat_nil ?_;rw[hf];simpa [HT.pR] using k
  |cons b u hu =>
   refine W.kat_cons (wpAny_eqBool_int ?_);rw[HT.pR]at k;refine W.kat_go (λe=>?_) λe=>?_
   .have e:=eq_of_beq e;rw[oQ e]at k;exact W.kat_yes (ih hu (i+1) (by rw[hf];simp) k)
   .have e:¬ a=b:=λz=>by rw[z]at e;simp at e
    rw[oT e]at k;refine W.kat_no ?_;cases i with
    |zero =>
     show jd _ _ (oneLt' true _ _) _ _ _;rw[←kZ];exact W.kat_lt_int k
    |succ i =>
     show jd _ _ (oneLt' false _ _) _ _ _;exact W.kat_one _ _ (wpAny_lt_int k)
theorem UE{prog:jj}{w:jo}{A:Around}{s:Shared}{ps:List Addr}{r:Addr->List Int}
  (h:∀p∈ps,HT.ur s.heap p (r p)):MrS.xh prog w A s (lK true) (λx=>∃p,x.1 = .ref p/\p∈ps) (Xm r) where
 ask:=by
  rintro⟨_,x⟩ ⟨_,y⟩ ⟨p,e1,hp⟩ ⟨q,e2,hq⟩ E Q k;dsimp only at e1 e2;subst e1 e2;obtain⟨vs,⟨o,ho,hc,n,hd⟩,i1⟩:=h p hp;obtain⟨us,⟨o',ho',hc',n',hd'⟩,i2⟩:=h q hq;refine W.kat_lt ho hd ho' hd' ?_;exact N9 i1 i2 0 (by simp[i1.length,i2.length]) k
 asym:=by
  rintro⟨_,x⟩ ⟨_,y⟩ ⟨a,e1,_⟩ ⟨b,e2,_⟩ h;dsimp only at e1 e2;subst e1 e2;exact Mr.xP _ _ h
 trans:=by
  rintro⟨_,x⟩ ⟨_,y⟩ ⟨_,z⟩ ⟨a,e1,_⟩ ⟨b,e2,_⟩ ⟨c,e3,_⟩ h1 h2;dsimp only at e1 e2 e3;subst e1 e2 e3;exact Mr.wK _ _ _ h1 h2
theorem Tn{M:Model}{A:Around}{E:Value->Shared->Prop}{s:Shared}{ps:List Addr}{r:Addr->List Int}{Q:jB->Shared->Prop}(h2:2<=ps.length) (h:∀p∈ps,HT.ur s.heap p (r p)) (hne:∀p∈ps,r p≠[]) (q:Q (lK true) s):jd M A (kD (ps.map ai).toArray) Q E s:=by
 have key:∀ps:List Addr,(∀p∈ps,HT.ur s.heap p (r p))->(∀p∈ps,r p≠[])->∃fs:List Value,fs.length=ps.length/\W.KatTups s.heap (ps.map ai) fs/\∀f∈fs,∃z t,f = .int z t:=λps=>by
  induction ps with
  |nil=>intro _ _;exact⟨[],rfl,W.KatTups.nil,λf hf=>by cases hf⟩
  |cons p ps ih =>
   intro h hne;obtain⟨fs,a1,a2,a3⟩:=ih (λp hp=>h p (mCo _ hp)) (λp hp=>hne p (mCo _ hp))
   obtain⟨vs,⟨o,ho,hc,n,hd⟩,i1⟩:=h p (aj ..);have n1:=hne p (aj ..);generalize r p=c at i1 n1;cases i1 with
   |nil=>exact absurd rfl n1
   |cons z t i1 =>
    refine⟨.int z t::fs,by rw[lCq,lCq,a1],W.KatTups.cons ho hc hd rfl a2,λg hg=>?_⟩
    rcases ah.mp hg with w|w
    .rw [w];exact⟨z,t,rfl⟩
    .exact a3 g w
 obtain⟨fs,a1,a2,a3⟩:=key ps h hne;refine W.kat_kind (T:=.type "int") a2 (by lia) (λv hv=>?_) (by rfl) q
 obtain⟨z,t,rfl⟩:=a3 v hv;intro A Q E s2 k2 q2;exact ko (T := "int") rfl q2
def sd(H:Hp) (p:Addr):List Int:=match H p with
 |some (.tup vs)=>vs.map Oe
 |_=>[]
def Bk(H:Hp) (ps:List Addr) (rs:List (List Int)):Prop:=rs=ps.map (sd H)/\∀p∈ps,H p=some (.tup ((sd H p).map V.int))
theorem Aw{H:Hp}{p:Addr}{r:List Int}(h:H p=some (.tup (r.map V.int))):sd H p=r:=by
 unfold sd;rw[h];show (r.map V.int).map Oe=r;rw[mPq];exact gW r
section
variable {X:Cx}
theorem SE{nF:List (Addr×Obj)}{σ:St}{H:Hp}{s:Shared}{p:Addr}{r:List Int}(I:Inv X nF σ H s) (h:H p=some (.tup (r.map V.int))):HT.ur s.heap p r:=by
 obtain⟨its,rv,pl,_⟩:=I.tuple (As.of h);exact⟨its,pl,uh rv⟩
theorem ur.keep'{h h':Heap}{p:Addr}{c:List Int}(k:∀b o,h.get? b=some o->h'.get? b=some o) (t:HT.ur h p c):HT.ur h' p c:=by
 obtain⟨vs,⟨o,ho,sH⟩,i⟩:=t;exact⟨vs,⟨o,k _ _ ho,sH⟩,i⟩
theorem Fh:vM X (.builtin "sorted") (λxs H Q=>∃(a:Addr) (ps:List Addr) (rs:List (List Int)),xs=[.ref a]/\ps.length<64/\qw X.K H a (ps.map V.ref)/\Bk H ps rs/\(∀r∈rs,r≠[]) /\
  ∀(p:Addr) (qs:List Addr),H p=none->qs.Perm ps->qs.map (sd H)=yK rs->Q (.ref p) (qr H p (.lst (qs.map V.ref)))):=by
 intro nF s σ H xs us Q I r h;obtain⟨a,ps,ms,rfl,hf,hS,⟨hm,hE⟩,hne,q⟩:=h;obtain⟨u,rfl,ru⟩:=uy r;cases ru;obtain⟨its,rv,hl,hz⟩:=I.list hS;have ei:=rh rv;subst ei;have keepL:∀(s':Shared),(∀b o,s.heap.get? b=some o->s'.heap.get? b=some o)->∀p∈ps,HT.ur s'.heap p (sd H p):=λs' k p hp=>ur.keep' k (SE I (hE p hp))
 have hne':∀p∈ps,sd H p≠[]:=λp hp=>hne _ (by rw[hm];exact mMq.mpr ⟨p,hp,rfl⟩)
 refine MrS.Ea (κ:=lK true) (Pk:=λx=>∃p,x.1 = .ref p/\p∈ps) (lt:=Xm (sd H)) hl.isList (by simpa using hf) (λs' k=>⟨λh2 Q q=>?_,UE (keepL s' k)⟩) (λv m=>?_) λout h' n' o1 o2 o3 o4=>?_
 .exact Tn (by simpa using h2) (keepL s' k) hne' q
 .obtain ⟨p,hp,rfl⟩:=mMq.mp m;exact⟨p,rfl,hp⟩
 .have ho:∀v∈out,∃p∈ps,v = .ref p:=λv m=>by
   obtain⟨p,hp,rfl⟩:=mMq.mp (o1.mem_iff.mp m);exact⟨p,hp,rfl⟩
  have eo:out=(out.map pE).map ai:=by
   rw[mPq];have e:=mCq (l:=out) (f:=id) (g:=ai∘pE) λv hv=>by
    obtain⟨p,_,rfl⟩:=ho v hv;rfl
   rw[←e,bV]
  have hq:(out.map pE).Perm ps:=by
   have:=o1.map pE;rw[mPq,show pE∘ai=id from rfl,bV]at this
   exact this
  have hp:H (s.heap.objs.size+1)=none:=I.hok.fresh (aT _);generalize out.map pE=qs at eo hq;have es:qs.map (sd H)=yK ms:=by
   refine HW (by rw[hm];exact hq.map _) ?_
   rw[aJ];rw[eo,aJ]at o2;exact o2
  refine⟨.ref (s.heap.objs.size+1),_,I.laid (t':=s.toks) o3 (aT _) (show qp X.prog X.w _ h' _ (.lst (qs.map V.ref)) from ⟨?_,out,n',?_,o4⟩),rfl,q _ qs hp hq es⟩
  .rw [lMq,hq.length_eq];simpa using hz
  .rw [eo];exact tO qs
end
end Mr
namespace Mo
open PySem PyProof.Rows Mr
theorem Lg:lH (.type "zip") "__len__" = pure none:=by rw[typeLookup_type,mw];kernel_rfl
theorem Ii:lH (.type "zip") "__length_hint__" = pure none:=by rw[typeLookup_type,mw];kernel_rfl
section
variable {prog:jj}{w:jo}{A:Around}{E:Value->Shared->Prop}{s:Shared}
theorem Nz{z:Addr}{Q:Bool->Shared->Prop}(hT:s.TypeIs (.ref z) "zip") (q:Q true s):jd (jf prog w) A (Builtin.List.listLengthHint (.ref z)) Q E s:=by
 unfold Builtin.List.listLengthHint specialOf;refine jc (jc (ko hT ?_));rw[Lg];refine jg ?_;show jd _ _ (do
  let __x ← (do let t ←typeOf (.ref z);lH t (Str.ofString "__length_hint__"))
  _) _ _ _
 refine jc (jc (ko hT ?_));rw[Ii];refine jg ?_;exact jg q
theorem Ua{z TI TO i1 i2 l1 l2 d:Addr}{k:Nat}{xs ys:Array Value}{x y:Value}{Q:Option Value->Shared->Prop}(D:ky z TI TO i1 i2 l1 l2) (hd:d<s.heap.objs.size) (S:PH s.heap z TI TO i1 i2 l1 l2 d k xs ys) (hx:xs[k]?=some x) (hy:ys[k]?=some y)
  (hQ:∀h',PH h' z TI TO i1 i2 l1 l2 d (k+1) xs ys->ki h' s.heap.objs.size x y->(∀c o,c≠z->c≠TO->c≠i1->c≠i2->s.heap.get? c=some o->h'.get? c=some o)->Q (some (.ref s.heap.objs.size)) { s with heap:=h' }) :
  jd (jf prog w) A (kh (.ref z)) Q E s:=by
 obtain⟨a,b,hTO⟩:=S.to;have zl:z<s.heap.objs.size:=by
  rcases S.f with h|⟨_,_,_,h,_⟩
  .exact ag h
  .exact ag h
 have i1l:i1<s.heap.objs.size:=by obtain⟨_,q,_⟩:=S.h1;exact ag q
 have i2l:i2<s.heap.objs.size:=by obtain⟨_,q,_⟩:=S.h2;exact ag q
 have TOl:TO<s.heap.objs.size:=ag hTO;rcases S.f with hz|⟨T,f1,o,hz,ho,n1,n2,n3,n4,n5⟩
 .refine mr D hz S.ti hTO S.h1 S.h2 S.l1 S.l2 hx hy λh' a1 a2 a3 a4 a5 a6 a7=>hQ h' ⟨.inr ⟨_,_,_,a1,a5,aZ zl,aZ TOl,aZ i1l,aZ i2l,aZ hd⟩,a7 _ _ D.TIz D.TITO D.TIi1 D.TIi2 S.ti,⟨_,_,a2⟩,a3,a4,S.l1.at λo q=>a7 _ _ D.l1z D.l1TO D.l1i1 D.l1i2 q,S.l2.at λo q=>a7 _ _ D.l2z D.l2TO D.l2i1 D.l2i2 q⟩ a5 a7
 .have hT:=S.ty;unfold kh;refine jc (ly (lW (name:=Str.ofString "__next__") hT F.slot_zip_next (ku F.slot_zip_next hT F.entry_zip_next (VH D hz ho S.ti S.h1 S.h2 S.l1 S.l2 hx hy λh' a1 a3 a4 a5 a6 a7=>jg (hQ h' ?_ a5 λc o c1 _ c3 c4 q=>a7 c o c1 c3 c4 q)) (F.args_zip_next_1 _))))
  exact⟨.inr ⟨T,true,o,a1,a7 _ _ n1 n3 n4 ho,n1,n2,n3,n4,n5⟩,a7 _ _ D.TIz D.TIi1 D.TIi2 S.ti,⟨a,b,a7 _ _ D.TOz D.TOi1 D.TOi2 hTO⟩,a3,a4,S.l1.at λo q=>a7 _ _ D.l1z D.l1i1 D.l1i2 q,S.l2.at λo q=>a7 _ _ D.l2z D.l2i1 D.l2i2 q⟩
theorem Ds:entryFor table "list.extend.loop" = some Builtin.«list.extend.loop»:=entryFor_of_tree (by kernel_rfl)
theorem yv:plainId "list.extend.loop" = true:=by decide +kernel
structure Uc (h:Heap) (S z TO i1 i2:Addr) (us ws:List Value) (Ts:List Addr):Prop where
 nd:Ts.Nodup
 lt:∀T∈Ts,T<h.objs.size
 ne:∀T∈Ts,T≠z/\T≠TO/\T≠i1/\T≠i2/\T≠S
 pr:∀(i:Nat) (T:Addr) (u v:Value),Ts[i]?=some T->us[i]?=some u->ws[i]?=some v->ki h T u v
theorem Uc.keep{h h':Heap}{S z TO i1 i2:Addr}{us ws:List Value}{Ts:List Addr}(P:Uc h S z TO i1 i2 us ws Ts) (l1:Ts.length<=us.length) (l2:Ts.length<=ws.length) (k:∀T∈Ts,∀o,h.get? T=some o->h'.get? T=some o):Uc h' S z TO i1 i2 us ws Ts:=by
 refine⟨P.nd,λT hT=>?_,P.ne,λi T u v e1 e2 e3=>k T (mGq e1) _ (P.pr i T u v e1 e2 e3)⟩
 obtain⟨i,hi⟩:=aD.mp hT;have il:=(gSq.mp hi).1;exact ag (k T hT _ (P.pr i T _ _ hi (gEg (by lia)) (gEg (by lia))))
variable {R:mD->Shared->Prop}{z TI TO i1 i2 l1 l2 S:Addr}{us ws:List Value}{res:Value}
theorem Ql(hh:A.handled=none) (D:ky z TI TO i1 i2 l1 l2) (nd:∀c∈[z,TI,TO,i1,i2,l1,l2],c≠S) (hlen:us.length=ws.length) (hsz:us.length<=jk) :
  ∀(m j:Nat) (s:Shared) (Ts:List Addr) (c:Nat),us.length-j=m->j<=us.length->Ts.length=j->PH s.heap z TI TO i1 i2 l1 l2 S j us.toArray ws.toArray->s.heap.get? S=some (jh "list" (Ts.map ai).toArray c)->Uc s.heap S z TO i1 i2 us ws Ts ->
   (∀h' (Ts':List Addr) c',Ts'.length=us.length->h'.get? S=some (jh "list" (Ts'.map ai).toArray c')->Uc h' S z TO i1 i2 us ws Ts'->(∀T∈Ts',T∈Ts∨s.heap.objs.size<=T)->(∀b o,b≠z->b≠TO->b≠i1->b≠i2->b≠S->s.heap.get? b=some o->h'.get? b=some o)->R (.ok (.ret res)) { s with heap:=h' }) ->
   jZ (jf prog w) A (.builtin "list.extend.loop" ⟨[.ref S,.ref z,res],[]⟩) R s:=by
 intro m
 induction m with
 |zero =>
  intro j s Ts c hm hj hT St hS P hR;have hjn:j=us.length:=by lia
  refine jz Ds ?_;rw[Around.under_plainId yv _];show jd _ A.in1 (kh (.ref z) >>= _) _ _ s;refine jc (Vx hh D St (by simp;lia) λh' kp=>?_)
  have hS':=kp S _ (nd z (by simp)).symm (nd TO (by simp)).symm (nd i1 (by simp)).symm (nd i2 (by simp)).symm hS
  refine jg (hR h' Ts c (by lia) hS' ?_ (λT h=>.inl h) (λb o b1 b2 b3 b4 _ e=>kp b o b1 b2 b3 b4 e))
  .exact P.keep (by lia) (by lia) λT hT o e=>kp T o (P.ne T hT).1 (P.ne T hT).2.1 (P.ne T hT).2.2.1 (P.ne T hT).2.2.2.1 e
 |succ m ih =>
  intro j s Ts c hm hj hT St hS P hR;obtain⟨u,hu⟩:∃u,us[j]?=some u:=⟨_,gEg (by lia)⟩
  obtain⟨v,hv⟩:∃v,ws[j]?=some v:=⟨_,gEg (by lia)⟩
  refine jz Ds ?_;rw[Around.under_plainId yv _];show jd _ A.in1 (kh (.ref z) >>= _) _ _ s;have hdl:S<s.heap.objs.size:=ag hS;refine jc (Ua D hdl St (x:=u) (y:=v) (by simpa using hu) (by simpa using hv) λh' S' hP kp=>?_)
  have hS':=kp S _ (nd z (by simp)).symm (nd TO (by simp)).symm (nd i1 (by simp)).symm (nd i2 (by simp)).symm hS
  have P':Uc h' S z TO i1 i2 us ws Ts:=P.keep (by lia) (by lia) λT hT o e=>kp T o (P.ne T hT).1 (P.ne T hT).2.1 (P.ne T hT).2.2.1 (P.ne T hT).2.2.2.1 e
  have zl:z<s.heap.objs.size:=by
   rcases St.f with h|⟨_,_,_,h,_⟩
   .exact ag h
   .exact ag h
  have i1l:i1<s.heap.objs.size:=by obtain⟨_,q,_⟩:=St.h1;exact ag q
  have i2l:i2<s.heap.objs.size:=by obtain⟨_,q,_⟩:=St.h2;exact ag q
  have TOl:TO<s.heap.objs.size:=by obtain⟨_,_,q⟩:=St.to;exact ag q
  have lT:=ag hP;refine jc (jF hS' rfl ?_ (hsz:=by rw[ak,lMq];lia) (hsz2:=by rw[iH,ak,lMq];lia))
  have kU:gg S h' (h'.update S (Obj.mapSeq λx=>x.push (.ref s.heap.objs.size))):=λb o b1 e=>by rw[aV _ _ _ _ b1];exact e
  obtain⟨c2,hS2⟩:∃c2,(h'.update S (Obj.mapSeq λx=>x.push (.ref s.heap.objs.size))).get? S=some (jh "list" ((Ts++[s.heap.objs.size]).map ai).toArray c2):=by
   have:=jD hS' (λx=>x.push (.ref s.heap.objs.size))
   have eq:(Ts.map ai).toArray.push (.ref s.heap.objs.size)=((Ts++[s.heap.objs.size]).map ai).toArray:=by rw[List.push_toArray,mBq];rfl
   rw[eq]at this;exact⟨_,this⟩
  have sz2:(h'.update S (Obj.mapSeq λx=>x.push (.ref s.heap.objs.size))).objs.size=h'.objs.size:=aW ..
  generalize h'.update S (Obj.mapSeq λx=>x.push (.ref s.heap.objs.size))=h2 at kU hS2 sz2
  refine jg ⟨jC yv _,ih (j+1) { s with heap:=h2 } (Ts++[s.heap.objs.size]) c2 (by lia) (by lia) (by rw[lAq,lSq,hT]) (S'.keep nd kU) hS2 ?_ λh3 Ts3 c3 a1 a2 a3 a4 a5=>?_⟩
  .have fr:s.heap.objs.size∉Ts:=λm=>cu _ (P.lt _ m)
   refine⟨nAq.mpr ⟨P.nd,by simp,λa ha b hb q=>fr (by rw[mSq.mp hb]at q;exact q ▸ ha)⟩,λT hT=>?_,λT hT=>?_,λi T u' v' e1 e2 e3=>?_⟩
   .show T<h2.objs.size;rw[sz2];rcases mAq.mp hT with q|q
    .exact P'.lt T q
    .rw [mSq.mp q];exact lT
   .rcases mAq.mp hT with q|q
    .exact P.ne T q
    .rw [mSq.mp q];exact⟨aZ zl,aZ TOl,aZ i1l,aZ i2l,aZ hdl⟩
   .by_cases q:i<Ts.length
    .rw [gZq q]at e1;exact kU _ _ (P.ne T (mGq e1)).2.2.2.2 (P'.pr i T u' v' e1 e2 e3)
    .have hi:i=Ts.length:=by
      have:=(gSq.mp e1).1;rw[lAq,lSq]at this;lia
     subst hi;rw[gYq (ae _),dE]at e1;cases e1;rw[hT]at e2 e3;rw[hu]at e2;rw[hv]at e3;cases e2;cases e3;exact kU _ _ (aZ hdl) hP
  .have sle:s.heap.objs.size<=h2.objs.size:=by rw[sz2];exact bB lT
   refine hR h3 Ts3 c3 a1 a2 a3 (λT hT=>?_) (λb o b1 b2 b3 b4 b5 e=>a5 b o b1 b2 b3 b4 b5 (kU b o b5 (kp b o b1 b2 b3 b4 e)))
   rcases a4 T hT with q|q
   .rcases mAq.mp q with q|q
    .exact .inl q
    .rw [mSq.mp q];exact .inr (ae _)
   .exact .inr (aS sle q)
end
end Mo
namespace Mr
open PySem L2 PySem.Calls
open PySem.Spec PyProof.Rows
section
variable {X:Cx}
theorem Inv.laidS{nF:List (Addr×Obj)}{σ:St}{H H':Hp}{s:Shared}{h':Heap}{t':Nat}(I:Inv X nF σ H s) (k:∀b u,s.heap.get? b=some u->h'.get? b=some u) (sm:oM H H')
  (new:∀b o,H b=none->H' b=some o->s.heap.objs.size<=b/\qp X.prog X.w H' h' b o):Inv X nF σ H' { s with heap:=h',toks:=t' }:=by
 refine I.un ⟨λb u q _ _ _=>k b u q,λb u q _ _ _=>⟨u.slots,k b u q⟩,λb u q n _=>?_,λb u q _=>⟨u,k b u q⟩,λb xs q=>sm _ _ q,λb u xs q=>sm _ _ q,λ_ _ q=>sm _ _ q⟩ λb o e=>?_
 .cases e:H' b with
  |none=>rfl
  |some o=>exact absurd (ag q) (Nat.not_lt_of_le (new b o n e).1)
 .cases e1:H b with
  |none=>exact(new b o e1 e).2
  |some o1 =>
   have e2:=sm _ _ e1;rw[e]at e2;cases e2;exact(I.hok b o e1).stay (λc v _ q=>k c v q) (λc q=>sm _ _ q) (λc xs q=>sm _ _ q) λc xs q=>sm _ _ q
structure VT (h h0:Heap) (Ts:List Addr) (rs:List (List Int)):Prop where
 len:Ts.length=rs.length
 nd:Ts.Nodup
 ge:∀T∈Ts,h.objs.size<=T
 tu:∀(i:Nat) (T:Addr) (r:List Int),Ts[i]?=some T->rs[i]?=some r->∃its,oW (r.map V.int) its/\IsTup h0 T its.toArray
 kp:∀b o,h.get? b=some o->h0.get? b=some o
 le:h.objs.size<=h0.objs.size
def ze(Ts:List Addr) (rs:List (List Int)) (T:Addr):List Int:=((Ts.zip rs).lookup T).getD []
theorem Em:∀{Ts:List Addr}{rs:List (List Int)}{i:Nat}{T:Addr}{r:List Int},Ts.Nodup->Ts[i]?=some T->rs[i]?=some r->ze Ts rs T=r
 | [],_,_,_,_,_,h,_=>by cases h
 |_::_,[],_,_,_,_,_,h=>by cases h
 |a::Ts,b::rs,0,T,r,_,h1,h2=>by
  cases h1;cases h2;simp[ze]
 |a::Ts,b::rs,i+1,T,r,nd,h1,h2=>by
  have h1:Ts[i]?=some T:=by simpa using h1
  have h2:rs[i]?=some r:=by simpa using h2
  have ne:T≠a:=λz=>(aC.mp nd).1 (z ▸ mGq h1)
  have:=Em (aC.mp nd).2 h1 h2;unfold ze at this ⊢;rw[fu,dJ,beq_false_of_ne ne];exact this
theorem NQ{Ts:List Addr}{rs:List (List Int)}(nd:Ts.Nodup) (l:Ts.length=rs.length):Ts.map (ze Ts rs)=rs:=by
 refine dz λi=>?_
 rw[gMq]
 by_cases c:i<Ts.length
 .rw [gEg c,gEg (l ▸ c)];exact congrArg some (Em nd (gEg c) (gEg (l ▸ c)))
 .rw [bz (dG c),bz (by lia)]
  rfl
theorem VT.at{h h0:Heap}{Ts:List Addr}{rs:List (List Int)}(P:VT h h0 Ts rs) {T:Addr}(hT:T∈Ts):ze Ts rs T∈rs/\∃its,oW ((ze Ts rs T).map V.int) its/\IsTup h0 T its.toArray:=by
 obtain⟨i,hi⟩:=aD.mp hT;have il:=(gSq.mp hi).1;have hr:rs[i]?=some (rs[i]'(P.len ▸ il)):=gEg (P.len ▸ il);rw[Em P.nd hi hr];exact⟨mGq hr,P.tu i T _ hi hr⟩
end
end Mr
namespace Mr
open PySem PySem.Spec PyProof.Rows L2
theorem Bk.same{H H':Hp}{ps:List Addr}{rs:List (List Int)}(h:Bk H ps rs) (s:oM H H'):Bk H' ps rs:=by
 have e:∀p∈ps,sd H' p=sd H p:=λp hp=>Aw (s _ _ (h.2 p hp))
 exact⟨by rw[h.1];exact mCq λp hp=>(e p hp).symm,λp hp=>by rw[e p hp];exact s _ _ (h.2 p hp)⟩
end Mr
namespace Z
open PySem L2 Mr
abbrev Ar(r:List Int):D:=.tup (r.map .int)
abbrev aP(m:List (List Int)):AV:=.ow (m.map λr=>.sh (Ar r))
def Q7:List D->Option (List (List Int))
 | [.list as,.list bs]=>(qj as).bind λns=>(qj bs).bind λms=>if ns.length=ms.length then some (bh (λx y=>[x,y]) ns ms) else none
 |_=>none
theorem KF{ns ms:List Int}(h:ns.length=ms.length):Q7 [.list (ns.map D.int),.list (ms.map D.int)]=some (bh (λx y=>[x,y]) ns ms):=by
 show ((qj (ns.map D.int)).bind λns=>(qj (ms.map D.int)).bind λms=>if ns.length=ms.length then some (bh (λx y=>[x,y]) ns ms) else none)=_
 rw[qm,qm];simp[h]
section
variable {K:W.Frag}{ta:TA}{te:TE}{m:ML}{b:ME}{H₀ Hf₀ Hf Hf1:Hp}{S':AS}{σ:St}{H H1:Hp}{Fs Fs1:List (List Addr)}{rs:List (List Int)}{Q:VK}
theorem HZ{Hx:Hp}:∀{qs:List Addr}{rs:List (List Int)},qs.map (sd Hx)=rs->(∀q∈qs,Hx q=some (.tup ((sd Hx q).map V.int)))->oH K Hx (rs.map Ar) (qs.map V.ref)
 | [],_,rfl,_=>oH.nil
 |q::qs,_,rfl,h=>oH.cons (qd.mk_tup (h q (aj ..)) (sA _)) (HZ rfl λp hp=>h p (mCo _ hp))
theorem GR{Hx:Hp}:∀{m:List (List Int)}{vs:List V},oH K Hx (m.map Ar) vs->∃qs,vs=qs.map V.ref/\Bk Hx qs m
 | [],vs,h=>⟨[],h.nil_inv,rfl,λp hp=>by cases hp⟩
 |r::m,vs,h=>by
  obtain⟨v,ws,rfl,h1,h2⟩:=h.cons_inv;obtain⟨qs,rfl,e1,e2⟩:=GR h2;obtain⟨p,us,rfl,g1,g2⟩:=h1.tup_inv;rw[oU g2]at g1;refine⟨p::qs,rfl,by rw[ar,Aw g1,←e1],λq hq=>?_⟩
  rcases ah.mp hq with z|z
  .rw [z,Aw g1];exact g1
  .exact e2 q z
end
end Z
namespace Z
open PySem PySem.Spec PyProof.Rows L2 Mr
inductive Dl:Nat->D->PyData->Prop
 |non {n}:Dl n .non .none
 |bl {n b}:Dl n (.bl b) (.bool b)
 |int {n i}:Dl n (.int i) (.int i)
 |str {n x} (h:PyData.canLay0 (.str x)=true):Dl n (.str x) (.str x)
 |list {n} {ds:List D}{ps:List PyData}(l:ds.length=ps.length) (e:∀(i:Nat) (d:D) (p:PyData),ds[i]?=some d->ps[i]?=some p->Dl n d p):Dl (n+1) (.list ds) (.list ps)
 |tup {n} {ds:List D}{ps:List PyData}(l:ds.length=ps.length) (e:∀(i:Nat) (d:D) (p:PyData),ds[i]?=some d->ps[i]?=some p->Dl n d p):Dl (n+1) (.tup ds) (.tuple ps)
theorem AM{α:Type}{ds:List D}{ps:List α}(l:ds.length=ps.length) {p:α}(h:p∈ps):∃(i:Nat) (d:D),ds[i]?=some d/\ps[i]?=some p:=by
 obtain⟨i,hi⟩:=aD.mp h;have hl:=(gSq.mp hi).1;exact⟨i,_,gEg (l ▸ hl),hi⟩
theorem JC{ps:List PyData}(h:∀p∈ps,p.canLay0=true):PyData.canLayAll0 ps=true:=by
 induction ps with
 |nil=>rfl
 |cons p ps ih=>rw[PyData.canLayAll0,h p (aj ..),ih λq hq=>h q (mCo _ hq)];rfl
theorem Ju{ps:List PyData}(h:∀p∈ps,SeqAt.noMix p p=true):SeqAt.noMixAll ps ps=true:=by
 induction ps with
 |nil=>simp[SeqAt.noMixAll]
 |cons p ps ih=>rw[SeqAt.noMixAll,h p (aj ..),ih λq hq=>h q (mCo _ hq)];rfl
theorem GP{n:Nat}{ps:List PyData}(h:∀p∈ps,p.depth<=n):PyData.depthAll ps<=n:=by
 induction ps with
 |nil=>rw[PyData.depthAll];exact aG _
 |cons p ps ih =>
  rw[PyData.depthAll];have:=h p (aj ..);have:=ih λq hq=>h q (mCo _ hq)
  lia
theorem Dl.lay{n:Nat}{d:D}{p:PyData}(h:Dl n d p):p.canLay0=true:=by
 induction h with
 |str h=>exact h
 |list l _ ih=>rw[PyData.canLay0];exact JC λp hp=>let ⟨i,d,h1,h2⟩:=AM l hp;ih i d p h1 h2
 |tup l _ ih=>rw[PyData.canLay0];exact JC λp hp=>let ⟨i,d,h1,h2⟩:=AM l hp;ih i d p h1 h2
 |_=>rfl
theorem Dl.mix{n:Nat}{d:D}{p:PyData}(h:Dl n d p):SeqAt.noMix p p=true:=by
 induction h with
 |list l _ ih=>rw[SeqAt.noMix];exact Ju λp hp=>let ⟨i,d,h1,h2⟩:=AM l hp;ih i d p h1 h2
 |tup l _ ih=>rw[SeqAt.noMix];exact Ju λp hp=>let ⟨i,d,h1,h2⟩:=AM l hp;ih i d p h1 h2
 |_=>simp[SeqAt.noMix]
theorem Dl.deep{n:Nat}{d:D}{p:PyData}(h:Dl n d p):p.depth<=n:=by
 induction h with
 |list l _ ih=>rw[PyData.depth];exact eE (GP λp hp=>let ⟨i,d,h1,h2⟩:=AM l hp;ih i d p h1 h2)
 |tup l _ ih=>rw[PyData.depth];exact eE (GP λp hp=>let ⟨i,d,h1,h2⟩:=AM l hp;ih i d p h1 h2)
 |_=>simp[PyData.depth]
theorem Dl.shaped{n:Nat}{d:D}{p:PyData}(h:Dl n d p) (hn:n<=64):SeqAt.shaped p=true:=by
 show (PyData.canLay0 p && decide (PyData.depth p<=64))=true;rw[h.lay,decide_eq_true (aS h.deep hn)];rfl
end Z
namespace Mo
open PySem PySem.W PyProof.Rows Mr
section
variable {prog:jj}{w:jo}{A:Around}{E:Value->Shared->Prop}{s:Shared}{R:mD->Shared->Prop}{z TI TO i1 i2 l1 l2 S:Addr}{us ws:List Value}{res:Value}{c0:Nat}
theorem QB(hh:A.handled=none) (D:ky z TI TO i1 i2 l1 l2) (hz:IsZip s.heap z TI TO .none) (hTI:ki s.heap TI (.ref i1) (.ref i2)) (hTO:∃a b,ki s.heap TO a b) (h1:s.heap.IsListIter i1 l1 0) (h2:s.heap.IsListIter i2 l2 0) (hl1:s.heap.IsList l1 us.toArray) (hl2:s.heap.IsList l2 ws.toArray) (hlen:us.length=ws.length) (hsz:us.length<=jk)
  (hS0:s.heap.get? S=some (jh "list" #[] c0)) (lt:∀c∈[z,TI,TO,i1,i2,l1,l2],c≠S)
  (h:∀h' (Ts:List Addr) c',Ts.length=us.length->h'.get? S=some (jh "list" (Ts.map ai).toArray c')->Ts.Nodup->(∀T∈Ts,s.heap.objs.size<=T)->(∀(i:Nat) (T:Addr) (u v:Value),Ts[i]?=some T->us[i]?=some u->ws[i]?=some v->ki h' T u v)->(∀b o,b≠z->b≠TO->b≠i1->b≠i2->b≠S->s.heap.get? b=some o->h'.get? b=some o)->R (.ok (.ret res)) { s with heap:=h' }) :
  jd (jf prog w) A.in1 (Builtin.List.listExtendWith (.ref S) (.ref z) res)
   (λfin s'=>match fin with|.done f=>R (.ok f) s'|.again c'=>c'.quiet=true/\jZ (jf prog w) A c' R s') (λe s'=>R (.error e) s') s:=by
 have hT:Shared.TypeIs s (.ref z) "zip" := ⟨_,hz,rfl⟩;obtain⟨ta,tb,hTO⟩:=hTO;unfold Builtin.List.listExtendWith;refine jc (ko hT ?_);rw[oT (by
  have:Builtin.List.listSameRef (.ref S) (.ref z)=false:=by
   show (S == z)=false;exact beq_eq_false_iff_ne.mpr (lt z (by simp)).symm
  rw[this];decide)]
 refine jc (lO hz ?_);refine jc (jy (Nz hT ?_));rw[oQ (by rfl)]
 refine jc (wpAny_rule ?_);unfold Builtin.List.listTouch;refine jc (jc (jF hS0 rfl ?_));have g1:=jD hS0 (λx=>x.push fb)
 have k1:gg S s.heap (s.heap.update S (Obj.mapSeq λx=>x.push fb)):=λb o b1 e=>by rw[aV _ _ _ _ b1];exact e
 have z1:(s.heap.update S (Obj.mapSeq λx=>x.push fb)).objs.size=s.heap.objs.size:=aW ..
 generalize s.heap.update S (Obj.mapSeq λx=>x.push fb)=G1 at g1 k1 z1
 refine jF g1 rfl ?_;have g2:=jD g1 (λx=>x.pop)
 have k2:gg S G1 (G1.update S (Obj.mapSeq λx=>x.pop)):=λb o b1 e=>by rw[aV _ _ _ _ b1];exact e
 have z2:(G1.update S (Obj.mapSeq λx=>x.pop)).objs.size=s.heap.objs.size:=by rw[aW,z1]
 generalize G1.update S (Obj.mapSeq λx=>x.pop)=G2 at g2 k2 z2
 have kp:∀b o,b≠S->s.heap.get? b=some o->G2.get? b=some o:=λb o b1 e=>k2 b o b1 (k1 b o b1 e)
 have kc:∀c∈[z,TI,TO,i1,i2,l1,l2],∀o,s.heap.get? c=some o->G2.get? c=some o:=λc hc o e=>kp c o (lt c hc) e
 refine jg ⟨jC yv _,Ql hh D lt hlen hsz us.length 0 { s with heap:=G2 } [] _ (fN _) (aG _) rfl ⟨.inl (kc _ (by simp) _ hz),kc _ (by simp) _ hTI,⟨_,_,kc _ (by simp) _ hTO⟩,h1.at λo e=>kc _ (by simp) o e,h2.at λo e=>kc _ (by simp) o e,hl1.at λo e=>kc _ (by simp) o e,hl2.at λo e=>kc _ (by simp) o e⟩ g2 ⟨aN,λT hT=>(by cases hT),λT hT=>(by cases hT),λi T u v e=>(by cases e)⟩ λh3 Ts c3 a1 a2 a3 a4 a5=>?_⟩
 refine h h3 Ts c3 a1 a2 a3.nd (λT hT=>?_) a3.pr λb o b1 b2 b3 b4 b5 e=>a5 b o b1 b2 b3 b4 b5 (kp b o b5 e)
 rcases a4 T hT with q|q
 .cases q
 .have q:G2.objs.size<=T:=q;rw[z2]at q;exact q
theorem IH{Q:Value->Shared->Prop}(hh:A.handled=none) (D:ky z TI TO i1 i2 l1 l2) (hz:IsZip s.heap z TI TO .none) (hTI:ki s.heap TI (.ref i1) (.ref i2)) (hTO:∃a b,ki s.heap TO a b) (h1:s.heap.IsListIter i1 l1 0) (h2:s.heap.IsListIter i2 l2 0) (hl1:s.heap.IsList l1 us.toArray) (hl2:s.heap.IsList l2 ws.toArray) (hlen:us.length=ws.length) (hsz:us.length<=jk)
  (lt:∀c∈[z,TI,TO,i1,i2,l1,l2],c<s.heap.objs.size)
  (h:∀h' (Ts:List Addr) c',Ts.length=us.length->h'.get? s.heap.objs.size=some (jh "list" (Ts.map ai).toArray c')->Ts.Nodup->(∀T∈Ts,s.heap.objs.size<T)->(∀(i:Nat) (T:Addr) (u v:Value),Ts[i]?=some T->us[i]?=some u->ws[i]?=some v->ki h' T u v)->(∀b o,b≠z->b≠TO->b≠i1->b≠i2->s.heap.get? b=some o->h'.get? b=some o)->Q (.ref s.heap.objs.size) { s with heap:=h' }) :
  jd (jf prog w) A (call (.type "list") [.ref z]) Q E s:=by
 refine callType_codes (Q₁:=λobj s₁=>obj = .ref s.heap.objs.size/\s₁={ s with heap:=s.heap.push { cls:=.type "list", data:=.seq #[] } }) PySem.F.called_list (PySem.F.typeCall_list_1 _) PySem.F.entry_list_init
  (code_list_new _ ⟨rfl,rfl⟩) λobj s₁ h₁=>?_
 obtain⟨rfl,rfl⟩:=h₁;have hS:(s.heap.push { cls:=.type "list", data:=.seq #[] }).get? s.heap.objs.size=some { cls:=.type "list", data:=.seq #[] }:=aB _ rfl;refine⟨⟨_,hS,rfl⟩,PySem.F.args_list_init_2 _ _,?_⟩;show jd _ _ (do let old ←Builtin.List.listItems (.ref s.heap.objs.size);Builtin.List.listUpdate (.ref s.heap.objs.size) (λ_=>#[]);letGo old.toList.reverse;Builtin.List.listExtendWith (.ref s.heap.objs.size) (.ref z) .none) _ _ _
 refine jc ?_;unfold Builtin.List.listItems;refine jc (jL hS rfl (jg ?_));show jd _ _ (lX s.heap.objs.size (λ_=>#[]) >>= λ_=>letGo (#[]:Array Value).toList.reverse >>= λ_=>Builtin.List.listExtendWith (.ref s.heap.objs.size) (.ref z) .none) _ _ _
 refine jc (jT hS rfl ?_);have hS₂:=eN (Obj.mapSeq (λ_=>(#[]:Array Value))) hS rfl
 have oth:∀b o,s.heap.get? b=some o->((s.heap.push { cls:=.type "list", data:=.seq #[] }).update s.heap.objs.size (Obj.mapSeq (λ_=>(#[]:Array Value)))).get? b=some o :=
  λb o e=>(bq _ _ (aZ (ag e))).trans (ab _ e)
 refine jc (jP ?_);obtain⟨ta,tb,hTO⟩:=hTO;have zs:((s.heap.push { cls:=.type "list", data:=.seq #[] }).update s.heap.objs.size (Obj.mapSeq (λ_=>(#[]:Array Value)))).objs.size=s.heap.objs.size+1:=by rw[aW,ke]
 refine QB (A:=A.in1) (s:={ s with heap:=(s.heap.push { cls:=.type "list", data:=.seq #[] }).update s.heap.objs.size (Obj.mapSeq (λ_=>(#[]:Array Value))) }) hh D (oth _ _ hz) (oth _ _ hTI) ⟨_,_,oth _ _ hTO⟩ (h1.at λo e=>oth _ o e) (h2.at λo e=>oth _ o e) (hl1.at λo e=>oth _ o e) (hl2.at λo e=>oth _ o e) hlen hsz hS₂ (λc hc=>ao (lt c hc)) λh' Ts c' a1 a2 a3 a4 a5 a6=>?_
 refine⟨rfl,h h' Ts c' a1 a2 a3 (λT hT=>?_) a5 λb o b1 b2 b3 b4 e=>a6 b o b1 b2 b3 b4 (ao (ag e)) (oth b o e)⟩
 have:=a4 T hT;have this:((s.heap.push { cls:=.type "list", data:=.seq #[] }).update s.heap.objs.size (Obj.mapSeq (λ_=>(#[]:Array Value)))).objs.size<=T:=this
 lia
end
end Mo
namespace Mr
open PySem L2 PySem.Calls
open PySem.Spec PyProof.Rows
section
variable {X:Cx}
def WH(H:Hp) (rs:List (List Int)) (Q:VK):Prop:=∀(H':Hp) (p:Addr) (qs:List Addr),oM H H'->H p=none->p∉qs->(∀q∈qs,H q=none)->qs.Nodup->H' p=some (.lst (qs.map V.ref))->(∀q∈qs,H' q=some (.tup ((sd H' q).map V.int)))->qs.map (sd H')=rs->Q (.ref p) H'
theorem N6{nF:List (Addr×Obj)}{σ:St}{H:Hp}{s:Shared}{h':Heap}{rs:List (List Int)}{Q:VK}{p:Addr}{c t':Nat}{qs:List Addr}(I:Inv X nF σ H s) (P:VT s.heap h' qs rs) (hne:∀r∈rs,r.length<=jk) (hz:rs.length<=jk) (szl:s.heap.objs.size<=p) (pq:∀T∈qs,T≠p) (hp:h'.get? p=some (jh "list" (qs.map ai).toArray c)) (q:WH H rs Q) :
  EP X nF σ Q (.ref p) { s with heap:=h',toks:=t' }:=by
 have fr:∀T∈qs,H T=none:=λT hT=>I.hok.fresh (P.ge T hT)
 have frp:H p=none:=I.hok.fresh szl;have h2:∀T∈qs,(λb=>if b=p then some (HO.lst (qs.map V.ref)) else if b∈qs then some (HO.tup ((ze qs rs b).map V.int)) else H b:Hp) T=some (.tup ((ze qs rs T).map V.int)):=λT hT=>by
  show (if T=p then _ else _)=_
  rw[oT (pq T hT),oQ hT]
 have h3:(λb=>if b=p then some (HO.lst (qs.map V.ref)) else if b∈qs then some (HO.tup ((ze qs rs b).map V.int)) else H b:Hp) p=some (.lst (qs.map V.ref)):=oQ rfl
 have h4:oM H (λb=>if b=p then some (HO.lst (qs.map V.ref)) else if b∈qs then some (HO.tup ((ze qs rs b).map V.int)) else H b:Hp):=λb o e=>by
  have n1:b≠p:=λz=>by rw[z,frp]at e;cases e
  have n2:b∉qs:=λz=>by rw[fr b z]at e;cases e
  show (if b=p then _ else _)=_
  rw[oT n1,oT n2];exact e
 have h5:∀b o,H b=none->(λb=>if b=p then some (HO.lst (qs.map V.ref)) else if b∈qs then some (HO.tup ((ze qs rs b).map V.int)) else H b:Hp) b=some o->(b=p/\o = .lst (qs.map V.ref))∨(b∈qs/\o = .tup ((ze qs rs b).map V.int)):=λb o n e=>by
  have e:(if b=p then some (HO.lst (qs.map V.ref)) else if b∈qs then some (HO.tup ((ze qs rs b).map V.int)) else H b)=some o:=e
  split at e
  .rename_i z;cases e;exact .inl ⟨z,rfl⟩
  .split at e
   .rename_i z;cases e;exact .inr ⟨z,rfl⟩
   .rw [n]at e;cases e
 generalize (λb=>if b=p then some (HO.lst (qs.map V.ref)) else if b∈qs then some (HO.tup ((ze qs rs b).map V.int)) else H b:Hp)=H' at h2 h3 h4 h5
 have tq:∀T∈qs,sd H' T=ze qs rs T:=λT hT=>Aw (h2 T hT)
 refine⟨.ref p,H',Inv.laidS I (λb u e=>P.kp b u e) h4 λb o n e=>?_,rfl,q H' p qs h4 frp (λm=>pq p m rfl) fr P.nd h3 (λT hT=>by rw[tq T hT];exact h2 T hT) ?_⟩
 .rcases h5 b o n e with ⟨rfl,rfl⟩|⟨hb,rfl⟩
  .exact ⟨szl,by rw[lMq,P.len];exact hz,_,c,tO qs,hp⟩
  .obtain ⟨m1,its,rv,ob,e1,sH⟩:=P.at hb;exact⟨P.ge b hb,by rw[lMq];exact hne _ m1,its,rv,ob,e1,sH⟩
 .rw [mCq λT hT=>tq T hT]
  exact NQ P.nd P.len
def W1(K:W.Frag) (xs:List V) (H:Hp) (Q:VK):Prop:=∃(a b:Addr) (ns ms:List Int),xs=[.ref a,.ref b]/\qw K H a (ns.map V.int)/\qw K H b (ms.map V.int)/\ns.length=ms.length/\WH H (bh (λx y=>[x,y]) ns ms) Q
theorem P6{e f:Expr}{ta:TA}{p0 p pos0 pos:Pos}(hc:X.calm=true) (gl:Gl X "list") (ml:X.mg "list" = none) (hg:Gl X "zip") (hm:X.mg "zip" = none) (ha:PA X [e,f] ta)
  (he:jr [.Call (.Name "zip" p) [e,f] [] pos] X.env=(false,eval (.Call (.Name "zip" p) [e,f] [] pos) X.env)::jr [] X.env:=by rfl) (hs:jr [e,f] X.env=[(false,eval e X.env),(false,eval f X.env)]:=by rfl) (hs2:jr [f] X.env=[(false,eval f X.env)]:=by rfl) :
  PE X (.Call (.Name "list" p0) [.Call (.Name "zip" p) [e,f] [] pos] [] pos0) (JY (W1 X.K) ta):=by
 intro nF s σ H Q I h;refine jR (wg I gl ml boot_list ?_ (by decide) (by decide))
 refine bI ?_ he (by rfl)
 rw[he];show jd _ _ (spliced ((false,eval (.Call (.Name "zip" p) [e,f] [] pos) X.env)::jY pos0 (jr [] X.env))) _ _ s;refine Calls.spliced_cons ?_;refine Call_ (wg I hg hm boot_zip (bI (rM (ha pos nF s σ H _ I h) λus s1 hz1=>?_) (by rw[hs,hs2]) (by rw[hs2];rfl)))
 obtain⟨vs,H1,I1,r1,q1⟩:=hz1;obtain⟨a,b,ns,ms,e1,hq1,hq2,hl,q⟩:=q1;subst e1;obtain⟨u,v,rfl,ru,rv⟩:=N5 r1;cases ru;cases rv;obtain⟨its1,v1,p1,z1⟩:=I1.list hq1;obtain⟨its2,v2,p2,z2⟩:=I1.list hq2;have n1:=v1.length;have n2:=v2.length;rw[lMq]at n1 n2 z1;have al:a<s1.heap.objs.size:=let ⟨_,ho,_⟩:=p1.isList;ag ho
 have bl:b<s1.heap.objs.size:=let ⟨_,ho,_⟩:=p2.isList;ag ho
 refine call_zip_2 p1.isList p2.isList λg hz hTI hTO h1 h2 hsz hk=>Calls.spliced_nil ?_
 have D:ky (s1.heap.objs.size+4) (s1.heap.objs.size+2) (s1.heap.objs.size+3) s1.heap.objs.size (s1.heap.objs.size+1) a b:=zipApart_new al bl;have hsz':g.objs.size=s1.heap.objs.size+5:=hsz;have lz:(bh (λx y=>[x,y]) ns ms).length=ns.length:=by rw[gG];lia
 refine Mo.IH (s:={ s1 with heap:=g }) (I1.ok.hd hc) D hz hTI ⟨_,_,hTO⟩ h1 h2 (p1.isList.at λo e=>hk _ o e) (p2.isList.at λo e=>hk _ o e) (by lia) (by lia) (λc hc=>?_) λh' Ts c' a1 a2 a3 a4 a5 a6=>?_
 .show c<g.objs.size;simp only[ah,bN,or_false]at hc;rw[hsz'];rcases hc with rfl|rfl|rfl|rfl|rfl|rfl|rfl
  .exact dP (by decide) _
  .exact dP (by decide) _
  .exact dP (by decide) _
  .exact Nat.lt_add_of_pos_right (by decide)
  .exact dP (by decide) _
  .exact dN 5 al
  .exact dN 5 bl
 .have a4:∀T∈Ts,g.objs.size<T:=a4;have a2:h'.get? g.objs.size=some (jh "list" (Ts.map ai).toArray c'):=a2;have P:VT s1.heap h' Ts (bh (λx y=>[x,y]) ns ms):=by
   refine⟨by lia,a3,λT hT=>by have:=a4 T hT;lia,λi T r e1 e2=>?_,λb o e=>?_,bB (gN (by rw[hsz'];exact dn _ _) (ag a2))⟩
   .rw [dA]at e2;split at e2
    .rename_i x y ex ey;cases e2;obtain⟨u1,g1,r1⟩:=v1.get (i:=i) (x:=.int x) (by rw[gMq,ex];rfl)
     obtain⟨u2,g2,r2⟩:=v2.get (i:=i) (x:=.int y) (by rw[gMq,ey];rfl)
     exact⟨[u1,u2],.cons r1 (.cons r2 .nil),_,a5 i T u1 u2 e1 g1 g2,rfl,_,rfl⟩
    .cases e2
   .have lt:b<s1.heap.objs.size:=ag e;exact a6 b o (ao (dN 4 lt)) (ao (dN 3 lt)) (ao lt) (ao (dN 1 lt)) (hk b o e)
  refine N6 (s:=s1) (t':=s1.toks) I1 P (λr hr=>?_) (by rw[lz];exact z1) (by show s1.heap.objs.size<=g.objs.size;rw[hsz'];exact dn _ _) (λT hT=>aZ (a4 T hT)) a2 q
  obtain⟨i,hi⟩:=aD.mp hr;rw[dA]at hi;split at hi
  .cases hi;rw[jt];simp
  .cases hi
end
end Mr
namespace Z
open PySem L2 Mr
def Wk(m:ML):MK:=λS=>(m S).bind λx=>(Q7 x.1).map λrs=>(aP rs,x.2)
theorem Wg(m:ML) (S:AS):Wk m S=(m S).bind λx=>(Q7 x.1).map λrs=>(aP rs,x.2):=rfl
def Ip(l:ML):MK:=λS=>(l S).bind λx=>(uu x.1).bind λrs=>tR ((∀r∈rs,r≠[])/\rs.length<64) (some (aP (yK rs),x.2))
theorem Pq(l:ML) (S:AS):Ip l S=(l S).bind λx=>(uu x.1).bind λrs=>tR ((∀r∈rs,r≠[])/\rs.length<64) (some (aP (yK rs),x.2)):=rfl
section
variable {K:W.Frag}{ta:TA}{te:TE}{m l:ML}{H₀ Hf₀ Hf Hf1:Hp}{S':AS}{σ:St}{H H1:Hp}{Fs Fs1:List (List Addr)}{rs:List (List Int)}{Q:VK}
theorem TQ(R1:pJ K H₀ Hf₀ Hf1 S' σ H1 Fs1) (t1:xa Hf H Fs Hf1 H1 Fs1)
  (q:∀Hf' H' Fs' v F,xa Hf H Fs Hf' H' Fs'->pJ K H₀ Hf₀ Hf' S' σ H' Fs'->oR K Hf' H' (aP (rs)) v F->wx H₀ H Fs Fs' F->Q v H'):WH H1 rs Q:=by
 intro H' p qs sm hp hpq hq nd h1 h2 h3;have n:∀z∈qs,Hf1 z=none:=λz hz=>R1.sub.free (hq z hz)
 have R3:=(R1.laid sm).frz (F:=qs) (λz hz=>⟨R1.fr.free (hq z hz),λm=>(R1.mem m).1 (hq z hz)⟩) n
 have hin:∀z∈qs,Z.frz Hf1 H' qs z=H' z:=λz hz=>zo hz
 have hT:∀z∈qs,sd (Z.frz Hf1 H' qs) z=sd H' z:=λz hz=>by unfold sd;rw[hin z hz]
 have e3:(rs).map (λr=>AV.sh (Ar r))=((rs).map Ar).map AV.sh:=by rw[mPq];rfl
 refine q (Z.frz Hf1 H' qs) H' Fs1 (.ref p) [p] ⟨t1.sf.trans (rJ n),t1.sh.trans sm,t1.own,λb h g=>?_⟩ R3 ?_ ((wx.one R1 hp).back t1)
 .by_cases m:b∈qs
  .exact .inl (t1.sh.free (hq b m))
  .rw [tm m]at g;exact t1.gr b h g
 .show oR K _ H' (.ow ((rs).map λr=>AV.sh (Ar r))) (.ref p) [p]
  rw[e3];refine oR.new h1 (by rw[tm hpq];exact R1.sub.free hp) (HZ ?_ λz hz=>?_)
  .rw [←h3];exact mCq λz hz=>hT z hz
  .rw [hT z hz,hin z hz];exact h2 z hz
theorem Pw(hm:PU K ta m):SK K (JY (W1 K) ta) (Wk m):=by
 intro H₀ Hf₀ Hf S σ H Fs av S' R e Q q;obtain⟨x,e1,e⟩:=oBq.mp e;obtain⟨rs,e2,e⟩:=oMq.mp e;cases e;refine hm R (ds:=x.1) (S':=x.2) e1 _ λHf1 H1 Fs1 vs t1 R1 r1=>?_
 have sh:∃ns ms,x.1=[.list (ns.map D.int),.list (ms.map D.int)]/\ns.length=ms.length/\rs=bh (λx y=>[x,y]) ns ms:=by
  unfold Q7 at e2;split at e2
  .rename_i as bs hx;obtain⟨ns,f1,f2⟩:=oBq.mp e2;obtain⟨ms,f3,f4⟩:=oBq.mp f2;split at f4
   .rename_i hl;cases f4;exact⟨ns,ms,by rw[hx,sM f1,sM f3],hl,rfl⟩
   .cases f4
  .cases e2
 obtain⟨ns,ms,hx,hl,rfl⟩:=sh;rw[hx]at r1;obtain⟨va,w1,rfl,ra,r2⟩:=r1.cons_inv;obtain⟨vb,w2,rfl,rb,r3⟩:=r2.cons_inv;have:=r3.nil_inv;subst this;obtain⟨a,us1,rfl,g1,g2⟩:=ra.list_inv;obtain⟨b,us2,rfl,g3,g4⟩:=rb.list_inv;have u1:=oU g2;have u2:=oU g4;subst u1;subst u2;exact⟨a,b,ns,ms,rfl,qw.of g1,qw.of g3,hl,TQ R1 t1 q⟩
theorem ON(hl:SQ K te l):SK K (JY (λxs H Q=>∃(a:Addr) (ps:List Addr) (rs:List (List Int)),xs=[.ref a]/\ps.length<64/\qw K H a (ps.map V.ref)/\Bk H ps rs/\(∀r∈rs,r≠[]) /\
  ∀(p:Addr) (qs:List Addr),H p=none->qs.Perm ps->qs.map (sd H)=yK rs->Q (.ref p) (qr H p (.lst (qs.map V.ref)))) (rY te vI)) (Ip l):=by
 intro H₀ Hf₀ Hf S σ H Fs av S' R e Q q;obtain⟨x,e1,e⟩:=oBq.mp e;obtain⟨ms,e2,e⟩:=oBq.mp e;rcases oK e with ⟨⟨hne,h64⟩,e⟩|e
 .cases e;refine hl R (ds:=x.1) (S':=x.2) e1 _ λHf1 H1 Fs1 p1 vs1 t1 R1 h1 r1=>?_
  rw[vt e2]at r1;obtain⟨ps,rfl,hE⟩:=GR (m:=ms) r1;have hE1:=hE.same R1.sub;refine⟨p1,ps,ms,rfl,by rw[hE.1,lMq]at h64;exact h64,h1,hE1,hne,λp qs hp hq es=>?_⟩
  obtain⟨t4,R4,n1,n2,n3⟩:=R1.new (o:=.lst (qs.map V.ref)) hp;have same:∀b∈qs,sd H1 b=sd Hf1 b:=λb hb=>Aw (R1.sub _ _ (hE.2 b (hq.mem_iff.mp hb)))
  have e3:(yK ms).map (λr=>AV.sh (Ar r))=((yK ms).map Ar).map AV.sh:=by rw[mPq];rfl
  have q:∀Hf' H' Fs' v F,xa Hf H Fs Hf' H' Fs'->pJ K H₀ Hf₀ Hf' x.2 σ H' Fs'->oR K Hf' H' (.ow ((yK ms).map λr=>AV.sh (Ar r))) v F->wx H₀ H Fs Fs' F->Q v H':=q
  rw[e3]at q;refine q _ _ _ (.ref p) [p] (t1.trans t4) R4 (oR.new oz n1 (HZ ?_ λz hz=>hE.2 z (hq.mem_iff.mp hz))) ((wx.one R1 hp).back t1)
  rw[←es];exact mCq λb hb=>(same b hb).symm
 .cases e
end
end Z
namespace Mr
open PySem PySem.W L2 PySem.Calls
open PySem.Spec PyProof.Rows
section
variable {X:Cx}
def Dw(X:Cx) (A:Around) (N:List Str) (qual:Str) (scope:jQ) (f:Addr) (cd:Value) (cl:List (Str×Addr)) (s:Shared) (H:Hp):Cx where
 prog:=X.prog
 w:=X.w
 K:=X.K
 mg:=X.mg
 base:=X.base
 A:=A.deeper (envX qual scope s.heap.objs.size f cd cl)
 N:=N
 s₀:=s
 H₀:=H
 env:=envX qual scope s.heap.objs.size f cd cl
 outer:=X.stack
 stack:=envX qual scope s.heap.objs.size f cd cl::X.stack
 ex:=[]
 calm:=true
 fn:=λ_=>false
 pn:=[]
 xe:=λ_ _=>False
structure A4 (X:Cx) (x m:Str) (scope:jQ) (cl:List (Str×Addr)):Prop where
 kind:scope.kind = .function
 co:scope.isCoroutine=false
 gen:scope.isGenerator=false
 nocell:∀y∈scope.names,y.2 ≠ .cell
 xl:scope.names.lookup x=some .local
 ml:scope.names.lookup m=some .free
 fr:∀y,scope.names.lookup y=some .free->y=m
 cl:∃c,cl=[(m,c)]/\X.env.cells.lookup m=some c
 vis:X.env.kindOf m=some .cell
theorem A4.look{x m y:Str}{scope:jQ}{cl:List (Str×Addr)}{c:Addr}(L:A4 X x m scope cl) (h:cl.lookup y=some c):y=m/\X.env.cells.lookup m=some c:=by
 obtain⟨c',e,h2⟩:=L.cl;subst e;rw[dJ]at h;cases q:y == m with
 |true=>rw[q]at h;cases h;exact⟨beq_iff_eq.mp q,h2⟩
 |false=>rw[q]at h;cases h
theorem Le{nF:List (Addr×Obj)}{σ:St}{H:Hp}{s:Shared}{A:Around}{x m qual:Str}{scope:jQ}{f:Addr}{cd:Value}{cl:List (Str×Addr)}{i:Nat}{u:Value}{v vm:V}{h':Heap}{tk:Nat}(I:Inv X nF σ H s) (L:A4 X x m scope cl) (hd:A.handled=none) (hA:A.frames=X.A.frames)
  (hm:X.N[i]?=some m) (hv:σ[i]?=some (some vm)) (ru:pQ v u) (hns:h'.Ns s.heap.objs.size (λy=>([(x,u)]:List (Str×Value)).reverse.lookup y)) (hk:∀b o,s.heap.get? b=some o->h'.get? b=some o) :
  Inv (Dw X A [x,m] qual scope f cd cl s H) [] [some v,some vm] H { s with heap:=h',toks:=tk }:=by
 have e0:=I.env0;have noA:∀b:Addr,b∉(Dw X A [x,m] qual scope f cd cl s H).ex:=λb z=>absurd (show b∈([]:List Addr) from z) (by simp)
 obtain⟨mm,hn,hl⟩:=I.loc;have vsm:Uv X.env.scope m:=.inr (.inl L.vis);obtain⟨um,rm,lm⟩:=hl i m vm hm hv vsm;have hxm:m≠x:=λz=>by
  have:=L.xl;rw[←z,L.ml]at this;cases this
 refine⟨⟨e0.mod,L.kind,rfl,rfl,ae _,λy z c h1 h2=>?_,λy hy=>?_,λy c z _=>(by cases z),λ_=>hd,?_,.inr ⟨rfl,rfl⟩,λb z=>absurd z (noA b),e0.bs,e0.bsz,λb _ _=>noA b,λb z=>absurd z (noA b),e0.funs,e0.frf,e0.tb⟩,
  rfl,e0.bare,Un.kept hk,⟨_,hns,λj y v' h1 h2 h3=>?_⟩,λy c h=>?_,e0.hok.fresh (ae _),λy c h=>?_,λp hp=>absurd (show p∈([]:List (Addr×Obj)) from hp) (by simp),e0.hok.kept hk,rfl⟩
 .rw [(L.look h1).1,(L.look h2).1]
 .have hy:scope.names.lookup y=some .cell∨scope.names.lookup y=some .free:=hy;rcases hy with hy|hy
  .exact absurd rfl (L.nocell _ (PySem.mem_of_lookup hy))
  .obtain ⟨c,e,_⟩:=L.cl;refine⟨c,?_⟩;show cl.lookup y=some c;rw[L.fr y hy,e,dJ];simp
 .exact Around.frames_deeper (hA.trans I.ok.frames)
 .have hj:j=0∨j=1:=by
   cases j with
   |zero=>exact .inl rfl
   |succ j =>
    cases j with
    |zero=>exact .inr rfl
    |succ j=>exact absurd h2 (by simp)
  rcases hj with rfl|rfl
  .cases h1;cases h2;exact⟨u,ru,.inl ⟨L.xl,by simp⟩⟩
  .cases h1;cases h2;refine⟨um,rm,.inr ⟨.inr L.ml,?_⟩⟩;obtain⟨c,e,h4⟩:=L.cl;refine⟨c,?_,?_⟩
   .show cl.lookup m=some c;rw[e,dJ];simp
   .rcases lm with ⟨k,_⟩|⟨_,c2,e2,o,ho,hd2⟩
    .rw [L.vis]at k;cases k
    .rw [h4]at e2;cases e2;exact⟨o,hk _ _ ho,hd2⟩
 .obtain ⟨_,h4⟩:=L.look h;obtain⟨v',o,ho,hd2⟩:=I.cell m c h4;exact⟨v',o,hk _ _ ho,hd2⟩
 .exact I.freeC m c (L.look h).2
theorem QS{nF:List (Addr×Obj)}{σ:St}{H:Hp}{s:Shared}{A:Around}{E':Value->Shared->Prop}{x m qual:Str}{params:lZ}{body:Expr}{scope:jQ}{f c':Addr}{pm ctv:Value}{cl:List (Str×Addr)}{i:Nat}{u:Value}{v vm:V}{Q:VK}{t:TE}{k:Nat}
  (I:Inv X nF σ H s) (L:A4 X x m scope cl) (hr:rQ (k+1) A) (hA:A.frames=X.A.frames) (hm:X.N[i]?=some m) (hv:σ[i]?=some (some vm)) (ru:pQ v u)
  (ho:s.heap.get? f=some (kla_obj "<lambda>" qual params body scope cl pm c' ctv)) (hcd:s.heap.CodeRec (.ref c') qual)
  (hb:mL (kla_fn "<lambda>" qual params body scope cl pm (.ref c') ctv) ⟨[u],[]⟩=pure [(x,u)])
  (ht:rQ k (Dw X A [x,m] qual scope f (.ref c') cl s H).A->PE (Dw X A [x,m] qual scope f (.ref c') cl s H) body t) (h:t [some v,some vm] H Q) :
  jd (jf X.prog X.w) A (call (.ref f) [u]) (EP X nF σ Q) E' s:=by
 have lim:s.heap.NoLimit:=I.nolimit;refine wpAny_call (kC (R:=λr s'=>match r with|.ok (.ret u')=>CE X.stack X.prog X.w H s Q u' s'|_=>False) (kla_callFunE hr.depth ho rfl L.co L.gen rfl hcd ?_) λr s' hq=>?_)
 .rw [hb];refine jg (mG L.nocell (λy hy=>by rw[mSq.mp hy];exact L.xl) (λh₁ hns hsb=>⟨lim.fresh _ hsb,?_⟩) L.kind)
  have hk₁:∀b o,s.heap.get? b=some o->h₁.get? b=some o:=λb o e=>hsb.extBut b o (ao (ag e)) (ab _ e)
  show jZ _ _ (.expr body (envX qual scope s.heap.objs.size f (.ref c') cl)) _ _;have J:=Le (A:=A) (qual:=qual) (f:=f) (cd:=.ref c') (tk:=s.toks+1) I L hr.hd hA hm hv ru hns hk₁;refine kla_codeExpr (jv (ht (hr.deeper _) [] _ _ H Q J h) (λv' s' hs=>?_) λe s' z=>z.elim)
  obtain⟨w,H',J',rv,q⟩:=hs;exact⟨w,H',J'.os,J'.bare,J'.base,J'.hok,rv,q⟩
 .cases r with
  |error e=>exact hq.elim
  |ok fl =>
   cases fl with
   |ret u'=>exact I.after hq
   |next=>exact hq.elim
   |brk=>exact hq.elim
   |cont=>exact hq.elim
end
section
variable {X:Cx}
theorem IB{p pos:Pos}{c cv:Value}(l:List Value) (h:TriplesOk l) (hn:lx p (l++[kR pos.line,kR pos.col,c])=some cv):lx p l=some cv∨cv=c:=by
 fun_induction TriplesOk l with
 |case1 =>
  simp only[fW,lx,kR]at hn;split at hn
  .exact .inr (aM.inj hn).symm
  .cases hn
 |case2 a t b u x sH ih =>
  simp only[ir,lx]at hn ⊢;split at hn
  .rename_i hc;rw[oQ hc];exact .inl hn
  .rename_i hc;rw[oT hc];exact ih h hn
 |case3 l h1 h2=>exact h.elim
theorem Nq{nF:List (Addr×Obj)}{σ:St}{H:Hp}{s:Shared}{A:Around}{E:Value->Shared->Prop}{Q:Value->Shared->Prop}{params:lZ}{body:Expr}{scope:jQ}{pos:Pos}{c P:Addr}{cl:List (Str×Addr)}
  (I:Inv X nF σ H s) (hcode:X.env.code = .ref c) (C:codeHdIn X.K c P=true) (hmem:(P,X.env.qual ++ "<lambda>")∈uc X.K) (hdef:defaultsOf params X.env=([],[])) (hcl:mJ scope X.env=pure cl)
  (h:∀(f c':Addr) (oc:Obj) (vs:Array Value) (tq:Tok) (ctv:Value) (H':Hp) (h':Heap) (tk:Nat),Inv X nF σ H' { s with heap:=h',toks:=tk }->(∀b o,H b=some o->H' b=some o)->H' c'=some (.frz oc (.own P))->oc.data = .fields vs->vs[1]?=some (.str (X.env.qual ++ "<lambda>") tq) ->
   s.heap.objs.size<=f->H' f=none->h'.get? f=some (kla_obj "<lambda>" (X.env.qual ++ "<lambda>") params body scope cl ((X.mg "__name__").getD .none) c' ctv)->Q (.ref f) { s with heap:=h',toks:=tk }) :
  jd (jf X.prog X.w) A (eval (.Lambda params body scope pos) X.env) Q E s:=by
 have hP:H P=some (.tbl (X.env.qual ++ "<lambda>")):=I.tb _ hmem;have C:CodeHd X.base c P:=codeHd_of_K I.mod.kin C;obtain⟨ps,hPs,ht,hbk⟩:=I.hok P _ hP;have hg:s.heap.Ns jn X.mg:=I.mod.glob.keeps I.bk;have hgP:jn≠P:=λz=>by
  obtain⟨o,es,ep,e,_⟩:=I.mod.glob;have:=(I.bs _ _ e).2;rw[z,hP]at this;cases this
 have hB':s.heap.BuiltinsAt X.mg P:=by
  obtain⟨bm,o,b1,b2,b3,b4,b5,b6⟩:=I.mod.bmod;refine⟨bm,o,b1,b2,λz=>?_,λz=>?_,I.bk _ _ b3,b4,b5,b6⟩
  .obtain ⟨o',es,ep,e,d,_⟩:=I.mod.glob;rw[z,e]at b3;cases b3;rw[d]at b6;cases b6
  .have:=(I.bs _ _ b3).2;rw[z,hP]at this;cases this
 cases hc:lx pos ps.toList with
 |some cv =>
  obtain⟨b,oc,vs,tq,e1,e2,e3,e4⟩:=hbk pos cv hc;subst e1;refine kla_eval hdef (kla_makeFunctionHit (mg:=X.mg) hcl I.ok.glob hg hcode (C.keeps I.bk) hPs ht hc hB' λctv h' tk hk hsz=>?_)
  refine h h'.objs.size b oc vs tq ctv H _ tk (I.un (Un.kept λb o e=>ab _ (hk b o e)) (I.hok.kept λb o e=>ab _ (hk b o e))) (λ_ _ e=>e) e2 e3 e4 hsz ?_ (aB _ rfl)
  exact I.hok.fresh hsz
 |none =>
  refine kla_eval hdef (kla_makeFunction (mg:=X.mg) hcl I.ok.glob hg hcode (C.keeps I.bk) hPs ht hc hgP hB' λc' ctv h' tk hx hge hlt hrec htb=>?_)
  obtain⟨c₂,oc,vs,tq,e2,hoc,hd,hv⟩:=hrec;cases e2;have hn:H c'=none:=I.hok.fresh hge;have kp:∀b o,b≠P->s.heap.get? b=some o->(h'.push (kla_obj "<lambda>" (X.env.qual ++ "<lambda>") params body scope cl ((X.mg "__name__").getD .none) c' ctv)).get? b=some o:=λb o hb e=>ab _ (hx b o hb e)
  have nP:∀b,H b=none->b≠P:=λb n z=>by rw[z,hP]at n;cases n
  have nc:∀b u,H b=some u->b≠c':=λb u e=>pX e hn
  have hsz:s.heap.objs.size<=h'.objs.size:=aS hge (bB hlt);refine h h'.objs.size c' oc vs tq ctv (qr H c' (.frz oc (.own P))) _ tk (I.un ⟨λb o e n _ _=>kp b o (nP b n) e,λb o e n _ _=>⟨o.slots,kp b o (nP b n) e⟩,λb o e n _=>?_,λb o e _=>?_,λb xs e=>?_,λb o u e=>?_,λb q e=>?_⟩ λb u e=>?_) (λb o e=>?_) oz hd hv hsz ?_ (aB _ rfl)
  .rw [nX (ao (aE (ag e) hge))];exact n
  .by_cases hb:b=P
   .subst hb;exact⟨_,ab _ htb⟩
   .exact ⟨o,kp b o hb e⟩
  .rw [nX (nc _ _ e)];exact e
  .rw [nX (nc _ _ e)];exact e
  .rw [nX (nc _ _ e)];exact e
  .by_cases hb:b=c'
   .subst hb;rw[oz]at e;cases e;exact⟨ab _ hoc,⟨_,ab _ hoc⟩⟩
   .rw [nX hb]at e
    by_cases hb2:b=P
    .subst hb2;rw[hP]at e;cases e;refine⟨_,ab _ htb,?_,λp cv hcv=>?_⟩
     .rw [gH];exact TriplesOk_snoc _ _ _ _ ht
     .rw [gH]at hcv;rcases IB ps.toList ht hcv with z|z
      .obtain ⟨b2,oc2,vs2,tq2,z1,z2,z3⟩:=hbk p cv z;exact⟨b2,oc2,vs2,tq2,z1,by rw[nX (nc _ _ z2)];exact z2,z3⟩
      .exact ⟨c',oc,vs,tq,z,oz,hd,hv⟩
    .refine (I.hok b u e).stay (λb2 v hb3 q=>kp b2 v ?_ q) (λb2 q=>?_) (λb2 xs q=>?_) λb2 o q=>?_
     .rcases hb3 with rfl|hb3
      .exact hb2
      .intro z;rw[z,hP]at hb3;cases hb3
     .rw [nX (nc _ _ q)];exact q
     .rw [nX (nc _ _ q)];exact q
     .rw [nX (nc _ _ q)];exact q
  .rw [nX (nc _ _ e)];exact e
  .rw [nX (aZ hlt)];exact I.hok.fresh hsz
end
section
variable {X:Cx}
theorem Hj{K:W.Frag}{H H':Hp}{a:Addr}{xs:List V}(s:oM H H') (h:As K H a xs):As K H' a xs:=by
 rcases h with h|h
 .rcases h with h|⟨o,h⟩
  .exact .inl (.inl (s _ _ h))
  .exact .inl (.inr ⟨o,s _ _ h⟩)
 .exact .inr h
theorem yi.same{K:W.Frag}{H H':Hp}{p:Addr}{c:List (List Int)}(s:oM H H') (h:yi K H p c):yi K H' p c:=by
 obtain⟨qs,h1,h2,h3⟩:=h;exact⟨qs,Hj s h1,h2,λi q r e1 e2=>Hj s (h3 i q r e1 e2)⟩
def Gx(K:W.Frag) (kq:V->Hp->VK->Prop):List V->V->List (List Int)->Hp->VK->Prop
 | [],xb,_,H,Q=>Q xb H
 |x::xs,xb,cb,H,Q=>kq x H λv H'=>oM H H'/\∃p c,v = .ref p/\yi K H' p c/\(if HT.oZ c cb=true then Gx K kq xs x c H' Q else Gx K kq xs xb cb H' Q)
def N1(X:Cx) (nF:List (Addr×Obj)) (σ:St) (A:Around) (H0:Hp) (f:Addr) (fo:Obj) (kq:V->Hp->VK->Prop):Prop :=
 ∀(more:List (Addr×Obj)) (H:Hp) (s:Shared) (v:V) (u:Value) (Q:VK),Inv X (nF++more) σ H s->oM H0 H->s.heap.get? f=some fo->pQ v u->kq v H Q ->
  jd (jf X.prog X.w) A (call (.ref f) [u]) (EP X (nF++more) σ Q) (λ_ _=>False) s
structure Mu (X:Cx) (nF:List (Addr×Obj)) (H:Hp) (h:Heap) (I S f:Addr) (oI so fo:Obj):Prop where
 fI:uf X nF H I
 fS:uf X nF H S
 ff:uf X nF H f
 hI:h.get? I=some oI
 hS:h.get? S=some so
 hf:h.get? f=some fo
theorem FO{nF:List (Addr×Obj)}{σ:St}{A:Around}{H0 H:Hp}{f I S:Addr}{fo oI so:Obj}{kq:V->Hp->VK->Prop}{s:Shared}{v:V}{u:Value}{Q:VK}(turn:N1 X nF σ A H0 f fo kq) (J:Inv X nF σ H s) (O:Mu X nF H s.heap I S f oI so fo)
  (cI:∀v,oI.data ≠ .cell v) (cS:∀v,so.data ≠ .cell v) (cf:∀v,fo.data ≠ .cell v) (s0:oM H0 H) (r:pQ v u) (h:kq v H Q) :
  jd (jf X.prog X.w) A (call (.ref f) [u]) (λu' s'=>∃v' H',Inv X nF σ H' s'/\pQ v' u'/\Q v' H'/\Mu X nF H' s'.heap I S f oI so fo) (λ_ _=>False) s:=by
 have I2:Inv X (nF++[(I,oI),(S,so),(f,fo)]) σ H s:=J.pins_of λp hp=>by
  rcases mAq.mp hp with z|z
  .exact J.pin p (ay _ z)
  .simp only [ah,bN,or_false]at z;rcases z with rfl|rfl|rfl
   .exact ⟨O.hI,O.fI.1,O.fI.2.1,O.fI.2.2.1,cI⟩
   .exact ⟨O.hS,O.fS.1,O.fS.2.1,O.fS.2.2.1,cS⟩
   .exact ⟨O.hf,O.ff.1,O.ff.2.1,O.ff.2.2.1,cf⟩
 refine jv (turn _ H s v u Q I2 s0 O.hf r h) (λu' s' hq=>?_) λ_ _ e=>e
 obtain⟨v',H',I3,rv,q⟩:=hq;have p1:=I3.pin (I,oI) (by simp)
 have p2:=I3.pin (S,so) (by simp)
 have p3:=I3.pin (f,fo) (by simp)
 exact⟨v',H',I3.unpinned,rv,q,⟨p1.2.1,O.fI.2⟩,⟨p2.2.1,O.fS.2⟩,⟨p3.2.1,O.ff.2⟩,p1.1,p2.1,p3.1⟩
theorem HD{nF:List (Addr×Obj)}{σ:St}{A:Around}{H0:Hp}{f I S a:Addr}{fo:Obj}{kq:V->Hp->VK->Prop}{xs:List V}{Q:VK}(hh:A.handled=none) (hu:A.units+64<jw) (turn:N1 X nF σ A.in1 H0 f fo kq) (cf:∀v,fo.data ≠ .cell v) (hlI:a≠I) (hSI:S≠I) (hfI:f≠I) (hfS:f≠S) :
  ∀(r j:Nat) (H:Hp) (s:Shared) (xb:V) (ub:Value) (pb:Addr) (cb:List (List Int)) (c:Nat) (oI:Obj),xs.length-(j+1)=r->j+1<=xs.length->Inv X nF σ H s->oM H0 H->qw X.K H a xs->Mu X nF H s.heap I S f oI (jh "list" #[ub,.ref pb] c) fo->s.heap.IsListIter I a (j+1)->pQ xb ub ->
   yi X.K H pb cb->Gx X.K kq (xs.drop (j+1)) xb cb H Q ->
   jZ (jf X.prog X.w) A (.builtin "min.loop" ⟨[.ref I,.ref f,.ref S],[]⟩) (λr s'=>match r with|.ok (.ret u)=>EP X nF σ Q u s'|_=>False) s:=by
 have hname:(toString "min" ++ toString ".loop" : String) = "min.loop" := by decide
 intro r
 induction r with
 |zero =>
  intro j H s xb ub pb cb c oI hr hj J s0 hS O hit rb hcb hM;have hin:j+1=xs.length:=by lia
  obtain⟨its,rv,pl,hz⟩:=J.list hS;have hsz:its.toArray.size=xs.length:=by rw[ak];exact rv.length.symm
  have W:=Walks.list (prog:=X.prog) (w:=X.w) (A:=A.in1) hh I a hlI its.toArray;refine jz eB ?_;rw[Around.under_plainId bP _];show jd _ A.in1 (lu (.ref S) >>= _) _ _ _;refine jc (jL O.hS rfl ?_);show jd _ A.in1 (tryCatch (kh (.ref I)) _ >>= _) _ _ _;refine jc (jI (W.done _ _ _ ⟨by rw[hsz,←hin];exact hit,pl.isList⟩ λh' tk' hk'=>?_))
  have J1:Inv X nF σ H { s with heap:=h',toks:=tk' }:=uv (fp:=[I]) J hk' λb hb=>by rw[mSq.mp hb];exact O.fI
  have hS':=hk' S _ (by simpa using hSI) O.hS
  have s1:=bS.update h' S (Obj.mapSeq λ_=>(#[]:Array Value))
  show jd _ A.in1 (lX S (λ_=>#[]) >>= _) _ _ _
  refine jc ?_;refine jT hS' rfl (jc (jP (jg ?_)));have J2:Inv X nF σ H { s with heap:=h'.update S (Obj.mapSeq λ_=>(#[]:Array Value)),toks:=tk' }:=uv (s:={ s with heap:=h',toks:=tk' }) (fp:=[S]) J1 (λb o hb e=>(s1.2 b (λz=>hb (by simp[z]))).trans e) λb hb=>by rw[mSq.mp hb];exact O.fS
  rw[bw (by lia)]at hM
  exact⟨xb,H,J2,rb,hM⟩
 |succ r ih =>
  intro j H s xb ub pb cb c oI hr hj J s0 hS O hit rb hcb hM;have hlt:j+1<xs.length:=by lia
  obtain⟨its,rv,pl,hz⟩:=J.list hS;have hsz:its.toArray.size=xs.length:=by rw[ak];exact rv.length.symm
  have W:=Walks.list (prog:=X.prog) (w:=X.w) (A:=A.in1) hh I a hlI its.toArray;refine jz eB ?_;rw[Around.under_plainId bP _];show jd _ A.in1 (lu (.ref S) >>= _) _ _ _;refine jc (jL O.hS rfl ?_);show jd _ A.in1 (tryCatch (kh (.ref I)) _ >>= _) _ _ _;refine jc (jI (W.item (j+1) _ _ _ (by rw[hsz];exact hlt) ⟨hit,pl.isList⟩ λv h' tk' hP hst' hk'=>?_))
  have hv:its[j+1]?=some v:=by simpa using hP
  obtain⟨u2,hu2,rx⟩:=rv.get (i:=j+1) (x:=xs[j+1]) (gEg hlt);rw[hv]at hu2;cases hu2;obtain⟨oI',hoI',hoc,hod⟩:=id hst'.1;have J1:Inv X nF σ H { s with heap:=h',toks:=tk' }:=uv (fp:=[I]) J hk' λb hb=>by rw[mSq.mp hb];exact O.fI
  have O1:Mu X nF H h' I S f oI' (jh "list" #[ub,.ref pb] c) fo:=⟨O.fI,O.fS,O.ff,hoI',hk' S _ (by simpa using hSI) O.hS,hk' f _ (by simpa using hfI) O.hf⟩
  rw[aw hlt]at hM;show jd _ A.in1 (tryCatch (mS [v] (call (.ref f) [v])) _ >>= _) _ _ _;refine jc (jI (jy (jv (FO turn J1 O1 (λv z=>by rw[hod]at z;cases z) (λv z=>by cases z) cf s0 rx hM) (λu' s2 he=>?_) λ_ _ hF=>hF.elim)))
  obtain⟨v',H2,J2,rv2,⟨s2',pk,ck,rfl,hck,hM2⟩,O2⟩:=he;cases rv2;have hit2:s2.heap.IsListIter I a (j+1+1):=⟨oI',O2.hI,hoc,hod⟩;have k1:=BI J2 hck;have k2:=BI J2 (hcb.same s2');show jd _ A.in1 (tryCatch (mS [v,.ref pk] (kB .Lt (.ref pk) (.ref pb) >>= _)) _ >>= _) _ _ _;refine jc (jI (jy (jc (k1.lt k2 (A:=A.in1) (by show A.units+1+8<jw;lia) X.prog X.w _ _ ?_))))
  refine jc (jy (jN ?_));refine jc (jP (jg ?_))
  by_cases hb':HT.oZ ck cb=true
  .have s1:=bS.update s2.heap S (Obj.mapSeq λ_=>#[v,.ref pk])
   obtain⟨c2,hc2⟩:∃c2,(s2.heap.update S (Obj.mapSeq λ_=>#[v,.ref pk])).get? S=some (jh "list" #[v,.ref pk] c2):=⟨_,jD O2.hS λ_=>#[v,.ref pk]⟩
   rw[oQ hb']at hM2;simp only[hb',if_true];refine jc ?_;refine jT O2.hS rfl (jc (jP ?_));rw[hname];have J3:Inv X nF σ H2 { s2 with heap:=s2.heap.update S (Obj.mapSeq λ_=>#[v,.ref pk]),toks:=s2.toks }:=uv (fp:=[S]) J2 (λb o hb e=>(s1.2 b (λz=>hb (by simp[z]))).trans e) λb hb=>by rw[mSq.mp hb];exact O2.fS
   exact jg ⟨jC bP _,ih (j+1) H2 _ _ v pk ck c2 oI' (by lia) hlt J3 (s0.trans s2') (s2'.seq hS) ⟨O2.fI,O2.fS,O2.ff,(s1.2 I hSI.symm).trans O2.hI,hc2,(s1.2 f hfS).trans O2.hf⟩ ⟨oI',(s1.2 I hSI.symm).trans O2.hI,hoc,hod⟩ rx hck hM2⟩
  .rw [oT hb']at hM2;simp only[hb',bx,if_false];refine jc (jP ?_);rw[hname];exact jg ⟨jC bP _,ih (j+1) H2 _ xb ub pb cb c oI' (by lia) hlt J2 (s0.trans s2') (s2'.seq hS) O2 hit2 rb (hcb.same s2') hM2⟩
end
section
variable {X:Cx}
def RA(K:W.Frag) (kq:V->Hp->VK->Prop):List V->Hp->VK->Prop
 | [],_,_=>False
 |x::xs,H,Q=>kq x H λv H'=>oM H H'/\∃p c,v = .ref p/\yi K H' p c/\Gx K kq xs x c H' Q
theorem IZ{nF:List (Addr×Obj)}{σ:St}{A:Around}{H0 H:Hp}{f a:Addr}{fo:Obj}{kq:V->Hp->VK->Prop}{xs:List V}{Q:VK}{s:Shared}{E:Value->Shared->Prop}(hh:A.handled=none) (hu:A.units+64<jw) (turn:N1 X nF σ A.in1 H0 f fo kq) (cf:∀v,fo.data ≠ .cell v)
  (J:Inv X nF σ H s) (s0:oM H0 H) (hS:qw X.K H a xs) (ff:uf X nF H f) (hf:s.heap.get? f=some fo) (hM:RA X.K kq xs H Q) :
  jd (jf X.prog X.w) A (call (.builtin "min") [.ref a] [(Str.ofString "key", .ref f)]) (EP X nF σ Q) E s:=by
 have hname:(toString "min" ++ toString ".loop" : String) = "min.loop" := by decide
 obtain⟨its,rv,pl,hz⟩:=J.list hS;have hls:=pl.isList;obtain⟨ol,hol,_⟩:=id hls;have hll:a<s.heap.objs.size:=ag hol;have hfl:f<s.heap.objs.size:=ag hf;cases xs with
 |nil=>exact hM.elim
 |cons x0 xs =>
 refine kmk_tree PySem.F.kind_min PySem.F.plain_min PySem.F.entry_min (kmk_min_key _ _) ?_;show jd _ A.in1 (Builtin.Builtins.bindParams "min" ["key", "default"] 0 ⟨[],[(Str.ofString "key", .ref f)]⟩ >>= _) _ _ s;refine jc (wpAny_of_eq (show Builtin.Builtins.bindParams "min" ["key", "default"] 0 ⟨[],[(Str.ofString "key", .ref f)]⟩=pure [some (.ref f),none] from rfl) ?_)
 refine jc (jg ?_);refine jc (lD hls ?_);refine jc (jO ?_ (aG _));rw[hname];have hSz:(s.heap.push { cls:=.type "list_iterator", data:=.fields #[.ref a,.int 0 0] }).objs.size=s.heap.objs.size+1:=ke ..;have kp:∀b o,s.heap.get? b=some o->((s.heap.push { cls:=.type "list_iterator", data:=.fields #[.ref a,.int 0 0] }).push (jh "list" #[] 0)).get? b=some o:=λb o e=>ab _ (ab _ e)
 have gI:((s.heap.push { cls:=.type "list_iterator", data:=.fields #[.ref a,.int 0 0] }).push (jh "list" #[] 0)).get? s.heap.objs.size=some { cls:=.type "list_iterator", data:=.fields #[.ref a,.int 0 0] } :=
  ab _ (aB _ rfl)
 have gS:((s.heap.push { cls:=.type "list_iterator", data:=.fields #[.ref a,.int 0 0] }).push (jh "list" #[] 0)).get? (s.heap.objs.size+1)=some (jh "list" #[] 0):=by rw[←hSz];exact aB _ rfl
 rw[hSz];generalize hI:s.heap.objs.size=I at *;have hlI:a≠I:=ao hll;have hSI:I+1≠I:=ij I;have hfI:f≠I:=ao hfl;have hfS:f≠I+1:=ao (ba hfl);have fI:uf X nF H I:=J.fpOk (cK hI) (J.hok.fresh (cK hI));have fS:uf X nF H (I+1):=J.fpOk (by rw[hI];exact aT I) (J.hok.fresh (by rw[hI];exact aT I))
 refine jg ⟨jC bP _,?_⟩;have W:=Walks.list (prog:=X.prog) (w:=X.w) (A:=A.in1) hh I a hlI its.toArray;have hsz:its.toArray.size=xs.length+1:=by rw[ak];exact rv.length.symm
 refine jz eB ?_;rw[Around.under_plainId bP _];show jd _ A.in1 (lu (.ref _) >>= _) _ _ _;refine jc (jL gS rfl ?_);show jd _ A.in1 (tryCatch (kh (.ref I)) _ >>= _) _ _ _;refine jc (jI (W.item 0 _ _ _ (by rw[hsz];exact Nat.succ_pos _) ⟨⟨_,gI,rfl,rfl⟩,(hls.push _).push _⟩ λv h' tk' hP hst' hk'=>?_))
 have hv:its[0]?=some v:=by simpa using hP
 obtain⟨u2,hu2,rx⟩:=rv.get (i:=0) (x:=x0) rfl;rw[hv]at hu2;cases hu2;obtain⟨oI',hoI',hoc,hod⟩:=id hst'.1;have J1:Inv X nF σ H { s with heap:=h',toks:=tk' }:=uv (fp:=[I]) J (λb o hb e=>hk' b o hb (kp b o e)) λb hb=>by rw[mSq.mp hb];exact fI
 have O1:Mu X nF H h' I (I+1) f oI' (jh "list" #[] 0) fo:=⟨fI,fS,ff,hoI',hk' _ _ (by simpa using hSI) gS,hk' f _ (by simpa using hfI) (kp _ _ hf)⟩
 show jd _ A.in1 (tryCatch (mS [v] (call (.ref f) [v])) _ >>= _) _ _ _;refine jc (jI (jy (jv (FO turn J1 O1 (λv z=>by rw[hod]at z;cases z) (λv z=>by cases z) cf s0 rx hM) (λu' s2 he=>?_) λ_ _ hF=>hF.elim)))
 obtain⟨v',H2,J2,rv2,⟨s2',pk,ck,rfl,hck,hM2⟩,O2⟩:=he;cases rv2;have s1:=bS.update s2.heap (I+1) (Obj.mapSeq λ_=>#[v,.ref pk])
 obtain⟨c2,hc2⟩:∃c2,(s2.heap.update (I+1) (Obj.mapSeq λ_=>#[v,.ref pk])).get? (I+1)=some (jh "list" #[v,.ref pk] c2):=⟨_,jD O2.hS λ_=>#[v,.ref pk]⟩
 show jd _ A.in1 (lX (I+1) (λ_=>#[v,.ref pk]) >>= _) _ _ _
 refine jc ?_;refine jT O2.hS rfl ?_;rw[hname];have J3:Inv X nF σ H2 { s2 with heap:=s2.heap.update (I+1) (Obj.mapSeq λ_=>#[v,.ref pk]),toks:=s2.toks }:=uv (fp:=[I+1]) J2 (λb o hb e=>(s1.2 b (λz=>hb (by simp[z]))).trans e) λb hb=>by rw[mSq.mp hb];exact O2.fS
 refine jg ⟨jC bP _,kC (HD (xs:=x0::xs) hh hu turn cf hlI hSI hfI hfS _ 0 H2 _ x0 v pk ck c2 oI' rfl (eE (aG _)) J3 (s0.trans s2') (s2'.seq hS) ⟨O2.fI,O2.fS,O2.ff,(s1.2 I hSI.symm).trans O2.hI,hc2,(s1.2 f hfS).trans O2.hf⟩ ⟨oI',(s1.2 I hSI.symm).trans O2.hI,hoc,hod⟩ rx hck hM2) λr s' h=>?_⟩
 cases r with
 |error e=>exact h.elim
 |ok fl=>cases fl <;> first|exact h|exact h.elim
def Km(K:W.Frag) (i:Nat) (te:TA) (tb:TE):TE:=λσ H Q=>te σ H λvs H1=>∃(a:Addr) (xs:List V) (vm:V),vs=[.ref a]/\σ[i]?=some (some vm)/\qw K H1 a xs /\
 ∀H2,oM H1 H2->RA K (λv H Q=>tb [some v,some vm] H Q) xs H2 Q
theorem KN{e:Expr}{te:TA}{tb:TE}{p pos kp lpos:Pos}{params:lZ}{body:Expr}{scope:jQ}{c P:Addr}{x m:Str}{i k:Nat}{cl:List (Str×Addr)}(hr:rQ (k+1+1) X.A) (hc:X.calm=true) (hg:Gl X "min") (hm:X.mg "min" = none) (hcode:X.env.code = .ref c) (C:codeHdIn X.K c P=true) (hmem:(P,X.env.qual ++ "<lambda>")∈uc X.K)
  (hdef:defaultsOf params X.env=([],[])) (hcl:mJ scope X.env=pure cl) (L:A4 X x m scope cl) (hN:X.N[i]?=some m) (ha:PA X [e] te)
  (hb:∀(pm ctv u:Value) (c':Addr),mL (kla_fn "<lambda>" (X.env.qual ++ "<lambda>") params body scope cl pm (.ref c') ctv) ⟨[u],[]⟩=pure [(x,u)])
  (ht:∀(f c':Addr) (s:Shared) (H:Hp),rQ k (Dw X X.A.in1 [x,m] (X.env.qual ++ "<lambda>") scope f (.ref c') cl s H).A->PE (Dw X X.A.in1 [x,m] (X.env.qual ++ "<lambda>") scope f (.ref c') cl s H) body tb)
  (he:jY pos (jr [e] X.env)=(false,eval e X.env)::jY pos (jr [] X.env):=by rfl) (hpl:(jY pos (jr [e] X.env)).any (·.1)=false:=by rfl) :
  PE X (.Call (.Name "min" p) [e] [⟨some "key", .Lambda params body scope lpos,kp⟩] pos) (Km X.K i te tb):=by
 intro nF s σ H Q I h;refine jR (wg I hg hm boot_min ?_ (by decide) (by decide))
 refine callWith_kw (rM (ha pos nF s σ H _ I h) λus s1 hz1=>kws_cons ?_) he hpl rfl rfl
 obtain⟨vs,H1,I1,r1,a,xs,vm,e1,hvm,hS,hM⟩:=hz1;subst e1;obtain⟨u,rfl,ru⟩:=uy r1;cases ru;refine Nq I1 hcode C hmem hdef hcl λf c' oc ws tq ctv H2 h' tk I2 sm hc' hd hv hge hn hf=>kws_nil ?_
 have sm':oM H1 H2:=sm;refine IZ (A:=X.A) (H0:=H2) (fo:=kla_obj "<lambda>" (X.env.qual ++ "<lambda>") params body scope cl ((X.mg "__name__").getD .none) c' ctv) (I1.ok.hd hc) hr.units ?_ (λv z=>by cases z) I2 (.refl _) (sm'.seq hS) (I1.fpOk hge hn) hf (hM H2 sm')
 intro more H3 s3 v u3 Q3 I3 s03 hf3 rv hk;refine QS (k:=k) I3 L hr.in1 rfl hN hvm rv hf3 ?_ (hb _ _ _ _) (λr=>ht f c' s3 H3 r) hk
 obtain⟨q1,_⟩:=I3.hok c' _ (s03 _ _ hc');exact⟨c',oc,ws,tq,rfl,q1,hd,hv⟩
end
end Mr
namespace Z
open PySem PySem.W L2 Mr
open PySem.Spec PyProof.Rows
def Fd(kb:MK) (dm d:D):Option (List (List Int)):=(kb [some (.sh d),some (.sh dm)]).bind λy=>(match y.1 with|.sh k=>Dz k|_=>none)
def Mc(kb:MK) (dm:D):List D->D->List (List Int)->Option D
 | [],xb,_=>some xb
 |d::ds,xb,cb=>(Fd kb dm d).bind λc=>if HT.oZ c cb=true then Mc kb dm ds d c else Mc kb dm ds xb cb
def Tp(kb:MK) (dm:D):List D->Option D
 | []=>none
 |d::ds=>(Fd kb dm d).bind λc=>Mc kb dm ds d c
def NW(S:AS) (i:Nat):Option D:=(S[i]?).bind λx=>x.bind λa=>(match a with|.sh d=>some d|_=>none)
def Eu(i:Nat) (l:ML) (kb:MK):ME:=λS=>(l S).bind λx=>(NW x.2 i).bind λdm=>(Tp kb dm x.1).map λd=>(d,x.2)
theorem PK{S:AS}{i:Nat}{d:D}(h:NW S i=some d):S[i]?=some (some (.sh d)):=by
 unfold NW at h;obtain⟨x,e1,h⟩:=oBq.mp h;obtain⟨a,ea,h'⟩:=oBq.mp h;subst ea;cases a with
 |sh d'=>cases h';exact e1
 |_=>cases h'
section
variable {K:W.Frag}{te tb:TE}{kb:MK}
theorem Md(hb:SK K tb kb) {Hf H:Hp}{d dm:D}{v vm:V}{c:List (List Int)}(s:oM Hf H) (r:qd K Hf d v) (rm:qd K Hf dm vm) (e:Fd kb dm d=some c) (Q:VK) (q:∀H' p,oM H H'->yi K H' p c->Q (.ref p) H'):tb [some v,some vm] H Q:=by
 obtain⟨y,e1,e⟩:=oBq.mp e;have rs:oH K Hf [d,dm] [v,vm]:=.cons r (.cons rm .nil);have R:=DH (K:=K) (N:=[("" : Str), ""]) s rs;have R':pJ K H Hf Hf [some (.sh d),some (.sh dm)] [some v,some vm] H [[],[]]:=R;refine hb R' (a:=y.1) (S':=y.2) e1 Q λHf' H' Fs' w F t R2 ra ow=>?_
 split at e
 .rename_i k hk;rw[hk]at ra;have ek:=C8 e;cases ra with
  |sh rk =>
   rw[ek]at rk;obtain⟨p,rfl,hp⟩:=CT (rk.mono R2.sub);exact q H' p t.sh hp
 .cases e
theorem Qv(hb:SK K tb kb) {Hf:Hp}{dm:D}{vm:V}(rm:qd K Hf dm vm) (Q:VK):∀{ds:List D}{vs:List V}{xb:D}{vb:V}{cb:List (List Int)}{d:D}{H:Hp},oM Hf H->oH K Hf ds vs->qd K Hf xb vb->Mc kb dm ds xb cb=some d->(∀H' v,oM H H'->qd K Hf d v->Q v H') ->
  Gx K (λv H Q=>tb [some v,some vm] H Q) vs vb cb H Q:=by
 intro ds
 induction ds with
 |nil =>
  intro vs xb vb cb d H s rs rb e q;cases vs with
  |cons=>exact absurd rs.1 (by simp)
  |nil=>cases e;exact q H vb (.refl _) rb
 |cons x ds ih =>
  intro vs xb vb cb d H s rs rb e q;cases vs with
  |nil=>exact absurd rs.1 (by simp)
  |cons v vs =>
   obtain⟨c,e1,e⟩:=oBq.mp e;have rx:qd K Hf x v:=rs.2 0 x v rfl rfl;have rt:oH K Hf ds vs:=⟨by have:=rs.1;simpa using this,λi a b h1 h2=>rs.2 (i+1) a b (by simpa using h1) (by simpa using h2)⟩
   refine Md hb s rx rm e1 _ λH' p s' hp=>⟨s',p,c,rfl,hp,?_⟩
   by_cases hc:HT.oZ c cb=true
   .rw [oQ hc]at e ⊢;exact ih (s.trans s') rt rx e λH2 w s2=>q H2 w (s'.trans s2)
   .rw [oT hc]at e ⊢;exact ih (s.trans s') rt rb e λH2 w s2=>q H2 w (s'.trans s2)
theorem K7{i:Nat}{l:ML}(hl:SQ K te l) (hb:SK K tb kb):SR K (Km K i (rY te vI) tb) (Eu i l kb):=by
 intro H₀ Hf₀ Hf S σ H Fs d S' R e Q q;obtain⟨x,e1,e⟩:=oBq.mp e;obtain⟨dm,e2,e⟩:=oBq.mp e;obtain⟨d',e3,e⟩:=oMq.mp e;cases e;refine hl R (ds:=x.1) (S':=x.2) e1 _ λHf1 H1 Fs1 p1 vs1 t1 R1 h1 r1=>?_
 obtain⟨vm,F,hv,hF,rm⟩:=R1.rep i _ (PK e2);have rm':qd K Hf1 dm vm:=by cases rm with|sh r=>exact r
 refine⟨p1,vs1,vm,rfl,hv,h1,λH2 s2=>?_⟩
 generalize x.1=ds at *;cases ds with
 |nil=>cases e3
 |cons d0 ds =>
  cases vs1 with
  |nil=>exact absurd r1.1 (by simp)
  |cons v0 vs =>
   obtain⟨c,e4,e3⟩:=oBq.mp e3;have rx:qd K Hf1 d0 v0:=r1.2 0 d0 v0 rfl rfl;have rt:oH K Hf1 ds vs:=⟨by have:=r1.1;simpa using this,λi a b h1 h2=>r1.2 (i+1) a b (by simpa using h1) (by simpa using h2)⟩
   refine Md hb (R1.sub.trans s2) rx rm' e4 _ λH' p s' hp=>⟨s',p,c,rfl,hp,?_⟩
   refine Qv hb rm' Q ((R1.sub.trans s2).trans s') rt rx e3 λH3 w s3 rw=>?_
   have sa:oM H1 H3:=(s2.trans s').trans s3;have ts:xa Hf1 H1 Fs1 Hf1 H3 Fs1:=⟨.refl _,sa,λ_ h=>h,λb h g=>absurd h g⟩
   exact q Hf1 H3 Fs1 w (t1.trans ts) (R1.laid sa) (rw.mono (R1.sub.trans sa))
end
theorem Nu(S:AS) (i:Nat) (l:ML) (kb:MK):Eu i l kb S=(l S).bind λx=>(NW x.2 i).bind λdm=>(Tp kb dm x.1).map λd=>(d,x.2):=rfl
end Z
namespace Mr
open PySem PySem.W L2 PySem.Calls
open PySem.Spec PyProof.Rows
theorem A4.of{X:Cx}{x m:Str}{scope:jQ}{cl:List (Str×Addr)}(kind:scope.kind = .function) (co:scope.isCoroutine=false) (gen:scope.isGenerator=false) (h:(scope.names.all λp=>(p.2 != .cell) && (p.2 != .free || p.1 == m))=true)
  (xl:scope.names.lookup x=some .local) (ml:scope.names.lookup m=some .free) (hc:∃c,cl=[(m,c)]/\X.env.cells.lookup m=some c) (vis:X.env.kindOf m=some .cell):A4 X x m scope cl :=
 ⟨kind,co,gen,λy hy z=>by
  have:=iu.mp h y hy;rw[z]at this;exact absurd this (by simp),xl,ml,λy hy=>by
  have:=iu.mp h _ (PySem.mem_of_lookup hy);simpa using this,hc,vis⟩
theorem Xq{P:jj}{w:jo}{K:W.Frag}{mg:Str->Option Value}{base:Heap}{x qual:Str}{st:Stmt}{f:Addr}{fd:jE}{N ps:List Str}{k:Nat}{sp:Sp}(F:QO K x qual st f fd) (S:oD N ps (nY st)) (len:∀vs H Q E,sp vs H Q E->vs.length=ps.length)
  (hbody:∀(A:Around) (outer:List Env) (s:Shared) (H:Hp) (vs:List V) (Q:VK) (E:XK),rQ k (A.deeper (kT qual (nY st) s.heap.objs.size f fd.code))->sp vs H Q E ->
   ∃t,Kc (HY QV P w K mg base N qual (nY st) f fd.code A outer s H E).nox (tX st) t/\t { nx:=λ_ H'=>Q .non H',rt:=Q } (wV N vs) H):wU P w K mg base QV (k+1) f fd ps sp:=by
 obtain⟨oc,od,kV,doc,pm,an,tQ,ct,osl,rfl,lk,hcd⟩:=F.ex;refine Rn lk hcd S len λA outer s H vs Q E hr hsp=>?_
 obtain⟨t,h,q⟩:=hbody A outer s H vs Q E hr hsp;exact⟨t,h.nox,q⟩
end Mr
namespace MrS
open PySem PyProof.Rows
section
variable {prog:jj}{w:jo}{A:Around}{E:Value->Shared->Prop}{s:Shared}{κ:jB}{P:je->Prop}{lt:je->je->Bool}{ix:je->Nat}
def ltx(lt:je->je->Bool) (ix:je->Nat) (x y:je):Bool:=lt x y || (!lt y x && decide (ix x<ix y))
theorem qG{x y:je}:ltx lt ix x y=false↔lt x y=false/\(lt y x=true∨ix y<=ix x):=by
 unfold ltx;cases h1:lt x y <;> cases h2:lt y x <;> simp
structure Od (P:je->Prop) (lt:je->je->Bool):Prop where
 refl:∀x,P x->lt x x=false
 asym:∀x y,P x->P y->lt x y=true->lt y x=false
 trans:∀x y z,P x->P y->P z->lt y x=false->lt z y=false->lt z x=false
theorem xh.od(C:xh prog w A s κ P lt):Od P lt:=⟨λx=>C.refl,C.asym,C.trans⟩
theorem Od.ltx(C:Od P lt) (ix:je->Nat):Od P (ltx lt ix):=by
 refine⟨λx px=>qG.mpr ⟨C.refl x px,.inr (ae _)⟩,λx y px py h=>?_,λx y z px py pz h1 h2=>?_⟩
 .unfold MrS.ltx at h;rw[iE,eJ,eg,decide_eq_true_iff]at h;rcases h with h|⟨h1,h2⟩
  .exact qG.mpr ⟨C.asym x y px py h,.inl h⟩
  .exact qG.mpr ⟨h1,.inr (bB h2)⟩
 .obtain ⟨a1,a2⟩:=qG.mp h1;obtain⟨b1,b2⟩:=qG.mp h2;have c1:=C.trans x y z px py pz a1 b1;refine qG.mpr ⟨c1,?_⟩;cases c2:lt x z with
  |true=>exact .inl rfl
  |false =>
   refine .inr ?_;have e1:lt x y=false:=C.trans y z x py pz px b1 c2;have e2:lt y z=false:=C.trans z x y pz px py c2 a1;rw[e1]at a2;rw[e2]at b2;rcases a2 with a2|a2
   .cases a2
   .rcases b2 with b2|b2
    .cases b2
    .exact aS a2 b2
theorem O5{xs:Array je}{i j:Nat}(h:vX (ltx lt ix) xs i j):vX lt xs i j:=λp q x y a b c ex ey=>(qG.mp (h p q x y a b c ex ey)).1
def Pf(lt:je->je->Bool) (ix:je->Nat) (xs:Array je) (lo k:Nat):Prop:=∀j r x y,j<r->k<=r->xs[lo+j]?=some x->xs[lo+r]?=some y->lt x y=false->lt y x=false->ix x<=ix y
theorem Sa{xs:Array je}{lo k l:Nat}(hz:lo+k<xs.size) (hl:l<=k) (h:Pf lt ix xs lo k):Pf lt ix (kW xs (lo+k) (k-l)) lo (k+1):=by
 have hx:xs[lo+k]?=some (xs[lo+k]'hz):=ax hz;have g:∀p,(kW xs (lo+k) (k-l))[p]?=if p=lo+l then some (xs[lo+k]'hz) else if lo+l<p/\p<=lo+k then xs[p-1]? else xs[p]?:=λp=>by
  rw[kO hz (k-l) (by lia) p,show lo+k-(k-l)=lo+l by lia,hx]
 intro j r x y hj hr ex ey t1 t2;rw[g,oT (by lia),oT (by lia)]at ey
 rw[g]at ex
 by_cases c:lo+j=lo+l
 .rw [oQ c]at ex;cases ex;exact h k r _ y (by lia) (by lia) hx ey t1 t2
 .rw [oT c]at ex
  by_cases c2:lo+l<lo+j/\lo+j<=lo+k
  .rw [oQ c2]at ex;exact h (j-1) r x y (by lia) (by lia) (by rw[show lo+(j-1)=lo+j-1 by lia];exact ex) ey t1 t2
  .rw [oT c2]at ex;exact h j r x y hj (by lia) ex ey t1 t2
theorem Pf.above{xs:Array je}{lo k j r:Nat}{x y:je}(h:Pf lt ix xs lo k) (h1:j<r) (h2:k<=r) (ex:xs[lo+j]?=some x) (ey:xs[lo+r]?=some y) (e:lt y x=false):ltx lt ix y x=false:=by
 refine qG.mpr ⟨e,?_⟩;cases q:lt x y with
 |true=>exact .inl rfl
 |false=>exact .inr (h j r x y h1 h2 ex ey q e)
theorem OG(C:Od P lt) {xs:Array je}(hp:∀x,x∈xs->P x) {lo k l:Nat}(hz:lo+k<xs.size) (hl:l<=k) (hs:vX lt xs lo (lo+k)) {x:je}(hx:xs[lo+k]?=some x)
  (h1:∀j y,j<l->xs[lo+j]?=some y->lt x y=false) (h2:∀j y,l<=j->j<k->xs[lo+j]?=some y->lt x y=true):vX lt (kW xs (lo+k) (k-l)) lo (lo+(k+1)):=by
 have px:=hp _ (aQq hx);have g:∀p,(kW xs (lo+k) (k-l))[p]?=if p=lo+l then some x else if lo+l<p/\p<=lo+k then xs[p-1]? else xs[p]?:=λp=>by
  rw[kO hz (k-l) (by lia) p,show lo+k-(k-l)=lo+l by lia,hx]
 intro p q u v a1 a2 a3 eu ev;rw[g]at eu ev
 by_cases cp:p=lo+l
 .rw [oQ cp]at eu;cases eu
  by_cases cq:q=lo+l
  .rw [oQ cq]at ev;cases ev;exact C.refl _ px
  .rw [oT cq,oQ ⟨by lia,by lia⟩]at ev
   have pv:=hp _ (aQq ev);exact C.asym _ _ px pv (h2 (q-1-lo) v (by lia) (by lia) (by rw[show lo+(q-1-lo)=q-1 by lia];exact ev))
 .rw [oT cp]at eu
  by_cases cp2:lo+l<p/\p<=lo+k
  .rw [oQ cp2]at eu;rw[oT (by lia),oQ ⟨by lia,by lia⟩]at ev
   exact hs (p-1) (q-1) _ _ (by lia) (by lia) (by lia) eu ev
  .rw [oT cp2]at eu
   by_cases cq:q=lo+l
   .rw [oQ cq]at ev;cases ev;exact h1 (p-lo) u (by lia) (by rw[show lo+(p-lo)=p by lia];exact eu)
   .rw [oT cq]at ev
    by_cases cq2:lo+l<q/\q<=lo+k
    .rw [oQ cq2]at ev;exact hs p (q-1) _ _ a1 (by lia) (by lia) eu ev
    .rw [oT cq2]at ev;exact hs p q _ _ a1 a2 (by lia) eu ev
theorem GI(C:xh prog w A s κ P lt) {lo n ok:Nat}{st:SortSt}{Q:Bool->SortSt->Prop}(hp:∀x,x∈ji st->P x) (hk:kindOf st=κ) (h1:1<=ok) (h2:ok<=n) (hz:lo+n<=(ji st).size) (hs:vX (ltx lt ix) (ji st) lo (lo+ok)) (hf:Pf lt ix (ji st) lo ok)
  (h:∀xs,xf (ji st) xs lo (lo+n)->vX (ltx lt ix) xs lo (lo+n)->Pf lt ix xs lo n->Q true (ju st xs)):wpS (jf prog w) A E s (binarySort' lo n ok) Q st:=by
 rw[binarySort'_eq];dsimp only;rw[iD h1];refine jm (jK (jH (I:=λk c st'=>∃ys,c=(none,())/\st'=ju st ys/\xf (ji st) ys lo (lo+n)/\vX (ltx lt ix) ys lo (lo+k)/\Pf lt ix ys lo k/\k<=n)
  (Q:=λc st'=>∃ys,c=(none,())/\st'=ju st ys/\xf (ji st) ys lo (lo+n)/\vX (ltx lt ix) ys lo (lo+n)/\Pf lt ix ys lo n) ?step ?fin ⟨ji st,rfl,rfl,xf.refl _ _ _,hs,hf,h2⟩) ?post)
 case fin =>
  rintro c st' ⟨ys,rfl,rfl,b1,s1,f1,q⟩;have e:max ok n=n:=by lia
  rw[e]at s1 f1;exact⟨ys,rfl,rfl,b1,s1,f1⟩
 case post =>
  rintro c st' ⟨ys,rfl,rfl,b1,s1,f1⟩;exact jq (h ys b1 s1 f1)
 case step =>
  rintro k c st' hk1 hk2 ⟨ys,rfl,rfl,b1,sx,f1,q⟩;have s1:vX lt ys lo (lo+k):=O5 sx;have hpy:=b1.mem hp;have hsz:=b1.size;have ex:ys[lo+k]?=some (ys[lo+k]'(by lia)):=ax (by lia)
  have px:=hpy _ (aQq ex);refine jm (jK (jH (I:=λi c st'=>∃l r,c=(none,l,r)/\st'=ju st ys/\l<=r/\r<=k/\(∀j y,j<l->ys[lo+j]?=some y->lt (ys[lo+k]'(by lia)) y=false)/\(∀j y,r<=j->j<k->ys[lo+j]?=some y->lt (ys[lo+k]'(by lia)) y=true)/\(r-l)+i<=k)
   (Q:=λc st'=>∃l r,c=(none,l,r)/\st'=ju st ys/\l=r/\r<=k/\(∀j y,j<l->ys[lo+j]?=some y->lt (ys[lo+k]'(by lia)) y=false)/\(∀j y,r<=j->j<k->ys[lo+j]?=some y->lt (ys[lo+k]'(by lia)) y=true))
   ?step1 ?fin1 ⟨0,k,rfl,rfl,aG _,ae _,λj y hj=>absurd hj (bT _),λj y g1 g2=>absurd g2 (by lia),by lia⟩) ?post1)
  case fin1 =>
   rintro c st' ⟨l,r,rfl,rfl,a1,a2,a3,a4,a5⟩;exact⟨l,r,rfl,rfl,by lia,a2,a3,a4⟩
  case step1 =>
   rintro i c st' _ hi ⟨l,r,rfl,rfl,a1,a2,a3,a4,a5⟩;dsimp only
   by_cases c1:l ≥ r
   .rw [oQ c1];exact jq ⟨l,r,rfl,rfl,by lia,a2,a3,a4⟩
   rw[oT c1];have em:ys[lo+(l+r) / 2]?=some (ys[lo+(l+r) / 2]'(by lia)):=ax (by lia)
   have pm:=hpy _ (aQq em);refine jm (C.at (st:=ju st ys) ex em px pm hk ?_);cases e:lt (ys[lo+k]'(by lia)) (ys[lo+(l+r) / 2]'(by lia)) with
   |true =>
    dsimp only;rw[oQ rfl];refine jq ⟨l,_,rfl,rfl,by lia,by lia,a3,λj y g1 g2 ey=>?_,by lia⟩
    have py:=hpy _ (aQq ey);cases e':lt (ys[lo+k]'(by lia)) y with
    |true=>rfl
    |false =>
     have q1:=s1 (lo+(l+r) / 2) (lo+j) _ _ (by lia) (by lia) (by lia) em ey
     have q2:=C.trans _ _ _ pm py px q1 e';rw[e]at q2;cases q2
   |false =>
    dsimp only;rw[oT (by decide)]
    refine jq ⟨_,r,rfl,rfl,by lia,a2,λj y g1 ey=>?_,a4,by lia⟩
    have py:=hpy _ (aQq ey);exact C.trans _ _ _ py pm px (s1 (lo+j) (lo+(l+r) / 2) _ _ (by lia) (by lia) (by lia) ey em) e
  case post1 =>
   rintro c st' ⟨l,r,rfl,rfl,rfl,a2,a3,a4⟩;dsimp only;refine jm (Gy (jq ?_));have e:lo+k-(lo+l)=k-l:=by lia
   show ∃ys',_/\ju st (kW ys (lo+k) (lo+k-(lo+l)))=ju st ys'/\_;rw[e];refine⟨_,rfl,rfl,b1.trans (C1 (by lia) a2 hk2),OG (C.od.ltx ix) hpy (by lia) a2 sx ex (λj y g1 g2=>f1.above (j:=j) (r:=k) (by lia) (ae _) g2 ex (a3 j y g1 g2)) (λj y g1 g2 g3=>?_),Sa (by lia) a2 f1,hk2⟩
   .unfold ltx;rw[a4 j y g1 g2 g3];rfl
end
section
variable {prog:jj}{w:jo}{A:Around}{E:Value->Shared->Prop}{s:Shared}{κ:jB}{P:je->Prop}{lt:je->je->Bool}{ix:je->Nat}
theorem Od.lower(C:Od P lt) {x y z:je}(px:P x) (py:P y) (pz:P z) (h:lt x y=true) (h2:lt z y=false):lt x z=true:=by
 cases e:lt x z with
 |true=>rfl
 |false=>rw[C.trans y z x py pz px h2 e]at h;cases h
theorem Pf.keep{xs ys:Array je}{lo k:Nat}(h:Pf lt ix xs lo k) (b:xf xs ys lo (lo+k)) (hz:lo+k<=xs.size) (hm:∀p y,lo<=p->p<lo+k->ys[p]?=some y->∃q,lo<=q/\q<lo+k/\xs[q]?=some y):Pf lt ix ys lo k:=by
 intro j r x y hj hr ex ey t1 t2;rw[b.out _ (.inr (by lia))]at ey
 by_cases c:j<k
 .obtain ⟨q,q1,q2,q3⟩:=hm (lo+j) x (by lia) (by lia) ex
  exact h (q-lo) r x y (by lia) hr (by rw[show lo+(q-lo)=q by lia];exact q3) ey t1 t2
 .rw [b.out _ (.inr (by lia))]at ex
  exact h j r x y hj hr ex ey t1 t2
theorem yC{xs:Array je}{lo k i j:Nat}(h:Pf lt ix xs lo k) (h1:lo<=i) (h2:j<=lo+k) (hz:lo+k<=xs.size):Pf lt ix (kE xs i j ((j-i) / 2)) lo k:=by
 refine h.keep (rG (by lia) h1 h2) hz λp y p1 p2 e=>?_
 rw[jx (by lia)]at e
 by_cases c:i<=p/\p<j
 .rw [oQ c]at e;exact⟨_,by lia,by lia,e⟩
 .rw [oT c]at e;exact⟨p,p1,p2,e⟩
theorem Pf.up{xs:Array je}{lo k:Nat}(h:Pf lt ix xs lo k):Pf lt ix xs lo (k+1):=λj r x y a b=>h j r x y a (by lia)
theorem MN(C:Od P lt) {xs:Array je}(hp:∀x,x∈xs->P x) (lo:Nat):vX lt xs lo (lo+1):=by
 intro p q x y h1 h2 h3 ex ey;have e:p=q:=by lia
 subst e;rw[ex]at ey;cases ey;exact C.refl _ (hp _ (aQq ex))
theorem LX(C:Od P lt) {xs:Array je}(hp:∀x,x∈xs->P x) {lo n:Nat}(h:vX lt xs lo (lo+(n+1))) (hx:∀x y,xs[lo+(n+1)]?=some x->xs[lo+n]?=some y->lt x y=false) (hz:lo+(n+1)<xs.size):vX lt xs lo (lo+(n+2)):=by
 intro p q x y h1 h2 h3 ex ey
 by_cases c:q<lo+(n+1)
 .exact h p q x y h1 h2 c ex ey
 .have eq:q=lo+(n+1):=by lia
  subst eq
  by_cases c2:p=lo+(n+1)
  .subst c2;rw[ex]at ey;cases ey;exact C.refl _ (hp _ (aQq ex))
  .have em:xs[lo+n]?=some (xs[lo+n]'(by lia)):=ax (by lia)
   exact C.trans _ _ _ (hp _ (aQq ex)) (hp _ (aQq em)) (hp _ (aQq ey)) (h p (lo+n) _ _ h1 (by lia) (by lia) ex em) (hx _ _ ey em)
theorem Dx(C:xh prog w A s κ P lt) {lo nrem a:Nat}{st:SortSt}(hp:∀x,x∈ji st->P x) (hk:kindOf st=κ) (ha:1<=a) (han:a<=nrem) (hz:lo+nrem<=(ji st).size) (hs:vX (ltx lt ix) (ji st) lo (lo+a)) (hf:Pf lt ix (ji st) lo a) :
  wpS (jf prog w) A E s (forIn [a:nrem] ((none,a):Option (Option Nat)×Nat) λ_ s=>VX lo s.2)
   (λc st'=>∃n,c=(none,n)/\st'=st/\a<=n/\n<=nrem/\vX (ltx lt ix) (ji st) lo (lo+n)/\Pf lt ix (ji st) lo n/\(n=nrem∨∃x y,(ji st)[lo+n]?=some x/\(ji st)[lo+n-1]?=some y/\lt x y=true)) st:=by
 refine jH (I:=λi c st'=>c=(none,i)/\st'=st/\a<=i/\i<=nrem/\vX (ltx lt ix) (ji st) lo (lo+i)/\Pf lt ix (ji st) lo i) ?step ?fin ⟨rfl,rfl,ae _,han,hs,hf⟩
 case step =>
  rintro i c st' h1 h2 ⟨rfl,rfl,h3,h4,h5,h6⟩;obtain⟨k,rfl⟩:∃k,i=k+1:=⟨i-1,by lia⟩
  have ex:(ji st')[lo+(k+1)]?=some ((ji st')[lo+(k+1)]'(by lia)):=ax (by lia)
  have ey:(ji st')[lo+(k+1)-1]?=some ((ji st')[lo+k]'(by lia)):=ax (by lia)
  refine jm (C.at ex ey (hp _ (aQq ex)) (hp _ (aQq ey)) hk ?_);cases e:lt ((ji st')[lo+(k+1)]'(by lia)) ((ji st')[lo+k]'(by lia)) with
  |true=>exact jq ⟨_,rfl,rfl,h3,h4,h5,h6,.inr ⟨_,_,ex,ey,e⟩⟩
  |false =>
   refine jq ⟨rfl,rfl,by lia,h2,LX (C.od.ltx ix) hp h5 (λx y hx hy=>?_) (by lia),h6.up⟩
   have hy':(ji st')[lo+(k+1)-1]?=some y:=hy;refine h6.above (j:=k) (r:=k+1) (by lia) (ae _) hy hx ?_
   rw[ex]at hx;rw[ey]at hy';cases hx;cases hy';exact e
 case fin =>
  rintro c st' ⟨rfl,rfl,h3,h4,h5,h6⟩;have e:max a nrem=nrem:=ie han;rw[e]at h3 h4 h5 h6 ⊢;exact⟨nrem,rfl,rfl,h3,ae _,h5,h6,.inl rfl⟩
structure CS (lt:je->je->Bool) (ix:je->Nat) (as:Array je) (lo i q:Nat) (ys:Array je):Prop where
 c:CR lt as lo i q ys
 d1:ER (ltx lt ix) ys lo (lo+i-(q+1))
 cr:∀p r x y,lo<=p->p<lo+i-(q+1)->lo+i-(q+1)<=r->r<lo+i->ys[p]?=some x->ys[r]?=some y->lt y x=true
 ob:∀r r' y y',lo+i-(q+1)<=r->r<=r'->r'<lo+i->ys[r]?=some y->ys[r']?=some y'->ix y<=ix y'
 pf:Pf lt ix ys lo i
theorem CS.rev(C:Od P lt) {as ys:Array je}{lo i q:Nat}(hp:∀x,x∈ys->P x) (hz:lo+i<=ys.size) (g:CS lt ix as lo i q ys):ER (ltx lt ix) (kE ys (lo+i-(q+1)) (lo+i) ((lo+i-(lo+i-(q+1))) / 2)) lo (lo+i):=by
 have gp:=g.c.p;intro p r x y h1 h2 h3 ex ey;rw[jx (by lia)]at ex ey
 by_cases cp:lo+i-(q+1)<=p/\p<lo+i
 .rw [oQ cp]at ex;rw[oQ ⟨by lia,h3⟩]at ey
  exact qG.mpr ⟨g.c.e _ _ _ _ (by lia) (by lia) (by lia) (by lia) ex ey,.inr (g.ob _ _ y x (by lia) (by lia) (by lia) ey ex)⟩
 .rw [oT cp]at ex;have px:=hp _ (aQq ex)
  by_cases cr:lo+i-(q+1)<=r/\r<lo+i
  .rw [oQ cr]at ey;have py:=hp _ (aQq ey);have t:=g.cr p _ x y h1 (by lia) (by lia) (by lia) ex ey
   exact qG.mpr ⟨C.asym _ _ py px t,.inl t⟩
  .rw [oT cr]at ey;exact g.d1 p r x y h1 h2 (by lia) ex ey
theorem CS.all(C:Od P lt) {as ys:Array je}{lo i:Nat}(hp:∀x,x∈ys->P x) (g:CS lt ix as lo i 0 ys):ER (ltx lt ix) ys lo (lo+i):=by
 have gp:=g.c.p;intro p r x y h1 h2 h3 ex ey;have px:=hp _ (aQq ex);have py:=hp _ (aQq ey)
 by_cases c:r<lo+i-(0+1)
 .exact g.d1 p r x y h1 h2 c ex ey
 .by_cases c2:p=r
  .subst c2;rw[ex]at ey;cases ey;exact(C.ltx ix).refl _ px
  .have t:=g.cr p r x y h1 (by lia) (by lia) h3 ex ey
   exact qG.mpr ⟨C.asym _ _ py px t,.inl t⟩
theorem GH{C:xh prog w A s κ P lt}{ys:Array je}{lo k:Nat}{u v:je}(px:P u) (py:P v) (hpy:∀x,x∈ys->P x) (g2:ER lt ys lo (lo+(k+1))) (ex:ys[lo+(k+1)]?=some u) (ey:ys[lo+(k+1)-1]?=some v) (e:lt u v=true):∀p x,lo<=p->p<lo+(k+1)->ys[p]?=some x->lt u x=true:=λp x p1 p2 e1 =>
 C.od.lower px py (hpy _ (aQq e1)) e (g2 p (lo+(k+1)-1) _ _ p1 (by lia) (by lia) e1 ey)
theorem P7(C:xh prog w A s κ P lt) {lo nrem k neq:Nat}{st:SortSt}{ys:Array je}(hp:∀x,x∈ji st->P x) (hk:kindOf st=κ) (hz:lo+nrem<=(ji st).size) (hi:k+1<nrem) (gs:CS lt ix (ji st) lo (k+1) neq ys) :
  wpS (jf prog w) A E s (WO lo (k+1) neq) (λr zK=>∃m q zs,zK=ju st zs/\m<=nrem/\CS lt ix (ji st) lo m q zs/\(r = .done (none,m,q)∨r = .yield (none,m,q)/\m=k+1+1)) (ju st ys):=by
 have g:=gs.c;have g1:=g.b;have g2:=g.d;have g3:=g.e;have g4:=g.p;have hpy:=g1.mem hp;have hsz:=g1.size;have ex:ys[lo+(k+1)]?=some (ys[lo+(k+1)]'(by lia)):=ax (by lia)
 have ey:ys[lo+(k+1)-1]?=some (ys[lo+k]'(by lia)):=ax (by lia)
 have px:=hpy _ (aQq ex);have py:=hpy _ (aQq ey);have des:lt (ys[lo+k]'(by lia)) (ys[lo+(k+1)]'(by lia))=false->ER lt ys lo (lo+(k+1+1)):=λe=>zV C hpy g2 (λx y hx hy=>by
  have hy':ys[lo+(k+1)-1]?=some y:=hy;rw[ex]at hx;rw[ey]at hy';cases hx;cases hy';exact e) (by lia)
 refine jm (C.at (st:=ju st ys) ex ey px py hk ?_);cases e:lt (ys[lo+(k+1)]'(by lia)) (ys[lo+k]'(by lia)) with
 |true =>
  have g2':=des (C.asym _ _ px py e);dsimp only;rw[oQ rfl]
  by_cases cn:neq>0
  .rw [oQ cn];refine jm (vU (jq ?_));have bt:xf (ji st) (kE ys (lo+(k+1)-(neq+1)) (lo+(k+1)) ((lo+(k+1)-(lo+(k+1)-(neq+1))) / 2)) lo (lo+(k+1)):=g1.trans (rG (by lia) (by lia) (ae _))
   have low:=GH (C:=C) px py hpy g2 ex ey e;have gx:∀p,p<lo∨lo+(k+1)<=p->(kE ys (lo+(k+1)-(neq+1)) (lo+(k+1)) ((lo+(k+1)-(lo+(k+1)-(neq+1))) / 2))[p]?=ys[p]?:=λp hp=>by rw[jx (by lia),oT (by lia)]
   refine⟨_,0,_,rfl,hi,⟨⟨bt.mono (by lia),vJ (by lia) (by lia) (by lia) g3 g2',vW C (bt.mem hp) (by lia),by lia⟩,?_,?_,?_,(yC gs.pf (by lia) (by lia) (by lia)).up⟩,.inr ⟨rfl,rfl⟩⟩
   .have d:=gs.rev C.od hpy (by lia)
    rw[show lo+(k+1+1)-(0+1)=lo+(k+1) by lia]
    exact d
   .intro p r x y p1 p2 r1 r2 e1 e2;rw[gx r (by lia),show r=lo+(k+1) by lia,ex]at e2
    cases e2;rw[jx (by lia)]at e1
    by_cases c:lo+(k+1)-(neq+1)<=p/\p<lo+(k+1)
    .rw [oQ c]at e1;exact low _ x (by lia) (by lia) e1
    .rw [oT c]at e1;exact low p x p1 (by lia) e1
   .intro r r' y y' r1 r2 r3 e2 e3;rw[show r'=r by lia,e2]at e3
    cases e3;exact ae _
  .rw [oT cn];have low:=GH (C:=C) px py hpy g2 ex ey e;have n0:neq=0:=by lia
   subst n0;refine jq ⟨_,0,ys,rfl,hi,⟨⟨g1.mono (by lia),g2',vW C hpy (by lia),by lia⟩,?_,?_,?_,gs.pf.up⟩,.inr ⟨rfl,rfl⟩⟩
   .have d:=gs.all C.od hpy;rw[show lo+(k+1+1)-(0+1)=lo+(k+1) by lia]
    exact d
   .intro p r x y p1 p2 r1 r2 e1 e2;rw[show r=lo+(k+1) by lia,ex]at e2
    cases e2;exact low p x p1 (by lia) e1
   .intro r r' y y' r1 r2 r3 e2 e3;rw[show r'=r by lia,e2]at e3
    cases e3;exact ae _
 |false =>
  dsimp only;rw[oT (by decide)]
  refine jm (C.at (st:=ju st ys) ey ex py px hk ?_);cases e':lt (ys[lo+k]'(by lia)) (ys[lo+(k+1)]'(by lia)) with
  |true=>exact jq ⟨_,neq,ys,rfl,bB hi,gs,.inl rfl⟩
  |false =>
   refine jq ⟨_,neq+1,ys,rfl,hi,⟨⟨g1.mono (by lia),des e',?_,by lia⟩,?_,?_,?_,gs.pf.up⟩,.inr ⟨rfl,rfl⟩⟩
   rotate_left
   .rw [show lo+(k+1+1)-(neq+1+1)=lo+(k+1)-(neq+1) by lia]
    exact gs.d1
   .intro p r x y p1 p2 r1 r2 e1 e2
    by_cases c:r=lo+(k+1)
    .rw [c,ex]at e2;cases e2;have t:=gs.cr p (lo+(k+1)-1) x _ p1 (by lia) (by lia) (by lia) e1 ey
     have pz:=hpy _ (aQq e1);cases q:lt (ys[lo+(k+1)]'(by lia)) x with
     |true=>rfl
     |false =>
      have:=C.trans _ _ _ pz px py q e';rw[t]at this;cases this
    .exact gs.cr p r x y p1 (by lia) (by lia) (by lia) e1 e2
   .intro r r' y y' r1 r2 r3 e2 e3
    by_cases c:r'=lo+(k+1)
    .by_cases c2:r=r'
     .subst c2;rw[e2]at e3;cases e3;exact ae _
     .have pz:=hpy _ (aQq e2);rw[c,ex]at e3;cases e3;have z1:=g3 r (lo+(k+1)-1) _ _ (by lia) (by lia) (by lia) (by lia) e2 ey
      have z2:=g3 (lo+(k+1)-1) r _ _ (by lia) (by lia) (by lia) (by lia) ey e2
      exact gs.pf (r-lo) (k+1) y _ (by lia) (ae _) (by rw[show lo+(r-lo)=r by lia];exact e2) ex (C.trans _ _ _ px py pz e' z1) (C.trans _ _ _ pz py px z2 e)
    .exact gs.ob r r' y y' (by lia) r2 (by lia) e2 e3
   intro p q x y h1 h2 h3 h4 gx gy;have qx:=hpy _ (aQq gx);have qy:=hpy _ (aQq gy)
   by_cases cp:p=lo+(k+1)
   .subst cp;rw[ex]at gx;cases gx
    by_cases cq:q=lo+(k+1)
    .subst cq;rw[ex]at gy;cases gy;exact C.refl px
    .exact C.trans _ _ _ qy py px (g3 (lo+(k+1)-1) q _ _ (by lia) (by lia) (by lia) (by lia) ey gy) e
   .by_cases cq:q=lo+(k+1)
    .subst cq;rw[ex]at gy;cases gy;exact C.trans _ _ _ px py qx e' (g3 p (lo+(k+1)-1) _ _ (by lia) (by lia) (by lia) (by lia) gx ey)
    .exact g3 p q x y (by lia) (by lia) (by lia) (by lia) gx gy
abbrev Ny(lt:je->je->Bool) (ix:je->Nat) (st:SortSt) (lo nrem:Nat) (Q:Option Nat->SortSt->Prop):=∀n xs,1<=n->n<=nrem->xf (ji st) xs lo (lo+n)->vX (ltx lt ix) xs lo (lo+n)->Pf lt ix xs lo n->Q (some n) (ju st xs)
theorem KD(C:xh prog w A s κ P lt) {lo nrem m:Nat}{st:SortSt}{ys:Array je}{Q:Option Nat->SortSt->Prop}(hp:∀x,x∈ji st->P x) (hk:kindOf st=κ) (hz:lo+nrem<=(ji st).size) (h:Ny lt ix st lo nrem Q)
  (h1:1<=m) (h2:m<=nrem) (b:xf (ji st) ys lo (lo+m)) (d:ER (ltx lt ix) ys lo (lo+m)) (f:Pf lt ix ys lo m):wpS (jf prog w) A E s (V4 lo nrem m) Q (ju st ys):=by
 refine jm (vU ?_);have hsz:=b.size;have f1:=BQ (by lia) d
 have f2:=b.trans (rG (i:=lo) (j:=lo+m) (by lia) (ae _) (ae _))
 have f3:=yC (i:=lo) (j:=lo+m) f (ae _) (ae _) (by lia)
 refine jm (jK (Dx (st:=ju st _) C (f2.mem hp) hk h1 h2 (aS hz (cK f2.size.symm)) f1 f3) ?_);rintro c zK ⟨n',rfl,rfl,n1',n2',s1',p1',_⟩;exact jq (h n' _ (by lia) n2' (f2.mono (by lia)) s1' p1')
theorem J9(C:xh prog w A s κ P lt) {lo nrem n:Nat}{st:SortSt}{xs:Array je}{Q:Option Nat->SortSt->Prop}(hp:∀x,x∈ji st->P x) (hk:kindOf st=κ) (hz:lo+nrem<=(ji st).size) (h:Ny lt ix st lo nrem Q)
  (hn:n<nrem) (b:xf (ji st) xs lo (lo+n)) (d:ER lt xs lo (lo+(n+1))) (dx:ER (ltx lt ix) xs lo (lo+n)) (hlt:∀p x y,lo<=p->p<lo+n->xs[p]?=some x->xs[lo+n]?=some y->lt y x=true) (f:Pf lt ix xs lo n):wpS (jf prog w) A E s (VR lo nrem n) Q (ju st xs):=by
 refine jm (zT (jm (jK (jH
  (I:=λi c zK=>∃q ys,c=(none,i,q)/\zK=ju st ys/\i<=nrem/\CS lt ix (ji st) lo i q ys)
  (Q:=λc zK=>∃m q ys,c=(none,m,q)/\zK=ju st ys/\m<=nrem/\CS lt ix (ji st) lo m q ys)
  ?_ ?_ ⟨0,xs,rfl,rfl,hn,⟨b.mono (by lia),d,vW C (b.mem hp) (by lia),by lia⟩,by rw[show lo+(n+1)-(0+1)=lo+n by lia];exact dx,λp r x y p1 p2 r1 r2 e1 e2=>hlt p x y p1 (by lia) e1 (by rw[show lo+n=r by lia];exact e2),λr r' y y' r1 r2 r3 e2 e3=>by
   rw[show r'=r by lia,e2]at e3
   cases e3;exact ae _,f.up⟩) ?_)))
 .rintro i c zK _ hi ⟨q,ys,rfl,rfl,_,g⟩;obtain⟨k,rfl⟩:∃k,i=k+1:=⟨i-1,by have:=g.c.p;lia⟩
  refine jK (P7 C hp hk hz hi g) λr zK hr=>?_
  obtain⟨m,q,zs,rfl,hm,g',rfl|⟨rfl,rfl⟩⟩:=hr
  .exact ⟨m,q,zs,rfl,rfl,hm,g'⟩
  .exact ⟨q,zs,rfl,rfl,hm,g'⟩
 .rintro c zK ⟨q,ys,rfl,rfl,hm,g⟩;exact⟨_,q,ys,rfl,rfl,hm,g⟩
 .rintro c zK ⟨m,q,ys,rfl,rfl,hm,g⟩;have hsz:=g.c.b.size;have gp:=g.c.p;have hpy:=g.c.b.mem hp;dsimp only
  by_cases cn:q>0
  .rw [oQ cn];exact jm (vU (KD (st:=st) (ys:=kE ys (lo+m-(q+1)) (lo+m) ((lo+m-(lo+m-(q+1))) / 2)) C hp hk hz h (by lia) hm (g.c.b.trans (rG (by lia) (by lia) (ae _))) (g.rev C.od hpy (by lia)) (yC g.pf (by lia) (by lia) (by lia))))
  .rw [oT cn];have q0:q=0:=by lia
   subst q0;exact KD C hp hk hz h (by lia) hm g.c.b (g.all C.od hpy) g.pf
theorem Df(C:xh prog w A s κ P lt) {lo nrem:Nat}{st:SortSt}{Q:Option Nat->SortSt->Prop}(hp:∀x,x∈ji st->P x) (hk:kindOf st=κ) (h1:1<=nrem) (hz:lo+nrem<=(ji st).size) (hf:Pf lt ix (ji st) lo 0)
  (h:Ny lt ix st lo nrem Q):wpS (jf prog w) A E s (countRun' lo nrem) Q st:=by
 rw[Rp];refine jm (jK (Dx C hp hk (ae 1) h1 hz (MN (C.od.ltx ix) hp lo) hf.up) ?_);rintro c st' ⟨n,rfl,rfl,n1,n2,sgx,pf1,brk⟩;have sg1:=O5 sgx;dsimp only;have triv:Q (some n) st':=h n (ji st') n1 n2 (xf.refl _ _ _) sgx pf1
 by_cases c1:n=nrem
 .rw [oQ (by simp[c1])]
  exact jq triv
 rw[oT (by simpa using c1)]
 obtain⟨xb,yb,exb,eyb,eb⟩:=brk.resolve_left c1;obtain⟨m,rfl⟩:∃m,n=m+1:=⟨n-1,by lia⟩
 have pxb:=hp _ (aQq exb);have pyb:=hp _ (aQq eyb);have go:SW lt (ji st') lo (lo+(m+1))->ER lt (ji st') lo (lo+(m+1+1)):=λe1 =>
  zV C hp (λp q x y g1 g2 g3 ex ey=>e1 p q x y g1 (by lia) (by lia) g3 ex ey) (λx y hx hy=>by
   have hy':(ji st')[lo+(m+1)-1]?=some y:=hy;rw[exb]at hx;rw[eyb]at hy';cases hx;cases hy';exact C.asym _ _ pxb pyb eb) (by lia)
 by_cases c2:m+1>1
 .rw [oQ c2];have ex:(ji st')[lo]?=some ((ji st')[lo]'(by lia)):=ax (by lia)
  have pex:=hp _ (aQq ex);refine jm (C.at ex eyb pex pyb hk ?_);cases e:lt ((ji st')[lo]'(by lia)) yb with
  |true=>exact jq triv
  |false =>
   dsimp only;rw[oT (by decide)]
   have eqv:SW lt (ji st') lo (lo+(m+1)):=by
    intro p q x y g1 g2 g3 g4 gx gy;have px:=hp _ (aQq gx);have py:=hp _ (aQq gy);have q1:=sg1 q (lo+(m+1)-1) _ _ g3 (by lia) (by lia) gy eyb
    have q2:=sg1 lo p _ _ (ae _) g1 g2 ex gx;exact C.trans _ _ _ py pex px (C.trans _ _ _ py pyb pex q1 e) q2
   have gz:(kE (ji st') lo (lo+(m+1)) ((lo+(m+1)-lo) / 2))[lo+(m+1)]?=some xb:=by rw[jx (by lia),oT (by lia)];exact exb
   refine jm (vU (J9 C hp hk hz h (by lia) (rG (by lia) (ae _) (ae _)) (vJ (by lia) (ae _) (by lia) eqv (go eqv)) ?_ ?_ (yC pf1 (ae _) (ae _) (by lia))))
   .intro p r x y h1 h2 h3 e1 e2;rw[jx (by lia),oQ ⟨h1,by lia⟩]at e1
    rw[jx (by lia),oQ ⟨by lia,h3⟩]at e2
    have z1:=eqv _ _ _ _ (by lia) (by lia) (by lia) (by lia) e1 e2
    have z2:=eqv _ _ _ _ (by lia) (by lia) (by lia) (by lia) e2 e1
    by_cases c:p=r
    .subst c;rw[e1]at e2;cases e2;exact(C.od.ltx ix).refl _ (hp _ (aQq e1))
    .refine hf.above (j:=lo+(lo+(m+1))-1-r-lo) (r:=lo+(lo+(m+1))-1-p-lo) (by lia) (aG _) ?_ ?_ z1
     .rw [show lo+(lo+(lo+(m+1))-1-r-lo)=lo+(lo+(m+1))-1-r by lia];exact e2
     .rw [show lo+(lo+(lo+(m+1))-1-p-lo)=lo+(lo+(m+1))-1-p by lia];exact e1
   .intro p x y p1 p2 e1 e2;rw[gz]at e2;cases e2;rw[jx (by lia),oQ ⟨p1,p2⟩]at e1
    exact C.od.lower pxb pyb (hp _ (aQq e1)) eb (eqv _ (lo+(m+1)-1) _ _ (by lia) (by lia) (by lia) (by lia) e1 eyb)
 .rw [oT c2];have m0:m=0:=by lia
  subst m0;refine J9 C hp hk hz h (by lia) (xf.refl _ _ _) (go (vW C hp (by lia))) (λp r x y h1 h2 h3 e1 e2=>?_) (λp x y p1 p2 e1 e2=>?_) pf1
  .have:p=r:=by lia
   subst this;rw[e1]at e2;cases e2;exact(C.od.ltx ix).refl _ (hp _ (aQq e1))
  .rw [exb]at e2;cases e2;rw[show p=lo+(0+1)-1 by lia,eyb]at e1
   cases e1;exact eb
end
section
variable {prog:jj}{w:jo}{A:Around}{E:Value->Shared->Prop}{s:Shared}{κ:jB}{P:je->Prop}{lt:je->je->Bool}{ix:je->Nat}
abbrev J4(κ:jB) (xs:Array je) (p:Array (Nat×Nat×Nat)) (g:Nat):SortSt:=SortSt.mk' κ xs p g none
theorem KP(C:xh prog w A s κ P lt) {arr:Array je}{g:Nat}{Q:Unit->SortSt->Prop}(hp:∀x,x∈arr->P x) (h2:2<=arr.size) (h64:arr.size<64) (hx:∀(j r:Nat) (x y:je),j<r->arr[j]?=some x->arr[r]?=some y->lt x y=false->lt y x=false->ix x<=ix y)
  (h:∀xs p g',xs.Perm arr->vX (ltx lt ix) xs 0 arr.size->Q () (J4 κ xs p g')):wpS (jf prog w) A E s sortRuns' Q (J4 κ arr #[] g):=by
 rw[sortRuns'_eq];refine jm (kF ?_);dsimp only;have hmr:minRun' arr.size arr.size 0=arr.size:=by
  obtain⟨f,hf⟩:∃f,arr.size=f+1:=⟨arr.size-1,by lia⟩
  have:minRun' (f+1) arr.size 0=arr.size:=by rw[minRun'_succ,oQ h64];rfl
  rwa [←hf]at this
 have e0:ji (J4 κ arr #[] g)=arr:=rfl;simp only[e0,hmr];have hf:Pf lt ix arr 0 0:=λj r x y hj _ ex ey=>hx j r x y hj (by rw[aK]at ex;exact ex) (by rw[aK]at ey;exact ey)
 refine jm (jK (jH
  (I:=λx c st'=>(x=0/\c=(none,0)/\st'=J4 κ arr #[] g)∨(1<=x/\c=(none,arr.size)/\∃xs,st'=J4 κ xs #[(0,arr.size,0)] g/\xs.Perm arr/\vX (ltx lt ix) xs 0 arr.size))
  (Q:=λc st'=>c=(none,arr.size)/\∃xs,st'=J4 κ xs #[(0,arr.size,0)] g/\xs.Perm arr/\vX (ltx lt ix) xs 0 arr.size) ?step ?fin (.inl ⟨rfl,rfl,rfl⟩)) ?post)
 case fin =>
  rintro c st' (⟨hx,_,_⟩|⟨_,hc,hD⟩)
  .lia
  .exact ⟨hc,hD⟩
 case step =>
  rintro x c st' _ hx1 (⟨rfl,rfl,rfl⟩|⟨hx1,rfl,hD⟩)
  .dsimp only;rw[oT (by lia)]
   simp only[fN,gU];refine jm (Df (st:=J4 κ arr #[] g) C hp rfl (by lia) (by show 0+arr.size<=arr.size;lia) hf λn ys n1 n2 b1 s1 p1=>?_)
   dsimp only;have hb:xf arr ys 0 (0+n):=b1;show wpS _ _ _ _ _ _ (J4 κ ys #[] g)
   by_cases hlt:n<arr.size
   .rw [oQ hlt];refine jm (zT ?_);refine jm (GI (st:=J4 κ ys #[] g) C (hb.mem hp) rfl n1 n2 (by show 0+arr.size<=ys.size;have:=hb.size;lia) s1 p1 λzs b2 s2 _=>?_)
    rw[oT (by decide)]
    refine jm (kF ?_);show wpS _ _ _ _ _ _ (J4 κ zs #[] g);refine jm (kQ (jq (.inr ⟨by lia,by rw[aK],zs,?_,b2.pm.trans hb.pm,?_⟩)))
    .rfl
    .rw [aK]at s2;exact s2
   .rw [oT hlt];have hm:n=arr.size:=by lia
    subst hm;refine jm (kF ?_);refine jm (kQ (jq (.inr ⟨by lia,by rw[aK],ys,?_,hb.pm,?_⟩)))
    .rfl
    .rw [aK]at s1;exact s1
  .dsimp only;rw[oQ (ae _)];exact jq ⟨rfl,hD⟩
 case post =>
  rintro c st' ⟨rfl,xs,rfl,q1,q2⟩;dsimp only;refine jm (jK (jH (I:=λ_ c st''=>st''=J4 κ xs #[(0,arr.size,0)] g/\c=(none,())) (Q:=λc st''=>st''=J4 κ xs #[(0,arr.size,0)] g/\c=(none,())) ?_ (λ_ _ hh=>hh) ⟨rfl,rfl⟩) ?_)
  .rintro x c st'' _ _ ⟨rfl,rfl⟩;refine jm (kF ?_);rw[oQ (by show (1:Nat)<=1;exact ae 1)]
   exact jq ⟨rfl,rfl⟩
  .rintro c st'' ⟨rfl,rfl⟩;exact jq (h xs _ _ q1 q2)
end
end MrS
namespace MrS
open PySem PySem.W PyProof.Rows
section
variable {prog:jj}{w:jo}{A:Around}{E:Value->Shared->Prop}{s:Shared}{κ:jB}{Pk:je->Prop}{lt:je->je->Bool}{ix:je->Nat}{a kS:Addr}{vs:List Value}{keys:Array Value}{e e1:Nat}{P:PySem.Fin->Shared->Prop}
theorem G6{xs:Array je}{p:Array (Nat×Nat×Nat)}{g:Nat}{κ':jB}(hk:s.heap.get? kS=some (jh "list" keys e)) (ha:s.heap.get? a=some (jh "list" #[] e1)) (hka:kS≠a) (hz:keys.size<=jk) (hzx:xs.size<=jk)
  (h:∀h' tk c,(∀b o,b≠a->b≠kS->s.heap.get? b=some o->h'.get? b=some o)->h'.get? a=some (jh "list" (xs.map (·.2)) c)->P (.done (.ret .none)) { s with heap:=h',toks:=tk }) :
  jd (jf prog w) A (ksk_tail a false e1 (.ref kS) (J4 κ' xs p g)) P E s:=by
 have s1:=bS.update s.heap kS (Obj.mapSeq λ_=>(#[]:Array Value))
 have na1:(s.heap.update kS (Obj.mapSeq λ_=>(#[]:Array Value))).get? a=some (jh "list" #[] e1):=(s1.2 a hka.symm).trans ha
 have s2:=bS.update (s.heap.update kS (Obj.mapSeq λ_=>(#[]:Array Value))) a (Obj.mapSeq λ_=>xs.map (·.2))
 obtain⟨c2,hc2⟩:∃c2,((s.heap.update kS (Obj.mapSeq λ_=>(#[]:Array Value))).update a (Obj.mapSeq λ_=>xs.map (·.2))).get? a=some (jh "list" (xs.map (·.2)) c2):=⟨_,jD na1 λ_=>xs.map (·.2)⟩
 unfold ksk_tail;dsimp only;refine jc (jF hk rfl ?_ hz (aG _));refine jc (jP ?_);refine jc (kj na1 rfl ?_);refine jc (jF na1 rfl ?_ (aG _) (by simp only[bx,if_false,ed];exact Nat.le_succ_of_le hzx))
 simp only[bne_self_eq_false,bx,if_false];exact jg (h _ _ c2 (λb o b1 b2 e=>(s2.2 b b1).trans ((s1.2 b b2).trans e)) hc2)
theorem Qg(hk:s.heap.get? kS=some (jh "list" keys e)) (ha:s.heap.get? a=some (jh "list" #[] e1)) (hka:kS≠a) (hlen:keys.size=vs.length) (h64:vs.length<64)
  (hkk:2<=vs.length->∀Q:jB->Shared->Prop,Q κ s->jd (jf prog w) A (kD keys) Q E s)
  (C:xh prog w A s κ Pk lt) (hp:∀x,x∈keys.zip vs.toArray->Pk x) (hx:∀(j r:Nat) (x y:je),j<r->(keys.zip vs.toArray)[j]?=some x->(keys.zip vs.toArray)[r]?=some y->lt x y=false->lt y x=false->ix x<=ix y)
  (h:∀(xs:Array je) h' tk c,xs.Perm (keys.zip vs.toArray)->vX (ltx lt ix) xs 0 vs.length->(∀b o,b≠a->b≠kS->s.heap.get? b=some o->h'.get? b=some o)->h'.get? a=some (jh "list" (xs.map (·.2)) c)->P (.done (.ret .none)) { s with heap:=h',toks:=tk }) :
  jd (jf prog w) A (ksk_end a false vs.toArray e1 (.ref kS) keys) P E s:=by
 have hzs:(keys.zip vs.toArray).size=vs.length:=by rw[Array.size_zip,hlen,ak,gU]
 have hsl:jk=16777216:=jt;unfold ksk_end;dsimp only;rw[oT (by decide)]
 by_cases h2:vs.toArray.size<2
 .rw [oQ h2,oQ h2];refine jc (jg ?_);rw[StateT.run_pure];refine jc (jg ?_);dsimp only;rw[oT (by decide)]
  refine G6 (κ':=general') (p:=#[]) (g:=7) (xs:=keys.zip vs.toArray) hk ha hka (by lia) (by lia) λh' tk c q1 q2=>h _ h' tk c (gC.refl _) ?_ q1 q2
  intro p q x y h1 h3 h4 ex ey;rw[ak]at h2;have:p=q:=by lia
  subst this;rw[ex]at ey;cases ey;exact(C.od.ltx ix).refl _ (hp _ (aQq ex))
 .rw [oT h2,oT h2];rw[ak]at h2;refine jc (hkk (by lia) _ ?_)
  rw[oT (by decide)]
  refine jc (jv (KP (E:=E) (ix:=ix) (arr:=keys.zip vs.toArray) (g:=7) C hp (by lia) (by lia) hx (Q:=λ_ st'=>∃xs p g',st'=J4 κ xs p g'/\xs.Perm (keys.zip vs.toArray)/\vX (ltx lt ix) xs 0 (keys.zip vs.toArray).size) λxs p g' q1 q2=>⟨xs,p,g',rfl,q1,q2⟩) ?_ λ_ _ e=>e)
  rintro⟨⟨⟩,st'⟩ s' ⟨rfl,xs,p,g',rfl,q1,q2⟩;dsimp only;rw[hzs]at q2;exact G6 hk ha hka (by lia) (by rw[q1.size_eq,hzs];lia) λh' tk c r1 r2=>h xs h' tk c q1 q2 r1 r2
end
end MrS
namespace Mr
open PySem PySem.W L2 PySem.Calls
open PySem.Spec PyProof.Rows
section
variable {X:Cx}{CX:IU}{k:Nat}{f:Addr}{fd:jE}{ps:List Str}{sp:Sp}{dvs:List V}{ds:List Value}{XE:XK}
theorem PJ{A':Around}{E':Value->Shared->Prop}{nF:List (Addr×Obj)}{σ:St}{H:Hp}{s:Shared}{Q:VK}{us:List Value}{vs:List V}(hA:A'.frames=X.A.frames) (F:wU X.prog X.w X.K X.mg X.base CX k f fd ps sp) (hr:rQ k A') (hb:uz X.K fd ps ds) (hd:oW dvs ds)
  (hx:∀H s e s',¬ CX X.stack H s XE e s') (I:Inv X nF σ H s) (r:oW vs us) (h:sp (vs++dvs) H Q XE):jd (jf X.prog X.w) A' (call (.ref f) us) (EP X nF σ Q) E' s:=by
 have r2:oW (vs++dvs) (us++ds):=r.append hd;have hl:(us++ds).length=ps.length:=by rw[←r2.length];exact F.len _ _ _ _ h
 have e0:=I.env0;have e1:Mk X.prog X.w X.K X.mg X.base A' X.stack s H:=⟨hA.trans e0.frames,e0.mod,e0.bs,e0.bsz,e0.funs,e0.frf,e0.hok,e0.bare,e0.tb⟩;refine wpAny_call (kC (F.run A' X.stack s H ⟨us,[]⟩ (us++ds) (vs++dvs) Q XE hr e1 (hb s us I.kIn hl) r2 h) λr s' hq=>?_)
 cases r with
 |error e=>exact absurd hq (hx H s e s')
 |ok fl =>
  cases fl with
  |ret u=>exact I.after hq
  |next=>exact False.elim hq
  |brk=>exact False.elim hq
  |cont=>exact False.elim hq
def Ib(sp:Sp) (XE:XK):List V->List V->Hp->(List V->Hp->Prop)->Prop
 | [],ks,H,Q=>Q ks H
 |x::xs,ks,H,Q=>sp [x] H (λv H'=>Ib sp XE xs (ks++[v]) H' Q) XE
structure Oi (X:Cx) (nF:List (Addr×Obj)) (H:Hp) (s:Shared) (a t kS:Addr) (e1:Nat) (kA:Array Value) (e:Nat) (to:Obj):Prop where
 fa:uf X nF H a
 ft:uf X nF H t
 fk:uf X nF H kS
 ha:s.heap.get? a=some (jh "list" #[] e1)
 ht:s.heap.get? t=some to
 hk:s.heap.get? kS=some (jh "list" kA e)
 tc:∀v,to.data ≠ .cell v
theorem LS{A':Around}{E':Value->Shared->Prop}{nF:List (Addr×Obj)}{σ:St}{H:Hp}{s:Shared}{Q:VK}{x:V}{u:Value}{a t kS:Addr}{e1 e:Nat}{kA:Array Value}{to:Obj}(hA:A'.frames=X.A.frames) (F:wU X.prog X.w X.K X.mg X.base CX k f fd ps sp) (hr:rQ k A') (hb:uz X.K fd ps [])
  (hx:∀H s e s',¬ CX X.stack H s XE e s') (I:Inv X nF σ H s) (O:Oi X nF H s a t kS e1 kA e to) (r:pQ x u) (h:sp [x] H Q XE) :
  jd (jf X.prog X.w) A' (call (.ref f) [u]) (λu' s'=>∃v H',Inv X nF σ H' s'/\pQ v u'/\Q v H'/\Oi X nF H' s' a t kS e1 kA e to) E' s:=by
 have nc:∀(xs:Array Value) (n:Nat) v,(jh "list" xs n).data ≠ .cell v:=λxs n v z=>by cases z
 have I2:Inv X (nF++[(a,jh "list" #[] e1),(t,to),(kS,jh "list" kA e)]) σ H s:=I.pins_of λp hp=>by
  rcases mAq.mp hp with z|z
  .exact I.pin p (ay _ z)
  .simp only [ah,bN,or_false]at z;rcases z with rfl|rfl|rfl
   .exact ⟨O.ha,O.fa.1,O.fa.2.1,O.fa.2.2.1,nc _ _⟩
   .exact ⟨O.ht,O.ft.1,O.ft.2.1,O.ft.2.2.1,O.tc⟩
   .exact ⟨O.hk,O.fk.1,O.fk.2.1,O.fk.2.2.1,nc _ _⟩
 refine jv (PJ (E':=E') hA F hr hb .nil hx I2 (.cons r .nil) (by rw[aNq];exact h)) (λu' s' hq=>?_) λ_ _ e=>e
 obtain⟨v,H',I3,rv,q⟩:=hq;have pa:=I3.pin (a,jh "list" #[] e1) (by simp)
 have pt:=I3.pin (t,to) (by simp)
 have pk:=I3.pin (kS,jh "list" kA e) (by simp)
 exact⟨v,H',I3.unpinned,rv,q,⟨pa.2.1,O.fa.2⟩,⟨pt.2.1,O.ft.2⟩,⟨pk.2.1,O.fk.2⟩,pa.1,pt.1,pk.1,O.tc⟩
theorem LR{A':Around}{E':Value->Shared->Prop}{nF:List (Addr×Obj)}{σ:St}{H:Hp}{s:Shared}{xs:List V}{vs:List Value}{a t kS:Addr}{e1 e0:Nat}{to:Obj}{P:PySem.Fin->Shared->Prop}{Q0:List V->Hp->Prop}(hA:A'.frames=X.A.frames) (F:wU X.prog X.w X.K X.mg X.base CX k f fd ps sp) (hr:rQ k A') (hb:uz X.K fd ps [])
  (hx:∀H s e s',¬ CX X.stack H s XE e s') (I:Inv X nF σ H s) (O:Oi X nF H s a t kS e1 #[] e0 to) (r:oW xs vs) (hz:vs.length<=1000) (n1:kS≠a) (n2:kS≠t) (hK:Ib sp XE xs [] H Q0)
  (h:∀s' H' ks kA e,Inv X nF σ H' s'->Oi X nF H' s' a t kS e1 kA e to->oW ks kA.toList->ks.length=xs.length->Q0 ks H'->jd (jf X.prog X.w) A' (ksk_end a false vs.toArray e1 (.ref kS) kA) P E' s') :
  jd (jf X.prog X.w) A' (ksk_rest a (.ref f) false vs.toArray e1 (.ref kS)) P E' s:=by
 have hl:=r.length;have hsl:jk=16777216:=jt;unfold ksk_rest;refine jc (wpAny_rule ?_)
 first
  |rw[fv]
  | (rw[←gR];simp only[fg])
  |rw[←gR]
 refine jc (ksk_fold (λi s'=>∃H' ks kA e,Inv X nF σ H' s'/\Oi X nF H' s' a t kS e1 kA e to/\oW ks kA.toList/\ks.length=i/\Ib sp XE (xs.drop i) ks H' Q0) vs 0 s
  ⟨H,[],#[],e0,I,O,.nil,rfl,hK⟩ ?step ?done)
 case step =>
  rintro j u s' hu ⟨H',ks,kA,e,I',O',rk,lk,hK'⟩;simp only[aK]at lk hK' ⊢;have hj:j<vs.length:=(gSq.mp hu).1;obtain⟨u2,hu2,rx⟩:=r.get (i:=j) (x:=xs[j]'(by lia)) (gEg (by lia))
  rw[hu]at hu2;cases hu2;rw[aw (by lia:j<xs.length)]at hK'
  refine jc (ly (jv (LS (E':=λ_ _=>False) hA F hr hb hx I' O' rx hK') (λu' s'' he=>?_) λ_ _ hF=>hF.elim))
  obtain⟨v,H2,I2,rv,q,O2⟩:=he;dsimp only;have hz2:kA.size<=1000:=by
   have q1:kA.size=ks.length:=by
    rw[←bf]
    first|exact rk.length|exact rk.length.symm
   lia
  have s1:=bS.update s''.heap kS (Obj.mapSeq (·.push u'));obtain⟨c2,hc2⟩:∃c2,(s''.heap.update kS (Obj.mapSeq (·.push u'))).get? kS=some (jh "list" (kA.push u') c2):=⟨_,jD O2.hk (·.push u')⟩;refine jc (jF O2.hk rfl ?_ (by lia) (aS (cK (iH ..)) (by lia)))
  have I3:Inv X nF σ H2 { s'' with heap:=s''.heap.update kS (Obj.mapSeq (·.push u')),toks:=s''.toks }:=uv (fp:=[kS]) I2 (λb o hb e=>(s1.2 b (λz=>hb (by simp[z]))).trans e) (λb hb=>by rw[mSq.mp hb];exact O2.fk)
  refine jg ⟨rfl,H2,ks++[v],kA.push u',c2,I3,⟨O2.fa,O2.ft,O2.fk,(s1.2 a n1.symm).trans O2.ha,(s1.2 t n2.symm).trans O2.ht,hc2,O2.tc⟩,?_,by simp[lk],q⟩
  rw[Array.toList_push];exact rk.append (.cons rv .nil)
 case done =>
  rintro s' ⟨H',ks,kA,e,I',O',rk,lk,hK'⟩;rw[aK]at lk hK';rw[bw (by lia)]at hK'
  refine jc (lU O'.hk rfl ?_);exact h s' H' ks kA e I' O' rk (by lia) hK'
end
section
variable {X:Cx}{CX:IU}{k:Nat}{f:Addr}{fd:jE}{ps:List Str}{sp:Sp}{XE:XK}
theorem UF{nF:List (Addr×Obj)}{σ:St}{H:Hp}{s:Shared}{h':Heap}{a kS:Addr}{o:HO}{t':Nat}(I:Inv X nF σ H s) (fa:uf X nF H a) (fk:uf X nF H kS) (kp:∀b u,b≠a->b≠kS->s.heap.get? b=some u->h'.get? b=some u)
  (new:qp X.prog X.w (qr H a o) h' a o):Inv X nF σ (qr H a o) { s with heap:=h',toks:=t' }:=by
 have hf:∀b∈[a,kS],uf X nF H b:=λb hb=>by
  simp only[ah,bN,or_false]at hb;rcases hb with rfl|rfl
  .exact fa
  .exact fk
 have k:∀b u,b∉[a,kS]->s.heap.get? b=some u->h'.get? b=some u:=λb u hb e=>kp b u (λz=>hb (by simp[z])) (λz=>hb (by simp[z])) e
 have nf:∀b u,H b=some u->b∉[a,kS]:=λb u e z=>by rw[(hf b z).1]at e;cases e
 have na:∀b u,H b=some u->b≠a:=λb u e z=>by rw[z,fa.1]at e;cases e
 refine I.step (g':=s.gens) (d':=s.drawn) (ch:=[a,kS]) (λb hb=>?_) (λb u _ _ hc e _=>k b u hc e) (λb u _ _ hc e _=>⟨u.slots,k b u hc e⟩)
  (λb u hc _ n=>by rw[nX (λz=>hc (by simp[z]))];exact n) (λb u hc e=>⟨u,k b u hc e⟩) (λb xs e=>by rw[nX (na _ _ e)];exact e) (λb u xs e=>by rw[nX (na _ _ e)];exact e) (λb _ e=>by rw[nX (na _ _ e)];exact e) (λm hm=>?_) (λb u e=>?_) I.bare
 .obtain ⟨_,f1,_,f3,f4,f5⟩:=hf b hb;exact⟨f3,f1,f4,f5⟩
 .obtain ⟨ob,es,ep,ho,r⟩:=hm;exact⟨ob,es,ep,k _ _ (λz=>(hf _ z).2.1 rfl) ho,r⟩
 .by_cases c:b=a
  .subst c;rw[oz]at e;cases e;exact new
  .rw [nX c]at e;refine(I.hok b u e).stay (λc v hc q=>k c v ?_ q) (λc q=>by rw[nX (na _ _ q)];exact q) (λc xs q=>by rw[nX (na _ _ q)];exact q) λc xs q=>by rw[nX (na _ _ q)];exact q
   rcases hc with rfl|hc
   .exact nf _ _ e
   .exact nf _ _ hc
def UI(cd:Addr->List (List Int)) (ia:Addr->Nat) (its zs:List Addr):Prop:=zs.Perm its/\zs.Pairwise λx y=>HT.oZ (cd y) (cd x)=false/\(HT.oZ (cd x) (cd y)=true∨ia x<=ia y)
def Qk(its:List Addr) (Q:VK) (ks:List V) (H:Hp):Prop:=∃(cps:List Addr) (cs:List (List (List Int))) (cd:Addr->List (List Int)) (ia:Addr->Nat),ks=cps.map V.ref/\cs.length=cps.length/\(∀(i:Nat) (p:Addr) (c:List (List Int)),cps[i]?=some p->cs[i]?=some c->wq H p c/\c≠[]) /\
 (∀(j:Nat) (z:Addr) (c:List (List Int)),its[j]?=some z->cs[j]?=some c->cd z=c)/\(∀(j r:Nat) (z z':Addr),j<r->its[j]?=some z->its[r]?=some z'->HT.oZ (cd z) (cd z')=false->HT.oZ (cd z') (cd z)=false->ia z<=ia z')/\∀a zs,H a=none->UI cd ia its zs->Q (.ref a) (qr H a (.lst (zs.map V.ref)))
theorem HN{A':Around}{E':Value->Shared->Prop}{nF:List (Addr×Obj)}{σ:St}{H:Hp}{s:Shared}{its:List Addr}{a:Addr}{n:Nat}{P:PySem.Fin->Shared->Prop}{Q:VK}(hA:A'.frames=X.A.frames) (hu:A'.units+40<jw) (F:wU X.prog X.w X.K X.mg X.base CX k f fd ps sp) (hr:rQ k A') (hb:uz X.K fd ps [])
  (hx:∀H s e s',¬ CX X.stack H s XE e s') (I:Inv X nF σ H s) (fa:uf X nF H a) (ho:s.heap.get? a=some (jh "list" (its.map ai).toArray n)) (hz:its.length<64) (hK:Ib sp XE (its.map V.ref) [] H (Qk its Q))
  (h:∀s' H',Inv X nF σ H' s'->Q (.ref a) H'->P (.done (.ret .none)) s') :
  jd (jf X.prog X.w) A' (ksk_tree a (.ref f) false) P E' s:=by
 have hsl:jk=16777216:=jt;have ha:a<s.heap.objs.size:=ag ho;have s1:=bS.update s.heap a (Obj.mapSeq λ_=>(#[]:Array Value))
 obtain⟨e1,ho1⟩:∃e1,(s.heap.update a (Obj.mapSeq λ_=>(#[]:Array Value))).get? a=some (jh "list" #[] e1):=⟨_,jD ho λ_=>#[]⟩
 have hsz:(s.heap.update a (Obj.mapSeq λ_=>(#[]:Array Value))).objs.size=s.heap.objs.size:=aW ..
 unfold ksk_tree;refine jc (lU ho rfl ?_);refine jc (jF ho rfl ?_ (by rw[ak,lMq];lia) (aG _))
 refine jc (kj ho1 rfl ?_);refine jc (kX ?_ (by show (its.map ai).length<=_;rw[lMq];lia))
 refine jc (jO ?_ (aG _));refine jy ?_;have hkS:((s.heap.update a (Obj.mapSeq λ_=>(#[]:Array Value))).push (jh "tuple" (its.map ai).toArray 0)).objs.size=s.heap.objs.size+1:=by rw[ke,hsz]
 have I3:Inv X nF σ H { s with heap:=((s.heap.update a (Obj.mapSeq λ_=>(#[]:Array Value))).push (jh "tuple" (its.map ai).toArray 0)).push (jh "list" #[] 0),toks:=s.toks }:=uv (fp:=[a]) I (λb o hb e=>ab _ (ab _ ((s1.2 b (λz=>hb (by simp[z]))).trans e))) (λb hb=>by rw[mSq.mp hb];exact fa)
 have ft:uf X nF H s.heap.objs.size:=I.fpOk (ae _) (I.hok.fresh (ae _));have fk:uf X nF H (s.heap.objs.size+1):=I.fpOk (aT _) (I.hok.fresh (aT _));have ht:(((s.heap.update a (Obj.mapSeq λ_=>(#[]:Array Value))).push (jh "tuple" (its.map ai).toArray 0)).push (jh "list" #[] 0)).get? s.heap.objs.size=some (jh "tuple" (its.map ai).toArray 0):=by
  refine ab _ ?_;rw[←hsz];exact aB _ rfl
 have hk:(((s.heap.update a (Obj.mapSeq λ_=>(#[]:Array Value))).push (jh "tuple" (its.map ai).toArray 0)).push (jh "list" #[] 0)).get? (s.heap.objs.size+1)=some (jh "list" #[] 0):=by
  rw[←hkS];exact aB _ rfl
 have hka:s.heap.objs.size+1≠a:=by lia
 show jd _ _ (ksk_rest a (.ref f) false (its.map ai).toArray e1 (.ref ((s.heap.update a (Obj.mapSeq λ_=>(#[]:Array Value))).push (jh "tuple" (its.map ai).toArray 0)).objs.size)) _ _ _
 rw[hkS];refine LR (to:=jh "tuple" (its.map ai).toArray 0) (t:=s.heap.objs.size) (Q0:=Qk its Q) hA F hr hb hx I3 ⟨fa,ft,fk,ab _ (ab _ ho1),ht,hk,λv z=>by cases z⟩ (tO its) (by rw[lMq];lia) hka (by lia) hK λs' H' ks kA e I' O' rk lk q=>?_
 obtain⟨cps,cs,cd,ia,rfl,lc,hE,hcd,hia,q⟩:=q;have ei:=rh rk;rw[lMq,lMq]at lk;obtain rfl:kA=(cps.map ai).toArray:=by rw[←ei]
 have cdI:∀p∈cps,HT.tY s'.heap p (pT H' p)/\pT H' p≠[]:=λp hp=>by
  obtain⟨i,hi⟩:=aD.mp hp;have il:=(gSq.mp hi).1;obtain⟨h1,h2⟩:=hE i p (cs[i]'(by lia)) hi (gEg (by lia))
  rw[h1.eq];exact⟨RL I' h1,h2⟩
 have shape:∀j (x:je),((cps.map ai).toArray.zip (its.map ai).toArray)[j]?=some x->∃p z,x=(.ref p,.ref z)/\cps[j]?=some p/\its[j]?=some z:=λj x hj=>by
  rw[iw,eO,cW,gMq,gMq]at hj;obtain⟨h1,h2⟩:=hj;obtain⟨p,p1,p2⟩:=oMq.mp h1;obtain⟨z,z1,z2⟩:=oMq.mp h2;exact⟨p,z,fA p2.symm z2.symm,p1,z1⟩
 have cdz:∀(j:Nat) (p z:Addr),cps[j]?=some p->its[j]?=some z->pT H' p=cd z:=λj p z p1 z1=>by
  have jl:=(gSq.mp p1).1;have cj:cs[j]?=some (cs[j]'(by lia)):=gEg (by lia)
  rw[(hE j p _ p1 cj).1.eq,hcd j z _ z1 cj]
 refine MrS.Qg (κ:=lK false) (Pk:=λx=>∃p,x.1 = .ref p/\p∈cps) (lt:=U7 (pT H')) (ix:=λx=>ia (pE x.2)) O'.hk O'.ha hka (by rw[ak,lMq,lMq,lk]) (by rw[lMq];exact hz)
  (λh2 Q q=>Rv (by rw[lMq]at h2;lia) (λp hp=>(cdI p hp).1) (λp hp=>(cdI p hp).2) q) (Ur hu λp hp=>(cdI p hp).1) (λx hx=>?_) (λj r x y hj hx hy t1 t2=>?_) λxs h' tk c q1 q2 q3 q4=>?_
 .obtain ⟨j,hj⟩:=fX.mp hx;obtain⟨p,z,rfl,p1,_⟩:=shape j x hj;exact⟨p,rfl,mGq p1⟩
 .obtain ⟨p,z,rfl,p1,z1⟩:=shape j x hx;obtain⟨p',z',rfl,p2,z2⟩:=shape r y hy;have t1:HT.oZ (pT H' p) (pT H' p')=false:=t1;have t2:HT.oZ (pT H' p') (pT H' p)=false:=t2;rw[cdz j p z p1 z1,cdz r p' z' p2 z2]at t1 t2;exact hia j r z z' hj z1 z2 t1 t2
 .have sh2:∀x∈xs.toList,∃p z,x=(.ref p,.ref z)/\pT H' p=cd z:=λx hx=>by
   obtain⟨j,hj⟩:=fX.mp (q1.mem_iff.mp (Array.mem_toList_iff.mp hx));obtain⟨p,z,rfl,p1,z1⟩:=shape j x hj;exact⟨p,z,rfl,cdz j p z p1 z1⟩
  have ez:(xs.map (·.2)).toList=(xs.toList.map λx=>pE x.2).map ai:=by
   rw[ip,mPq];refine mCq λx hx=>?_
   obtain⟨p,z,rfl,_⟩:=sh2 x hx;rfl
  have pz:(xs.toList.map λx=>pE x.2).Perm its:=by
   have:=(Array.perm_iff_toList_perm.mp q1).map λx=>pE x.2
   refine this.trans ?_;rw[iw,fg];refine dr.of_eq ?_;have e:((cps.map ai).zip (its.map ai)).map (λx=>pE x.2)=(((cps.map ai).zip (its.map ai)).map Prod.snd).map pE:=by rw[mPq];rfl
   rw[e,List.map_snd_zip (by rw[lMq,lMq];lia),mPq]
   exact gW its
  have st:UI cd ia its (xs.toList.map λx=>pE x.2):=by
   refine⟨pz,?_⟩;rw[aJ,bR];intro i j hi hj hij;have ei:=gEg hi;have ej:=gEg hj;rw[cP]at ei ej;have sg:=q2 i j _ _ (aG _) (bB hij) (by rw[lMq];have:=pz.length_eq;rw[lMq]at this;lia) ei ej
   obtain⟨p,z,e1,c1⟩:=sh2 _ (gRq hi);obtain⟨p',z',e2,c2⟩:=sh2 _ (gRq hj);rw[e1,e2]at sg ⊢;obtain⟨t1,t2⟩:=MrS.qG.mp sg;have t1:HT.oZ (pT H' p') (pT H' p)=false:=t1;rw[c1,c2]at t1;refine⟨t1,?_⟩;rcases t2 with t2|t2
   .have t2:HT.oZ (pT H' p) (pT H' p')=true:=t2;rw[c1,c2]at t2;exact .inl t2
   .exact .inr t2
  generalize xs.toList.map (λx=>pE x.2)=zs at ez pz st
  have fin:=q a zs O'.fa.1 st;refine h _ _ (UF I' O'.fa O'.fk (λb u b1 b2 e=>q3 b u b1 b2 e) (show qp X.prog X.w _ h' _ (.lst (zs.map V.ref)) from ⟨by rw[lMq,pz.length_eq];lia,zs.map ai,c,tO zs,?_⟩)) fin
  rw[q4,←ez]
theorem Ej{E':Value->Shared->Prop}{nF:List (Addr×Obj)}{σ:St}{H:Hp}{s:Shared}{its:List Addr}{l:Addr}{Q:VK}(F:wU X.prog X.w X.K X.mg X.base CX k f fd ps sp) (hr:rQ (k+1+1) X.A) (hu:X.A.units+64<jw) (hb:uz X.K fd ps [])
  (hx:∀H s e s',¬ CX X.stack H s XE e s') (I:Inv X nF σ H s) (hl:s.heap.IsList l (its.map ai).toArray) (hz:its.length<64) (hK:Ib sp XE (its.map V.ref) [] H (Qk its Q)) :
  jd (jf X.prog X.w) X.A (call (.builtin "sorted") [.ref l] [(Str.ofString "key", .ref f)]) (EP X nF σ Q) E' s:=by
 have hsl:jk=16777216:=jt;refine call_function_entry_kw mq lR lV (ksk_s1 _ _) ?_;unfold Builtin.«sorted»;refine jc (m:=mK "sorted" 1 1 _) (jg ?_);refine jc (mO hl ?_ (by rw[lMq];lia))
 refine jc (jO ?_ (by rw[lMq];lia))
 have hsz:((s.heap.push (jh "list" #[] 0)).update s.heap.objs.size (Obj.mapSeq (· ++ (its.map ai).toArray))).objs.size=s.heap.objs.size+1:=by
  rw[aW,ke]
 have hoL:(((s.heap.push (jh "list" #[] 0)).update s.heap.objs.size (Obj.mapSeq (· ++ (its.map ai).toArray))).push (jh "list" (its.map ai).toArray 0)).get? (s.heap.objs.size+1)=some (jh "list" (its.map ai).toArray 0):=by
  rw[←hsz];exact aB _ rfl
 have keep:∀b o,s.heap.get? b=some o->(((s.heap.push (jh "list" #[] 0)).update s.heap.objs.size (Obj.mapSeq (· ++ (its.map ai).toArray))).push (jh "list" (its.map ai).toArray 0)).get? b=some o:=λb o q=>by
  have hlt:b<s.heap.objs.size:=ag q;rw[bW _ _ _ (by rw[hsz];exact ao (ba hlt)),aV _ _ _ _ (ao hlt),bW _ _ _ (ao hlt)]
  exact q
 show jd _ _ _ _ _ { s with heap:=((s.heap.push (jh "list" #[] 0)).update s.heap.objs.size (Obj.mapSeq (· ++ (its.map ai).toArray))).push (jh "list" (its.map ai).toArray 0) }
 rw[hsz];have I2:Inv X nF σ H { s with heap:=((s.heap.push (jh "list" #[] 0)).update s.heap.objs.size (Obj.mapSeq (· ++ (its.map ai).toArray))).push (jh "list" (its.map ai).toArray 0),toks:=s.toks }:=I.kept keep
 have fa:uf X nF H (s.heap.objs.size+1):=I.fpOk (aT _) (I.hok.fresh (aT _));refine jc (jy (wpAny_call_entry_kw kY ⟨_,hoL,rfl⟩ kP ?body (ksk_l1 _ _)))
 case body =>
  show jd (jf X.prog X.w) X.A.in1.in1 (Builtin.«list.sort» ⟨[.ref (s.heap.objs.size+1)],[(Str.ofString "key", .ref f)]⟩) _ _ _;rw[ksk_t1];refine HN (Q:=Q) rfl (by show X.A.units+1+1+40<jw;lia) F hr.in1.in1 hb hx I2 fa hoL hz hK λs' H' I' q=>⟨_,rfl,?_⟩
  exact jg ⟨_,rfl,.ref (s.heap.objs.size+1),H',I',rfl,q⟩
end
section
variable {X:Cx}{CX:IU}{k:Nat}{f:Addr}{fd:jE}{ps:List Str}{sp:Sp}{XE:XK}
def J7(K:W.Frag) (sp:Sp) (XE:XK) (ta:TA):TE:=λσ H Q=>ta σ H λvs H1=>∃(a:Addr) (its:List Addr),vs=[.ref a]/\qw K H1 a (its.map V.ref)/\its.length<64/\Ib sp XE (its.map V.ref) [] H1 (Qk its Q)
theorem Bp{e:Expr}{ta:TA}{p pos kp pk:Pos}{x:Str}(F:wU X.prog X.w X.K X.mg X.base CX k f fd ps sp) (hr:rQ (k+1+1) X.A) (hg:Gl X "sorted") (hm:X.mg "sorted" = none) (hgx:Gl X x) (hmx:X.mg x=some (.ref f)) (hb:uz X.K fd ps []) (hx:∀H s e s',¬ CX X.stack H s XE e s') (ha:PA X [e] ta)
  (hdb:(x == ("__debug__" : Str))=false:=by decide) (he:jY pos (jr [e] X.env)=(false,eval e X.env)::jY pos (jr [] X.env):=by rfl) (hpl:(jY pos (jr [e] X.env)).any (·.1)=false:=by rfl) :
  PE X (.Call (.Name "sorted" p) [e] [⟨some "key", .Name x pk,kp⟩] pos) (J7 X.K sp XE ta):=by
 intro nF s σ H Q I h;refine jR (wg I hg hm boot_sorted ?_ (by decide) (by decide))
 refine callWith_kw (rM (ha pos nF s σ H _ I h) λus s1 hz1=>kws_cons ?_) he hpl rfl rfl
 obtain⟨vs,H1,I1,r1,a,its,e1,hS,hz,hK⟩:=hz1;subst e1;obtain⟨u,rfl,ru⟩:=uy r1;cases ru;refine JW I1 hgx hmx (kws_nil ?_) hdb;obtain⟨ws,rv,hl,_⟩:=I1.list hS;have ei:=rh rv;subst ei;exact Ej F hr hr.units hb hx I1 hl.isList hz hK
end
end Mr
namespace Z
open PySem PySem.W L2 Mr Xe
open PySem.Spec PyProof.Rows
abbrev Cd:=List (List Int)
def Dn{α:Type}(p:Cd×α):List (Cd×α)->List (Cd×α)
 | []=>[p]
 |q::l=>if HT.oZ q.1 p.1=true then q::Dn p l else p::q::l
def Ed{α:Type}:List (Cd×α)->List (Cd×α)
 | []=>[]
 |p::l=>Dn p (Ed l)
theorem AY{α:Type}(p:Cd×α):∀l,(Dn p l).Perm (p::l)
 | []=>.refl _
 |q::l=>by
  unfold Dn;split
  .exact (dr.cons q (AY p l)).trans (dr.swap p q l)
  .exact .refl _
theorem vG{α:Type}:∀l:List (Cd×α),(Ed l).Perm l
 | []=>.refl _
 |p::l=>(AY p (Ed l)).trans (dr.cons p (vG l))
def Vy{α:Type}(ix:α->Nat) (p q:Cd×α):Prop:=HT.oZ q.1 p.1=false/\(HT.oZ p.1 q.1=true∨ix p.2<=ix q.2)
theorem Bb{α:Type}(ix:α->Nat) (p:Cd×α):∀l:List (Cd×α),l.Pairwise (Vy ix)->(∀q∈l,p.1=q.1->ix p.2<=ix q.2)->(Dn p l).Pairwise (Vy ix)
 | [],_,_=>dt ..
 |q::l,h,hp=>by
  obtain⟨h1,h2⟩:=cy.mp h;unfold Dn;split
  .rename_i e;refine cy.mpr ⟨λr hr=>?_,Bb ix p l h2 λr hr=>hp r (mCo _ hr)⟩
   rcases ah.mp ((AY p l).mem_iff.mp hr) with rfl|hr
   .exact ⟨HT.tL _ _ e,.inl e⟩
   .exact h1 r hr
  .rename_i e;have e':HT.oZ q.1 p.1=false:=by simpa using e
   have tot:∀r∈q::l,HT.oZ r.1 p.1=false->Vy ix p r:=λr hr z=>by
    refine⟨z,?_⟩;cases c:HT.oZ p.1 r.1 with
    |true=>exact .inl rfl
    |false=>exact .inr (hp r hr (HT.sN _ _ c z))
   refine cy.mpr ⟨λr hr=>tot r hr ?_,h⟩
   rcases ah.mp hr with rfl|hr2
   .exact e'
   .exact HT.qS _ _ _ e' (h1 r hr2).1
theorem zr{α:Type}(ix:α->Nat):∀l:List (Cd×α),l.Pairwise (λp q=>p.1=q.1->ix p.2<=ix q.2)->(Ed l).Pairwise (Vy ix)
 | [],_=>bJ.nil
 |p::l,h=>by
  obtain⟨h1,h2⟩:=cy.mp h;exact Bb ix p _ (zr ix l h2) λq hq=>h1 q ((vG l).mem_iff.mp hq)
theorem Ky{α β:Type}(g:α->β):∀l:List (Cd×α),Ed (l.map λp=>(p.1,g p.2))=(Ed l).map λp=>(p.1,g p.2)
 | []=>rfl
 |p::l=>by
  have ins:∀l:List (Cd×α),Dn (p.1,g p.2) (l.map λp=>(p.1,g p.2))=(Dn p l).map λp=>(p.1,g p.2):=λl=>by
   induction l with
   |nil=>rfl
   |cons q l ih =>
    simp only[ar,Dn];split
    .rw [ih];rfl
    .rfl
  show Dn (p.1,g p.2) (Ed (l.map _))=_;rw[Ky g l,ins];rfl
def IR(f:MF) (d:D):Option Cd:=(f [d]).bind λa=>(match a with|.sh k=>Dz k|_=>none)
def Bd(f:MF):List D->Option (List Cd)
 | []=>some []
 |d::ds=>(IR f d).bind λc=>(Bd f ds).map λcs=>c::cs
theorem QC{f:MF}{d:D}{c:Cd}(h:IR f d=some c):f [d]=some (.sh (dC c)):=by
 unfold IR at h;obtain⟨a,ea,h'⟩:=oBq.mp h;cases a with
 |sh k=>rw[ea,C8 h']
 |_=>cases h'
theorem DN{f:MF}:∀{ds:List D}{cs:List Cd},Bd f ds=some cs->cs.length=ds.length
 | [],cs,h=>by cases h;rfl
 |d::ds,cs,h=>by
  obtain⟨c,e1,h⟩:=oBq.mp h;obtain⟨cs',e2,h⟩:=oMq.mp h;cases h;simp[DN e2]
theorem CG{f:MF}:∀{ds:List D}{cs:List Cd},Bd f ds=some cs->∀(i:Nat) (d:D) (c:Cd),ds[i]?=some d->cs[i]?=some c->IR f d=some c
 | [],cs,h=>λi d c e=>by cases e
 |d::ds,cs,h=>by
  obtain⟨c,e1,h⟩:=oBq.mp h;obtain⟨cs',e2,h⟩:=oMq.mp h;cases h;intro i d' c' h1 h2;cases i with
  |zero=>cases h1;cases h2;exact e1
  |succ i=>exact CG e2 i d' c' (by simpa using h1) (by simpa using h2)
def Sh(ds:List D):Prop:=(∀d∈ds,∃M,d=dM M)∨∀d∈ds,∃c b,d = .tup [dC c,dI b]
section
variable {K:W.Frag}{H:Hp}{v:V}
theorem Ca{α:Type}(g:α->D) (hg:∀a b v,qd K H (g a) v->qd K H (g b) v->a=b):∀{as bs:List α}{vs:List V},oH K H (as.map g) vs->oH K H (bs.map g) vs->as=bs
 | [],[],_,_,_=>rfl
 | [],b::bs,vs,h1,h2=>by have e1:=h1.1;have e2:=h2.1;simp at e1 e2;lia
 |a::as,[],vs,h1,h2=>by have e1:=h1.1;have e2:=h2.1;simp at e1 e2;lia
 |a::as,b::bs,vs,h1,h2=>by
  obtain⟨v,ws,rfl,a1,a2⟩:=oH.cons_inv (d:=g a) (ds:=as.map g) h1;obtain⟨v',ws',e,b1,b2⟩:=oH.cons_inv (d:=g b) (ds:=bs.map g) h2;cases e;rw[hg a b _ a1 b1,Ca g hg a2 b2]
theorem Hd{α:Type}{g:α->D}(hg:∀a b v,qd K H (g a) v->qd K H (g b) v->a=b) {as bs:List α}(h1:qd K H (.list (as.map g)) v) (h2:qd K H (.list (bs.map g)) v):as=bs:=by
 obtain⟨p,vs,rfl,a1,a2⟩:=h1.list_inv;obtain⟨p',vs',e,b1,b2⟩:=h2.list_inv;cases e;rw[a1]at b1;cases b1;exact Ca g hg a2 b2
theorem Ke{α:Type}{g:α->D}(hg:∀a b v,qd K H (g a) v->qd K H (g b) v->a=b) {as bs:List α}(h1:qd K H (.tup (as.map g)) v) (h2:qd K H (.tup (bs.map g)) v):as=bs:=by
 obtain⟨p,vs,rfl,a1,a2⟩:=h1.tup_inv;obtain⟨p',vs',e,b1,b2⟩:=h2.tup_inv;cases e;rw[a1]at b1;cases b1;exact Ca g hg a2 b2
theorem Kv:∀(a b:Int) (v:V),qd K H (.int a) v->qd K H (.int b) v->a=b:=λa b v h1 h2=>by cases h1;cases h2;rfl
theorem SU{ds:List D}(h:Sh ds) {d d':D}(m:d∈ds) (m':d'∈ds) (r:qd K H d v) (r':qd K H d' v):d=d':=by
 have iI:∀(a b:List Int) (v:V),qd K H (dI a) v->qd K H (dI b) v->a=b:=λa b v h1 h2=>Hd (g:=D.int) Kv h1 h2
 rcases h with h|h
 .obtain ⟨M,rfl⟩:=h d m;obtain⟨M',rfl⟩:=h d' m';rw[Hd (g:=dI) iI r r']
 .obtain ⟨c,b,rfl⟩:=h d m;obtain⟨c',b',rfl⟩:=h d' m';obtain⟨p,vs,rfl,a1,a2⟩:=r.tup_inv;obtain⟨p',vs',e,b1,b2⟩:=r'.tup_inv;cases e;rw[a1]at b1;cases b1;obtain⟨v1,w1,rfl,x1,x2⟩:=a2.cons_inv;obtain⟨v2,w2,e,y1,y2⟩:=b2.cons_inv;cases e;obtain⟨v3,w3,rfl,x3,x4⟩:=x2.cons_inv;obtain⟨v4,w4,e,y3,y4⟩:=y2.cons_inv;cases e;rw[Ke (g:=λr:List Int=>D.tup (r.map .int)) (λa b v h1 h2=>Ke (g:=D.int) Kv h1 h2) x1 y1,iI _ _ _ x3 y3]
theorem RX{ds:List D}(h:Sh ds) {d:D}(m:d∈ds) (r:qd K H d v):∃p,v = .ref p:=by
 rcases h with h|h
 .obtain ⟨M,rfl⟩:=h d m;obtain⟨p,_,e,_⟩:=r.list_inv;exact⟨p,e⟩
 .obtain ⟨c,b,rfl⟩:=h d m;obtain⟨p,_,e,_⟩:=r.tup_inv;exact⟨p,e⟩
theorem JX{ds:List D}:∀{vs:List V}{es:List D},Sh ds->(∀e∈es,e∈ds)->oH K H es vs->∃its:List Addr,vs=its.map V.ref
 | [],es,_,_,_=>⟨[],rfl⟩
 |v::vs,[],_,_,r=>by have:=r.1;simp at this
 |v::vs,e::es,h,m,r=>by
  obtain⟨v',ws,e1,r1,r2⟩:=r.cons_inv;cases e1;obtain⟨p,rfl⟩:=RX h (m e (aj ..)) r1;obtain⟨its,rfl⟩:=JX h (λx hx=>m x (mCo _ hx)) r2
  exact⟨p::its,rfl⟩
end
section
variable {K:W.Frag}{te:TE}{l:ML}{f:MF}
theorem GK{Hf:Hp}:∀{ds:List D}{vs:List V}{cs:List Cd}(ks:List V) {H:Hp}{Q0:List V->Hp->Prop},oM Hf H->oH K Hf ds vs->Bd f ds=some cs ->
  (∀H' (cps:List Addr),oM H H'->cps.length=cs.length->(∀(i:Nat) (p:Addr) (c:Cd),cps[i]?=some p->cs[i]?=some c->wq H' p c)->Q0 (ks++cps.map V.ref) H')->Ib (oO K f) E0 vs ks H Q0
 | [],vs,cs,ks,H,Q0,s,r,e,q=>by
  cases e;rw[r.nil_inv];have:=q H [] (.refl _) rfl (λi p c h=>by cases h)
  rw[eY,aNq]at this;exact this
 |d::ds,vs,cs,ks,H,Q0,s,r,e,q=>by
  obtain⟨c,e1,e⟩:=oBq.mp e;obtain⟨cs',e2,e⟩:=oMq.mp e;cases e;obtain⟨v,ws,rfl,r1,r2⟩:=r.cons_inv;refine⟨Hf,[d],.sh (dC c),s,.cons r1 .nil,QC e1,λHf' H' w F s1 s2 s3 li ra nd fr=>?_⟩
  have rw':qd K Hf' (dC c) w:=by cases ra with|sh r=>exact r
  obtain⟨p,rfl,hp⟩:=Kn rw';refine GK (ks++[.ref p]) (s.trans s2) r2 e2 λH2 cps s4 hl hc=>?_
  have:=q H2 (p::cps) (s2.trans s4) (by simp[hl]) λi p' c' h1 h2=>by
   cases i with
   |zero=>cases h1;cases h2;exact(hp.same s3).same s4
   |succ i=>exact hc i p' c' (by simpa using h1) (by simpa using h2)
  rw[ar]at this;rw[bH];exact this
end
def Dd{α:Type}(a:α):List α->Nat
 | []=>0
 |x::l=>@ite _ (x=a) (cL _) 0 (Dd a l+1)
theorem zp{α:Type}{a:α}:∀(l:List α) (j:Nat),l[j]?=some a->Dd a l<=j/\l[Dd a l]?=some a
 | [],j,h=>by cases h
 |x::l,j,h=>by
  unfold Dd
  by_cases e:x=a
  .rw [oQ e];exact⟨aG _,by rw[e];rfl⟩
  .rw [oT e];cases j with
   |zero=>cases h;exact absurd rfl e
   |succ j =>
    obtain⟨h1,h2⟩:=zp l j (by simpa using h)
    exact⟨by lia,by simpa using h2⟩
def NI(cs:List Cd) (ds:List D):Prop:=∀(i j r:Nat) (d d':D),i<j->j<r->ds[i]?=some d->ds[r]?=some d->ds[j]?=some d'->cs[i]?=cs[j]?->d'=d
def zH(f:MF) (l:ML):MK:=λS=>(l S).bind λx=>(Bd f x.1).bind λcs=>tR (x.1.length<64/\(∀c∈cs,c≠[])/\Sh x.1/\NI cs x.1) (some (.ow ((Ed (cs.zip x.1)).map λp=>.sh p.2),x.2))
theorem OB(f:MF) (l:ML) (S:AS):zH f l S=(l S).bind λx=>(Bd f x.1).bind λcs=>tR (x.1.length<64/\(∀c∈cs,c≠[])/\Sh x.1/\NI cs x.1) (some (.ow ((Ed (cs.zip x.1)).map λp=>.sh p.2),x.2)):=rfl
section
variable {K:W.Frag}{te:TE}{l:ML}{f:MF}
theorem D0(hl:SQ K te l):SK K (J7 K (oO K f) E0 (rY te vI)) (zH f l):=by
 intro H₀ Hf₀ Hf S σ H Fs av S' R e Q q;obtain⟨x,e1,e⟩:=oBq.mp e;obtain⟨cs,e2,e⟩:=oBq.mp e;rcases oK e with ⟨⟨h64,hne,hsh,hni⟩,e⟩|e
 .cases e;refine hl R (ds:=x.1) (S':=x.2) e1 _ λHf1 H1 Fs1 p1 vs1 t1 R1 h1 r1=>?_
  generalize x.1=ds at *;obtain⟨its,rfl⟩:=JX hsh (λ_ h=>h) r1
  have lds:ds.length=its.length:=by have:=r1.1;simpa using this
  have lcs:=DN e2;refine⟨p1,its,rfl,h1,by lia,GK [] R1.sub r1 e2 λH' cps s' lc hc=>?_⟩
  rw[fW];have dsAt:∀j z,its[j]?=some z->∃d,ds[j]?=some d:=λj z h=>⟨ds[j]'(by rw[lds];exact(gSq.mp h).1),gEg _⟩
  have csAt:∀j d,ds[j]?=some d->∃c,cs[j]?=some c:=λj d h=>⟨cs[j]'(by rw[lcs];exact(gSq.mp h).1),gEg _⟩
  have rz:∀j z d,its[j]?=some z->ds[j]?=some d->qd K Hf1 d (.ref z):=λj z d h h'=>r1.2 j d _ h' (by rw[gMq,h];rfl)
  obtain⟨da,hda⟩:∃da:Addr->D,∀j z d,its[j]?=some z->ds[j]?=some d->da z=d:=⟨λz=>ds.getD (Dd z its) .non,λj z d h h'=>by
   obtain⟨g1,g2⟩:=zp its j h;obtain⟨d0,g3⟩:=dsAt _ _ g2;show ds.getD (Dd z its) .non=d;rw[gDq,g3];exact SU hsh (mGq g3) (mGq h') (rz _ z d0 g2 g3) (rz j z d h h')⟩
  obtain⟨code,hcode⟩:∃code:D->Cd,∀j d c,ds[j]?=some d->cs[j]?=some c->code d=c:=⟨λd=>cs.getD (Dd d ds) [],λj d c h h'=>by
   obtain⟨g1,g2⟩:=zp ds j h;obtain⟨c0,g3⟩:=csAt _ _ g2;show cs.getD (Dd d ds) []=c;rw[gDq,g3];have k1:=CG e2 _ _ _ g2 g3;rw[CG e2 _ _ _ h h']at k1;exact(aM.inj k1).symm⟩
  have mono:∀(j r:Nat) (d d':D),j<r->ds[j]?=some d->ds[r]?=some d'->code d=code d'->Dd d ds<=Dd d' ds:=λj r d d' hjr h h' hcc=>by
   obtain⟨u1,u2⟩:=zp ds j h;obtain⟨w1,w2⟩:=zp ds r h'
   by_cases hlt:Dd d' ds<Dd d ds
   .obtain ⟨c1,k1⟩:=csAt _ _ w2;obtain⟨c2,k2⟩:=csAt _ _ h;have z:=hni (Dd d' ds) j r d' d (by lia) hjr w2 h' h (by rw[k1,k2,←hcode _ _ _ w2 k1,←hcode _ _ _ h k2,hcc])
    rw[z];exact ae _
   .lia
  refine⟨cps,cs,λz=>code (da z),λz=>Dd (da z) ds,rfl,lc.symm,λi p c g1 g2=>⟨hc i p c g1 g2,hne c (mGq g2)⟩,λj z c g1 g2=>?_,λj r z z' hjr g1 g2 g3 g4=>?_,λa zs ha st=>?_⟩
  .obtain ⟨d,g3⟩:=dsAt j z g1;show code (da z)=c;rw[hda j z d g1 g3];exact hcode j d c g3 g2
  .obtain ⟨d,k1⟩:=dsAt j z g1;obtain⟨d',k2⟩:=dsAt r z' g2;have a1:=hda j z d g1 k1;have a2:=hda r z' d' g2 k2;have g5:code (da z)=code (da z'):=HT.sN _ _ g3 g4;show Dd (da z) ds<=Dd (da z') ds;rw[a1,a2]at *;exact mono j r d d' hjr k1 k2 g5
  .have R2:=R1.laid s';have ts:xa Hf1 H1 Fs1 Hf1 H' Fs1:=⟨.refl _,s',λ_ h=>h,λb h g=>absurd h g⟩
   obtain⟨t4,R4,n1,n2,n3⟩:=R2.new (o:=.lst (zs.map V.ref)) ha;have pz:its.map (λz=>(code (da z),da z))=cs.zip ds:=by
    refine dz λj=>?_
    rw[gMq];cases g:its[j]? with
    |none =>
     have:=fE.mp g;rw[fE.mpr (by rw[iJ];lia)]
     rfl
    |some z =>
     obtain⟨d,k1⟩:=dsAt j z g;obtain⟨c,k2⟩:=csAt j d k1;rw[show (cs.zip ds)[j]?=some (c,d) from cW.mpr ⟨k2,k1⟩]
     show some (code (da z),da z)=some (c,d);rw[hda j z d g k1,hcode j d c k1 k2]
   have memd:∀p∈cs.zip ds,p.2∈ds:=λp hp=>(eW hp).2
   have eq:zs.map (λz=>(code (da z),da z))=Ed (cs.zip ds):=by
    refine dr.eq_of_pairwise (le:=Vy λd=>Dd d ds) (λp r hp hr l1 l2=>?_) ?_ (zr _ _ ?_) (((st.1.map _).trans (.of_eq pz)).trans (vG _).symm)
    .have m1:p∈cs.zip ds:=by rw[←pz];exact(st.1.map _).mem_iff.mp hp
     have m2:r∈cs.zip ds:=(vG _).mem_iff.mp hr;have c1:p.1=r.1:=HT.sN _ _ l2.1 l1.1;have i1:Dd p.2 ds<=Dd r.2 ds:=l1.2.resolve_left (by rw[c1,HT.uI];exact aF)
     have i2:Dd r.2 ds<=Dd p.2 ds:=l2.2.resolve_left (by rw[c1,HT.uI];exact aF)
     obtain⟨j1,k1⟩:=aD.mp (memd p m1);obtain⟨j2,k2⟩:=aD.mp (memd r m2);have a1:=(zp ds j1 k1).2;have a2:=(zp ds j2 k2).2;rw[Nat.le_antisymm i1 i2,a2]at a1;exact fA c1 (aM.inj a1).symm
    .exact aJ.mpr st.2
    .refine bR.mpr λj r hj hr hjr hcc=>?_
     rw[iJ]at hj hr;rw[iz,iz]at hcc ⊢;have k1:ds[j]?=some ds[j]:=gEg (by lia)
     have k2:ds[r]?=some ds[r]:=gEg (by lia)
     refine mono j r _ _ hjr k1 k2 ?_;rw[hcode j _ _ k1 (gEg (by lia)),hcode r _ _ k2 (gEg (by lia))]
     exact hcc
   have e3:(Ed (cs.zip ds)).map (λp=>AV.sh p.2)=(zs.map da).map AV.sh:=by
    rw[←eq,mPq,mPq];rfl
   rw[e3]at q;refine q _ _ _ (.ref a) [a] ((t1.trans ts).trans t4) R4 (oR.new oz n1 ?_) ((wx.one R2 ha).back (t1.trans ts));refine⟨by simp,λi d v g1 g2=>?_⟩
   rw[gMq]at g1 g2;cases g:zs[i]? with
   |none=>rw[g]at g1;cases g1
   |some z =>
    rw[g]at g1 g2;cases g1;cases g2;obtain⟨j,k1⟩:=aD.mp (st.1.mem_iff.mp (mGq g));obtain⟨d,k2⟩:=dsAt j z k1;rw[hda j z d k1 k2];exact rz j z d k1 k2
 .cases e
end
end Z
namespace Mr
open PySem PySem.W L2 PySem.Calls
open PySem.Spec PyProof.Rows
section
variable {X:Cx}
def Rt:V->List V->Hp->VK->Prop:=λx vs H Q=>∃(a b:Addr) (ps:List Addr) (rs:List (List Int)) (r:List Int),x = .ref a/\vs=[.ref b]/\H a=some (.lst (ps.map V.ref))/\Bk H ps rs/\H b=some (.tup (r.map V.int))/\Q (.int (rs.count r:Nat)) H
theorem Pz(hu:X.A.units+65<jw):UX X "list.count" Rt:=by
 intro nF s σ H x xs v us Q I rx r h;obtain⟨a,b,ps,rs,w,rfl,rfl,h1,⟨hm,hE⟩,h2,q⟩:=h;cases rx;obtain⟨u,rfl,ru⟩:=uy r;cases ru;obtain⟨its,rv,⟨o,n,ho,hc,hd0,hd⟩,hz⟩:=I.list (qw.of h1);have ei:=rh rv;subst ei;obtain⟨cls,dd,data,sl⟩:=o;simp only at hc hd0 hd;subst hc hd0 hd;refine kf fO ⟨_,ho,rfl⟩ PySem.F.entry_list_count (PySem.F.args_list_count_2 _ _)
  (SeqAt.list_countAt a (ps.map ai).toArray n none sl (.ref b) (λy=>decide (sd H (pE y)=w))) ⟨ho,λy hy=>?_,?_⟩
 .rw [List.mem_toArray]at hy;obtain⟨p,hp,rfl⟩:=mMq.mp hy;exact HT.ur.eq (SE I (hE p hp)) (SE I h2) (by first|(show X.A.units+1+4<jw;lia)|(show X.A.units+1+1+4<jw;lia))
 .refine ⟨.int _,H,I.tok _,⟨_,rfl⟩,?_⟩;rw[fg,Mn,←hm];exact q
end
end Mr
namespace Z
open PySem L2 Mr Xe
def GV:D->List D->Option D
 | .list ds,[d]=>(uu ds).bind λrs=>(uu [d]).bind λr=>(match r with|[w]=>some (.int (rs.count w:Nat))|_=>none)
 |_,_=>none
section
variable {K:W.Frag}
theorem Kq{H:Hp}:∀{rs:List (List Int)}{vs:List V},oH K H (rs.map λr=>.tup (r.map .int)) vs->∃ps:List Addr,vs=ps.map V.ref/\Bk H ps rs
 | [],vs,h=>⟨[],h.nil_inv,rfl,λp hp=>by cases hp⟩
 |r::rs,vs,h=>by
  obtain⟨v,ws,rfl,h1,h2⟩:=oH.cons_inv (d:=.tup (r.map .int)) (ds:=rs.map λr=>.tup (r.map .int)) h
  obtain⟨ps,rfl,e1,e2⟩:=Kq h2;obtain⟨p,us,rfl,k1,k2⟩:=h1.tup_inv;rw[oU k2]at k1;have e:=Aw k1;refine⟨p::ps,rfl,by rw[ar,e,e1],λq hq=>?_⟩
  rcases ah.mp hq with z|z
  .rw [z,e];exact k1
  .exact e2 q z
theorem Q8:WG K Rt GV:=by
 intro x vs H Q dx ds d rx rs e q;unfold GV at e;split at e
 .rename_i es d';obtain⟨cs,e1,e⟩:=oBq.mp e;obtain⟨c,e2,e⟩:=oBq.mp e;split at e
  .rename_i w;cases e;obtain⟨v,ws,rfl,h1,h2⟩:=rs.cons_inv;rw[h2.nil_inv];have e3:=vt e2;have e4:d' = .tup (w.map .int):=by simpa using e3
   rw[e4]at h1;obtain⟨b,us,rfl,g,g2⟩:=h1.tup_inv;rw[oU g2]at g;rw[vt e1]at rx;obtain⟨p,us,rfl,h3,h4⟩:=rx.list_inv;obtain⟨ps,rfl,hE⟩:=Kq h4;exact⟨p,b,ps,cs,w,rfl,rfl,h3,hE,g,q _ .int⟩
  .cases e
 .cases e
end
theorem SC(rs:List (List Int)) (w:List Int):GV (.list (rs.map λr=>.tup (r.map .int))) [.tup (w.map .int)]=some (.int (rs.count w:Nat)):=by
 show (uu (rs.map λr=>.tup (r.map .int))).bind _=_
 rw[uF];show (uu ([w].map λr=>.tup (r.map .int))).bind _=_
 rw[uF];rfl
end Z
namespace L2
open PySem PySem.Spec PyProof.Rows
def Sf(H:Hp):Prop:=∀b,H b=none∨(∃o xs,H b=some (.frz o (.lst xs)))∨∃q,H b=some (.tbl q)
def AF(K:W.Frag) (h:Heap):Prop:=∀q∈uc K,(uc K).lookup q.1=some q.2/\K.lookup q.1=none/\h.get? q.1=some (W.tabObj #[])/\∃c,W.CodeHd h c q.1
structure To (K:W.Frag) (a:Addr) (ob:Obj) (xs:List V) (H:Hp):Prop where
 what:∀b u,H b=some u->(b=a/\K.lookup a=none/\u = .frz ob (.lst xs))∨∃q,u = .tbl q/\(b,q)∈uc K
 tb:Q6 K H
theorem To.only{K:W.Frag}{a:Addr}{ob:Obj}{xs:List V}{H:Hp}(e:To K a ob xs H):Sf H:=λb=>by
 cases q:H b with
 |none=>exact .inl rfl
 |some u =>
  rcases e.what b u q with ⟨_,_,z⟩|⟨q',z,_⟩
  .exact .inr (.inl ⟨ob,xs,by rw[z]⟩)
  .exact .inr (.inr ⟨q',by rw[z]⟩)
section
variable {P:jj}{w:jo}{K:W.Frag}{mg mb:Str->Option Value}{s₁:Shared}{vs:List Value}{ns:List Int}{a:Addr}{H:Hp}
theorem To.none(e:To K a { cls:=.type "list", data:=.seq vs.toArray } (ns.map V.int) H) (ha:s₁.heap.get? a=some { cls:=.type "list", data:=.seq vs.toArray }) (hT:AF K s₁.heap) {b:Addr}{o:Obj}(h:s₁.heap.get? b=some o) (h1:o.cls = .type "list" -> False∨∃es ep,o.data = .dict es ep) (h2:o.cls = .none->∃es ep,o.data = .dict es ep):H b=none:=by
 cases q:H b with
 |none=>rfl
 |some u =>
  rcases e.what b u q with ⟨z,_,_⟩|⟨q',_,z⟩
  .subst z;rw[ha]at h;cases h;rcases h1 rfl with z|⟨_,_,z⟩
   .exact z.elim
   .cases z
  .have:=(hT _ z).2.2.1;rw[h]at this;cases this;obtain⟨_,_,z⟩:=h2 rfl;cases z
theorem Gz{CX:IU}{k:Nat}{fa:Addr}{fd:jE}{x:Str}{sp:Sp}(en:To K a { cls:=.type "list", data:=.seq vs.toArray } (ns.map V.int) H)
  (KX:K.In s₁.heap) (hns:s₁.heap.Ns jn mg) (hb:s₁.heap.Ns jX mb) (hbb:∀x:Str,x ≠ "__name__" -> mb x=kr x) (hlim:s₁.heap.NoLimit) (hg:s₁.gens=#[]) (hT:AF K s₁.heap)
  (hbm:∃bm o,mg "__builtins__" = some (.ref bm)/\bm≠jX/\s₁.heap.get? bm=some o/\o.cls = .type "module" /\ o.dict=some jX/\o.data = .plain)
  (ha:s₁.heap.get? a=some { cls:=.type "list", data:=.seq vs.toArray }) (hr:rQ k lh)
  (F:∀base:Heap,K.In base->base.Ns jn mg->wU P w K mg base CX k fa fd [x] sp) (hbind:∀(s:Shared) (u:Value),lM s fd ⟨[u],[]⟩ [(x,u)])
  (hok:zC P w H s₁.heap) (hsp:sp [.ref a] H (λv _=>v = .bl true) λ_ _ _=>False)
  (hCX:∀H e s',CX [] H s₁ (λ_ _ _=>False) e s'->False) :
  jZ (jf P w) lh (.call (.ref fa) ⟨[.ref a],[]⟩) (λr s'=>r = .ok (.ret (.bool true))/\OldK s₁.heap s'.heap/\s'.os=s₁.os/\kK s'.gens) s₁:=by
 have nsK:∀{b:Addr}{m:Str->Option Value},s₁.heap.Ns b m->(G4 s₁.heap H).Ns b m:=λ{b m} ⟨o,es,ep,e,d,r⟩=>⟨o,es,ep,CJ e (en.none ha hT e (λ_=>.inr ⟨es,ep,d⟩) λ_=>⟨es,ep,d⟩),d,r⟩
 have hKb:K.In (G4 s₁.heap H):=λb o e=>CJ (KX b o e) (by
  cases q:H b with
  |none=>rfl
  |some u =>
   rcases en.what b u q with ⟨z,z2,_⟩|⟨q',_,z⟩
   .rw [z,z2]at e;cases e
   .rw [(hT _ z).2.1]at e;cases e)
 have hM:Mod K mg (G4 s₁.heap H):=⟨hKb,nsK hns,⟨mb,nsK hb,hbb⟩,let ⟨mc,h1,h2⟩:=hlim;⟨mc,nsK h1,h2⟩,by
  obtain⟨bm,o,b1,b2,b3,b4,b5⟩:=hbm;exact⟨bm,o,b1,b2,CJ b3 (en.none ha hT b3 (λz=>by rw[b4]at z;injection z with z;exact absurd z (by decide)) λz=>by rw[b4]at z;cases z),b4,b5⟩⟩
 have e0:Mk P w K mg (G4 s₁.heap H) lh [] s₁ H:=⟨rfl,hM,λb o e=>Qd e,cK (LF _ _),trivial,λb hb=>absurd (show b∈([]:List Addr) from hb) (by simp),hok,.of_eq hg,en.tb⟩
 refine kC ((F _ hKb (nsK hns)).run lh [] s₁ H ⟨[.ref a],[]⟩ [.ref a] [.ref a] _ _ hr e0 (hbind s₁ (.ref a)) (.cons rfl .nil) hsp) λr s' h=>?_
 cases r with
 |error e=>exact(hCX H e s' h).elim
 |ok fl =>
  cases fl with
  |next=>exact False.elim h
  |brk=>exact False.elim h
  |cont=>exact False.elim h
  |ret u =>
   obtain⟨v,H',os,bare,un,hok',r',q⟩:=h;have q':v = .bl true:=q;subst q';obtain rfl:u=gB true:=r';have nf:∀b:Addr,b∉L6 []:=λb z=>absurd (show b∈([]:List Addr) from z) (by simp)
   refine⟨rfl,⟨λb o e=>?_,λb o e=>un.there b o e (by simp)⟩,os,bare⟩
   cases q:H b with
   |none=>exact .inl (un.keep b o e q (nf b) (by simp))
   |some u =>
    rcases en.what b u q with ⟨z1,_,z⟩|⟨q',z,zm⟩
    .subst z;have z2:=un.frzs b _ _ q;obtain⟨e1,_⟩:=hok b _ q;obtain⟨e2,_⟩:=hok' b _ z2;rw[e]at e1;cases e1;exact .inl e2
    .subst z;obtain⟨_,_,h3,c,hc⟩:=hT _ zm;have h3':s₁.heap.get? b=some (W.tabObj #[]):=h3;rw[e]at h3';cases h3';obtain⟨ps,e2,_⟩:=hok' b _ (un.tbls b _ q);have t:=hc.tab h3;exact .inr (.inl ⟨t.isCodeTable,rfl,#[],ps,rfl,by rw[Array.empty_append];exact e2⟩)
end
theorem vL{α:Type}{b:Addr}{q:α}:∀{l:List (Addr×α)},l.lookup b=some q->(b,q)∈l
 | [],h=>by cases h
 | (c,r)::l,h=>by
  rw[dJ]at h;cases e:b == c with
  |true=>rw[e]at h;cases h;rw[beq_iff_eq.mp e];exact .head _
  |false=>rw[e]at h;exact .tail _ (vL h)
theorem Mt{P:jj}{w:jo}{K:W.Frag}{mg mb:Str->Option Value}{CX:IU}{k:Nat}{fa a:Addr}{fd:jE}{x:Str}{sp:Sp}{s₁:Shared}{vs:List Value}{ns:List Int}
  (KX:K.In s₁.heap) (hns:s₁.heap.Ns jn mg) (hb:s₁.heap.Ns jX mb) (hbb:∀x:Str,x ≠ "__name__" -> mb x=kr x) (hlim:s₁.heap.NoLimit) (hg:s₁.gens=#[]) (hT:AF K s₁.heap)
  (hbm:∃bm o,mg "__builtins__" = some (.ref bm)/\bm≠jX/\s₁.heap.get? bm=some o/\o.cls = .type "module" /\ o.dict=some jX/\o.data = .plain)
  (ha:s₁.heap.get? a=some { cls:=.type "list", data:=.seq vs.toArray }) (hi:jA vs ns) (hl:ns.length<=jk) (hr:rQ k lh)
  (F:∀base:Heap,K.In base->base.Ns jn mg->wU P w K mg base CX k fa fd [x] sp) (hbind:∀(s:Shared) (u:Value),lM s fd ⟨[u],[]⟩ [(x,u)])
  (hsp:∀H:Hp,Sf H->qw K H a (ns.map V.int)->sp [.ref a] H (λv _=>v = .bl true) λ_ _ _=>False)
  (hCX:∀H e s',CX [] H s₁ (λ_ _ _=>False) e s'->False) :
  jZ (jf P w) lh (.call (.ref fa) ⟨[.ref a],[]⟩) (λr s'=>r = .ok (.ret (.bool true))/\OldK s₁.heap s'.heap/\s'.os=s₁.os/\kK s'.gens) s₁:=by
 have rv:=vals_ints hi;have lenV:=hi.length;have tOk:∀(H:Hp) q,q∈uc K->qp P w H s₁.heap q.1 (.tbl q.2):=λH q hq=>⟨#[],(hT q hq).2.2.1,trivial,λp cv z=>by cases z⟩
 have tN:∀q∈uc K,q.1≠a:=λq hq z=>by
  have:=(hT q hq).2.2.1;rw[z,ha]at this;cases this
 cases hk:K.lookup a with
 |some o =>
  have e:=KX a o hk;rw[ha]at e;cases e;have en:To K a { cls:=.type "list", data:=.seq vs.toArray } (ns.map V.int) (λb=>((uc K).lookup b).map HO.tbl):=⟨λb u z=>by
   obtain⟨q,z1,z2⟩:=oMq.mp z;exact .inr ⟨q,z2.symm,vL z1⟩,λq hq=>by show ((uc K).lookup q.1).map HO.tbl=_;rw[(hT q hq).1];rfl⟩
  refine Gz en KX hns hb hbb hlim hg hT hbm ha hr F hbind (λb u z=>?_) (hsp _ en.only (.inr ⟨_,vs.toArray,_,hk,rfl,rfl,rfl,by rw[ak,lenV];exact hl,by simpa using rv⟩)) hCX
  obtain⟨q,z1,z2⟩:=oMq.mp z;rw[←z2];exact tOk _ (b,q) (vL z1)
 |none =>
  have en:To K a { cls:=.type "list", data:=.seq vs.toArray } (ns.map V.int) (λb=>if b=a then some (.frz { cls:=.type "list", data:=.seq vs.toArray } (.lst (ns.map V.int))) else ((uc K).lookup b).map HO.tbl):=⟨λb u z=>by
   by_cases hb:b=a
   .have z':=(oQ hb).symm.trans z;cases z';exact .inl ⟨hb,hk,rfl⟩
   .have z':=(oT hb).symm.trans z;obtain⟨q,z1,z2⟩:=oMq.mp z';exact .inr ⟨q,z2.symm,vL z1⟩,λq hq=>by
   refine(oT (tN q hq)).trans ?_;rw[(hT q hq).1];rfl⟩
  refine Gz en KX hns hb hbb hlim hg hT hbm ha hr F hbind (λb u z=>?_) (hsp _ en.only (.inl (.inr ⟨_,oQ rfl⟩))) hCX
  by_cases hb:b=a
  .have z':=(oQ hb).symm.trans z;cases z';subst hb;exact⟨ha,by rw[lMq];exact hl,vs,_,rv,ha⟩
  .have z':=(oT hb).symm.trans z;obtain⟨q,z1,z2⟩:=oMq.mp z';rw[←z2];exact tOk _ (b,q) (vL z1)
theorem PR{l:W.OpenLaw}{n k:Nat}{q:jj}{loose:List Str}{XP:(Str->Option Value)->Heap->Prop}{YP:jo->Heap->Prop}{d:DefRec}{K:Params->W.Frag}{CX:jo->IU}{sp:jo->Sp}{x:Str}
  (hn:l.most=some n) (hn2:n<=jk) (hdf:d.params.defaults=[]) (hr:rQ k lh)
  (hY:∀(w:jo) (h:Heap),YP w h->(K w.params).In h) (hT:∀(w:jo) (h:Heap),YP w h->AF (K w.params) h)
  (F:∀(w:jo) (mg:Str->Option Value) (fa:Addr) (h:Heap),(K w.params).In h->h.Ns jn mg->mg d.name=some (.ref fa) ->
   ∃fd:jE,(∀(s:Shared) (u:Value),lM s fd ⟨[u],[]⟩ [(x,u)]) /\
    ∀base:Heap,(K w.params).In base->base.Ns jn mg->wU l.prog w (K w.params) mg base (CX w) k fa fd [x] (sp w))
  (hsp:∀(w:jo) (H:Hp) (a:Addr) (ns:List Int),ns.length<=n->Sf H->qw (K w.params) H a (ns.map V.int)->sp w [.ref a] H (λv _=>v = .bl true) λ_ _ _=>False)
  (hCX:∀(w:jo) (H:Hp) (s:Shared) (e:Value) (s':Shared),CX w [] H s (λ_ _ _=>False) e s'->False) :
  W.WalkO q loose XP YP l.row.toRowW d [] (λf vs=>PySem.call f vs):=by
 refine Att.FZ hn hdf λw s₀ s₁ mg mb fa o pm cd doc a vs ns G Y ho hd hcd hmg hobj hints hlen hg=>?_
 have KX:=hY w _ Y;obtain⟨fd,hb,hF⟩:=F w mg fa _ KX G.T.g hmg;exact Mt KX G.T.g G.T.b G.T.builtins G.T.nolimit hg (hT w _ Y) G.T.bmain hobj hints (aS hlen hn2) hr hF hb (λH hO hS=>hsp w H a ns hlen hO hS) λH e s'=>hCX w H s₁ e s'
end L2
namespace Zl
open PySem L2 Mr Z
def A0:MS:=(oy (Cj (uM (pN EB (uP qu (nL (nN 0) og)) (rC (.int 0)))) (ri (vT oC)) sr)
 (oy (pI 1 (kSc (U4 "list" AC (nN 0) (nL (uP Pp (nL (nN 0) og)) og))))
 (ri (Ol (lOf (HA (sD 0) (ud (nN 1)) wF)) (lOf (HA (sD 0) wF (ud (nN 1))))))))
def vB:MF:=rZ 1 2 A0
def vQ:MS:=(HJ 1 (EI 2))
def Al:MS:=(oy (pI 1 (vT oC))
 (oy (En 2 (oi 0) vQ)
 (ri (Ir 1))))
def oV:MF:=rZ 1 3 Al
def xj:MS:=(oy (Cj (uM (pN Ud (nN 1) (uP qu (nL (nN 0) og)))) (ri (kSc (pN Hy (nN 0) (nN 1)))) sr)
 (ri (kSc (rC (.int 0)))))
def oN:MF:=rZ 2 2 xj
def wM:MS:=(ri (Fe (rS (xJ (oi 0)) [] pV (ou Zl.vB (nO (oi 0) oC)))))
def pD:MF:=rZ 1 1 wM
def CW:MS:=(ri (Eo (lOf (ou Zl.oV (nO (oi 0) oC)))))
def uq:MF:=rZ 1 1 CW
def vy:MS:=(yW 1 (nN 4) (oi 2))
def vE:MS:=(En 4 (oi 3) vy)
def An:MS:=(oy (pI 1 DA)
 (oy (Kg 2 3 (oi 0) vE)
 (ri (Ir 1))))
def si:MF:=rZ 1 5 An
theorem BK(ns:List Int) {k:Int}(h:0<=k):oN [.scr ns,.int k]=some (.sh (.int (cell ns k.toNat))):=by
 by_cases c:k<(ns.length:Int)
 .have hk:k.toNat<ns.length:=by lia
  have e:ns.getD k.toNat 0=ns[k.toNat]:=BL hk
  simp_arith [oN,xj,c,Jy h,gEg hk,cell,e]
 .have hk:ns.length<=k.toNat:=by lia
  have e:ns.getD k.toNat 0=0:=by rw[gDq,bz hk];rfl
  simp_arith [oN,xj,c,cell,e]
theorem UN(ns:List Int):oN [.scr ns,.int 0]=some (.sh (.int (cell ns 0))):=BK ns (by decide)
theorem UR(ns:List Int):oN [.scr ns,.int 1]=some (.sh (.int (cell ns 1))):=BK ns (by decide)
theorem Vn(ns:List Int):oN [.scr ns,.int 2]=some (.sh (.int (cell ns 2))):=BK ns (by decide)
theorem Ll{n:Int}{ns:List Int}:ns.foldl min n∈n::ns/\∀x∈n::ns,ns.foldl min n<=x:=⟨wt ns n,λx hx=>(ah.mp hx).elim (λe=>e ▸ (uX ns n).1) ((uX ns n).2 x)⟩
theorem KQ{ns:List Int}(hl:ns.length<=500000):vB [dI ns]=some (aI (uL ns)):=by
 cases ns with
 |nil =>
  have h1:((0:Nat):Int)=0:=rfl
  simp_arith [vB,A0,h1]
  rfl
 |cons n ns =>
  obtain⟨h1,h2⟩:=Ll (n:=n) (ns:=ns);have e:=GZ h1 h2;have hle:=HF (n::ns);have hne:¬ ((n::ns).length:Int)=0:=by simp only[lCq];lia
  have hm:Pp [dI (n::ns)]=some (.int (ns.foldl min n)):=by
   show (qj ((n::ns).map D.int)).bind (λns=>(JH ns).map D.int)=_
   rw[qm];rfl
  have hx:AC (dI (n::ns)) [.int (ns.foldl min n)]=some (.int (qf (n::ns) (n::ns).length:Nat)):=by
   show (qj ((n::ns).map D.int)).bind _=_;rw[qm];show (if _ then _ else _)=_
   rw[oQ h1,e]
  generalize hN:n::ns=N at *;have hlen:(N.drop (qf N N.length)).length+(N.take (qf N N.length)).length<=qU:=by rw[bj,lTq];show _<=16777216;lia
  simp_arith [vB,A0,hne,hm,hx,wZ,yE N _ hle,yG N _ hle,hlen,←mBq,BM]
  rfl
theorem wa{rs:List (List Int)}{i:Nat}{r:List Int}(h:rs[i]?=some r):(rs.take (i+1)).flatten=(rs.take i).flatten++r:=by
 rw[hV,h,fAq];simp
theorem xH(rs:List (List Int)) (i:Nat):(rs.take i).flatten.length<=rs.flatten.length:=by
 have:=congrArg bb (congrArg fP (bG i rs));rw[fAq,lAq]at this;lia
theorem J8{rs:List (List Int)}{i:Nat}{d:D}(h:(rs.map dI)[i]?=some d):∃r,rs[i]?=some r/\d=dI r:=by
 rw[gMq]at h;obtain⟨r,h1,h2⟩:=oMq.mp h;exact⟨r,h1,h2.symm⟩
theorem Pe{ns:List Int}{i:Nat}{d:D}(h:(ns.map D.int)[i]?=some d):∃z,ns[i]?=some z/\d = .int z:=by
 rw[gMq]at h;obtain⟨r,h1,h2⟩:=oMq.mp h;exact⟨r,h1,h2.symm⟩
theorem zX{rs:List (List Int)}(hl:rs.flatten.length<=500000):oV [dM rs]=some (aI rs.flatten):=by
 have key:=yV (x:=2) (body:=vQ) (λi S=>∃v,S=[some (.sh (dM rs)),some (aI (rs.take i).flatten),v]) (ds:=rs.map dI) (S:=[some (.sh (dM rs)),some (.ow []),none]) ⟨none,by simp⟩ (by
  rintro i d S hd ⟨v,rfl⟩;obtain⟨r,hr,rfl⟩:=J8 hd;have h1:=wa hr;have h2:=xH rs (i+1);rw[h1,lAq]at h2;have h3:(rs.take i).flatten.length+r.length<=qU:=by show _<=16777216;lia
  refine⟨_,?_,some (.sh (dI r)),rfl⟩;rw[h1]
  simp_arith [vQ,h3,BM,←mBq])
 obtain⟨S',e,v,rfl⟩:=key;rw[lMq,bA]at e
 simp_arith [oV,Al,e]
theorem S0{rs:List (List Int)}{d:D}(h:d∈rs.map dI):∃r∈rs,d=dI r:=by
 obtain⟨r,h1,h2⟩:=mMq.mp h;exact⟨r,h1,h2.symm⟩
def Pl:D->List Int
 | .list ds=>(qj ds).getD []
 |_=>[]
theorem Kk(r:List Int):Pl (dI r)=r:=by
 show (qj (r.map D.int)).getD []=r;rw[qm];rfl
theorem N7{β:Type}(g:List Int->β) (rs:List (List Int)):(rs.map dI).map (λd=>g (Pl d))=rs.map g:=by
 rw[mPq];exact mCq λr _=>by show g (Pl (dI r))=g r;rw[Kk]
theorem Gr{rs:List (List Int)}(hl:∀r∈rs,r.length<=500000):qh pV (ou vB (nO (oi 0) oC)) [] (rs.map dI)=some ((rs.map uL).map aI):=by
 rw[qq (λd=>aI (uL (Pl d)))]
 .rw [N7 (λr=>aI (uL r)),mPq]
  rfl
 .intro d hd;obtain⟨r,hr,rfl⟩:=S0 hd;refine⟨[some (.sh (dI r))],?_⟩
  simp_arith [KQ (hl r hr),Kk]
theorem VJ{ts:List (List Int)}{a:Nat}(h:a<ts.length):atI (ts.map dI) (a:Int)=some (dI (ts.getD a [])):=by
 rw[Pn,Jy (by lia),cV,gDq,gEg h]
 rfl
theorem wH{rs:List (List Int)}(hl:∀r∈rs,r.length<=500000) (h7:rs.length<=63):pD [dM rs]=some (.ow ((yK (rs.map uL)).map aI)):=by
 have h6:=Gr (rs:=rs) hl;have l7:rs.length<=qU:=by show _<=16777216;lia
 have h64:(rs.length<64)=True:=eq_true (by lia)
 simp_arith [pD,wM,h6,l7,h64]
end Zl
namespace Zl
open PySem L2 Mr Z Xe
section
variable {rs:List (List Int)}(hl:rs.flatten.length<=500000)
include hl
end
end Zl
namespace Zl
open PySem L2 Mr Z
theorem Ku{rs:List (List Int)}(hl:rs.flatten.length<=63):uq [dM rs]=some (aI (qF rs.flatten)):=by
 have h64:(rs.flatten.length<64)=True:=eq_true (by lia)
 simp_arith [uq,CW,zX (aS hl (by decide)),h64]
def uA(p:Nat) (r:List Int):List (oJ×D):=r.map λe=>(.inl e,.int (p:Int))
def qe:Nat->List (List Int)->List (oJ×D)
 |_,[]=>[]
 |p,r::rs=>uA p r++qe (p+1) rs
theorem Bq(r:List Int):∀(rs:List (List Int)) (p:Nat),qe p (rs++[r])=qe p rs++uA (p+rs.length) r
 | [],p=>by simp[qe]
 |s::rs,p=>by
  show uA p s++qe (p+1) (rs++[r])=(uA p s++qe (p+1) rs)++_;rw[Bq r rs (p+1),bH,lCq,show p+1+rs.length=p+(rs.length+1) by lia]
theorem yd:∀(rs:List (List Int)) (p:Nat),(qe p rs).map (·.1)=rs.flatten.map az
 | [],p=>rfl
 |r::rs,p=>by
  show (uA p r++qe (p+1) rs).map (·.1)=_;rw[mBq,yd rs (p+1),fCq,mBq];congr 1;unfold uA;rw[mPq];rfl
theorem Jd(rs:List (List Int)) (p:Nat):(qe p rs).length=rs.flatten.length:=by
 have:=congrArg bb (yd rs p)
 rwa [lMq,lMq]at this
theorem zO{kvs:List (oJ×D)}{k:oJ}{d:D}(h:k∉kvs.map (·.1)):xN kvs k d=kvs++[(k,d)]:=by
 unfold xN;rw[oT];intro e;obtain⟨kv,hk,e⟩:=fK.mp e;exact h (mMq.mpr ⟨kv,hk,of_decide_eq_true e⟩)
theorem getD_app{k:oJ}:∀{a b:List (oJ×D)},k∉a.map (·.1)->Z.getD (a++b) k=Z.getD b k
 | [],b,_=>rfl
 |x::a,b,h=>by
  unfold Z.getD;rw[ir,bC (by
   intro e;exact h (by rw[←of_decide_eq_true e];simp))]
  exact getD_app (k:=k) (a:=a) (b:=b) λm=>h (by simp only[ar,ah];exact .inr m)
theorem FR{p:Nat}{e:Int}{b:List (oJ×D)}:∀{r:List Int},e∈r->Z.getD (uA p r++b) (.inl e)=some (.int p)
 | [],h=>by cases h
 |x::r,h=>by
  unfold Z.getD;show ((((az x:oJ),D.int (p:Int))::(uA p r++b)).find? _).map _=_
  by_cases c:x=e
  .subst c;rw[bO (by simp)]
   rfl
  .rw [bC (by simp[c])]
   exact FR (r:=r) ((ah.mp h).resolve_left λz=>c z.symm)
theorem xr{e:Int}{r:List Int}:∀{rs:List (List Int)}{i:Nat}(p:Nat),rs.flatten.Nodup->rs[i]?=some r->e∈r->Z.getD (qe p rs) (.inl e)=some (.int ((p+i:Nat):Int))
 | [],i,p,_,h,_=>by simp at h
 |s::rs,0,p,hn,h,he=>by
  simp at h;subst h;exact FR he
 |s::rs,i+1,p,hn,h,he=>by
  rw[fCq,nAq]at hn;have h':rs[i]?=some r:=by simpa using h
  have:=xr (rs:=rs) (i:=i) (p+1) hn.2.1 h' he;rw[show p+1+i=p+(i+1) by lia]at this
  rw[←this];refine getD_app ?_;unfold uA;rw[mPq];intro m;obtain⟨x,hx,e2⟩:=mMq.mp m;cases e2;exact hn.2.2 _ hx _ (mFq.mpr ⟨r,mGq h',he⟩) rfl
theorem Ak{rs:List (List Int)}(hn:rs.flatten.Nodup) (hl:rs.flatten.length<=500000):si [dM rs]=some (.owd (qe 0 rs)):=by
 have key:=MJ (x:=2) (y:=3) (k:=0) (body:=vE) (λi S=>∃v2 v3 v4,S=[some (.sh (dM rs)),some (.owd (qe 0 (rs.take i))),v2,v3,v4]) (ds:=rs.map dI) (S:=[some (.sh (dM rs)),some (.owd []),none,none,none]) ⟨none,none,none,rfl⟩ (by
  rintro i d S hd ⟨v2,v3,v4,rfl⟩;rw[aK];obtain⟨r,hr,rfl⟩:=J8 hd;have hfl:=wa hr;have hle:=xH rs (i+1);have hi:i<rs.length:=(gSq.mp hr).1;have hnd:((rs.take i).flatten++r).Nodup:=by
   rw[←hfl];have e0:rs.flatten=(rs.take (i+1)).flatten++(rs.drop (i+1)).flatten:=by rw[←fAq,bG]
   rw[e0]at hn;exact(nAq.mp hn).1
  rw[hfl,lAq]at hle;have k2:=yV (x:=4) (body:=vy) (λj S=>∃v4,S=[some (.sh (dM rs)),some (.owd (qe 0 (rs.take i)++uA i (r.take j))),some (.sh (.int i)),some (.sh (dI r)),v4]) (ds:=r.map D.int) (S:=[some (.sh (dM rs)),some (.owd (qe 0 (rs.take i))),some (.sh (.int i)),some (.sh (dI r)),v4]) ⟨v4,by simp[uA]⟩ (by
   rintro j d S hd ⟨v4,rfl⟩;obtain⟨z,hz,rfl⟩:=Pe hd;have hj:j<r.length:=(gSq.mp hz).1;have h3:(qe 0 (rs.take i)++uA i (r.take j)).length<qU:=Nv (by
    rw[lAq,Jd];unfold uA;rw[lMq,lTq];lia)
   have hput:xN (qe 0 (rs.take i)++uA i (r.take j)) (.inl z) (.int (i:Int))=qe 0 (rs.take i)++uA i (r.take (j+1)):=by
    rw[zO]
    .unfold uA;rw[rL hz,mBq,bH];rfl
    .rw [mBq,yd];intro m;have e1:r.take (j+1)=r.take j++[z]:=rL hz;rcases mAq.mp m with m|m
     .obtain ⟨x,hx,e2⟩:=mMq.mp m;cases e2;exact(nAq.mp hnd).2.2 _ hx _ (mGq hz) rfl
     .unfold uA at m;rw[mPq]at m;obtain⟨x,hx,e2⟩:=mMq.mp m;cases e2;have:=bJ.sublist (cU (j+1) r) (nAq.mp hnd).2.1;rw[e1]at this;exact(nAq.mp this).2.2 _ hx _ (by simp) rfl
   refine⟨_,?_,some (.sh (.int z)),rfl⟩
   simp_arith [vy,h3,hput])
  obtain⟨S2,e2,w4,rfl⟩:=k2;rw[lMq,bA]at e2;refine⟨_,?_,some (.sh (.int i)),some (.sh (dI r)),w4,rfl⟩;rw[rL hr,Bq,lTq,dv (by lia),aK]
  simp_arith [vE,e2])
 obtain⟨S',e,v2,v3,v4,rfl⟩:=key;rw[aK,lMq,bA]at e
 simp_arith [si,An,e]
theorem zM{c:MT}{body:MS}(P:AS->Prop) (μ:AS->Nat) (Qf:AS->Prop) (h:∀S,P S->∃b S1,c S=some (b,S1)/\(b=true->∃S2,body S1=some (.nx S2)/\P S2/\μ S2<μ S)/\(b=false->Qf S1)) :
  ∀(fuel:Nat) (S:AS),P S->μ S<fuel->∃S',tG c body fuel S=some (.nx S')/\Qf S'
 |0,S,_,hm=>absurd hm (bT _)
 |n+1,S,hp,hm=>by
  obtain⟨b,S1,e1,h1,h2⟩:=h S hp;rw[Qj,e1,bE];cases b with
  |true =>
   obtain⟨S2,e2,p2,m2⟩:=h1 rfl;rw[oQ rfl,e2];exact zM P μ Qf h n S2 p2 (by lia)
  |false =>
   rw[oT (by simp)]
   exact⟨S1,rfl,h2 rfl⟩
end Zl
namespace Zl
open PySem L2 Mr Z Xe
def kd(ks:List Nat):List (oJ×D):=ks.map λk:Nat=>((az (k:Int):oJ),D.bl true)
theorem kd_any(ks:List Nat) (t:Nat):(kd ks).any (λkv=>decide (kv.1=(az (t:Int):oJ)))=decide (t∈ks):=by
 induction ks with
 |nil=>simp[kd]
 |cons k ks ih =>
  unfold kd at ih ⊢;rw[ar,eG,ih]
  by_cases h:t=k
  .subst h;simp
  .have h':¬ (az (k:Int):oJ)=az (t:Int):=λq=>h (by have:=az.inj q;lia)
   simp[h',h]
theorem kd_get(ks:List Nat) (t:Nat):(Z.getD (kd ks) (az (t:Int))).isSome=decide (t∈ks):=by
 unfold Z.getD;rw[ee,←kd_any,bX,hX,fK]
def addN(kn:List Nat) (t:Nat):List Nat:=if t∈kn then kn else kn++[t]
theorem kd_put2(ks:List Nat) (t:Nat):xN (kd ks) (az (t:Int)) (.bl true)=kd (addN ks t):=by
 unfold addN
 by_cases h:t∈ks
 .rw [oQ h];unfold xN;rw[kd_any,decide_eq_true h,oQ rfl];unfold kd;rw[mPq];refine mCq λk _=>?_
  show (if _ then _ else _)=_
  split <;> rfl
 .rw [oT h];unfold xN;rw[kd_any,decide_eq_false h,oT (by simp)]
  simp[kd]
def plc(rs:List (List Int)) (e:Int):Nat:=rs.findIdx λr=>decide (e∈r)
theorem same_place{rs:List (List Int)}(hn:rs.flatten.Nodup) {i j:Nat}{r s:List Int}{e:Int}(hi:rs[i]?=some r) (hj:rs[j]?=some s) (h1:e∈r) (h2:e∈s):i=j:=by
 have a:=xr 0 hn hi h1;have b:=xr 0 hn hj h2;rw[a]at b;have:=D.int.inj (aM.inj b);lia
theorem plc_eq{rs:List (List Int)}(hn:rs.flatten.Nodup) {i:Nat}{r:List Int}{e:Int}(hi:rs[i]?=some r) (h1:e∈r):plc rs e=i:=by
 have hl:rs.findIdx (λr=>decide (e∈r))<rs.length:=eC ⟨r,mGq hi,decide_eq_true h1⟩
 have h2:=gu (xs:=rs) (p:=λr=>decide (e∈r)) (w:=hl)
 exact same_place hn (gEg hl) hi (of_decide_eq_true h2) h1
structure Mp (rs:List (List Int)):Prop where
 hn:rs.flatten.Nodup
 hl:rs.flatten.length<=63
 hr:rs.length<=63
 hneg:∀e∈rs.flatten, -e∈rs.flatten
theorem Mp.at{rs:List (List Int)}(h:Mp rs) {e:Int}(he:e∈rs.flatten):∃r,rs[plc rs e]?=some r/\e∈r:=by
 obtain⟨r,h1,h2⟩:=mFq.mp he;obtain⟨i,h3⟩:=aD.mp h1;exact⟨r,by rw[plc_eq h.hn h3 h2];exact h3,h2⟩
theorem Mp.kv{rs:List (List Int)}(h:Mp rs) {e:Int}(he:e∈rs.flatten):Z.getD (qe 0 rs) (az e)=some (.int (plc rs e:Int)):=by
 obtain⟨r,h1,h2⟩:=h.at he;have:=xr 0 h.hn h1 h2
 rwa [aK]at this
theorem Mp.lt{rs:List (List Int)}(h:Mp rs) {e:Int}(he:e∈rs.flatten):plc rs e<rs.length:=by
 obtain⟨r,h1,_⟩:=h.at he;exact(gSq.mp h1).1
theorem Mp.row{rs:List (List Int)}(h:Mp rs) {k:Nat}{r:List Int}(hk:rs[k]?=some r):r.length<=1000:=by
 have:=bL.length_le (au (mGq hk));have:=h.hl;lia
theorem KL{α β:Type}{f:α->β->α}{a:α}{r:List β}{i:Nat}{e:β}(he:r[i]?=some e):(r.take (i+1)).foldl f a=f ((r.take i).foldl f a) e:=by
 obtain⟨hi,h2⟩:=gSq.mp he;rw[de hi,fF,h2];rfl
end Zl
namespace K51
open PySem L2 Mr Z Xe
def sF:MS:=(oy (pI 7 (kSc (vY (nN 2) (Hz zx (nN 6))))) (Cj (uM (xn (nN 7) (nN 3))) (oy (yW 3 (nN 7) (kSc (rC (.bl true)))) (Av 4 (oi 7))) sr))
def uU:MS:=(oy (Dy 5 (CI 4)) (En 6 (L5 (sD 0) (nN 5)) sF))
def B1:MS:=(oy (pI 2 (ou Zl.si (nO (oi 0) oC)))
 (oy (pI 3 (EN (nN 1) (kSc (rC (.bl true)))))
 (oy (pI 4 (vT (nO (oi 1) oC)))
 (oy (tG (uM (pN IJ (uP qu (nL (nN 4) og)) (rC (.int 0)))) uU 100000)
 (ri (Ff (nN 3)))))))
def ve:MF:=rZ 2 8 B1
def wc:MS:=(yW 1 (nN 5) (kSc (rC (.bl true))))
def rW:MS:=(Cj (uM (xn (nN 3) (nN 1))) (oy (pI 4 (ou K51.ve (nO (oi 0) (nO (oi 3) oC)))) (oy (En 5 (oi 4) wc) (Av 2 (rS (xJ (oi 4)) [0] pV (zD (lOf (L5 (sD 1) (nN 0)))))))) sr)
def AU:MS:=(oy (pI 1 DA)
 (oy (pI 2 (vT oC))
 (oy (Eg 3 (nL (uP qu (nL (nN 0) og)) og) rW)
 (ri (Ir 2)))))
def qO:MF:=rZ 1 6 AU
def DZ:MS:=(ri (rS (xJ (oi 0)) [] pV (zD (sD 0))))
def yn:MF:=rZ 1 1 DZ
end K51
namespace K31
open PySem L2 Mr Z Xe
def Af:MS:=(oy (pI 2 (kSc (U4 "list" AC (nN 0) (nL (nN 1) og))))
 (ri (Ol (lOf (HA (sD 0) (ud (nN 2)) wF)) (lOf (HA (sD 0) wF (ud (nN 2)))))))
def sv:MF:=rZ 2 3 Af
def mb_round_turns_0:MS:=(oy (pI 7 (kSc (Hz zx (pN Hy (nN 4) (nN 6))))) (oy (pI 8 (kSc (vY (nN 2) (nN 7)))) (oy (Cj (uM (xn (nN 8) (nN 5))) (oy (yW 5 (nN 8) (kSc (rC (.bl true)))) (oy (Av 3 (ou K31.sv (nO (L5 (sD 0) (nN 8)) (nO (oi 7) oC)))) (HJ 4 (lOf (L5 (sD 3) (Hz zx (rC (.int 1)))))))) sr) (QF 6 (λa b=>a+b) (rC (.int 1))))))
def AO:MS:=(oy (pI 3 (kSc (rC (.int 1))))
 (oy (pI 4 (kSc (rC (.int 0))))
 (oy (Cj (uM (pN IJ (pN uZ (nN 0) (rC (.int 3))) (rC (.int 0)))) (oy (pI 3 (kSc (pN Fk (rC (.int 1)) (pN uZ (pN yM (nN 0) (rC (.int 3))) (pN Rc (rC (.int 10)) (rC (.int 40))))))) (pI 4 (kSc (pN uZ (pN yM (nN 1) (rC (.int 66))) (pN Rc (rC (.int 10)) (rC (.int 40))))))) sr)
 (ri (kSc (pN Fk (pN CY (nN 3) (pN Fk (pN uZ (pN Fk (pN CY (pN Fk (rC (.int 1)) (pN uZ (nN 1) (rC (.int 66)))) (nN 2)) (nN 0)) (rC (.int 67))) (rC (.int 1)))) (nN 4)))))))
def qD:MF:=rZ 3 5 AO
def rB:MS:=(Q4 8 3 (Vt 3 (Mx 3) (pN Hy (nN 4) (pN Bx (uP qu (nL (nN 4) og)) (rC (.int 1))))) (GU 3 (Ck (uM (pN EB (pN uZ (nN 7) (rC (.int 4))) (rC (.int 1)))) (uM (pN IJ (uP qu (nL (nN 4) og)) (rC (.int 1))))) (λ_=>(E7 (CI 4))) (GU 3 (Ck (uM (pN EB (pN uZ (nN 7) (rC (.int 4))) (rC (.int 2)))) (uM (pN IJ (uP qu (nL (nN 5) og)) (rC (.int 0))))) (EE 3 (pI 9 (kSc (pN Bx (uP qu (nL (nN 5) og)) (rC (.int 1))))) (EE 3 (Cj (uM (nN 2)) (pI 9 (kSc (pN uZ (pN yM (nN 7) (rC (.int 8))) (uP qu (nL (nN 5) og))))) sr) (Er 3 (yA 5 (nN 9))))) (GU 3 (uM (pN IJ (uP qu (nL (nN 6) og)) (rC (.int 0)))) (EE 3 (Dy 10 (QK CY (yA 6 (rC (.int 0))) (pN Bx (rC (.int 1)) (pN CY (rC (.int 2)) (pN uZ (pN yM (nN 7) (rC (.int 4))) (rC (.int 2))))))) (λpath=>oy ((Jx 3 (oi 10)) path) (Cj (uM (pN EB (pN uZ (nN 7) (rC (.int 4))) (rC (.int 0)))) (oy (Av 3 (vT (nO (kSc (Hz zx (nN 10))) oC))) (Av 4 (kSc (pN Bx (uP qu (nL (nN 3) og)) (rC (.int 1)))))) (Av 5 (kSc (Hz zx (nN 10))))))) (λ_=>sr)))))
def uW:MS:=(Io 3 (Vt 3 (Mx 3) (pN Hy (nN 4) (pN Bx (uP qu (nL (nN 4) og)) (rC (.int 1))))) (CI 5))
def B5:MS:=(oy (pI 3 (vT (nO (vT oC) oC)))
 (oy (pI 4 (vT (nO (kSc (rC (.int 0))) oC)))
 (oy (pI 5 (vT oC))
 (oy (pI 6 (zD (sD 1)))
 (oy (En 7 (oi 0) rB)
 (oy (tG (uM (pN IJ (uP qu (nL (nN 5) og)) (rC (.int 0)))) uW 100000)
 (ri (Ir 3))))))))
def tK:MF:=rZ 3 11 B5
end K31
namespace K33
open PySem L2 Mr Z Xe
def zS:MS:=(ri (EM (lOf (rS (xJ (oi 1)) [0] pV (kSc (vY (nN 1) (Hz zx (nN 0))))))))
def ro:MF:=rZ 2 2 zS
def xo:MS:=(yW 1 (nN 3) (oi 2))
def Ci:MS:=(oy (pI 1 DA)
 (oy (Kg 2 3 (ou Zl.oV (nO (oi 0) oC)) xo)
 (ri (EM (lOf (rS (xJ (oi 0)) [1] pV (ou K33.ro (nO (oi 1) (nO (oi 0) oC)))))))))
def tP:MF:=rZ 1 4 Ci
end K33
namespace K40
open PySem L2 Mr Z
def tJ:MS:=(Cj (uM (pN OI (uP qu (nL (rOf (ou K51.qO (nO (oi 0) oC))) og)) (rC (.int 1)))) AI sr)
def pZ:MF:=rZ 1 1 tJ
def mb_round_turns_0:MS:=(oy (pI 7 (kSc (Hz zx (pN Hy (nN 4) (nN 6))))) (oy (pI 8 (kSc (vY (nN 2) (nN 7)))) (oy (Cj (uM (xn (nN 8) (nN 5))) (oy (yW 5 (nN 8) (kSc (rC (.bl true)))) (oy (Av 3 (ou K31.sv (nO (L5 (sD 0) (nN 8)) (nO (oi 7) oC)))) (HJ 4 (lOf (L5 (sD 3) (Hz zx (rC (.int 1)))))))) sr) (QF 6 (λa b=>a+b) (rC (.int 1))))))
def xV:MS:=(oy (pI 2 (ou Zl.si (nO (oi 0) oC)))
 (oy (Cj (uM (xn (nN 1) (nN 2))) AI sr)
 (oy (pI 3 (vT (nO (ou K31.sv (nO (L5 (sD 0) (vY (nN 2) (nN 1))) (nO (oi 1) oC))) oC)))
 (oy (pI 4 (zD (lOf (L5 (sD 3) (rC (.int 0))))))
 (oy (pI 5 (EN (vY (nN 2) (nN 1)) (kSc (rC (.bl true)))))
 (oy (pI 6 (kSc (rC (.int 0))))
 (oy (tG (uM (pN Ud (nN 6) (uP qu (nL (nN 4) og)))) mb_round_turns_0 100000)
 (ri (Ir 3)))))))))
def qR:MF:=rZ 2 9 xV
def yP:MS:=(ri (ou Zl.oV (nO (ou K40.qR (nO (oi 0) (nO (oi 1) oC))) oC)))
def tV:MF:=rZ 2 2 yP
def yT:MS:=(ri (ou K33.tP (nO (ou K40.qR (nO (oi 0) (nO (oi 1) oC))) oC)))
def oE:MF:=rZ 2 2 yT
end K40
namespace K37
open PySem L2 Mr Z
def vw:MS:=(oy (pI 1 (ou Zl.uq (nO (oi 0) oC)))
 (oy (Cj (uM (pN EB (uP qu (nL (nN 1) og)) (rC (.int 0)))) (ri (vT oC)) sr)
 (ri (ou K40.tV (nO (oi 0) (nO (kSc (Eu 0 (sD 1) (ou K40.oE (nO (oi 1) (nO (oi 0) oC))))) oC))))))
def qQ:MF:=rZ 1 2 vw
def wk:MS:=(oy (OL (kSc (sZ K40.pZ (nL (nN 0) og))))
 (oy (pI 1 (ou Zl.uq (nO (oi 0) oC)))
 (oy (Cj (uM (pN EB (uP qu (nL (nN 1) og)) (rC (.int 0)))) (ri (ou K33.tP (nO (oi 0) oC))) sr)
 (ri (On (lOf (rS (xJ (oi 1)) [0] pV (ou K40.oE (nO (oi 1) (nO (oi 0) oC))))))))))
def pM:MF:=rZ 1 2 wk
def FC:MS:=(ri (IC (lOf (rS (xJ (ou K51.qO (nO (oi 0) oC))) [] pV (ou K37.pM (nO (oi 0) oC))))))
def yB:MF:=rZ 1 1 FC
def Ba:MS:=(ri (zH K37.pM (lOf (ou K51.qO (nO (oi 0) oC)))))
def uo:MF:=rZ 1 1 Ba
def vZ:MS:=(HJ 2 (lOf (Wk (nL (rOf (ou K37.qQ (nO (oi 3) oC))) (nL (rOf (ou K37.qQ (nO (oi 4) oC))) og)))))
def DU:MS:=(oy (pI 2 (vT oC))
 (oy (GO 3 4 (ou K37.uo (nO (oi 0) oC)) (ou K37.uo (nO (oi 1) oC)) vZ)
 (ri (Ip (sD 2)))))
def xS:MF:=rZ 2 5 DU
def Bl:MS:=(oy (pI 2 (ou K37.yB (nO (oi 0) oC)))
 (oy (pI 3 (ou K37.yB (nO (oi 1) oC)))
 (oy (Cj (uM (pN zw (nN 2) (nN 3))) (ri (Nj (nO (kSc (rC (.str "alike"))) (nO (ou K37.xS (nO (oi 0) (nO (oi 1) oC))) oC)))) sr)
 (oy AI
 AI))))
def ui:MF:=rZ 2 5 Bl
def vO:MS:=(oy (pI 6 (kSc (pN CY (pN Hy (nN 2) (nN 5)) (pN Bx (rC (.int 1)) (pN CY (rC (.int 2)) (pN uZ (pN yM (nN 3) (pN Fk (nN 5) (rC (.int 2)))) (rC (.int 2)))))))) (oy (yW 4 (pN Hy (nN 1) (nN 5)) (oi 6)) (yW 4 (Hz zx (pN Hy (nN 1) (nN 5))) (kSc (Hz zx (nN 6))))))
def Ah:MS:=(oy (pI 4 DA)
 (oy (Eg 5 (nL (uP qu (nL (nN 1) og)) og) vO)
 (ri (rS (xJ (oi 0)) [4] pV (rS (xJ (oi 0)) [1] pV (kSc (vY (nN 1) (nN 0))))))))
def su:MF:=rZ 4 7 Ah
def C4:MS:=(oy (pI 3 (kSc (pN yM (uP qu (nL (nN 0) og)) (rC (.int 2)))))
 (oy (pI 4 (ou K31.tK (nO (HA (sD 0) wF (ud (nN 3))) (nO (HA (sD 1) wF (ud (rC (.int 6)))) (nO (kSc (pN EB (pN uZ (nN 2) (rC (.int 2))) (rC (.int 1)))) oC)))))
 (oy (pI 5 (ou K31.tK (nO (HA (sD 0) (ud (nN 3)) wF) (nO (HA (sD 1) (ud (rC (.int 6))) (ud (rC (.int 12)))) (nO (kSc (pN EB (pN uZ (nN 2) (rC (.int 2))) (rC (.int 1)))) oC)))))
 (oy (pI 6 (ou K31.tK (nO (HA (sD 0) wF (ud (nN 3))) (nO (HA (sD 1) (ud (rC (.int 12))) wF) (nO (kSc (pN EB (pN uZ (nN 2) (rC (.int 2))) (rC (.int 1)))) oC)))))
 (oy (pI 7 (HA (lOf (vT (nO (oi 4) (nO (oi 5) (nO (oi 6) oC))))) wF (ud (pN Fk (rC (.int 1)) (pN uZ (pN yM (nN 2) (rC (.int 2))) (rC (.int 3)))))))
 (ri (Ol (EI 7) (lOf (rS (SX (nL (pN uZ (pN yM (nN 2) (rC (.int 6))) (rC (.int 3))) og)) [] pV (vT (nO (vT oC) oC)))))))))))
def vd:MF:=rZ 3 8 C4
def wm:MS:=(HJ 1 (EI 2))
def Bn:MS:=(oy (pI 1 (vT oC))
 (oy (En 2 (oi 0) wm)
 (ri (ou Zl.pD (nO (oi 1) oC)))))
def sq:MF:=rZ 1 3 Bn
def BY:MS:=(ri (Tu (oi 0) (rC (.int 0))))
def vf:MF:=rZ 1 1 BY
def uw:MS:=(oy (pI 3 (ou K37.pM (nO (ou K51.yn (nO (oi 2) oC)) oC))) (oy (pI 4 (rS (xJ (Eo (lOf (ou Zl.oV (nO (oi 2) oC))))) [3,2] (uM (pN zw (rOf (ou K40.oE (nO (oi 2) (nO (oi 0) oC)))) (nN 1))) (oi 0))) (Av 1 (Nj (nO (oi 3) (nO (HA (sD 4) wF (ud (rC (.int 1)))) oC))))))
def Bf:MS:=(oy (pI 1 (vT oC))
 (oy (En 2 (IK (lOf (rS (xJ (oi 0)) [] pV (ou Zl.pD (nO (oi 0) oC))))) uw)
 (ri (zH K37.vf (sD 1)))))
def rX:MF:=rZ 1 5 Bf
def vK:MS:=(oy (Cj (EJ (uM (pN OX (pN wG (nN 9) (rC (.int 0))) (pN wG (nN 10) (rC (.int 0))))) (uM (pN OI (uP qu (nL (pN wG (nN 9) (rC (.int 1))) og)) (uP qu (nL (pN wG (nN 10) (rC (.int 1))) og))))) (ri (kSc (rC (.bl false)))) sr) (Cj (Ck (uM (pN EB (uP qu (nL (pN wG (nN 9) (rC (.int 1))) og)) (rC (.int 1)))) (uM (pN OI (U4 "list" GV (pN wG (nN 8) (rC (.int 1))) (nL (rOf (Nj (nO (kSc (pN Hy (pN wG (nN 9) (rC (.int 1))) (rC (.int 0)))) (nO (kSc (pN Hy (pN wG (nN 10) (rC (.int 1))) (rC (.int 0)))) oC)))) og)) (rC (.int 1))))) (ri (kSc (rC (.bl false)))) sr))
def MC:MS:=(oy (pI 1 (kSc (sZ Zl.oN (nL (nN 0) (nL (rC (.int 0)) og)))))
 (oy (pI 2 (kSc (sZ Zl.oN (nL (nN 0) (nL (rC (.int 1)) og)))))
 (oy (pI 3 (kSc (sZ Zl.oN (nL (nN 0) (nL (rC (.int 2)) og)))))
 (oy (pI 4 (rS (SX (nL (rC (.int 18)) og)) [1,2] pV (kSc (sZ K31.qD (nL (nN 1) (nL (nN 2) (nL (nN 0) og)))))))
 (oy (pI 5 (rS (SX (nL (rC (.int 18)) og)) [2,0] pV (kSc (sZ K31.qD (nL (nN 1) (nL (sZ Zl.oN (nL (nN 2) (nL (rC (.int 3)) og))) (nL (nN 0) og)))))))
 (oy (pI 6 (ou K37.vd (nO (HA (sD 0) (ud (rC (.int 4))) (ud (rC (.int 67)))) (nO (oi 4) (nO (oi 3) oC)))))
 (oy (pI 7 (rS (xJ (oi 6)) [4,5,3] pV (ou K37.su (nO (oi 0) (nO (oi 1) (nO (oi 2) (nO (kSc (pN yM (nN 3) (rC (.int 18)))) oC)))))))
 (oy (pI 8 (ou K37.ui (nO (ou K37.sq (nO (oi 6) oC)) (nO (ou K37.sq (nO (oi 7) oC)) oC))))
 (oy (Cj (EJ (D3 (uM (uP G3 (nL (nN 8) (nL (rC (.ty "tuple")) og))))) (EJ (uM (pN OI (uP qu (nL (nN 8) og)) (rC (.int 2)))) (EJ (uM (pN OI (pN wG (nN 8) (rC (.int 0))) (rC (.str "alike")))) (D3 (uM (uP G3 (nL (pN wG (nN 8) (rC (.int 1))) (nL (rC (.ty "list")) og)))))))) (ri (kSc (rC (.bl false)))) sr)
 (oy (GO 9 10 (ou K37.rX (nO (oi 6) oC)) (ou K37.rX (nO (oi 7) oC)) vK)
 (ri (kSc (pN EB (uP qu (nL (pN wG (nN 8) (rC (.int 1))) og)) (uP MW (nL (rOf (rS (xJ (oi 6)) [] pV (kSc (uP qu (nL (rOf (ou Zl.oV (nO (oi 0) oC))) og))))) og)))))))))))))))
def Ou:MF:=rZ 1 11 MC
def zg(i:Nat):Stmt:=PySem.Challenge.pw_mapround_k37_laid_from_the_least.main.body.getD i (.Pass ⟨0,0,0,0⟩)
section
variable {P:jj}{w:jo}{K:W.Frag}{mg:Str->Option Value}{base:Heap}
abbrev sj:Stmt:=zg 5
theorem xw:oD ["turns", "told", "turn"] ["turns"] (nY sj):=by trivial
theorem Ee     (D:yx K mg "told_ends" sj ["turns"] f fd) (B:Bt mg)     : Fn P w K mg base 1 "told_ends" sj ["turns"] (oO K Zl.oV) f fd :=
 ⟨D,D.F.ok xw (λ_ _ _ _=>pO) λtQ A outer s H vs Q E hr h=>⟨_,(nJ (oq (i:=1) xw.nd rfl (by trivial) (rR nI)) (nJ (ue PassesOwn.never rfl (qi (pv 0)) (qk (i:=2) xw.nd rfl (by trivial)) (nS (qP (tM aq cz cA wA (pv 1) (nH (pv 2) nI))))) (nS (oY (pv 1))))),oA _ (K:=K) (nU (ox (i:=1) (rP oa)) (nU (yr (nV 0) (CF (i:=1) (AH 2))) (oX (Ax 1)))) h⟩⟩
abbrev vo:Stmt:=zg 6
theorem HX:oD ["m"] ["m"] (nY vo):=by trivial
theorem Ic  (D:yx K mg "ends_of" vo ["m"] f fd) (B:Bt mg)   (G_told_ends:Fn P w K mg base 1 "told_ends" sj ["turns"] (oO K Zl.oV) ftold_ends fdtold_ends)  : Fn P w K mg base 2 "ends_of" vo ["m"] (oO K Zl.uq) f fd :=
 ⟨D,D.F.ok HX (λ_ _ _ _=>pO) λtQ A outer s H vs Q E hr h=>⟨_,(nS (oY (om Ac (by rfl) B.sorted bF (nH (oP G_told_ends (hr.mono (by decide)) (nH (pv 0) nI)) nI)))),oA _ (K:=K) (oX (G5 (SL.q (SK.lOf (oh (nM (nV 0) oa)))))) h⟩⟩
abbrev tI:Stmt:=zg 7
theorem tS:oD ["m", "places", "place", "turn", "end"] ["m"] (nY tI):=by trivial
theorem EF     (D:yx K mg "places_at" tI ["m"] f fd) (B:Bt mg)     : Fn P w K mg base 1 "places_at" tI ["m"] (oO K Zl.si) f fd :=
 ⟨D,D.F.ok tS (λ_ _ _ _=>pO) λtQ A outer s H vs Q E hr h=>⟨_,(nJ (oq (i:=1) tS.nd rfl (by trivial) zF) (nJ (ue PassesOwn.never rfl (JF (by rfl) B.enum (nH (pv 0) nI)) (Ep rfl (uG (qk (i:=2) tS.nd rfl (by trivial)) (uG (qk (i:=3) tS.nd rfl (by trivial)) BE))) (nS (ue PassesOwn.never rfl (qi (pv 3)) (qk (i:=4) tS.nd rfl (by trivial)) (nS (xy (uH hr) (pv 1) (pv 4) (pv 2) rfl))))) (nS (oY (pv 1))))),oA _ (K:=K) (nU (ox (i:=1) BF) (nU (JD (nV 0) (yr (nV 3) (xq (i:=1) (nV 2) (nK 4)))) (oX (Ax 1)))) h⟩⟩
abbrev wB:Stmt:=zg 9
theorem tE:oD ["m", "start", "place_of", "known", "waiting", "here", "end", "there"] ["m", "start"] (nY wB):=by trivial
theorem Jh  (D:yx K mg "reached" wB ["m", "start"] f fd) (B:Bt mg)   (G_places_at:Fn P w K mg base 1 "places_at" tI ["m"] (oO K Zl.si) fplaces_at fdplaces_at)  : Fn P w K mg base 2 "reached" wB ["m", "start"] (oO K K51.ve) f fd :=
 ⟨D,D.F.ok tE (λ_ _ _ _=>pO) λtQ A outer s H vs Q E hr h=>⟨_,(nJ (oq (i:=2) tE.nd rfl (by trivial) (oP G_places_at (hr.mono (by decide)) (nH (pv 0) nI))) (nJ (oq (i:=3) tE.nd rfl (by trivial) (JZ (FL (pv 1) Bm Kd) rfl rfl (by simp) (by decide))) (nJ (oq (i:=4) tE.nd rfl (by trivial) (rR (nH (pv 1) nI))) (nJ (Cu PassesOwn.never (pY D2 (om oS (by rfl) B.len PySem.boot_len (nH (pv 4) nI)) nQ (qg _)) (nJ (oq (i:=5) tE.nd rfl (by trivial) (HH aq cQ cT HG (pv 4))) (nS (ue PassesOwn.never rfl (qi (qL qH (pv 0) (pv 5) (λ_ _=>rfl))) (qk (i:=6) tE.nd rfl (by trivial)) (nJ (oq (i:=7) tE.nd rfl (by trivial) (yJ (uH hr) (pv 2) (Bg ya (pv 6)) (by first|rfl|exact trivial|(intro _ _;rfl)))) (nS (tW (Ec (yH (uH hr) (pv 7) (pv 3))) (nJ (xy (uH hr) (pv 3) (pv 7) Bm rfl) (nS (qP (tM aq aO aQ qX (pv 4) (nH (pv 7) nI))))) qV))))))) (nS (oY (om (EK rfl) (by rfl) B.sorted bF (nH (pv 3) nI)))))))),oA _ (K:=K) (nU (ox (i:=2) (oh (nM (nV 0) oa))) (nU (ox (i:=3) (Hw (nK 1) (SR.kSc A6))) (nU (ox (i:=4) (rP (nM (nV 1) oa))) (nU (BX 100000 (qa (nZ DJ (qI qo (nT (nK 4) oj)) nR)) (nU (QX (i:=5) (Eh (i:=4))) (yr (D4 (qC 0) (nK 5)) (nU (ox (i:=7) (SR.kSc (yI (nK 2) (A8 yh (nK 6))))) (vv (Bc (yu (nK 7) (nK 3))) (nU (xq (i:=3) (SR.kSc A6) (nK 7)) (zd (i:=4) (nV 7))) rE))))) (oX (MH (nK 3))))))) h⟩⟩
abbrev vN:Stmt:=zg 10
theorem vn:oD ["m", "known", "found", "start", "places", "place"] ["m"] (nY vN):=by trivial
theorem Lx  (D:yx K mg "pieces" vN ["m"] f fd) (B:Bt mg)   (G_reached:Fn P w K mg base 2 "reached" wB ["m", "start"] (oO K K51.ve) freached fdreached)  : Fn P w K mg base 3 "pieces" vN ["m"] (oO K K51.qO) f fd :=
 ⟨D,D.F.ok vn (λ_ _ _ _=>pO) λtQ A outer s H vs Q E hr h=>⟨_,(nJ (oq (i:=1) vn.nd rfl (by trivial) zF) (nJ (oq (i:=2) vn.nd rfl (by trivial) (rR nI)) (nJ (ue PassesOwn.never rfl (wY (by rfl) B.range (nH (om oS (by rfl) B.len PySem.boot_len (nH (pv 0) nI)) nI)) (qk (i:=3) vn.nd rfl (by trivial)) (nS (tW (Ec (yH (uH hr) (pv 3) (pv 1))) (nJ (oq (i:=4) vn.nd rfl (by trivial) (oP G_reached (hr.mono (by decide)) (nH (pv 0) (nH (pv 3) nI)))) (nJ (ue PassesOwn.never rfl (qi (pv 4)) (qk (i:=5) vn.nd rfl (by trivial)) (nS (xy (uH hr) (pv 1) (pv 5) Bm rfl))) (nS (qP (tM aq aO aQ qX (pv 2) (nH (rV (N:=["place", "m"]) (fr:=[0]) rfl rfl (by decide +kernel) rfl (by decide +kernel) rfl (sy.of (by decide +kernel) rfl rfl (by exact⟨rfl,trivial⟩) (by repeat (first|exact trivial|refine⟨(by first|exact λ_=>⟨_,rfl⟩|exact λh=>(by rcases h with h|h <;> cases h)),?_⟩)) (by exact⟨⟨rfl,rfl,rfl⟩,trivial⟩)) (qi (pv 4)) (λ_ _ _ _=>tF) (λ_ _ _ _=>(vh uY (by rfl) B.list cO (nH (qL qH (pv 1) (pv 0) (λ_ _=>rfl)) nI)))) nI)))))) qV))) (nS (oY (pv 2)))))),oA _ (K:=K) (nU (ox (i:=1) BF) (nU (ox (i:=2) (rP oa)) (nU (GY (nT (qI qo (nT (nK 0) oj)) oj) (vv (Bc (yu (nK 3) (nK 1))) (nU (ox (i:=4) (oh (nM (nV 0) (nM (nV 3) oa)))) (nU (yr (nV 4) (xq (i:=1) (SR.kSc A6) (nK 5))) (zd (i:=2) (rg (nV 4) tx (Bz (SL.q (SK.lOf (D4 (qC 1) (nK 0))))))))) rE)) (oX (Ax 2))))) h⟩⟩
abbrev pW:Stmt:=zg 11
theorem wO:oD ["m"] ["m"] (nY pW):=by trivial
theorem wR  (D:yx K mg "refuse_not_one_piece" pW ["m"] f fd) (B:Bt mg)   (G_pieces:Fn P w K mg base 3 "pieces" vN ["m"] (oO K K51.qO) fpieces fdpieces)  : Fn P w K mg base 4 "refuse_not_one_piece" pW ["m"] (oO K K40.pZ) f fd :=
 ⟨D,D.F.ok wO (λ_ _ _ _=>pO) λtQ A outer s H vs Q E hr h=>⟨_,(nS (tW (pY FX (om oS (by rfl) B.len PySem.boot_len (nH (oP G_pieces (hr.mono (by decide)) (nH (pv 0) nI)) nI)) nQ (qg _)) (nS zN) qV)),oA _ (K:=K) (vv (qa (nZ Gm (qI qo (nT (SK.rOf (oh (nM (nV 0) oa))) oj)) nR)) Aa rE) h⟩⟩
abbrev uC:Stmt:=zg 13
theorem zY:oD ["turn", "end", "start"] ["turn", "end"] (nY uC):=by trivial
theorem Fg     (D:yx K mg "turn_from" uC ["turn", "end"] f fd) (B:Bt mg)     : Fn P w K mg base 1 "turn_from" uC ["turn", "end"] (oO K K31.sv) f fd :=
 ⟨D,D.F.ok zY (λ_ _ _ _=>pO) λtQ A outer s H vs Q E hr h=>⟨_,(nJ (oq (i:=2) zY.nd rfl (by trivial) (tM aq dW fR Hv (pv 0) (nH (pv 1) nI))) (nS (oY (pd HC (qZ sI (pv 0) (rH (pv 2)) ua) (qZ sI (pv 0) ua (rH (pv 2))))))),oA _ (K:=K) (nU (ox (i:=2) (SR.kSc (Ot (T := "list") Fy (nK 0) (nT (nK 1) oj)))) (oX (Ih (SK.lOf (wQ (qC 0) (rq (nK 2)) tZ)) (SK.lOf (wQ (qC 0) tZ (rq (nK 2))))))) h⟩⟩
abbrev rO:Stmt:=zg 14
theorem qb:oD ["m", "end", "place_of", "turns", "ends", "known", "spot", "other", "there"] ["m", "end"] (nY rO):=by trivial
theorem C3  (D:yx K mg "round_turns" rO ["m", "end"] f fd) (B:Bt mg)   (G_places_at:Fn P w K mg base 1 "places_at" tI ["m"] (oO K Zl.si) fplaces_at fdplaces_at) (G_turn_from:Fn P w K mg base 1 "turn_from" uC ["turn", "end"] (oO K K31.sv) fturn_from fdturn_from)  : Fn P w K mg base 2 "round_turns" rO ["m", "end"] (oO K K40.qR) f fd :=
 ⟨D,D.F.ok qb (λ_ _ _ _=>pO) λtQ A outer s H vs Q E hr h=>⟨_,(nJ (oq (i:=2) qb.nd rfl (by trivial) (oP G_places_at (hr.mono (by decide)) (nH (pv 0) nI))) (nJ (tW (Ec (yH (uH hr) (pv 1) (pv 2))) (nS zN) qV) (nJ (oq (i:=3) qb.nd rfl (by trivial) (rR (nH (oP G_turn_from (hr.mono (by decide)) (nH (qL qH (pv 0) (yJ (uH hr) (pv 2) (pv 1) (by first|rfl|exact trivial|(intro _ _;rfl))) (λ_ _=>rfl)) (nH (pv 1) nI))) nI))) (nJ (oq (i:=4) qb.nd rfl (by trivial) (vh uY (by rfl) B.list cO (nH (qL qH (pv 3) nQ (λ_ _=>rfl)) nI))) (nJ (oq (i:=5) qb.nd rfl (by trivial) (JZ (FL (yJ (uH hr) (pv 2) (pv 1) (by first|rfl|exact trivial|(intro _ _;rfl))) Bm Kd) rfl rfl (by simp) (by decide))) (nJ (oq (i:=6) qb.nd rfl (by trivial) nQ) (nJ (Cu PassesOwn.never (pY Ru (pv 6) (om oS (by rfl) B.len PySem.boot_len (nH (pv 4) nI)) (qg _)) (nJ (oq (i:=7) qb.nd rfl (by trivial) (Bg ya (qL qH (pv 4) (pv 6) (λ_ _=>rfl)))) (nJ (oq (i:=8) qb.nd rfl (by trivial) (yJ (uH hr) (pv 2) (pv 7) (by first|rfl|exact trivial|(intro _ _;rfl)))) (nJ (tW (Ec (yH (uH hr) (pv 8) (pv 5))) (nJ (xy (uH hr) (pv 5) (pv 8) Bm rfl) (nJ (qP (tM aq aO aQ qX (pv 3) (nH (oP G_turn_from (hr.mono (by decide)) (nH (qL qH (pv 0) (pv 8) (λ_ _=>rfl)) (nH (pv 7) nI))) nI))) (nS (qP (tM aq cz cA wA (pv 4) (nH (qL qH (pv 3) (Bg ya nQ) (λ_ _=>rfl)) nI)))))) qV) (nS (SY (i:=6) qb.nd rfl (by trivial) nQ Tt)))))) (nS (oY (pv 3)))))))))),oA _ (K:=K) (nU (ox (i:=2) (oh (nM (nV 0) oa))) (nU (vv (Bc (yu (nK 1) (nK 2))) Aa rE) (nU (ox (i:=3) (rP (nM (oh (nM (D4 (qC 0) (yI (nK 2) (nK 1))) (nM (nV 1) oa))) oa))) (nU (ox (i:=4) (Bz (SL.q (SK.lOf (D4 (qC 3) nR))))) (nU (ox (i:=5) (Hw (yI (nK 2) (nK 1)) (SR.kSc A6))) (nU (ox (i:=6) (SR.kSc nR)) (nU (BX 100000 (qa (nZ RO (nK 6) (qI qo (nT (nK 4) oj)))) (nU (ox (i:=7) (SR.kSc (A8 yh (nZ zJ (nK 4) (nK 6))))) (nU (ox (i:=8) (SR.kSc (yI (nK 2) (nK 7)))) (nU (vv (Bc (yu (nK 8) (nK 5))) (nU (xq (i:=5) (SR.kSc A6) (nK 8)) (nU (zd (i:=3) (oh (nM (D4 (qC 0) (nK 8)) (nM (nV 7) oa)))) (CF (i:=4) (SK.lOf (D4 (qC 3) (A8 yh nR)))))) rE) (Ta (i:=6) nR))))) (oX (Ax 3))))))))) h⟩⟩
abbrev tT:Stmt:=zg 15
theorem Dm:oD ["m", "end"] ["m", "end"] (nY tT):=by trivial
theorem Dj  (D:yx K mg "round_ends" tT ["m", "end"] f fd) (B:Bt mg)   (G_told_ends:Fn P w K mg base 1 "told_ends" sj ["turns"] (oO K Zl.oV) ftold_ends fdtold_ends) (G_round_turns:Fn P w K mg base 2 "round_turns" rO ["m", "end"] (oO K K40.qR) fround_turns fdround_turns)  : Fn P w K mg base 3 "round_ends" tT ["m", "end"] (oO K K40.tV) f fd :=
 ⟨D,D.F.ok Dm (λ_ _ _ _=>pO) λtQ A outer s H vs Q E hr h=>⟨_,(nS (oY (oP G_told_ends (hr.mono (by decide)) (nH (oP G_round_turns (hr.mono (by decide)) (nH (pv 0) (nH (pv 1) nI))) nI)))),oA _ (K:=K) (oX (oh (nM (oh (nM (nV 0) (nM (nV 1) oa))) oa))) h⟩⟩
abbrev uB:Stmt:=zg 17
theorem EO:oD ["spots", "turn"] ["spots", "turn"] (nY uB):=by trivial
theorem Fl     (D:yx K mg "turn_code" uB ["spots", "turn"] f fd) (B:Bt mg)    (b_tuple:mg "tuple" = none)   : Fn P w K mg base 1 "turn_code" uB ["spots", "turn"] (oO K K33.ro) f fd :=
 ⟨D,D.F.ok EO (λ_ _ _ _=>pO) λtQ A outer s H vs Q E hr h=>⟨_,(nS (oY (vh yR (by rfl) b_tuple dY (nH (rV (N:=["end", "spots"]) (fr:=[0]) rfl rfl (by decide +kernel) rfl (by decide +kernel) rfl (sy.of (by decide +kernel) rfl rfl (by exact⟨rfl,trivial⟩) (by repeat (first|exact trivial|refine⟨(by first|exact λ_=>⟨_,rfl⟩|exact λh=>(by rcases h with h|h <;> cases h)),?_⟩)) (by exact⟨⟨rfl,rfl,rfl⟩,trivial⟩)) (qi (pv 1)) (λ_ _ _ _=>tF) (λ_ _ _ _=>(yJ (uH hr) (pv 1) (Bg ya (pv 0)) (by first|rfl|exact trivial|(intro _ _;rfl))))) nI)))),oA _ (K:=K) (oX (FA (SL.q (SK.lOf (rg (nV 1) tx (SR.kSc (yI (nK 1) (A8 yh (nK 0))))))))) h⟩⟩
abbrev vg:Stmt:=zg 16
theorem xp:oD ["turns", "spots", "spot", "end"] ["turns"] (nY vg):=by trivial
theorem Ie  (D:yx K mg "code_of" vg ["turns"] f fd) (B:Bt mg)    (b_tuple:mg "tuple" = none) (G_told_ends:Fn P w K mg base 1 "told_ends" sj ["turns"] (oO K Zl.oV) ftold_ends fdtold_ends) (G_turn_code:Fn P w K mg base 1 "turn_code" uB ["spots", "turn"] (oO K K33.ro) fturn_code fdturn_code)  : Fn P w K mg base 2 "code_of" vg ["turns"] (oO K K33.tP) f fd :=
 ⟨D,D.F.ok xp (λ_ _ _ _=>pO) λtQ A outer s H vs Q E hr h=>⟨_,(nJ (oq (i:=1) xp.nd rfl (by trivial) zF) (nJ (ue PassesOwn.never rfl (JF (by rfl) B.enum (nH (oP G_told_ends (hr.mono (by decide)) (nH (pv 0) nI)) nI)) (Ep rfl (uG (qk (i:=2) xp.nd rfl (by trivial)) (uG (qk (i:=3) xp.nd rfl (by trivial)) BE))) (nS (xy (uH hr) (pv 1) (pv 3) (pv 2) rfl))) (nS (oY (vh yR (by rfl) b_tuple dY (nH (rV (N:=["turn", "spots"]) (fr:=[1]) rfl rfl (by decide +kernel) rfl (by decide +kernel) rfl (sy.of (by decide +kernel) rfl rfl (by exact⟨rfl,trivial⟩) (by repeat (first|exact trivial|refine⟨(by first|exact λ_=>⟨_,rfl⟩|exact λh=>(by rcases h with h|h <;> cases h)),?_⟩)) (by exact⟨⟨rfl,rfl,rfl⟩,trivial⟩)) (qi (pv 0)) (λ_ _ _ _=>tF) (λ_ _ _ _=>(oP G_turn_code (hr.mono (by decide)) (nH (pv 1) (nH (pv 0) nI))))) nI)))))),oA _ (K:=K) (nU (ox (i:=1) BF) (nU (JD (oh (nM (nV 0) oa)) (xq (i:=1) (nV 2) (nK 3))) (oX (FA (SL.q (SK.lOf (rg (nV 0) tx (oh (nM (nV 1) (nM (nV 0) oa)))))))))) h⟩⟩
abbrev rA:Stmt:=zg 18
theorem Di:oD ["m", "end"] ["m", "end"] (nY rA):=by trivial
theorem Dq  (D:yx K mg "round_code" rA ["m", "end"] f fd) (B:Bt mg)   (G_code_of:Fn P w K mg base 2 "code_of" vg ["turns"] (oO K K33.tP) fcode_of fdcode_of) (G_round_turns:Fn P w K mg base 2 "round_turns" rO ["m", "end"] (oO K K40.qR) fround_turns fdround_turns)  : Fn P w K mg base 3 "round_code" rA ["m", "end"] (oO K K40.oE) f fd :=
 ⟨D,D.F.ok Di (λ_ _ _ _=>pO) λtQ A outer s H vs Q E hr h=>⟨_,(nS (oY (oP G_code_of (hr.mono (by decide)) (nH (oP G_round_turns (hr.mono (by decide)) (nH (pv 0) (nH (pv 1) nI))) nI)))),oA _ (K:=K) (oX (oh (nM (oh (nM (nV 0) (nM (nV 1) oa))) oa))) h⟩⟩
abbrev sY:Stmt:=zg 19
theorem xU:oD ["m", "ends"] ["m"] (nY sY):=by trivial
theorem BP  (D:yx K mg "least_round" sY ["m"] f fd) {cLm pLm:Addr}(hC:fd.code = .ref cLm) (hT:W.codeHdIn K cLm pLm=true) (hM:(pLm,(("least_round" : Str) ++ ".<locals>.") ++ "<lambda>")∈uc K) (B:Bt mg)   (G_ends_of:Fn P w K mg base 2 "ends_of" vo ["m"] (oO K Zl.uq) fends_of fdends_of) (G_round_ends:Fn P w K mg base 3 "round_ends" tT ["m", "end"] (oO K K40.tV) fround_ends fdround_ends) (G_round_code:Fn P w K mg base 3 "round_code" rA ["m", "end"] (oO K K40.oE) fround_code fdround_code)  : Fn P w K mg base 6 "least_round" sY ["m"] (oO K K37.qQ) f fd :=
 ⟨D,Xq D.F xU (λ_ _ _ _=>pO) λA outer s H vs Q E hr h=>⟨_,(nJ (oq (i:=1) xU.nd rfl (by trivial) (oP G_ends_of (hr.mono (by decide)) (nH (pv 0) nI))) (nJ (tW (pY yf (om oS (by rfl) B.len PySem.boot_len (nH (pv 1) nI)) nQ (qg _)) (nS (oY (rR nI))) qV) (nS (oY (oP G_round_ends (hr.mono (by decide)) (nH (pv 0) (nH (KN (i:=0) (k:=3) hr rfl (by rfl) B.min hC hT hM rfl rfl (A4.of rfl rfl rfl (by decide +kernel) rfl rfl ⟨_,rfl,rfl⟩ rfl) rfl (nH (pv 1) nI) (λ_ _ _ _=>rfl) (λ_ _ _ _ hr=>(oP G_round_code (hr.mono (by decide)) (nH (pv 1) (nH (pv 0) nI))))) nI))))))),oA _ (K:=K) (nU (ox (i:=1) (oh (nM (nV 0) oa))) (nU (vv (qa (nZ xD (qI qo (nT (nK 1) oj)) nR)) (oX (rP oa)) rE) (oX (oh (nM (nV 0) (nM (SR.kSc (K7 (i:=0) (qC 1) (oh (nM (nV 1) (nM (nV 0) oa))))) oa)))))) h⟩⟩
abbrev rF:Stmt:=zg 20
theorem zb:oD ["m", "ends"] ["m"] (nY rF):=by trivial
theorem Dp  (D:yx K mg "least_code" rF ["m"] f fd) (B:Bt mg)   (G_refuse_not_one_piece:Fn P w K mg base 4 "refuse_not_one_piece" pW ["m"] (oO K K40.pZ) frefuse_not_one_piece fdrefuse_not_one_piece) (G_ends_of:Fn P w K mg base 2 "ends_of" vo ["m"] (oO K Zl.uq) fends_of fdends_of) (G_code_of:Fn P w K mg base 2 "code_of" vg ["turns"] (oO K K33.tP) fcode_of fdcode_of) (G_round_code:Fn P w K mg base 3 "round_code" rA ["m", "end"] (oO K K40.oE) fround_code fdround_code)  : Fn P w K mg base 5 "least_code" rF ["m"] (oO K K37.pM) f fd :=
 ⟨D,D.F.ok zb (λ_ _ _ _=>pO) λtQ A outer s H vs Q E hr h=>have hu:=hr.units;⟨_,(nJ (qP (oP G_refuse_not_one_piece (hr.mono (by decide)) (nH (pv 0) nI))) (nJ (oq (i:=1) zb.nd rfl (by trivial) (oP G_ends_of (hr.mono (by decide)) (nH (pv 0) nI))) (nJ (tW (pY yf (om oS (by rfl) B.len PySem.boot_len (nH (pv 1) nI)) nQ (qg _)) (nS (oY (oP G_code_of (hr.mono (by decide)) (nH (pv 0) nI)))) qV) (nS (oY (om (La rfl hu) (by rfl) B.min gh (nH (rV (N:=["end", "m"]) (fr:=[0]) rfl rfl (by decide +kernel) rfl (by decide +kernel) rfl (sy.of (by decide +kernel) rfl rfl (by exact⟨rfl,trivial⟩) (by repeat (first|exact trivial|refine⟨(by first|exact λ_=>⟨_,rfl⟩|exact λh=>(by rcases h with h|h <;> cases h)),?_⟩)) (by exact⟨⟨rfl,rfl,rfl⟩,trivial⟩)) (qi (pv 1)) (λ_ _ _ _=>tF) (λ_ _ _ _=>(oP G_round_code (hr.mono (by decide)) (nH (pv 1) (nH (pv 0) nI))))) nI))))))),oA _ (K:=K) (nU (PX (SR.kSc (xu (nT (nK 0) oj)))) (nU (ox (i:=1) (oh (nM (nV 0) oa))) (nU (vv (qa (nZ xD (qI qo (nT (nK 1) oj)) nR)) (oX (oh (nM (nV 0) oa))) rE) (oX (Qx (SL.q (SK.lOf (rg (nV 1) tx (oh (nM (nV 1) (nM (nV 0) oa))))))))))) h⟩⟩
abbrev zI:Stmt:=zg 21
theorem OR:oD ["m"] ["m"] (nY zI):=by trivial
theorem MG  (D:yx K mg "codes" zI ["m"] f fd) (B:Bt mg)   (G_least_code:Fn P w K mg base 5 "least_code" rF ["m"] (oO K K37.pM) fleast_code fdleast_code) (G_pieces:Fn P w K mg base 3 "pieces" vN ["m"] (oO K K51.qO) fpieces fdpieces)  : Fn P w K mg base 6 "codes" zI ["m"] (oO K K37.yB) f fd :=
 ⟨D,D.F.ok OR (λ_ _ _ _=>pO) λtQ A outer s H vs Q E hr h=>have hu:=hr.units;⟨_,(nS (oY (om (EA hu) (by rfl) B.sorted bF (nH (rV (cl:=[]) (N:=["piece"]) (fr:=[]) rfl rfl (by decide +kernel) rfl (by decide +kernel) rfl (sy.none (by decide +kernel)) (qi (oP G_pieces (hr.mono (by decide)) (nH (pv 0) nI))) (λ_ _ _ _=>tF) (λ_ _ _ _=>(oP G_least_code (hr.mono (by decide)) (nH (pv 0) nI)))) nI)))),oA _ (K:=K) (oX (M4 (SL.q (SK.lOf (rg (oh (nM (nV 0) oa)) tx (oh (nM (nV 0) oa))))))) h⟩⟩
abbrev vC:Stmt:=zg 23
theorem Gd:oD ["m"] ["m"] (nY vC):=by trivial
theorem Gn  (D:yx K mg "by_codes" vC ["m"] f fd) (B:Bt mg)   (G_pieces:Fn P w K mg base 3 "pieces" vN ["m"] (oO K K51.qO) fpieces fdpieces) (G_least_code:Fn P w K mg base 5 "least_code" rF ["m"] (oO K K37.pM) fleast_code fdleast_code)  : Fn P w K mg base 8 "by_codes" vC ["m"] (oO K K37.uo) f fd :=
 ⟨D,D.F.ok Gd (λ_ _ _ _=>pO) λtQ A outer s H vs Q E hr h=>⟨_,(nS (oY (Bp G_least_code.ok (hr.mono (by decide)) (by rfl) B.sorted (by rfl) G_least_code.D.m G_least_code.D.b (λ_ _ _ _ h=>h) (nH (oP G_pieces (hr.mono (by decide)) (nH (pv 0) nI)) nI)))),oA _ (K:=K) (oX (D0 (SL.q (SK.lOf (oh (nM (nV 0) oa)))))) h⟩⟩
abbrev xW:Stmt:=zg 24
theorem yw:oD ["m", "n", "pairs", "one", "two"] ["m", "n"] (nY xW):=by trivial
theorem Lh  (D:yx K mg "laying" xW ["m", "n"] f fd) (B:Bt mg)   (G_by_codes:Fn P w K mg base 8 "by_codes" vC ["m"] (oO K K37.uo) fby_codes fdby_codes) (G_least_round:Fn P w K mg base 6 "least_round" sY ["m"] (oO K K37.qQ) fleast_round fdleast_round)  : Fn P w K mg base 9 "laying" xW ["m", "n"] (oO K K37.xS) f fd :=
 ⟨D,D.F.ok yw (λ_ _ _ _=>pO) λtQ A outer s H vs Q E hr h=>⟨_,(nJ (oq (i:=2) yw.nd rfl (by trivial) (rR nI)) (nJ (ue PassesOwn.never rfl (NF (by rfl) B.zip (nH (oP G_by_codes (hr.mono (by decide)) (nH (pv 0) nI)) (nH (oP G_by_codes (hr.mono (by decide)) (nH (pv 1) nI)) nI))) (Ep rfl (uG (qk (i:=3) yw.nd rfl (by trivial)) (uG (qk (i:=4) yw.nd rfl (by trivial)) BE))) (nS (qP (tM aq cz cA wA (pv 2) (nH (P6 rfl (by rfl) B.list (by rfl) B.zip (nH (oP G_least_round (hr.mono (by decide)) (nH (pv 3) nI)) (nH (oP G_least_round (hr.mono (by decide)) (nH (pv 4) nI)) nI))) nI))))) (nS (oY (om Fh (by rfl) B.sorted bF (nH (pv 2) nI)))))),oA _ (K:=K) (nU (ox (i:=2) (rP oa)) (nU (J6 (oh (nM (nV 0) oa)) (oh (nM (nV 1) oa)) (CF (i:=2) (SK.lOf (Pw (nT (SK.rOf (oh (nM (nV 3) oa))) (nT (SK.rOf (oh (nM (nV 4) oa))) oj)))))) (oX (ON (qC 2))))) h⟩⟩
abbrev vS:Stmt:=zg 26
theorem yg:oD ["m", "n", "ones", "others", "code"] ["m", "n"] (nY vS):=by trivial
theorem Gu  (D:yx K mg "compared" vS ["m", "n"] f fd) (B:Bt mg)   (G_codes:Fn P w K mg base 6 "codes" zI ["m"] (oO K K37.yB) fcodes fdcodes) (G_laying:Fn P w K mg base 9 "laying" xW ["m", "n"] (oO K K37.xS) flaying fdlaying)  : Fn P w K mg base 10 "compared" vS ["m", "n"] (oO K K37.ui) f fd :=
 ⟨D,D.F.ok yg (λ_ _ _ _=>pO) λtQ A outer s H vs Q E hr h=>have hu:=hr.units;⟨_,(nJ (oq (i:=2) yg.nd rfl (by trivial) (oP G_codes (hr.mono (by decide)) (nH (pv 0) nI))) (nJ (oq (i:=3) yg.nd rfl (by trivial) (oP G_codes (hr.mono (by decide)) (nH (pv 1) nI))) (nJ (tW (pY (Nd hu) (pv 2) (pv 3) (qg _)) (nS (oY (Jk (nH NK (nH (oP G_laying (hr.mono (by decide)) (nH (pv 0) (nH (pv 1) nI))) nI))))) qV) (nJ zN (nS zN))))),oA _ (K:=K) (nU (ox (i:=2) (oh (nM (nV 0) oa))) (nU (ox (i:=3) (oh (nM (nV 1) oa))) (nU (vv (qa (nZ MR (nK 2) (nK 3))) (oX (IY (nM (SR.kSc NC) (nM (oh (nM (nV 0) (nM (nV 1) oa))) oa)))) rE) (nU Aa Aa)))) h⟩⟩
abbrev yp:Stmt:=zg 28
theorem LU:oD ["_law_script", "_law_k"] ["_law_script", "_law_k"] (nY yp):=by trivial
theorem Lj     (D:yx K mg "_law_cell" yp ["_law_script", "_law_k"] f fd) (B:Bt mg)     : Fn P w K mg base 1 "_law_cell" yp ["_law_script", "_law_k"] (oO K Zl.oN) f fd :=
 ⟨D,D.F.ok LU (λ_ _ _ _=>pO) λtQ A outer s H vs Q E hr h=>⟨_,(nJ (tW (pY Ru (pv 1) (om oS (by rfl) B.len PySem.boot_len (nH (pv 0) nI)) (qg _)) (nS (oY (qL qH (pv 0) (pv 1) (λ_ _=>rfl)))) qV) (nS (oY nQ))),oA _ (K:=K) (nU (vv (qa (nZ RO (nK 1) (qI qo (nT (nK 0) oj)))) (oX (SR.kSc (nZ zJ (nK 0) (nK 1)))) rE) (oX (SR.kSc nR))) h⟩⟩
abbrev ym:Stmt:=zg 29
theorem wL:oD ["_law_one", "_law_two", "_law_k", "_law_step", "_law_shift"] ["_law_one", "_law_two", "_law_k"] (nY ym):=by trivial
theorem KI     (D:yx K mg "_law_name" ym ["_law_one", "_law_two", "_law_k"] f fd) (B:Bt mg)     : Fn P w K mg base 1 "_law_name" ym ["_law_one", "_law_two", "_law_k"] (oO K K31.qD) f fd :=
 ⟨D,D.F.ok wL (λ_ _ _ _=>pO) λtQ A outer s H vs Q E hr h=>⟨_,(nJ (oq (i:=3) wL.nd rfl (by trivial) nQ) (nJ (oq (i:=4) wL.nd rfl (by trivial) nQ) (nJ (tW (pY D2 (pd sV (pv 0) nQ) nQ (qg _)) (nJ (oq (i:=3) wL.nd rfl (by trivial) (pd zj nQ (pd sV (pd uS (pv 0) nQ) (pd OS nQ nQ)))) (nS (oq (i:=4) wL.nd rfl (by trivial) (pd sV (pd uS (pv 1) nQ) (pd OS nQ nQ))))) qV) (nS (oY (pd zj (pd AD (pv 3) (pd zj (pd sV (pd zj (pd AD (pd zj nQ (pd sV (pv 1) nQ)) (pv 2)) (pv 0)) nQ) nQ)) (pv 4))))))),oA _ (K:=K) (nU (ox (i:=3) (SR.kSc nR)) (nU (ox (i:=4) (SR.kSc nR)) (nU (vv (qa (nZ DJ (nZ sW (nK 0) nR) nR)) (nU (ox (i:=3) (SR.kSc (nZ zf nR (nZ sW (nZ xC (nK 0) nR) (nZ Mw nR nR))))) (ox (i:=4) (SR.kSc (nZ sW (nZ xC (nK 1) nR) (nZ Mw nR nR))))) rE) (oX (SR.kSc (nZ zf (nZ AQ (nK 3) (nZ zf (nZ sW (nZ zf (nZ AQ (nZ zf nR (nZ sW (nK 1) nR)) (nK 2)) (nK 0)) nR) nR)) (nK 4))))))) h⟩⟩
abbrev wJ:Stmt:=zg 30
theorem qT:oD ["_law_cells", "_law_names", "_law_wild", "_law_turns_here", "_law_way", "_law_loose", "_law_left", "_law_cell_here", "_law_here", "_law_at", "_law_end"] ["_law_cells", "_law_names", "_law_wild"] (nY wJ):=by trivial
theorem Ia     (D:yx K mg "_law_turns" wJ ["_law_cells", "_law_names", "_law_wild"] f fd) (B:Bt mg)     : Fn P w K mg base 1 "_law_turns" wJ ["_law_cells", "_law_names", "_law_wild"] (oO K K31.tK) f fd :=
 ⟨D,D.F.ok qT (λ_ _ _ _=>pO) λtQ A outer s H vs Q E hr h=>⟨_,(nJ (oq (i:=3) qT.nd rfl (by trivial) (rR (nH (rR nI) nI))) (nJ (oq (i:=4) qT.nd rfl (by trivial) (rR (nH nQ nI))) (nJ (oq (i:=5) qT.nd rfl (by trivial) (rR nI)) (nJ (oq (i:=6) qT.nd rfl (by trivial) (vh uY (by rfl) B.list cO (nH (pv 1) nI))) (nJ (ue PassesOwn.never rfl (qi (pv 0)) (qk (i:=7) qT.nd rfl (by trivial)) (nJ (oq (i:=8) qT.nd rfl (by trivial) (qL qH (pv 3) (qL qH (pv 4) (pd AE (om oS (by rfl) B.len PySem.boot_len (nH (pv 4) nI)) nQ) (λ_ _=>rfl)) (λ_ _=>rfl))) (nS (tW (PW.pt (Iw (pY yf (pd sV (pv 7) nQ) nQ (qg _)) (Fq (pY D2 (om oS (by rfl) B.len PySem.boot_len (nH (pv 4) nI)) nQ (qg _))))) (nS (qP (HH aq cQ cT HG (pv 4)))) (nS (tW (PW.pt (Iw (pY yf (pd sV (pv 7) nQ) nQ (qg _)) (Fq (pY D2 (om oS (by rfl) B.len PySem.boot_len (nH (pv 5) nI)) nQ (qg _))))) (nJ (oq (i:=9) qT.nd rfl (by trivial) (pd AE (om oS (by rfl) B.len PySem.boot_len (nH (pv 5) nI)) nQ)) (nJ (tW (Ig (pv 2)) (nS (oq (i:=9) qT.nd rfl (by trivial) (pd sV (pd uS (pv 7) nQ) (om oS (by rfl) B.len PySem.boot_len (nH (pv 5) nI))))) qV) (nS (qP (tM aq aO aQ qX (pv 8) (nH (tM aq cQ cT FI (pv 5) (nH (pv 9) nI)) nI)))))) (nS (tW (pY D2 (om oS (by rfl) B.len PySem.boot_len (nH (pv 6) nI)) nQ (qg _)) (nJ (oq (i:=10) qT.nd rfl (by trivial) (pd AD (tM aq cQ cT FI (pv 6) (nH nQ nI)) (pd AE nQ (pd AD nQ (pd sV (pd uS (pv 7) nQ) nQ))))) (nJ (qP (tM aq aO aQ qX (pv 8) (nH (pv 10) nI))) (nS (tW (pY yf (pd sV (pv 7) nQ) nQ (qg _)) (nJ (qP (tM aq aO aQ qX (pv 3) (nH (rR (nH (Bg ya (pv 10)) nI)) nI))) (nS (qP (tM aq aO aQ qX (pv 4) (nH (pd AE (om oS (by rfl) B.len PySem.boot_len (nH (pv 3) nI)) nQ) nI))))) (nS (qP (tM aq aO aQ qX (pv 5) (nH (Bg ya (pv 10)) nI)))))))) qV)))))))) (nJ (Cu PassesOwn.never (pY D2 (om oS (by rfl) B.len PySem.boot_len (nH (pv 5) nI)) nQ (qg _)) (nS (qP (tM aq aO aQ qX (qL qH (pv 3) (qL qH (pv 4) (pd AE (om oS (by rfl) B.len PySem.boot_len (nH (pv 4) nI)) nQ) (λ_ _=>rfl)) (λ_ _=>rfl)) (nH (HH aq cQ cT HG (pv 5)) nI))))) (nS (oY (pv 3))))))))),oA _ (K:=K) (nU (ox (i:=3) (rP (nM (rP oa) oa))) (nU (ox (i:=4) (rP (nM (SR.kSc nR) oa))) (nU (ox (i:=5) (rP oa)) (nU (ox (i:=6) (Bz (qC 1))) (nU (yr (nV 0) (Sv (M1 (JR 3) (nZ zJ (nK 4) (nZ Ay (qI qo (nT (nK 4) oj)) nR))) (OA (HV (qa (nZ xD (nZ sW (nK 7) nR) nR)) (qa (nZ DJ (qI qo (nT (nK 4) oj)) nR))) (Rw (My (Eh (i:=4)))) (OA (HV (qa (nZ xD (nZ sW (nK 7) nR) nR)) (qa (nZ DJ (qI qo (nT (nK 5) oj)) nR))) (Je (Ko (SR.kSc (nZ Ay (qI qo (nT (nK 5) oj)) nR)) (by decide)) (Je (S7 (Bc (nK 2)) (Ko (SR.kSc (nZ sW (nZ xC (nK 7) nR) (qI qo (nT (nK 5) oj)))) (by decide)) (Ox (λ_ _ _ h=>h))) (QZ (GA (i:=5) (nK 9))))) (OA (qa (nZ DJ (qI qo (nT (nK 6) oj)) nR)) (Je (OE (Uh AQ (GA (i:=6) nR) (nZ Ay nR (nZ AQ nR (nZ sW (nZ xC (nK 7) nR) nR)))) (by decide)) (Te (Tr (nV 10)) (vv (qa (nZ xD (nZ sW (nK 7) nR) nR)) (nU (zd (i:=3) (rP (nM (SR.kSc (A8 yh (nK 10))) oa))) (zd (i:=4) (SR.kSc (nZ Ay (qI qo (nT (nK 3) oj)) nR)))) (zd (i:=5) (SR.kSc (A8 yh (nK 10))))))) (Rw rE)))))) (nU (BX 100000 (qa (nZ DJ (qI qo (nT (nK 5) oj)) nR)) (OJ (M1 (JR 3) (nZ zJ (nK 4) (nZ Ay (qI qo (nT (nK 4) oj)) nR))) (Eh (i:=5)))) (oX (Ax 3)))))))) h⟩⟩
abbrev vA:Stmt:=zg 31
theorem Bh:oD ["_law_turn", "_law_at"] ["_law_turn"] (nY vA):=by trivial
theorem G7     (D:yx K mg "_law_turned" vA ["_law_turn"] f fd) (B:Bt mg)     : Fn P w K mg base 1 "_law_turned" vA ["_law_turn"] (oO K Zl.vB) f fd :=
 ⟨D,D.F.ok Bh (λ_ _ _ _=>pO) λtQ A outer s H vs Q E hr h=>⟨_,(nJ (tW (pY yf (om oS (by rfl) B.len PySem.boot_len (nH (pv 0) nI)) nQ (qg _)) (nS (oY (rR nI))) qV) (nJ (oq (i:=1) Bh.nd rfl (by trivial) (tM aq dW fR Hv (pv 0) (nH (om (LG rfl) (by rfl) B.min gh (nH (pv 0) nI)) nI))) (nS (oY (pd HC (qZ sI (pv 0) (rH (pv 1)) ua) (qZ sI (pv 0) ua (rH (pv 1)))))))),oA _ (K:=K) (nU (vv (qa (nZ xD (qI qo (nT (nK 0) oj)) nR)) (oX (rP oa)) rE) (nU (ox (i:=1) (SR.kSc (Ot (T := "list") Fy (nK 0) (nT (qI S4 (nT (nK 0) oj)) oj)))) (oX (Ih (SK.lOf (wQ (qC 0) (rq (nK 1)) tZ)) (SK.lOf (wQ (qC 0) tZ (rq (nK 1)))))))) h⟩⟩
abbrev wX:Stmt:=zg 32
theorem Ld:oD ["_law_turns_here"] ["_law_turns_here"] (nY wX):=by trivial
theorem KG  (D:yx K mg "_law_good" wX ["_law_turns_here"] f fd) (B:Bt mg)   (IP:Fn P w K mg base 1 "_law_turned" vA ["_law_turn"] (oO K Zl.vB) fL_turned fdL_turned)  : Fn P w K mg base 2 "_law_good" wX ["_law_turns_here"] (oO K Zl.pD) f fd :=
 ⟨D,D.F.ok Ld (λ_ _ _ _=>pO) λtQ A outer s H vs Q E hr h=>have hu:=hr.units;⟨_,(nS (oY (om (Fc hu) (by rfl) B.sorted bF (nH (rV (cl:=[]) (N:=["_law_turn"]) (fr:=[]) rfl rfl (by decide +kernel) rfl (by decide +kernel) rfl (sy.none (by decide +kernel)) (qi (pv 0)) (λ_ _ _ _=>tF) (λ_ _ _ _=>(oP IP (hr.mono (by decide)) (nH (pv 0) nI)))) nI)))),oA _ (K:=K) (oX (Lz (rg (nV 0) tx (oh (nM (nV 0) oa))))) h⟩⟩
abbrev xO:Stmt:=zg 33
theorem LA:oD ["_law_m"] ["_law_m"] (nY xO):=by trivial
theorem L1     (D:yx K mg "_law_copy" xO ["_law_m"] f fd) (B:Bt mg)     : Fn P w K mg base 1 "_law_copy" xO ["_law_m"] (oO K K51.yn) f fd :=
 ⟨D,D.F.ok LA (λ_ _ _ _=>pO) λtQ A outer s H vs Q E hr h=>⟨_,(nS (oY (rV (cl:=[]) (N:=["_law_turn"]) (fr:=[]) rfl rfl (by decide +kernel) rfl (by decide +kernel) rfl (sy.none (by decide +kernel)) (qi (pv 0)) (λ_ _ _ _=>tF) (λ_ _ _ _=>(vh uY (by rfl) B.list cO (nH (pv 0) nI)))))),oA _ (K:=K) (oX (rg (nV 0) tx (Bz (qC 0)))) h⟩⟩
abbrev wI:Stmt:=zg 34
theorem AZ:oD ["_law_turns_here", "_law_ends", "_law_turn"] ["_law_turns_here"] (nY wI):=by trivial
theorem Lc     (D:yx K mg "_law_flat" wI ["_law_turns_here"] f fd) (B:Bt mg)     : Fn P w K mg base 1 "_law_flat" wI ["_law_turns_here"] (oO K Zl.oV) f fd :=
 ⟨D,D.F.ok AZ (λ_ _ _ _=>pO) λtQ A outer s H vs Q E hr h=>⟨_,(nJ (oq (i:=1) AZ.nd rfl (by trivial) (rR nI)) (nJ (ue PassesOwn.never rfl (qi (pv 0)) (qk (i:=2) AZ.nd rfl (by trivial)) (nS (qP (tM aq cz cA wA (pv 1) (nH (pv 2) nI))))) (nS (oY (pv 1))))),oA _ (K:=K) (nU (ox (i:=1) (rP oa)) (nU (yr (nV 0) (CF (i:=1) (AH 2))) (oX (Ax 1)))) h⟩⟩
abbrev uD:Stmt:=zg 35
theorem vc:oD ["_law_turns_here", "_law_names", "_law_others", "_law_bits", "_law_new", "_law_k", "_law_end"] ["_law_turns_here", "_law_names", "_law_others", "_law_bits"] (nY uD):=by trivial
theorem E8     (D:yx K mg "_law_renamed" uD ["_law_turns_here", "_law_names", "_law_others", "_law_bits"] f fd) (B:Bt mg)     : Fn P w K mg base 1 "_law_renamed" uD ["_law_turns_here", "_law_names", "_law_others", "_law_bits"] (oO K K37.su) f fd :=
 ⟨D,D.F.ok vc (λ_ _ _ _=>pO) λtQ A outer s H vs Q E hr h=>⟨_,(nJ (oq (i:=4) vc.nd rfl (by trivial) zF) (nJ (ue PassesOwn.never rfl (wY (by rfl) B.range (nH (om oS (by rfl) B.len PySem.boot_len (nH (pv 1) nI)) nI)) (qk (i:=5) vc.nd rfl (by trivial)) (nJ (oq (i:=6) vc.nd rfl (by trivial) (pd AD (qL qH (pv 2) (pv 5) (λ_ _=>rfl)) (pd AE nQ (pd AD nQ (pd sV (pd uS (pv 3) (pd zj (pv 5) nQ)) nQ))))) (nJ (xy (uH hr) (pv 4) (qL qH (pv 1) (pv 5) (λ_ _=>rfl)) (pv 6) rfl) (nS (xy (uH hr) (pv 4) (Bg ya (qL qH (pv 1) (pv 5) (λ_ _=>rfl))) (Bg ya (pv 6)) rfl))))) (nS (oY (rV (N:=["_law_turn", "_law_new"]) (fr:=[4]) rfl rfl (by decide +kernel) rfl (by decide +kernel) rfl (sy.of (by decide +kernel) rfl rfl (by exact⟨rfl,trivial⟩) (by repeat (first|exact trivial|refine⟨(by first|exact λ_=>⟨_,rfl⟩|exact λh=>(by rcases h with h|h <;> cases h)),?_⟩)) (by exact⟨⟨rfl,rfl,rfl⟩,trivial⟩)) (qi (pv 0)) (λ_ _ _ _=>tF) (λ_ _ _ _=>(rV (N:=["_law_end", "_law_new"]) (fr:=[1]) rfl rfl (by decide +kernel) rfl (by decide +kernel) rfl (sy.of (by decide +kernel) rfl rfl (by exact⟨rfl,trivial⟩) (by repeat (first|exact trivial|refine⟨(by first|exact λ_=>⟨_,rfl⟩|exact λh=>(by rcases h with h|h <;> cases h)),?_⟩)) (by exact⟨⟨rfl,rfl,rfl⟩,trivial⟩)) (qi (pv 0)) (λ_ _ _ _=>tF) (λ_ _ _ _=>(yJ (uH hr) (pv 1) (pv 0) (by first|rfl|exact trivial|(intro _ _;rfl))))))))))),oA _ (K:=K) (nU (ox (i:=4) BF) (nU (GY (nT (qI qo (nT (nK 1) oj)) oj) (nU (ox (i:=6) (SR.kSc (nZ AQ (nZ zJ (nK 2) (nK 5)) (nZ Ay nR (nZ AQ nR (nZ sW (nZ xC (nK 3) (nZ zf (nK 5) nR)) nR)))))) (nU (xq (i:=4) (nV 6) (nZ zJ (nK 1) (nK 5))) (xq (i:=4) (SR.kSc (A8 yh (nK 6))) (A8 yh (nZ zJ (nK 1) (nK 5))))))) (oX (rg (nV 0) tx (rg (nV 0) tx (SR.kSc (yI (nK 1) (nK 0)))))))) h⟩⟩
abbrev wC:Stmt:=zg 36
theorem uk:oD ["_law_cells", "_law_names", "_law_kind", "_law_half", "_law_one", "_law_two", "_law_again", "_law_built_here"] ["_law_cells", "_law_names", "_law_kind"] (nY wC):=by trivial
theorem HS  (D:yx K mg "_law_built" wC ["_law_cells", "_law_names", "_law_kind"] f fd) (B:Bt mg)   (Az:Fn P w K mg base 1 "_law_turns" wJ ["_law_cells", "_law_names", "_law_wild"] (oO K K31.tK) fL_turns fdL_turns)  : Fn P w K mg base 2 "_law_built" wC ["_law_cells", "_law_names", "_law_kind"] (oO K K37.vd) f fd :=
 ⟨D,D.F.ok uk (λ_ _ _ _=>pO) λtQ A outer s H vs Q E hr h=>⟨_,(nJ (oq (i:=3) uk.nd rfl (by trivial) (pd uS (om oS (by rfl) B.len PySem.boot_len (nH (pv 0) nI)) nQ)) (nJ (oq (i:=4) uk.nd rfl (by trivial) (oP Az (hr.mono (by decide)) (nH (qZ sI (pv 0) ua (rH (pv 3))) (nH (qZ sI (pv 1) ua (rH nQ)) (nH (BG yf (pd sV (pv 2) nQ) nQ (qg _)) nI))))) (nJ (oq (i:=5) uk.nd rfl (by trivial) (oP Az (hr.mono (by decide)) (nH (qZ sI (pv 0) (rH (pv 3)) ua) (nH (qZ sI (pv 1) (rH nQ) (rH nQ)) (nH (BG yf (pd sV (pv 2) nQ) nQ (qg _)) nI))))) (nJ (oq (i:=6) uk.nd rfl (by trivial) (oP Az (hr.mono (by decide)) (nH (qZ sI (pv 0) ua (rH (pv 3))) (nH (qZ sI (pv 1) (rH nQ) ua) (nH (BG yf (pd sV (pv 2) nQ) nQ (qg _)) nI))))) (nJ (oq (i:=7) uk.nd rfl (by trivial) (qZ sI (rR (nH (pv 4) (nH (pv 5) (nH (pv 6) nI)))) ua (rH (pd zj nQ (pd sV (pd uS (pv 2) nQ) nQ))))) (nS (oY (pd HC (pv 7) (rV (cl:=[]) (N:=["_law_k"]) (fr:=[]) rfl rfl (by decide +kernel) rfl (by decide +kernel) rfl (sy.none (by decide +kernel)) (wY (by rfl) B.range (nH (pd sV (pd uS (pv 2) nQ) nQ) nI)) (λ_ _ _ _=>tF) (λ_ _ _ _=>(rR (nH (rR nI) nI)))))))))))),oA _ (K:=K) (nU (ox (i:=3) (SR.kSc (nZ xC (qI qo (nT (nK 0) oj)) nR))) (nU (ox (i:=4) (oh (nM (wQ (qC 0) tZ (rq (nK 3))) (nM (wQ (qC 1) tZ (rq nR)) (nM (SR.kSc (nZ xD (nZ sW (nK 2) nR) nR)) oa))))) (nU (ox (i:=5) (oh (nM (wQ (qC 0) (rq (nK 3)) tZ) (nM (wQ (qC 1) (rq nR) (rq nR)) (nM (SR.kSc (nZ xD (nZ sW (nK 2) nR) nR)) oa))))) (nU (ox (i:=6) (oh (nM (wQ (qC 0) tZ (rq (nK 3))) (nM (wQ (qC 1) (rq nR) tZ) (nM (SR.kSc (nZ xD (nZ sW (nK 2) nR) nR)) oa))))) (nU (ox (i:=7) (wQ (SL.q (SK.lOf (rP (nM (nV 4) (nM (nV 5) (nM (nV 6) oa)))))) tZ (rq (nZ zf nR (nZ sW (nZ xC (nK 2) nR) nR))))) (oX (Ih (AH 7) (SK.lOf (AB (nT (nZ sW (nZ xC (nK 2) nR) nR) oj) tx (rP (nM (rP oa) oa))))))))))) h⟩⟩
abbrev vz:Stmt:=zg 37
theorem xT:oD ["_law_built_here", "_law_turns_here", "_law_piece"] ["_law_built_here"] (nY vz):=by trivial
theorem GC  (D:yx K mg "_law_joined" vz ["_law_built_here"] f fd) (B:Bt mg)   (Cv:Fn P w K mg base 2 "_law_good" wX ["_law_turns_here"] (oO K Zl.pD) fL_good fdL_good)  : Fn P w K mg base 3 "_law_joined" vz ["_law_built_here"] (oO K K37.sq) f fd :=
 ⟨D,D.F.ok xT (λ_ _ _ _=>pO) λtQ A outer s H vs Q E hr h=>⟨_,(nJ (oq (i:=1) xT.nd rfl (by trivial) (rR nI)) (nJ (ue PassesOwn.never rfl (qi (pv 0)) (qk (i:=2) xT.nd rfl (by trivial)) (nS (qP (tM aq cz cA wA (pv 1) (nH (pv 2) nI))))) (nS (oY (oP Cv (hr.mono (by decide)) (nH (pv 1) nI)))))),oA _ (K:=K) (nU (ox (i:=1) (rP oa)) (nU (yr (nV 0) (CF (i:=1) (AH 2))) (oX (oh (nM (nV 1) oa))))) h⟩⟩
abbrev wD:Stmt:=zg 38
theorem IV:oD ["_law_row"] ["_law_row"] (nY wD):=by trivial
theorem Ja     (D:yx K mg "_law_first" wD ["_law_row"] f fd) (B:Bt mg)     : Fn P w K mg base 1 "_law_first" wD ["_law_row"] (oO K K37.vf) f fd :=
 ⟨D,D.F.ok IV (λ_ _ _ _=>pO) λtQ A outer s H vs Q E hr h=>⟨_,(nS (oY (qL uO (pv 0) nQ (λ_ _=>rfl)))),oA _ (K:=K) (oX (SI (nV 0) nR)) h⟩⟩
abbrev vx:Stmt:=zg 39
theorem uJ:oD ["_law_built_here", "_law_rows", "_law_piece", "_law_code", "_law_begun"] ["_law_built_here"] (nY vx):=by trivial
theorem Hn  (D:yx K mg "_law_starts" vx ["_law_built_here"] f fd) (B:Bt mg)   (G_least_code:Fn P w K mg base 5 "least_code" rF ["m"] (oO K K37.pM) fleast_code fdleast_code) (AR:Fn P w K mg base 1 "_law_first" wD ["_law_row"] (oO K K37.vf) fL_first fdL_first) (Cv:Fn P w K mg base 2 "_law_good" wX ["_law_turns_here"] (oO K Zl.pD) fL_good fdL_good) (Oh:Fn P w K mg base 1 "_law_copy" xO ["_law_m"] (oO K K51.yn) fL_copy fdL_copy) (CV:Fn P w K mg base 1 "_law_flat" wI ["_law_turns_here"] (oO K Zl.oV) fL_flat fdL_flat) (G_round_code:Fn P w K mg base 3 "round_code" rA ["m", "end"] (oO K K40.oE) fround_code fdround_code)  : Fn P w K mg base 8 "_law_starts" vx ["_law_built_here"] (oO K K37.rX) f fd :=
 ⟨D,D.F.ok uJ (λ_ _ _ _=>pO) λtQ A outer s H vs Q E hr h=>have hu:=hr.units;⟨_,(nJ (oq (i:=1) uJ.nd rfl (by trivial) (rR nI)) (nJ (ue PassesOwn.never rfl (qi (om (EC hu) (by rfl) B.sorted bF (nH (rV (cl:=[]) (N:=["_law_piece"]) (fr:=[]) rfl rfl (by decide +kernel) rfl (by decide +kernel) rfl (sy.none (by decide +kernel)) (qi (pv 0)) (λ_ _ _ _=>tF) (λ_ _ _ _=>(oP Cv (hr.mono (by decide)) (nH (pv 0) nI)))) nI))) (qk (i:=2) uJ.nd rfl (by trivial)) (nJ (oq (i:=3) uJ.nd rfl (by trivial) (oP G_least_code (hr.mono (by decide)) (nH (oP Oh (hr.mono (by decide)) (nH (pv 2) nI)) nI))) (nJ (Jz (i:=4) (N:=["_law_end", "_law_code", "_law_piece"]) (fr:=[3,2]) rfl uJ.nd rfl (by trivial) rfl (by decide +kernel) rfl (by decide +kernel) rfl (sy.of (by decide +kernel) rfl rfl (by exact⟨rfl,rfl,trivial⟩) (by repeat (first|exact trivial|refine⟨(by first|exact λ_=>⟨_,rfl⟩|exact λh=>(by rcases h with h|h <;> cases h)),?_⟩)) (by exact⟨⟨rfl,rfl,rfl⟩,⟨rfl,rfl,rfl⟩,trivial⟩)) (qi (om Ac (by rfl) B.sorted bF (nH (oP CV (hr.mono (by decide)) (nH (pv 2) nI)) nI))) (λ_ _ _ _=>Sy (pY (Nd hu) (oP G_round_code (hr.mono (by decide)) (nH (pv 2) (nH (pv 0) nI))) (pv 1) (qg _))) (λ_ _ _ _=>(pv 0))) (nS (qP (tM aq aO aQ qX (pv 1) (nH (Jk (nH (pv 3) (nH (qZ sI (pv 4) ua (rH nQ)) nI))) nI))))))) (nS (oY (Bp AR.ok (hr.mono (by decide)) (by rfl) B.sorted (by rfl) AR.D.m AR.D.b (λ_ _ _ _ h=>h) (nH (pv 1) nI)))))),oA _ (K:=K) (nU (ox (i:=1) (rP oa)) (nU (yr (OH (SL.q (SK.lOf (rg (nV 0) tx (oh (nM (nV 0) oa)))))) (nU (ox (i:=3) (oh (nM (oh (nM (nV 2) oa)) oa))) (nU (ox (i:=4) (rg (G5 (SL.q (SK.lOf (oh (nM (nV 2) oa))))) (qa (nZ MR (SK.rOf (oh (nM (nV 2) (nM (nV 0) oa)))) (nK 1))) (nV 0))) (zd (i:=1) (IY (nM (nV 3) (nM (wQ (qC 4) tZ (rq nR)) oa))))))) (oX (D0 (qC 1))))) h⟩⟩
abbrev yU:Stmt:=zg 40
theorem vR:oD ["_law_script", "_law_one", "_law_two", "_law_kind", "_law_names", "_law_others", "_law_built_here", "_law_built_too", "_law_found", "_law_row", "_law_row_too"] ["_law_script"] (nY yU):=by trivial
theorem S9  (D:yx K mg "law" yU ["_law_script"] f fd) (B:Bt mg)    (b_tuple:mg "tuple" = none)  (b_sum:mg "sum" = none) (Ag:Fn P w K mg base 1 "_law_cell" yp ["_law_script", "_law_k"] (oO K Zl.oN) fL_cell fdL_cell) (K6:Fn P w K mg base 2 "_law_built" wC ["_law_cells", "_law_names", "_law_kind"] (oO K K37.vd) fL_built fdL_built) (G_compared:Fn P w K mg base 10 "compared" vS ["m", "n"] (oO K K37.ui) fcompared fdcompared) (GD:Fn P w K mg base 1 "_law_name" ym ["_law_one", "_law_two", "_law_k"] (oO K K31.qD) fL_name fdL_name) (FY:Fn P w K mg base 1 "_law_renamed" uD ["_law_turns_here", "_law_names", "_law_others", "_law_bits"] (oO K K37.su) fL_renamed fdL_renamed) (CZ:Fn P w K mg base 3 "_law_joined" vz ["_law_built_here"] (oO K K37.sq) fL_joined fdL_joined) (Cs:Fn P w K mg base 8 "_law_starts" vx ["_law_built_here"] (oO K K37.rX) fL_starts fdL_starts) (CV:Fn P w K mg base 1 "_law_flat" wI ["_law_turns_here"] (oO K Zl.oV) fL_flat fdL_flat)  : Fn P w K mg base 11 "law" yU ["_law_script"] (oO K K37.Ou) f fd :=
 ⟨D,D.F.ok vR (λ_ _ _ _=>pO) λtQ A outer s H vs Q E hr h=>have hu:=hr.units;have hu65:=rQ.units65 hr;⟨_,(nJ (oq (i:=1) vR.nd rfl (by trivial) (oP Ag (hr.mono (by decide)) (nH (pv 0) (nH nQ nI)))) (nJ (oq (i:=2) vR.nd rfl (by trivial) (oP Ag (hr.mono (by decide)) (nH (pv 0) (nH nQ nI)))) (nJ (oq (i:=3) vR.nd rfl (by trivial) (oP Ag (hr.mono (by decide)) (nH (pv 0) (nH nQ nI)))) (nJ (oq (i:=4) vR.nd rfl (by trivial) (rV (N:=["_law_k", "_law_one", "_law_two"]) (fr:=[1,2]) rfl rfl (by decide +kernel) rfl (by decide +kernel) rfl (sy.of (by decide +kernel) rfl rfl (by exact⟨rfl,rfl,trivial⟩) (by repeat (first|exact trivial|refine⟨(by first|exact λ_=>⟨_,rfl⟩|exact λh=>(by rcases h with h|h <;> cases h)),?_⟩)) (by exact⟨⟨rfl,rfl,rfl⟩,⟨rfl,rfl,rfl⟩,trivial⟩)) (wY (by rfl) B.range (nH nQ nI)) (λ_ _ _ _=>tF) (λ_ _ _ _=>(oP GD (hr.mono (by decide)) (nH (pv 1) (nH (pv 2) (nH (pv 0) nI))))))) (nJ (oq (i:=5) vR.nd rfl (by trivial) (rV (N:=["_law_k", "_law_two", "_law_script"]) (fr:=[2,0]) rfl rfl (by decide +kernel) rfl (by decide +kernel) rfl (sy.of (by decide +kernel) rfl rfl (by exact⟨rfl,rfl,trivial⟩) (by repeat (first|exact trivial|refine⟨(by first|exact λ_=>⟨_,rfl⟩|exact λh=>(by rcases h with h|h <;> cases h)),?_⟩)) (by exact⟨⟨rfl,rfl,rfl⟩,⟨rfl,rfl,rfl⟩,trivial⟩)) (wY (by rfl) B.range (nH nQ nI)) (λ_ _ _ _=>tF) (λ_ _ _ _=>(oP GD (hr.mono (by decide)) (nH (pv 1) (nH (oP Ag (hr.mono (by decide)) (nH (pv 2) (nH nQ nI))) (nH (pv 0) nI))))))) (nJ (oq (i:=6) vR.nd rfl (by trivial) (oP K6 (hr.mono (by decide)) (nH (qZ sI (pv 0) (rH nQ) (rH nQ)) (nH (pv 4) (nH (pv 3) nI))))) (nJ (Jz (i:=7) (N:=["_law_piece", "_law_names", "_law_others", "_law_kind"]) (fr:=[4,5,3]) rfl vR.nd rfl (by trivial) rfl (by decide +kernel) rfl (by decide +kernel) rfl (sy.of (by decide +kernel) rfl rfl (by exact⟨rfl,rfl,rfl,trivial⟩) (by repeat (first|exact trivial|refine⟨(by first|exact λ_=>⟨_,rfl⟩|exact λh=>(by rcases h with h|h <;> cases h)),?_⟩)) (by exact⟨⟨rfl,rfl,rfl⟩,⟨rfl,rfl,rfl⟩,⟨rfl,rfl,rfl⟩,trivial⟩)) (qi (pv 6)) (λ_ _ _ _=>tF) (λ_ _ _ _=>(oP FY (hr.mono (by decide)) (nH (pv 0) (nH (pv 1) (nH (pv 2) (nH (pd uS (pv 3) nQ) nI))))))) (nJ (oq (i:=8) vR.nd rfl (by trivial) (oP G_compared (hr.mono (by decide)) (nH (oP CZ (hr.mono (by decide)) (nH (pv 6) nI)) (nH (oP CZ (hr.mono (by decide)) (nH (pv 7) nI)) nI)))) (nJ (tW (PW.pt (JO (L8 (Ig (om FV (by rfl) B.isi fh (nH (pv 8) (nH (JL (v:=.ty "tuple") (by rfl) b_tuple dY rfl) nI))))) (JO (pY FX (om oS (by rfl) B.len PySem.boot_len (nH (pv 8) nI)) nQ (qg _)) (JO (pY FX (qL uO (pv 8) nQ (λ_ _=>rfl)) NK (qg _)) (NZ (L8 (Ig (om FV (by rfl) B.isi fh (nH (qL uO (pv 8) nQ (λ_ _=>rfl)) (nH (JL (v:=.ty "list") (by rfl) B.list cO rfl) nI)))))))))) (nS (oY Bm)) qV) (nJ (ue PassesOwn.never rfl (NF (by rfl) B.zip (nH (oP Cs (hr.mono (by decide)) (nH (pv 6) nI)) (nH (oP Cs (hr.mono (by decide)) (nH (pv 7) nI)) nI))) (Ep rfl (uG (qk (i:=9) vR.nd rfl (by trivial)) (uG (qk (i:=10) vR.nd rfl (by trivial)) BE))) (nJ (tW (PW.pt (JO (pY (Tz hu) (qL uO (pv 9) nQ (λ_ _=>rfl)) (qL uO (pv 10) nQ (λ_ _=>rfl)) (qg _)) (NZ (pY FX (om oS (by rfl) B.len PySem.boot_len (nH (qL uO (pv 9) nQ (λ_ _=>rfl)) nI)) (om oS (by rfl) B.len PySem.boot_len (nH (qL uO (pv 10) nQ (λ_ _=>rfl)) nI)) (qg _))))) (nS (oY Bm)) qV) (nS (tW (PW.pt (Iw (pY yf (om oS (by rfl) B.len PySem.boot_len (nH (qL uO (pv 9) nQ (λ_ _=>rfl)) nI)) nQ (qg _)) (Fq (pY FX (tM aq fO PySem.F.type_list_count (Pz hu65) (qL uO (pv 8) nQ (λ_ _=>rfl)) (nH (Jk (nH (qL qH (qL uO (pv 9) nQ (λ_ _=>rfl)) nQ (λ_ _=>rfl)) (nH (qL qH (qL uO (pv 10) nQ (λ_ _=>rfl)) nQ (λ_ _=>rfl)) nI))) nI)) nQ (qg _))))) (nS (oY Bm)) qV)))) (nS (oY (BG yf (om oS (by rfl) B.len PySem.boot_len (nH (qL uO (pv 8) nQ (λ_ _=>rfl)) nI)) (om (LI rfl) (by rfl) b_sum ja (nH (rV (cl:=[]) (N:=["_law_piece"]) (fr:=[]) rfl rfl (by decide +kernel) rfl (by decide +kernel) rfl (sy.none (by decide +kernel)) (qi (pv 6)) (λ_ _ _ _=>tF) (λ_ _ _ _=>(om oS (by rfl) B.len PySem.boot_len (nH (oP CV (hr.mono (by decide)) (nH (pv 0) nI)) nI)))) nI)) (qg _)))))))))))))),oA _ (K:=K) (nU (ox (i:=1) (SR.kSc (xu (nT (nK 0) (nT nR oj))))) (nU (ox (i:=2) (SR.kSc (xu (nT (nK 0) (nT nR oj))))) (nU (ox (i:=3) (SR.kSc (xu (nT (nK 0) (nT nR oj))))) (nU (ox (i:=4) (AB (nT nR oj) tx (SR.kSc (xu (nT (nK 1) (nT (nK 2) (nT (nK 0) oj))))))) (nU (ox (i:=5) (AB (nT nR oj) tx (SR.kSc (xu (nT (nK 1) (nT (xu (nT (nK 2) (nT nR oj))) (nT (nK 0) oj))))))) (nU (ox (i:=6) (oh (nM (wQ (qC 0) (rq nR) (rq nR)) (nM (nV 4) (nM (nV 3) oa))))) (nU (ox (i:=7) (rg (nV 6) tx (oh (nM (nV 0) (nM (nV 1) (nM (nV 2) (nM (SR.kSc (nZ xC (nK 3) nR)) oa))))))) (nU (ox (i:=8) (oh (nM (oh (nM (nV 6) oa)) (nM (oh (nM (nV 7) oa)) oa)))) (nU (vv (Jq (Nw (Bc (qI Ni (nT (nK 8) (nT Rr oj))))) (Jq (qa (nZ Gm (qI qo (nT (nK 8) oj)) nR)) (Jq (qa (nZ Gm (nZ vD (nK 8) nR) NC)) (Nw (Bc (qI Ni (nT (nZ vD (nK 8) nR) (nT Rr oj)))))))) (oX (SR.kSc A6)) rE) (nU (J6 (oh (nM (nV 6) oa)) (oh (nM (nV 7) oa)) (nU (vv (Jq (qa (nZ Tq (nZ vD (nK 9) nR) (nZ vD (nK 10) nR))) (qa (nZ Gm (qI qo (nT (nZ vD (nK 9) nR) oj)) (qI qo (nT (nZ vD (nK 10) nR) oj))))) (oX (SR.kSc A6)) rE) (vv (HV (qa (nZ xD (qI qo (nT (nZ vD (nK 9) nR) oj)) nR)) (qa (nZ Gm (Ot (T := "list") Q8 (nZ vD (nK 8) nR) (nT (SK.rOf (IY (nM (SR.kSc (nZ zJ (nZ vD (nK 9) nR) nR)) (nM (SR.kSc (nZ zJ (nZ vD (nK 10) nR) nR)) oa)))) oj)) nR))) (oX (SR.kSc A6)) rE))) (oX (SR.kSc (nZ xD (qI qo (nT (nZ vD (nK 8) nR) oj)) (qI TM (nT (SK.rOf (rg (nV 6) tx (SR.kSc (qI qo (nT (SK.rOf (oh (nM (nV 0) oa))) oj))))) oj))))))))))))))) h⟩⟩
end
end K37
namespace K12
open PySem L2 Mr Z Xe Zl
abbrev aP(part:List (List Int)):AV:=.ow (part.map aI)
theorem Oz{α β:Type}(f:α->β) (l:List α) (i:Nat) (a:α):(l.map f).set i (f a)=(l.set i a).map f:=by rw[List.map_set]
structure Wd where
 P0:List (List (List Int))
 last:List (List Int)
 t0:List Nat
 h:Nat
 left:List Int
 used:Nat
abbrev cN(ks:List Nat):List Int:=ks.map λn:Nat=>(n:Int)
def st(v0 v1:Option AV) (w:Wd) (v6 v7 v8 v9:Option AV):AS:=[v0,v1,some (.ow ((w.P0++[w.last]).map aP)),some (aI (cN (w.t0++[w.h]))),some (aI w.left),some (.sh (.int (w.used:Int))),v6,v7,v8,v9]
section
variable {nm:List Int}{P0:List (List (List Int))}{last:List (List Int)}{t0:List Nat}{hd:Nat}{left r:List Int}{used:Nat}{c e:Int}{v0 v1 v8:Option AV}
theorem B3(r:List Int) (e:Int):(r.map λn=>AV.sh (.int n))++[.sh (.int e)]=(r++[e]).map λn=>.sh (.int n):=by rw[mBq];rfl
theorem Q1(l:List (List Int)) (e:Int):l.map aI++[.ow [.sh (.int e)]]=(l++[[e]]).map aI:=by rw[mBq];rfl
theorem RK(ks:List Nat) (n:Nat):(cN ks).map (λn=>AV.sh (.int n))++[.sh (.int (n:Int))]=(cN (ks++[n])).map λn=>.sh (.int n):=by unfold cN;rw[mBq,mBq];rfl
theorem Ob{α β:Type}(f:α->β):∀(l:List α) (i:Nat),(l.map f).eraseIdx i=(l.eraseIdx i).map f
 | [],i=>rfl
 |x::l,0=>rfl
 |x::l,i+1=>by rw[ar,cJ,cJ,Ob f l i,ar]
end
theorem zL{x r:List Int}(a:Int):∀{l:List (List Int)}{h:Nat},l[h]?=some r->(l.set h (r++x)).flatten.count a=l.flatten.count a+x.count a
 | [],_,h=>by simp at h
 |s::l,0,h=>by
  cases h;rw[dS,fCq,fCq,cAq,cAq,cAq];lia
 |s::l,h+1,e=>by
  rw[dU,fCq,fCq,cAq,cAq,zL a (by simpa using e)]
  lia
theorem DS(a:Int):∀{l:List Int}{j:Nat},j<l.length->(l.eraseIdx j).count a+[l.getD j 0].count a=l.count a
 | [],_,h=>by simp at h
 |x::l,0,_=>by
  rw[dZ,show x::l=[x]++l from rfl,cAq]
  show l.count a+[x].count a=_;lia
 |x::l,j+1,h=>by
  have ih:=DS a (l:=l) (j:=j) (by simpa using h)
  rw[cJ,show x::l.eraseIdx j=[x]++l.eraseIdx j from rfl,show (x::l).getD (j+1) 0=l.getD j 0 from rfl,show x::l=[x]++l from rfl,cAq,cAq]
  lia
theorem JK{l:List (List Int)}{h:Nat}{r:List Int}(e:l[h]?=some r):r.length<=l.flatten.length:=bL.length_le (au (mGq e))
def LY(st sh a b k:Int):Int:=st*((a*k+b) % 67+1)+sh
theorem Ks{st sh a b:Int}(h1:1<=st) (h2:1<=a) (h3:a<=66) {j k:Nat}(hj:j<67) (hk:k<67) (h:LY st sh a b j=LY st sh a b k):j=k:=by
 unfold LY at h;have e1:st*((a*j+b) % 67+1)=st*((a*k+b) % 67+1):=by lia
 have e2:=Int.eq_of_mul_eq_mul_left (by lia) e1
 have e3:((a*j+b)-(a*k+b)) % 67=0:=Int.emod_eq_emod_iff_emod_sub_eq_zero.mp (by lia)
 have e4:(a*((j:Int)-k)) % 67=0:=by
  rw[←e3];congr 1;rw[Int.mul_sub];lia
 obtain⟨tn,rfl⟩:∃tn:Nat,a=(tn:Int)+1:=⟨(a-1).toNat,by lia⟩
 rcases gY j k with q|q|q
 .exfalso;refine Mr.Jr ⟨tn,by lia⟩ ⟨k-j,by lia⟩ (by show 0<k-j;lia) ?_
  show (tn+1)*(k-j) % 67=0;have e5:(((tn:Int)+1)*((k:Int)-j)) % 67=0:=by
   have:((tn:Int)+1)*((k:Int)-j) = -(((tn:Int)+1)*((j:Int)-k)):=by
    rw[←iA];congr 1;lia
   rw[this];lia
  have e6:(((tn+1)*(k-j) % 67:Nat):Int)=0:=by
   rw[←e5];push_cast [bB q];rfl
  lia
 .exact q
 .exfalso;refine Mr.Jr ⟨tn,by lia⟩ ⟨j-k,by lia⟩ (by show 0<j-k;lia) ?_
  show (tn+1)*(j-k) % 67=0;have e6:(((tn+1)*(j-k) % 67:Nat):Int)=0:=by
   rw[←e4];push_cast [bB q];rfl
  lia
theorem CC:∀{l:List Int},l.Nodup->(∀x∈l,1<=x)->(l.flatMap λx=>[x, -x]).Nodup
 | [],_,_=>aN
 |x::l,hn,hp=>by
  have hn':=aC.mp hn;have px:=hp x (aj ..);rw[cG,nAq];refine⟨?_,CC hn'.2 λy hy=>hp y (mCo _ hy),λa ha b hb e=>?_⟩
  .rw [aC];refine⟨?_,by simp⟩
   rw[mSq];lia
  .subst e;obtain⟨y,hy,q⟩:=cw.mp hb;have py:=hp y (mCo _ hy);simp at ha q;have:y=x:=by lia
   exact hn'.1 (this ▸ hy)
end K12
namespace K51
open PySem L2 Mr Z Xe Zl
theorem QA{rs:List (List Int)}(hl:rs.length<=500000):yn [dM rs]=some (.ow (rs.map aI)):=by
 have key:=qq (te:=zD (sD 0)) (cap:=[]) (λd=>match d with|.list ds=>.ow (ds.map .sh)|_=>.sh .non) (ds:=rs.map dI) (by
  intro d hd;obtain⟨r,_,rfl⟩:=mMq.mp hd;refine⟨[some (.sh (dI r))],?_⟩
  simp_arith [dI])
 have h1:rs.length<=qU:=by show _<=16777216;lia
 have e:(rs.map dI).map (λd=>match d with|D.list ds=>AV.ow (ds.map .sh)|_=>.sh .non)=rs.map aI:=by
  rw[mPq];refine mCq λr _=>?_
  show AV.ow ((r.map D.int).map .sh)=aI r;rw[mPq];rfl
 rw[e]at key
 simp_arith [yn,DZ,dM,key,h1]
def kd(ks:List Nat):List (oJ×D):=ks.map λk:Nat=>((az (k:Int):oJ),D.bl true)
def wd(ws:List Nat):List AV:=ws.map λk:Nat=>AV.sh (.int (k:Int))
theorem kd_any(ks:List Nat) (t:Nat):(kd ks).any (λkv=>decide (kv.1=(az (t:Int):oJ)))=decide (t∈ks):=by
 induction ks with
 |nil=>simp[kd]
 |cons k ks ih =>
  unfold kd at ih ⊢;rw[ar,eG,ih]
  by_cases h:t=k
  .subst h;simp
  .have h':¬ (az (k:Int):oJ)=az (t:Int):=λq=>h (by have:=az.inj q;lia)
   simp[h',h]
theorem kd_get(ks:List Nat) (t:Nat):(getD (kd ks) (az (t:Int))).isSome=decide (t∈ks):=by
 unfold getD;rw[ee,←kd_any,bX,hX,fK]
theorem Mm{ks:List Nat}{t:Nat}(h:t∉ks):xN (kd ks) (az (t:Int)) (.bl true)=kd (ks++[t]):=by
 unfold xN;rw[kd_any,decide_eq_false h,oT (by simp)]
 simp[kd]
theorem HU{kvs:List (oJ×D)}{ks ws:List Nat}{e:Int}{t:Nat}{v0 v1 v5 v7:Option AV}(hg:getD kvs (az (-e))=some (.int (t:Int))) (hk:ks.length<500000) (hw:ws.length<500000) :
  sF [v0,v1,some (.owd kvs),some (.owd (kd ks)),some (.ow (wd ws)),v5,some (.sh (.int e)),v7]=some (.nx [v0,v1,some (.owd kvs),some (.owd (kd (if t∈ks then ks else ks++[t]))),some (.ow (wd (if t∈ks then ws else ws++[t]))),v5,some (.sh (.int e)),some (.sh (.int (t:Int)))]):=by
 have l1:(kd ks).length<qU:=by unfold kd;rw[lMq];show _<16777216;lia
 have l2:(wd ws).length<qU:=by unfold wd;rw[lMq];show _<16777216;lia
 have hg2:=kd_get ks t
 by_cases h:t∈ks
 .rw [decide_eq_true h]at hg2
  simp_arith [sF,hg,hg2,h]
 .rw [decide_eq_false h]at hg2;have hp:=Mm h;have hw2:wd ws++[.sh (.int (t:Int))]=wd (ws++[t]):=by simp[wd]
  simp_arith [sF,hg,hg2,h,hp,l1,l2,hw2]
def BC(pl:Int->Nat) (x:List Nat×List Nat) (e:Int):List Nat×List Nat:=if pl (-e)∈x.1 then x else (x.1++[pl (-e)],x.2++[pl (-e)])
theorem Kl(pl:Int->Nat):∀(r:List Int) (x:List Nat×List Nat),(r.foldl (BC pl) x).1.length<=x.1.length+r.length/\(r.foldl (BC pl) x).2.length<=x.2.length+r.length
 | [],x=>⟨ae _,ae _⟩
 |e::r,x=>by
  obtain⟨h1,h2⟩:=Kl pl r (BC pl x e);have h3:(BC pl x e).1.length<=x.1.length+1/\(BC pl x e).2.length<=x.2.length+1:=by
   unfold BC;split
   .exact ⟨aT _,aT _⟩
   .simp
  rw[bY,lCq];lia
theorem K5{kvs:List (oJ×D)}{ks ws:List Nat}{r:List Int}{pl:Int->Nat}{v0 v1 v5 v6 v7:Option AV}(hg:∀e∈r,getD kvs (az (-e))=some (.int (pl (-e):Int))) (hk:ks.length+r.length<500000) (hw:ws.length+r.length<500000) :
  ∃v6' v7',ux 6 sF (r.map D.int) [v0,v1,some (.owd kvs),some (.owd (kd ks)),some (.ow (wd ws)),v5,v6,v7]=some (.nx [v0,v1,some (.owd kvs),some (.owd (kd (r.foldl (BC pl) (ks,ws)).1)),some (.ow (wd (r.foldl (BC pl) (ks,ws)).2)),v5,v6',v7']):=by
 have key:=yV (x:=6) (body:=sF) (λi S=>∃v6' v7',S=[v0,v1,some (.owd kvs),some (.owd (kd ((r.take i).foldl (BC pl) (ks,ws)).1)),some (.ow (wd ((r.take i).foldl (BC pl) (ks,ws)).2)),v5,v6',v7']) (ds:=r.map D.int) (S:=[v0,v1,some (.owd kvs),some (.owd (kd ks)),some (.ow (wd ws)),v5,v6,v7])
  ⟨v6,v7,rfl⟩ (by
  rintro i d S hd ⟨v6',v7',rfl⟩;rw[gMq]at hd;obtain⟨e,he,rfl⟩:=oMq.mp hd;have hi:i<r.length:=(gSq.mp he).1;have hm:e∈r:=mGq he;obtain⟨n1,n2⟩:=Kl pl (r.take i) (ks,ws);rw[lTq]at n1 n2;have n1':((r.take i).foldl (BC pl) (ks,ws)).1.length<=ks.length+min i r.length:=n1;have n2':((r.take i).foldl (BC pl) (ks,ws)).2.length<=ws.length+min i r.length:=n2;have step:=HU (v0:=v0) (v1:=v1) (v5:=v5) (v7:=v7') (hg e hm) (ks:=((r.take i).foldl (BC pl) (ks,ws)).1) (ws:=((r.take i).foldl (BC pl) (ks,ws)).2) (by lia) (by lia)
  have et:(r.take (i+1)).foldl (BC pl) (ks,ws)=BC pl ((r.take i).foldl (BC pl) (ks,ws)) e:=by
   have:r[i]'hi=e:=by rw[gEg hi]at he;exact aM.inj he
   rw[de hi,fF,this];rfl
  refine⟨_,step,some (.sh (.int e)),some (.sh (.int (pl (-e):Int))),?_⟩;rw[et];unfold BC;split <;> rfl)
 obtain⟨S',e,v6',v7',rfl⟩:=key;rw[lMq,bA]at e;exact⟨v6',v7',e⟩
theorem Pa:∀(N:Nat) (l:List Nat),l.Nodup->(∀x∈l,x<N)->l.length<=N
 |0,l,_,h=>by
  cases l with
  |nil=>exact ae _
  |cons x l=>exact absurd (h x (aj ..)) (bT _)
 |N+1,l,hn,h=>by
  have h2:=Pa N (l.erase N) (hn.erase N) (λx hx=>by
   have:=(hn.mem_erase_iff).mp hx;have:=h x this.2;lia)
  rw[List.length_erase]at h2;split at h2 <;> lia
def plc(rs:List (List Int)) (e:Int):Nat:=rs.findIdx λr=>decide (e∈r)
theorem same_place{rs:List (List Int)}(hn:rs.flatten.Nodup) {i j:Nat}{r s:List Int}{e:Int}(hi:rs[i]?=some r) (hj:rs[j]?=some s) (h1:e∈r) (h2:e∈s):i=j:=by
 have a:=xr 0 hn hi h1;have b:=xr 0 hn hj h2;rw[a]at b;have:=D.int.inj (aM.inj b);lia
theorem plc_eq{rs:List (List Int)}(hn:rs.flatten.Nodup) {i:Nat}{r:List Int}{e:Int}(hi:rs[i]?=some r) (h1:e∈r):plc rs e=i:=by
 have hl:rs.findIdx (λr=>decide (e∈r))<rs.length:=eC ⟨r,mGq hi,decide_eq_true h1⟩
 have h2:=gu (xs:=rs) (p:=λr=>decide (e∈r)) (w:=hl)
 exact same_place hn (gEg hl) hi (of_decide_eq_true h2) h1
structure Mp (rs:List (List Int)):Prop where
 hn:rs.flatten.Nodup
 hl:rs.flatten.length<=63
 hr:rs.length<=63
 hneg:∀e∈rs.flatten, -e∈rs.flatten
theorem Mp.at{rs:List (List Int)}(h:Mp rs) {e:Int}(he:e∈rs.flatten):∃r,rs[plc rs e]?=some r/\e∈r:=by
 obtain⟨r,h1,h2⟩:=mFq.mp he;obtain⟨i,h3⟩:=aD.mp h1;exact⟨r,by rw[plc_eq h.hn h3 h2];exact h3,h2⟩
theorem Mp.other{rs:List (List Int)}(h:Mp rs) {k:Nat}{r:List Int}{e:Int}(hk:rs[k]?=some r) (he:e∈r):-e∈rs.flatten:=h.hneg e (mFq.mpr ⟨r,mGq hk,he⟩)
theorem Mp.kv{rs:List (List Int)}(h:Mp rs) {e:Int}(he:e∈rs.flatten):getD (qe 0 rs) (az e)=some (.int (plc rs e:Int)):=by
 obtain⟨r,h1,h2⟩:=h.at he;have:=xr 0 h.hn h1 h2
 rwa [aK]at this
theorem Mp.lt{rs:List (List Int)}(h:Mp rs) {e:Int}(he:e∈rs.flatten):plc rs e<rs.length:=by
 obtain⟨r,h1,_⟩:=h.at he;exact(gSq.mp h1).1
theorem Mp.row{rs:List (List Int)}(h:Mp rs) {k:Nat}{r:List Int}(hk:rs[k]?=some r):r.length<=1000:=by
 have:=bL.length_le (au (mGq hk));have:=h.hl;lia
inductive Ft (rs:List (List Int)) (s:Nat):Nat->Prop
 |base:Ft rs s s
 |step {k:Nat}{r:List Int}{e:Int}:Ft rs s k->rs[k]?=some r->e∈r->Ft rs s (plc rs (-e))
theorem BZ(pl:Int->Nat):∀(r:List Int) (ks ws:List Nat),∃a,r.foldl (BC pl) (ks,ws)=(ks++a,ws++a)/\(∀k∈a,∃e∈r,k=pl (-e))/\(∀e∈r,pl (-e)∈ks++a)/\(ks.Nodup->(ks++a).Nodup)
 | [],ks,ws=>⟨[],by simp,by simp,by simp,by simp⟩
 |e::r,ks,ws=>by
  rw[bY]
  by_cases h:pl (-e)∈ks
  .have e1:BC pl (ks,ws) e=(ks,ws):=by unfold BC;rw[oQ h]
   rw[e1];obtain⟨a,h1,h2,h3,h4⟩:=BZ pl r ks ws;refine⟨a,h1,λk hk=>?_,λx hx=>?_,h4⟩
   .obtain ⟨x,hx,q⟩:=h2 k hk;exact⟨x,mCo _ hx,q⟩
   .rcases ah.mp hx with rfl|hx
    .exact mAq.mpr (.inl h)
    .exact h3 x hx
  .have e1:BC pl (ks,ws) e=(ks++[pl (-e)],ws++[pl (-e)]):=by unfold BC;rw[oT h]
   rw[e1];obtain⟨a,h1,h2,h3,h4⟩:=BZ pl r (ks++[pl (-e)]) (ws++[pl (-e)]);refine⟨pl (-e)::a,by rw[h1,bH,bH];rfl,λk hk=>?_,λx hx=>?_,λhn=>?_⟩
   .rcases ah.mp hk with rfl|hk
    .exact ⟨e,aj ..,rfl⟩
    .obtain ⟨x,hx,q⟩:=h2 k hk;exact⟨x,mCo _ hx,q⟩
   .rcases ah.mp hx with rfl|hx
    .exact mAq.mpr (.inr (aj ..))
    .have:=h3 x hx
     rwa [bH]at this
   .have:=h4 (by
     rw[nAq];exact⟨hn,by simp,λx hx y hy q=>h (by rw[mSq.mp hy]at q;rw[←q];exact hx)⟩)
    rwa [bH]at this
structure Inv (rs:List (List Int)) (s:Nat) (ks ws:List Nat):Prop where
 nd:ks.Nodup
 lt:∀k∈ks,k<rs.length
 st:s∈ks
 rc:∀k∈ks,Ft rs s k
 sub:∀w∈ws,w∈ks
 cl:∀k∈ks,k∉ws->∀r e,rs[k]?=some r->e∈r->plc rs (-e)∈ks
 few:2*(rs.length-ks.length)+ws.length<=2*rs.length+1
theorem Inv.go{rs:List (List Int)}(hm:Mp rs) {s h:Nat}{ks ws:List Nat}{r:List Int}(hi:Inv rs s ks (ws++[h])) (hr:rs[h]?=some r):∃a,r.foldl (BC (plc rs)) (ks,ws)=(ks++a,ws++a)/\Inv rs s (ks++a) (ws++a)/\2*(rs.length-(ks++a).length)+(ws++a).length<2*(rs.length-ks.length)+(ws++[h]).length:=by
 obtain⟨a,h1,h2,h3,h4⟩:=BZ (plc rs) r ks ws;have hh:h∈ks:=hi.sub h (by simp)
 have nd:=h4 hi.nd;have lt:∀k∈ks++a,k<rs.length:=by
  intro k hk;rcases mAq.mp hk with q|q
  .exact hi.lt k q
  .obtain ⟨e,he,rfl⟩:=h2 k q;exact hm.lt (hm.other hr he)
 have pl:=Pa _ _ nd lt;have p0:=hi.few;rw[lAq]at pl;rw[lAq,lSq]at p0;have key:2*(rs.length-(ks++a).length)+(ws++a).length<2*(rs.length-ks.length)+(ws++[h]).length:=by
  rw[lAq,lAq,lAq,lSq];lia
 refine⟨a,h1,⟨nd,lt,mAq.mpr (.inl hi.st),λk hk=>?_,λw hw=>?_,λk hk hw=>?_,?_⟩,key⟩
 .rcases mAq.mp hk with q|q
  .exact hi.rc k q
  .obtain ⟨e,he,rfl⟩:=h2 k q;exact .step (hi.rc h hh) hr he
 .rcases mAq.mp hw with q|q
  .exact mAq.mpr (.inl (hi.sub w (mAq.mpr (.inl q))))
  .exact mAq.mpr (.inr q)
 .intro r' e hr' he;have k1:k∈ks:=(mAq.mp hk).resolve_right λq=>hw (mAq.mpr (.inr q))
  by_cases q:k=h
  .subst q;rw[hr]at hr';cases hr';exact h3 e he
  .exact mAq.mpr (.inl (hi.cl k k1 (λz=>by
    rcases mAq.mp z with z|z
    .exact hw (mAq.mpr (.inl z))
    .exact q (mSq.mp z)) r' e hr' he))
 .rw [lAq,lAq]at key ⊢;rw[lAq,lSq]at key;lia
def mu(N:Nat):AS->Nat
 | [_,_,_,some (.owd kv),some (.ow w),_,_,_]=>2*(N-kv.length)+w.length
 |_=>0
theorem ID{rs:List (List Int)}(hm:Mp rs) {s:Nat}(hs:s<rs.length):∃S',tG (uM (pN IJ (uP qu (nL (nN 4) og)) (rC (.int 0)))) uU 100000 [some (.sh (dM rs)),some (.sh (.int (s:Int))),some (.owd (qe 0 rs)),some (.owd (kd [s])),some (.ow (wd [s])),none,none,none]=some (.nx S') /\
  ∃ks v5 v6 v7,S'=[some (.sh (dM rs)),some (.sh (.int (s:Int))),some (.owd (qe 0 rs)),some (.owd (kd ks)),some (.ow (wd [])),v5,v6,v7]/\Inv rs s ks []:=by
 have h1000:=hm.hr;refine zM (c:=uM (pN IJ (uP qu (nL (nN 4) og)) (rC (.int 0)))) (body:=uU) (λS=>∃ks ws v5 v6 v7,S=[some (.sh (dM rs)),some (.sh (.int (s:Int))),some (.owd (qe 0 rs)),some (.owd (kd ks)),some (.ow (wd ws)),v5,v6,v7]/\Inv rs s ks ws) (mu rs.length) (λS'=>∃ks v5 v6 v7,S'=[some (.sh (dM rs)),some (.sh (.int (s:Int))),some (.owd (qe 0 rs)),some (.owd (kd ks)),some (.ow (wd [])),v5,v6,v7]/\Inv rs s ks []) ?_ 100000 _ ⟨[s],[s],none,none,none,rfl,?_⟩ ?_
 .rintro S ⟨ks,ws,v5,v6,v7,rfl,hi⟩;rcases dB ws with rfl|⟨ws,h,rfl⟩
  .refine ⟨false,_,?_,λq=>(nomatch q),λ_=>⟨ks,v5,v6,v7,rfl,hi⟩⟩
   simp_arith [wd]
   rfl
  .rw [dD]at hi ⊢;have hlt:h<rs.length:=hi.lt h (hi.sub h (by simp))
   have hr:rs[h]?=some rs[h]:=gEg hlt;obtain⟨a,e1,hi2,mlt⟩:=hi.go hm hr;have few:=hi.few;have kl:=Pa _ _ hi.nd hi.lt;have rl:=hm.row hr;rw[lAq,lSq]at few;obtain⟨v6',v7',e2⟩:=K5 (kvs:=qe 0 rs) (ks:=ks) (ws:=ws) (r:=rs[h]) (pl:=plc rs) (v0:=some (.sh (dM rs))) (v1:=some (.sh (.int (s:Int)))) (v5:=some (.sh (.int (h:Int)))) (v6:=v6) (v7:=v7) (λe he=>hm.kv (hm.other hr he)) (by lia) (by lia)
   rw[e1]at e2;have hw:wd (ws++[h])=wd ws++[.sh (.int (h:Int))]:=by simp[wd]
   have wl:(wd ws).length=ws.length:=by simp[wd]
   have c1:(0:Int)<((wd ws++[AV.sh (.int (h:Int))]).length:Int):=by
    rw[lAq,lSq];lia
   have p1:(wd ws++[AV.sh (.int (h:Int))])[(wd ws++[AV.sh (.int (h:Int))]).length-1]?=some (.sh (.int (h:Int))):=by
    rw[lAq,lSq,gYq (by lia)]
    simp
   have p2:(wd ws++[AV.sh (.int (h:Int))]).dropLast=wd ws:=cZ;have at1:atI (rs.map dI) (h:Int)=some (dI rs[h]):=xg (by rw[gMq,hr];rfl)
   refine⟨true,[some (.sh (dM rs)),some (.sh (.int (s:Int))),some (.owd (qe 0 rs)),some (.owd (kd ks)),some (.ow (wd ws++[.sh (.int (h:Int))])),v5,v6,v7],?_,λ_=>⟨[some (.sh (dM rs)),some (.sh (.int (s:Int))),some (.owd (qe 0 rs)),some (.owd (kd (ks++a))),some (.ow (wd (ws++a))),some (.sh (.int (h:Int))),v6',v7'],?_,⟨_,_,_,_,_,rfl,hi2⟩,?_⟩,λq=>(nomatch q)⟩
   .simp_arith [hw,c1]
   .simp_arith [uU,p1,p2,dM,at1,e2]
   .show 2*(rs.length-(kd (ks++a)).length)+(wd (ws++a)).length<2*(rs.length-(kd ks).length)+(wd (ws++[h])).length;unfold kd wd;rw[lMq,lMq,lMq,lMq];exact mlt
 .refine ⟨by simp,?_,by simp,?_,λw h=>h,?_,?_⟩
  .intro k hk;rw[mSq.mp hk];exact hs
  .intro k hk;rw[mSq.mp hk];exact .base
  .intro k hk hn;exact absurd hk hn
  .simp only [lSq];lia
 .show 2*(rs.length-(kd [s]).length)+(wd [s]).length<100000;simp only[kd,wd,lMq,lSq];lia
theorem IS{rs:List (List Int)}(hm:Mp rs) {s:Nat}(hs:s<rs.length):∃ks,Inv rs s ks []/\ve [dM rs,.int (s:Int)]=some (aI (qF (ks.map λk:Nat=>(k:Int)))):=by
 obtain⟨S',e,ks,v5,v6,v7,rfl,hi⟩:=ID hm hs;have hl:=hm.hl;have pa:=Ak hm.hn (by lia)
 have e1:[((az (s:Int):oJ),D.bl true)]=kd [s]:=rfl;have e2:[AV.sh (.int (s:Int))]=wd [s]:=rfl;have e3:yY (kd ks)=some (ks.map λk:Nat=>(k:Int)):=D7 (λk:Nat=>(k:Int)) (λ_=>D.bl true) ks
 have l1:(wd [s]).length<=qU:=by show 1<=16777216;decide
 have h64:(ks.length<64)=True:=eq_true (by have:=Pa _ _ hi.nd hi.lt;have:=hm.hr;lia)
 refine⟨ks,hi,?_⟩
 simp_arith [ve,B1,pa,e1,e2,e,e3,l1,h64]
theorem PM(ks:List Nat):∃ps:List Nat,ps.Perm ks/\ps.Pairwise (·<=·)/\qF (ks.map λk:Nat=>(k:Int))=ps.map λk:Nat=>(k:Int):=by
 have hp:=qY (ks.map λk:Nat=>(k:Int))
 have hs:=Bj (ks.map λk:Nat=>(k:Int))
 have hc:(qF (ks.map λk:Nat=>(k:Int)))=((qF (ks.map λk:Nat=>(k:Int))).map gj).map λk:Nat=>(k:Int):=by
  rw[mPq]
  conv=>lhs;rw[←bV (qF (ks.map λk:Nat=>(k:Int)))]
  refine mCq λz hz=>?_
  obtain⟨k,_,rfl⟩:=mMq.mp (hp.mem_iff.mp hz);rfl
 refine⟨(qF (ks.map λk:Nat=>(k:Int))).map gj,?_,?_,hc⟩
 .have:=hp.map gj;rw[mPq]at this;have e:ks.map (gj∘λk:Nat=>(k:Int))=ks:=by
   conv=>rhs;rw[←bV ks]
   refine mCq λk _=>?_
   show gj (k:Int)=k;exact cV k
  rwa [e]at this
 .rw [aJ];refine bJ.imp (λh=>?_) hs
  lia
structure Pc (rs:List (List Int)) (s:Nat) (ps:List Nat):Prop where
 nd:ps.Nodup
 so:ps.Pairwise (·<=·)
 lt:∀k∈ps,k<rs.length
 iff:∀k,k∈ps↔Ft rs s k
theorem CN{rs:List (List Int)}(hm:Mp rs) {s:Nat}(hs:s<rs.length):∃ps,Pc rs s ps/\ve [dM rs,.int (s:Int)]=some (aI (ps.map λk:Nat=>(k:Int))):=by
 obtain⟨ks,hi,e⟩:=IS hm hs;obtain⟨ps,h1,h2,h3⟩:=PM ks;rw[h3]at e;refine⟨ps,⟨h1.symm.nodup hi.nd,h2,λk hk=>hi.lt k (h1.mem_iff.mp hk),λk=>⟨λhk=>hi.rc k (h1.mem_iff.mp hk),λhk=>h1.mem_iff.mpr ?_⟩⟩,e⟩
 induction hk with
 |base=>exact hi.st
 |step _ a b c=>exact hi.cl _ c (bN) _ _ a b
def addN(kn:List Nat) (t:Nat):List Nat:=if t∈kn then kn else kn++[t]
theorem kd_put2(ks:List Nat) (t:Nat):xN (kd ks) (az (t:Int)) (.bl true)=kd (addN ks t):=by
 unfold addN
 by_cases h:t∈ks
 .rw [oQ h];unfold xN;rw[kd_any,decide_eq_true h,oQ rfl];unfold kd;rw[mPq];refine mCq λk _=>?_
  show (if _ then _ else _)=_
  split <;> rfl
 .rw [oT h];exact Mm h
theorem OO(kn:List Nat) (t:Nat):(addN kn t).length<=kn.length+1:=by
 unfold addN;split
 .lia
 .simp
theorem Ht:∀(ps kn:List Nat),(ps.foldl addN kn).length<=kn.length+ps.length
 | [],kn=>ae _
 |p::ps,kn=>by
  have h1:=Ht ps (addN kn p);have h2:=OO kn p;rw[bY,lCq];lia
theorem NO{kn:List Nat}{t k:Nat}:k∈addN kn t↔k∈kn∨k=t:=by
 unfold addN;split
 .rename_i h;exact⟨.inl,λq=>q.elim id λq=>q ▸ h⟩
 .simp
theorem rd:∀{ps kn:List Nat}{k:Nat},k∈ps.foldl addN kn↔k∈kn∨k∈ps
 | [],kn,k=>by simp
 |p::ps,kn,k=>by
  rw[bY,rd,NO,ah,or_assoc]
theorem Rf{kn:List Nat}{t:Nat}(h:kn.Nodup):(addN kn t).Nodup:=by
 unfold addN;split
 .exact h
 .rename_i q;rw[nAq];exact⟨h,by simp,λx hx y hy z=>q (by rw[mSq.mp hy]at z;rw[←z];exact hx)⟩
theorem Ey:∀{ps kn:List Nat},kn.Nodup->(ps.foldl addN kn).Nodup
 | [],kn,h=>h
 |p::ps,kn,h=>by
  rw[bY];exact Ey (Rf h)
theorem Dv{ps kn:List Nat}{v0 v2 v3 v4 v5:Option AV}(hk:kn.length+ps.length<500000):∃v5',ux 5 wc ((ps.map λk:Nat=>(k:Int)).map D.int) [v0,some (.owd (kd kn)),v2,v3,v4,v5]=some (.nx [v0,some (.owd (kd (ps.foldl addN kn))),v2,v3,v4,v5']):=by
 have key:=yV (x:=5) (body:=wc) (λi S=>∃v5',S=[v0,some (.owd (kd ((ps.take i).foldl addN kn))),v2,v3,v4,v5']) (ds:=(ps.map λk:Nat=>(k:Int)).map D.int) (S:=[v0,some (.owd (kd kn)),v2,v3,v4,v5]) ⟨v5,rfl⟩ (by
  rintro i d S hd ⟨v5',rfl⟩;rw[gMq,gMq]at hd;obtain⟨z,hz,rfl⟩:=oMq.mp hd;obtain⟨k,hk',rfl⟩:=oMq.mp hz;have hi:i<ps.length:=(gSq.mp hk').1;have n1:=Ht (ps.take i) kn;rw[lTq]at n1;have l1:(kd ((ps.take i).foldl addN kn)).length<qU:=by unfold kd;rw[lMq];show _<16777216;lia
  have et:(ps.take (i+1)).foldl addN kn=addN ((ps.take i).foldl addN kn) k:=by
   have:ps[i]'hi=k:=by rw[gEg hi]at hk';exact aM.inj hk'
   rw[de hi,fF,this];rfl
  have hp:=kd_put2 ((ps.take i).foldl addN kn) k;rw[←et]at hp;refine⟨_,?_,some (.sh (.int (k:Int))),rfl⟩
  simp_arith [wc,l1,hp])
 obtain⟨S',e,v5',rfl⟩:=key;rw[lMq,lMq,bA]at e;exact⟨v5',e⟩
theorem BW{rs:List (List Int)}{ps:List Nat}(h:∀k∈ps,k<rs.length):qh pV (zD (lOf (L5 (sD 1) (nN 0)))) [some (.sh (dM rs))] ((ps.map λk:Nat=>(k:Int)).map D.int)=some (ps.map λk=>aI (rs.getD k [])):=by
 have key:=qq (te:=zD (lOf (L5 (sD 1) (nN 0)))) (cap:=[some (.sh (dM rs))]) (λd=>match d with|.int k=>aI (rs.getD k.toNat [])|_=>.sh .non) (ds:=(ps.map λk:Nat=>(k:Int)).map D.int) (by
  intro d hd;rw[mPq]at hd;obtain⟨k,hk,rfl⟩:=mMq.mp hd;have at1:=VJ (h k hk);refine⟨[some (.sh (.int (k:Int))),some (.sh (dM rs))],?_⟩
  simp_arith [dM,at1,Function.comp,cV,dI,aI,mPq]
  rfl)
 rw[key,mPq,mPq];rfl
def pA(rs:List (List Int)) (ps:List Nat):AV:=.ow (ps.map λk=>aI (rs.getD k []))
theorem Ft.trans{rs:List (List Int)}{a b c:Nat}(h:Ft rs a b) (h2:Ft rs b c):Ft rs a c:=by
 induction h2 with
 |base=>exact h
 |step _ p q r=>exact .step r p q
theorem Ft.symm{rs:List (List Int)}(hm:Mp rs) {a b:Nat}(h:Ft rs a b):Ft rs b a:=by
 induction h with
 |base=>exact .base
 | @step k r e _ p q ih =>
  obtain⟨r',h1,h2⟩:=hm.at (hm.other p q);have:=Ft.step (s:=plc rs (-e)) .base h1 h2;rw[fx,plc_eq hm.hn p q]at this;exact this.trans ih
structure Ps (rs:List (List Int)) (i:Nat) (kn:List Nat) (PS:List (List Nat)):Prop where
 sub:∀ps∈PS,∀k∈ps,k∈kn
 dj:PS.Pairwise λa b=>∀k∈a,k∉b
 pc:∀ps∈PS,∃s,s<rs.length/\Pc rs s ps
 all:∀k,k<i->k∈kn
 mem:∀k,k∈kn->∃ps∈PS,k∈ps
 nd:kn.Nodup
 lt:∀k∈kn,k<rs.length
 len:PS.length<=i
theorem pieces_ok{rs:List (List Int)}(hm:Mp rs):∃kn PS,Ps rs rs.length kn PS/\qO [dM rs]=some (.ow (PS.map (pA rs))):=by
 have h1000:=hm.hr;have key:=yV (x:=3) (body:=rW) (λi S=>∃kn PS v3 v4 v5,S=[some (.sh (dM rs)),some (.owd (kd kn)),some (.ow (PS.map (pA rs))),v3,v4,v5]/\Ps rs i kn PS) (ds:=pS 0 rs.length) (S:=[some (.sh (dM rs)),some (.owd []),some (.ow []),none,none,none])
  ⟨[],[],none,none,none,rfl,⟨by simp,by simp,by simp,by simp,by simp,by simp,by simp,by simp⟩⟩ (by
  rintro i d S hd ⟨kn,PS,v3,v4,v5,rfl,hp⟩;have hi:i<rs.length:=by
   have:=(gSq.mp hd).1
   rwa [qB]at this
  rw[zh hi,gV]at hd;cases hd;have hg:=kd_get kn i
  by_cases c:i∈kn
  .rw [decide_eq_true c]at hg;refine⟨[some (.sh (dM rs)),some (.owd (kd kn)),some (.ow (PS.map (pA rs))),some (.sh (.int (i:Int))),v4,v5],?_,kn,PS,_,_,_,rfl,hp.sub,hp.dj,hp.pc,?_,hp.mem,hp.nd,hp.lt,?_⟩
   .simp_arith [rW,hg]
   .intro k hk;rcases dg.mp hk with q|rfl
    .exact hp.all k q
    .exact c
   .have:=hp.len;lia
  .rw [decide_eq_false c]at hg;obtain⟨ps,h1,e1⟩:=CN hm hi;have p1:=Pa _ _ hp.nd hp.lt;have p2:=Pa _ _ h1.nd h1.lt;have p3:=hp.len;have l2:ps.length<=qU:=by show _<=16777216;lia
   have l3:PS.length<qU:=by show _<16777216;lia
   obtain⟨v5',e2⟩:=Dv (ps:=ps) (kn:=kn) (v0:=some (.sh (dM rs))) (v2:=some (.ow (PS.map (pA rs)))) (v3:=some (.sh (.int (i:Int)))) (v4:=some (.sh (dI (ps.map λk:Nat=>(k:Int))))) (v5:=v5) (by lia)
   have e3:=BW h1.lt;refine⟨[some (.sh (dM rs)),some (.owd (kd (ps.foldl addN kn))),some (.ow ((PS++[ps]).map (pA rs))),some (.sh (.int (i:Int))),some (.sh (dI (ps.map λk:Nat=>(k:Int)))),v5'],?_,ps.foldl addN kn,PS++[ps],_,_,_,rfl,?_,?_,?_,?_,?_,Ey hp.nd,?_,?_⟩
   .simp_arith [rW,hg,e1,e2,e3,l2,l3,mBq,pA]
   .intro qs hq k hk;rcases mAq.mp hq with q|q
    .exact rd.mpr (.inl (hp.sub qs q k hk))
    .rw [mSq.mp q]at hk;exact rd.mpr (.inr hk)
   .rw [eV];refine⟨hp.dj,dt ..,λqs hq b hb k hk hk2=>c ?_⟩
    rw[mSq.mp hb]at hk2;obtain⟨s,hs,hc⟩:=hp.pc qs hq;exact hp.sub qs hq i ((hc.iff i).mpr (((hc.iff k).mp hk).trans (((h1.iff k).mp hk2).symm hm)))
   .intro qs hq;rcases mAq.mp hq with q|q
    .exact hp.pc qs q
    .rw [mSq.mp q];exact⟨i,hi,h1⟩
   .intro k hk;rcases dg.mp hk with q|rfl
    .exact rd.mpr (.inl (hp.all k q))
    .exact rd.mpr (.inr ((h1.iff k).mpr .base))
   .intro k hk;rcases rd.mp hk with q|q
    .obtain ⟨qs,a,b⟩:=hp.mem k q;exact⟨qs,mAq.mpr (.inl a),b⟩
    .exact ⟨ps,mAq.mpr (.inr (mSq.mpr rfl)),q⟩
   .intro k hk;rcases rd.mp hk with q|q
    .exact hp.lt k q
    .exact h1.lt k q
   .rw [lAq,lSq];lia)
 obtain⟨S',e,kn,PS,v3,v4,v5,rfl,hp⟩:=key;rw[qB]at hp;have r1:=zU (n:=rs.length) (by lia)
 refine⟨kn,PS,hp,?_⟩
 simp_arith [qO,AU,dM,r1,e]
end K51
namespace K12
open PySem L2 Mr Z Xe Zl
abbrev gm(p:List (List Int)):List (List Int):=yK (p.map uL)
theorem ql(p:List (List Int)):(gm p).Perm (p.map uL):=Am _
theorem Sz{P Q:List (List (List Int))}(hQ:Q.Perm (P.map gm)):Q.flatten.Perm (P.flatten.map uL):=by
 refine hQ.flatten.trans ?_
 clear hQ
 induction P with
 |nil=>exact .refl _
 |cons p P ih =>
  rw[ar,fCq,fCq,mBq];exact(ql p).append ih
theorem flat_nd:∀{PS:List (List Nat)},(∀ps∈PS,ps.Nodup)->(PS.Pairwise λa b=>∀k∈a,k∉b)->PS.flatten.Nodup
 | [],_,_=>aN
 |p::PS,h1,h2=>by
  obtain⟨h3,h4⟩:=cy.mp h2;rw[fCq,nAq];refine⟨h1 p (aj ..),flat_nd (λps hp=>h1 ps (mCo _ hp)) h4,λa ha b hb e=>?_⟩
  obtain⟨q,hq,hb'⟩:=mFq.mp hb;exact h3 q hq a ha (e ▸ hb')
theorem Gv{rs:List (List Int)}{kn:List Nat}{PS:List (List Nat)}(hp:K51.Ps rs rs.length kn PS):(PS.map λps=>ps.map λk=>rs.getD k []).flatten.Perm rs:=by
 have e1:(PS.map λps=>ps.map λk=>rs.getD k []).flatten=PS.flatten.map λk=>rs.getD k []:=by rw[←fL]
 rw[e1];have nd:PS.flatten.Nodup:=flat_nd (λps h=>by obtain⟨s,_,q⟩:=hp.pc ps h;exact q.nd) hp.dj
 have pm:PS.flatten.Perm (bQ rs.length):=(fy nd fM).mpr λk=>by
  rw[dh,mFq];constructor
  .rintro ⟨ps,h1,h2⟩;obtain⟨s,_,q⟩:=hp.pc ps h1;exact q.lt k h2
  .intro hk;exact hp.mem k (hp.all k hk)
 have e2:(bQ rs.length).map (λk=>rs.getD k [])=rs:=by
  refine dz λi=>?_
  rw[gMq]
  by_cases hi:i<rs.length
  .rw [gE hi,gEg hi,fV,gDq,gEg hi];rfl
  .rw [bz (by simpa using hi),bz (by lia)]
   rfl
 have:=pm.map (λk=>rs.getD k [])
 rwa [e2]at this
end K12
namespace K11
open PySem L2 Mr Z Xe Zl K12
def zk(p:List (List Int)):Prop:=∀k,0<k->k<p.length->∃j e,j<k/\e∈p.getD j []/\-e∈p.getD k []
structure Cn (p:List (List Int)):Prop where
 ne:p≠[]
 clo:∀z∈p.flatten, -z∈p.flatten
 tr:zk p
theorem Aj{l:List (List Int)}{h:Nat}{r x:List Int}(hr:l[h]?=some r) {k:Nat}{e:Int}(he:e∈l.getD k []):e∈(l.set h (r++x)).getD k []:=by
 rw[gDq]at he ⊢
 by_cases q:h=k
 .subst q;have hlt:=(gSq.mp hr).1;rw[aH hlt];rw[hr]at he;exact cB _ he
 .rw [aA q];exact he
theorem EY{l:List (List Int)}{h:Nat}{r x:List Int}(hr:l[h]?=some r) {e:Int}(he:e∈x):e∈(l.set h (r++x)).getD h []:=by
 have hlt:=(gSq.mp hr).1;rw[gDq,aH hlt];exact ay _ he
theorem zk.set{l:List (List Int)}{h:Nat}{r x:List Int}(t:zk l) (hr:l[h]?=some r):zk (l.set h (r++x)):=λk h0 hk=>by
 rw[lZq]at hk;obtain⟨j,e,h1,h2,h3⟩:=t k h0 hk;exact⟨j,e,h1,Aj hr h2,Aj hr h3⟩
theorem getD_app{l:List (List Int)}{x:List Int}{k:Nat}(h:k<l.length):(l++[x]).getD k []=l.getD k []:=by
 rw[gDq,gDq,gZq h]
theorem MY{l:List (List Int)}{x:List Int}:(l++[x]).getD l.length []=x:=by
 rw[gDq,gYq (ae _),dE];rfl
theorem zk.add{l:List (List Int)}{h:Nat}{e:Int}(t:zk l) (hh:h<l.length) (he:e∈l.getD h []):zk (l++[[-e]]):=λk h0 hk=>by
 rw[lAq,lSq]at hk
 by_cases q:k<l.length
 .obtain ⟨j,e',h1,h2,h3⟩:=t k h0 q;exact⟨j,e',h1,by rw[getD_app (by lia)];exact h2,by rw[getD_app q];exact h3⟩
 .have ek:k=l.length:=by lia
  subst ek;exact⟨h,e,hh,by rw[getD_app hh];exact he,by rw[MY];simp⟩
theorem NU(r:List Int):zk [r]:=λk h0 hk=>by
 rw[lSq]at hk;lia
end K11
namespace K31
open PySem L2 Mr Z Xe Zl K12
theorem Js(one two:Int):∃st sh a b:Int,1<=st/\st<=10 ^ 40/\0<=sh/\sh<10 ^ 40/\1<=a/\a<=66/\∀k:Nat,qD [.int one,.int two,.int (k:Int)]=some (.sh (.int (LY st sh a b k))):=by
 have a1:0<=two % 66:=aY _ (by decide)
 have a2:two % 66<66:=aR _ (by decide)
 have s1:0<=one / 3 % 10 ^ 40:=aY _ (by decide)
 have s2:one / 3 % 10 ^ 40<10 ^ 40:=aR _ (by decide)
 have s3:0<=two / 66 % 10 ^ 40:=aY _ (by decide)
 have s4:two / 66 % 10 ^ 40<10 ^ 40:=aR _ (by decide)
 have m3:=λi:Int=>tD (i:=i) (j:=3) (by decide)
 have m66:=λi:Int=>tD (i:=i) (j:=66) (by decide)
 have m67:=λi:Int=>tD (i:=i) (j:=67) (by decide)
 have m40:=λi:Int=>tD (i:=i) (j:=10 ^ 40) (by decide)
 have d3:=λi:Int=>wo (i:=i) (j:=3) (by decide) (by decide)
 have d66:=λi:Int=>wo (i:=i) (j:=66) (by decide) (by decide)
 have c1:=λk:Nat=>Jt (i:=1+two % 66) (j:=(k:Int)) (by lia) (by lia)
 by_cases h0:0<one % 3
 .refine ⟨1+one / 3 % 10 ^ 40,two / 66 % 10 ^ 40,1+two % 66,one,by lia,by lia,s3,s4,by lia,by lia,λk=>?_⟩
  have b1:0<=((1+two % 66)*(k:Int)+one) % 67:=aY _ (by decide)
  have b2:((1+two % 66)*(k:Int)+one) % 67<67:=aR _ (by decide)
  have c2:=FU (i:=1+one / 3 % 10 ^ 40) (j:=((1+two % 66)*(k:Int)+one) % 67+1) (by lia) (by lia)
  simp_arith [qD,AO,h0,m3,m66,m67,m40,d3,d66,c1,c2,W5,LY]
 .refine ⟨1,0,1+two % 66,one,by decide,by decide,by decide,by decide,by lia,by lia,λk=>?_⟩
  have b1:0<=((1+two % 66)*(k:Int)+one) % 67:=aY _ (by decide)
  have b2:((1+two % 66)*(k:Int)+one) % 67<67:=aR _ (by decide)
  have c2:=FU (i:=1) (j:=((1+two % 66)*(k:Int)+one) % 67+1) (by lia) (by lia)
  simp_arith [qD,AO,h0,m3,m66,m67,c1,c2,LY]
theorem A5{T:List (List Int)}{h:Nat}{r:List Int}(hr:T[h]?=some r):pU (.ow (T.map aI)) [h]=some (r.map λn=>.sh (.int n)):=by
 rw[FE,gMq,hr];rfl
theorem QY{T:List (List Int)}{h:Nat}{r r':List Int}(hr:T[h]?=some r):putAt (.ow (T.map aI)) [h] (r'.map λn=>.sh (.int n)) = .ow ((T.set h r').map aI):=by
 rw[Jf (a:=aI r) (by rw[gMq,hr];rfl)]
 show AV.ow ((T.map aI).set h (aI r'))=_;rw[Oz]
structure Wd where
 T:List (List Int)
 t0:List Nat
 h:Nat
 loose:List Int
 left:List Int
def De(wild:Bool) (c:Int) (loose:List Int):Nat:=if wild then (c / 8 % loose.length).toNat else loose.length-1
def sg(c x:Int):Int:=x*(1-2*(c / 4 % 2))
def wW(wild:Bool) (w:Wd) (c:Int):Wd :=
 let r:=w.T.getD w.h []
 if c % 4=1/\w.t0≠[] then { w with t0:=w.t0.dropLast,h:=w.t0.getLast?.getD 0 }
 else if c % 4=2/\w.loose≠[] then { w with T:=w.T.set w.h (r++[w.loose.getD (De wild c w.loose) 0]),loose:=w.loose.eraseIdx (De wild c w.loose) }
 else match w.left with
  | []=>w
  |x::left=>if c % 4=0 then { w with T:=w.T.set w.h (r++[sg c x])++[[-(sg c x)]],t0:=w.t0++[w.h],h:=w.T.length,left:=left }
   else { w with T:=w.T.set w.h (r++[sg c x]),loose:=w.loose++[-(sg c x)],left:=left }
def st(v0 v1:Option AV) (wild:Bool) (w:Wd) (v7 v8 v9 v10:Option AV):AS:=[v0,v1,some (.sh (.bl wild)),some (.ow (w.T.map aI)),some (aI (cN (w.t0++[w.h]))),some (aI w.loose),some (aI w.left),v7,v8,v9,v10]
section
variable {T:List (List Int)}{t0:List Nat}{hd:Nat}{loose left r:List Int}{c:Int}{wild:Bool}{v0 v1 v8 v9 v10:Option AV}
theorem NP:atI ((cN (t0++[hd])).map D.int) (((t0++[hd]).length:Int)-1)=some (.int (hd:Int)):=by
 have:((t0++[hd]).length:Int)-1=(t0.length:Int):=by rw[lAq,lSq];lia
 rw[this];refine xg ?_;unfold cN;rw[mBq,mBq,gYq (by simp)]
 simp
theorem CB(l:List Nat):(cN l).length=l.length:=lMq ..
def O8:List Nat->MS:=(GU 3 (uM (pN IJ (uP qu (nL (nN 6) og)) (rC (.int 0)))) (EE 3 (Dy 10 (QK CY (yA 6 (rC (.int 0))) (pN Bx (rC (.int 1)) (pN CY (rC (.int 2)) (pN uZ (pN yM (nN 7) (rC (.int 4))) (rC (.int 2))))))) (λpath=>oy ((Jx 3 (oi 10)) path) (Cj (uM (pN EB (pN uZ (nN 7) (rC (.int 4))) (rC (.int 0)))) (oy (Av 3 (vT (nO (kSc (Hz zx (nN 10))) oC))) (Av 4 (kSc (pN Bx (uP qu (nL (nN 3) og)) (rC (.int 1)))))) (Av 5 (kSc (Hz zx (nN 10))))))) (λ_=>sr))
def NX:List Nat->MS:=(GU 3 (Ck (uM (pN EB (pN uZ (nN 7) (rC (.int 4))) (rC (.int 1)))) (uM (pN IJ (uP qu (nL (nN 4) og)) (rC (.int 1))))) (λ_=>(E7 (CI 4))) (GU 3 (Ck (uM (pN EB (pN uZ (nN 7) (rC (.int 4))) (rC (.int 2)))) (uM (pN IJ (uP qu (nL (nN 5) og)) (rC (.int 0))))) (EE 3 (pI 9 (kSc (pN Bx (uP qu (nL (nN 5) og)) (rC (.int 1))))) (EE 3 (Cj (uM (nN 2)) (pI 9 (kSc (pN uZ (pN yM (nN 7) (rC (.int 8))) (uP qu (nL (nN 5) og))))) sr) (Er 3 (yA 5 (nN 9))))) O8))
theorem QD:rB=(Q4 8 3 (Vt 3 (Mx 3) (pN Hy (nN 4) (pN Bx (uP qu (nL (nN 4) og)) (rC (.int 1))))) NX):=rfl
theorem Mv(hr:T[hd]?=some r):rB (st v0 v1 wild ⟨T,t0,hd,loose,left⟩ (some (.sh (.int c))) v8 v9 v10)=NX [hd] (st v0 v1 wild ⟨T,t0,hd,loose,left⟩ (some (.sh (.int c))) none v9 v10):=by
 have hh:hd<T.length:=(gSq.mp hr).1;have n1:=A5 hr;have iL:Hb T.length (hd:Int)=some hd:=JJ hh;have sl:=oB (cN (t0++[hd]));have at4:=NP (t0:=t0) (hd:=hd);have cl:=CB (t0++[hd]);have q:((8:Nat)≠3/\8<11)=True:=by simp
 rw[QD]
 simp_arith [st,n1,iL,sl,dI,at4,cl,q]
theorem P2{t:List Nat}{h':Nat}(hr:T[hd]?=some r) (h1:c % 4=1):NX [hd] (st v0 v1 wild ⟨T,t++[h'],hd,loose,left⟩ (some (.sh (.int c))) v8 v9 v10)=some (.nx (st v0 v1 wild ⟨T,t,h',loose,left⟩ (some (.sh (.int c))) v8 v9 v10)):=by
 have m4:=tD (i:=c) (j:=4) (by decide)
 have n1:=A5 hr;have sl:=oB (cN (t++[h']++[hd]));have cl:=CB (t++[h']++[hd]);have k1:(1:Int)<((t++[h']++[hd]).length:Int):=by simp;lia
 have ec:(cN (t++[h']++[hd])).map (λn=>AV.sh (.int n))=(cN (t++[h'])).map (λn=>AV.sh (.int n))++[.sh (.int (hd:Int))]:=(RK (t++[h']) hd).symm
 have p1:((cN (t++[h'])).map (λn=>AV.sh (.int n))++[AV.sh (.int (hd:Int))])[((cN (t++[h'])).map (λn=>AV.sh (.int n))++[AV.sh (.int (hd:Int))]).length-1]?=some (.sh (.int (hd:Int))):=by
  rw[lAq,lSq,gYq (by lia)]
  simp
 have p2:((cN (t++[h'])).map (λn=>AV.sh (.int n))++[AV.sh (.int (hd:Int))]).dropLast=(cN (t++[h'])).map (λn=>AV.sh (.int n)):=cZ
 simp_arith [NX,st,m4,h1,n1,sl,dI,cl,k1,eq_self,ec,p1,p2]
theorem Rh(hr:T[hd]?=some r) (hrl:r.length<500000) (hll:loose.length<500000) (h1:¬ c % 4=1) (h2:c % 4=2) (hne:loose≠[]):NX [hd] (st v0 v1 wild ⟨T,t0,hd,loose,left⟩ (some (.sh (.int c))) v8 v9 v10)=some (.nx (st v0 v1 wild ⟨T.set hd (r++[loose.getD (De wild c loose) 0]),t0,hd,loose.eraseIdx (De wild c loose),left⟩ (some (.sh (.int c))) v8 (some (.sh (.int (De wild c loose:Nat)))) v10)):=by
 have m4:=tD (i:=c) (j:=4) (by decide)
 have d8:=wo (i:=c) (j:=8) (by decide) (by decide)
 have hpos:0<loose.length:=bZ.mpr hne;have ml:=tD (i:=c / 8) (j:=(loose.length:Int)) (by lia)
 have n1:=A5 hr;have l1:r.length<qU:=by show _<16777216;lia
 have sl:=oB loose;have k0:(0:Int)<(loose.length:Int):=by lia
 have hlt:De wild c loose<loose.length:=by
  unfold De;have b0:0<=c / 8 % (loose.length:Int):=aY _ (by lia)
  have b1:c / 8 % (loose.length:Int)<(loose.length:Int):=aR _ (by lia)
  split <;> lia
 have ll:loose.length<=qU:=by show _<=16777216;lia
 have g1:(loose.map λn=>AV.sh (.int n))[De wild c loose]?=some (.sh (.int (loose.getD (De wild c loose) 0))):=by
  rw[gMq,gEg hlt,gDq,gEg hlt];rfl
 have g2:(loose.map λn=>AV.sh (.int n)).eraseIdx (De wild c loose)=(loose.eraseIdx (De wild c loose)).map λn=>.sh (.int n):=Ob _ _ _
 have p2:=QY (r':=r++[loose.getD (De wild c loose) 0]) hr;have a1:=B3 r (loose.getD (De wild c loose) 0);have q:(0<=((De wild c loose:Nat):Int)/\((De wild c loose:Nat):Int)<(loose.length:Int)/\loose.length<=qU)=True:=by simp[ll,hlt]
 have tn:((De wild c loose:Nat):Int).toNat=De wild c loose:=cV _;have h21:¬ (2:Int)=1:=by decide
 cases wild with
 |true =>
  have ea:c / 8 % (loose.length:Int)=((De true c loose:Nat):Int):=by
   have b0:0<=c / 8 % (loose.length:Int):=aY _ (by lia)
   show _=(((c / 8 % (loose.length:Int)).toNat:Nat):Int);lia
  simp_arith [NX,st,m4,h2,h21,n1,sl,dI,k0,eq_self,d8,ml,ea,q,tn,g1,g2,l1,a1,p2,true_and]
 |false =>
  have ea:(loose.length:Int)-1=((De false c loose:Nat):Int):=by
   show _=((loose.length-1:Nat):Int);lia
  simp_arith [NX,st,m4,h2,h21,n1,sl,dI,k0,eq_self,ea,q,tn,g1,g2,l1,a1,p2,true_and]
theorem Os(hr:T[hd]?=some r) (h1:¬ (c % 4=1/\t0≠[])) (h2:¬ (c % 4=2/\loose≠[])):NX [hd] (st v0 v1 wild ⟨T,t0,hd,loose,left⟩ (some (.sh (.int c))) v8 v9 v10)=O8 [hd] (st v0 v1 wild ⟨T,t0,hd,loose,left⟩ (some (.sh (.int c))) v8 v9 v10):=by
 have m4:=tD (i:=c) (j:=4) (by decide)
 have n1:=A5 hr;have sl:=oB loose;have sw:=oB (cN (t0++[hd]));have cl:=CB (t0++[hd]);have q1:c % 4=1->decide ((1:Int)<((t0++[hd]).length:Int))=false:=λh=>by
  by_cases hn:t0=[]
  .subst hn;simp
  .exact absurd ⟨h,hn⟩ h1
 have q2:c % 4=2->decide ((0:Int)<(loose.length:Int))=false:=λh=>by
  by_cases hn:loose=[]
  .subst hn;simp
  .exact absurd ⟨h,hn⟩ h2
 have h21:¬ (2:Int)=1:=by decide
 have h12:¬ (1:Int)=2:=by decide
 by_cases e1:c % 4=1
 .have q1':=q1 e1
  simp_arith [NX,O8,st,m4,e1,h12,n1,sl,sw,cl,dI,q1',eq_self]
 .by_cases e2:c % 4=2
  .have q2':=q2 e2
   simp_arith [NX,O8,st,m4,e2,h21,n1,sl,sw,cl,dI,q2',eq_self]
  .simp_arith [NX,O8,st,m4,e1,e2,n1,sl,sw,cl,dI,eq_self]
theorem PB(hr:T[hd]?=some r):O8 [hd] (st v0 v1 wild ⟨T,t0,hd,loose,[]⟩ (some (.sh (.int c))) v8 v9 v10)=some (.nx (st v0 v1 wild ⟨T,t0,hd,loose,[]⟩ (some (.sh (.int c))) v8 v9 v10)):=by
 have n1:=A5 hr;have k0:decide ((0:Int)<((0:Nat):Int))=false:=by decide
 have sl:=oB []
 simp_arith [O8,st,n1,sl,dI,k0]
theorem Tw{x:Int}(hr:T[hd]?=some r) (hrl:r.length<500000) (hTl:T.length<500000) (htl:t0.length<500000) (hll:left.length<500000) (h0:c % 4=0):O8 [hd] (st v0 v1 wild ⟨T,t0,hd,loose,x::left⟩ (some (.sh (.int c))) v8 v9 v10)=some (.nx (st v0 v1 wild ⟨T.set hd (r++[sg c x])++[[-(sg c x)]],t0++[hd],T.length,loose,left⟩ (some (.sh (.int c))) v8 v9 (some (.sh (.int (sg c x)))))):=by
 have m4:=tD (i:=c) (j:=4) (by decide)
 have d4:=wo (i:=c) (j:=4) (by decide) (by decide)
 have m2:=tD (i:=c / 4) (j:=2) (by decide)
 have b0:0<=c / 4 % 2:=aY _ (by decide)
 have b1:c / 4 % 2<2:=aR _ (by decide)
 have c1:=Jt (i:=2) (j:=c / 4 % 2) (by lia) (by lia)
 have c2:=FU (i:=x) (j:=1-2*(c / 4 % 2)) (by lia) (by lia)
 have n1:=A5 hr;have sl:=oB (x::left);have k0:(0:Int)<((x::left).length:Int):=by rw[lCq];lia
 have k00:(0:Int)<((left.length+1:Nat):Int):=by lia
 have l1:r.length<qU:=by show _<16777216;lia
 have q:(0:Int)<=0:=gf _;have lL:left.length+1<=qU:=by show _<=16777216;lia
 have t0':(0:Int).toNat=0:=rfl;have es:x*(1-2*(c / 4 % 2))=sg c x:=rfl;have a1:=B3 r (sg c x);have p2:=QY (r':=r++[sg c x]) hr;have lT:(T.set hd (r++[sg c x])).length=T.length:=lZq;have l2:T.length<qU:=by show _<16777216;lia
 have a3:=Q1 (T.set hd (r++[sg c x])) (-(sg c x));have lenT:((T.set hd (r++[sg c x])++[[-(sg c x)]]).length:Int)-1=(T.length:Int):=by rw[lAq,lT,lSq];lia
 have lw:(t0++[hd]).length<qU:=by rw[lAq,lSq];show t0.length+1<16777216;lia
 have a2:=RK (t0++[hd]) T.length;have cl:=CB (t0++[hd])
 simp_arith [O8,st,m4,h0,d4,m2,c1,c2,n1,sl,dI,k0,k00,q,lL,true_and,t0',es,eq_self,l1,a1,p2,lT,l2,a3,lenT,cl,lw,a2,dZ]
theorem Mf{x:Int}(hr:T[hd]?=some r) (hrl:r.length<500000) (hll:loose.length<500000) (hfl:left.length<500000) (h0:¬ c % 4=0):O8 [hd] (st v0 v1 wild ⟨T,t0,hd,loose,x::left⟩ (some (.sh (.int c))) v8 v9 v10)=some (.nx (st v0 v1 wild ⟨T.set hd (r++[sg c x]),t0,hd,loose++[-(sg c x)],left⟩ (some (.sh (.int c))) v8 v9 (some (.sh (.int (sg c x)))))):=by
 have m4:=tD (i:=c) (j:=4) (by decide)
 have d4:=wo (i:=c) (j:=4) (by decide) (by decide)
 have m2:=tD (i:=c / 4) (j:=2) (by decide)
 have b0:0<=c / 4 % 2:=aY _ (by decide)
 have b1:c / 4 % 2<2:=aR _ (by decide)
 have c1:=Jt (i:=2) (j:=c / 4 % 2) (by lia) (by lia)
 have c2:=FU (i:=x) (j:=1-2*(c / 4 % 2)) (by lia) (by lia)
 have n1:=A5 hr;have sl:=oB (x::left);have k0:(0:Int)<((x::left).length:Int):=by rw[lCq];lia
 have k00:(0:Int)<((left.length+1:Nat):Int):=by lia
 have l1:r.length<qU:=by show _<16777216;lia
 have q:(0:Int)<=0:=gf _;have lL:left.length+1<=qU:=by show _<=16777216;lia
 have t0':(0:Int).toNat=0:=rfl;have es:x*(1-2*(c / 4 % 2))=sg c x:=rfl;have a1:=B3 r (sg c x);have p2:=QY (r':=r++[sg c x]) hr;have l2:loose.length<qU:=by show _<16777216;lia
 have a2:=B3 loose (-(sg c x))
 simp_arith [O8,st,m4,h0,d4,m2,c1,c2,n1,sl,dI,k0,k00,q,lL,true_and,t0',es,eq_self,l1,a1,p2,l2,a2,dZ]
end
def vp(l:List Int):List Int:=l.flatMap λx=>[x, -x]
theorem Cp(x:Int) (l:List Int) (a:Int):(vp (x::l)).count a=[x, -x].count a+(vp l).count a:=by
 unfold vp;rw[cG,cAq]
theorem E6:∀l:List Int,(vp l).length=2*l.length
 | []=>rfl
 |x::l=>by
  unfold vp;have:=E6 l;unfold vp at this;rw[cG,lAq,this];show 2+2*l.length=2*(l.length+1);lia
theorem Pr{l:List Int}{z:Int}:z∈vp l↔∃x∈l,z=x∨z = -x:=by
 unfold vp;rw[cw];simp
theorem Mi(a c x:Int):[sg c x].count a+[-(sg c x)].count a=[x, -x].count a:=by
 have b0:0<=c / 4 % 2:=aY _ (by decide)
 have b1:c / 4 % 2<2:=aR _ (by decide)
 rw[show [x, -x]=[x]++[-x] from rfl,cAq]
 unfold sg;have h:c / 4 % 2=0∨c / 4 % 2=1:=by lia
 rcases h with h|h
 .rw [h,show (1:Int)-2*0=1 from rfl,eD]
 .rw [h,show (1:Int)-2*1 = -1 from rfl,iA,eD,fx]
  lia
structure Q5 (nm:List Int) (w:Wd) (n:Nat):Prop where
 hh:w.h<w.T.length
 ht:∀k∈w.t0,k<w.T.length
 lw:w.t0.length<=n
 lT:w.T.length<=n+1
 lf:w.left.length<=nm.length
 cnt:∀a,w.T.flatten.count a+w.loose.count a+(vp w.left).count a=(vp nm).count a
 tr:K11.zk w.T
theorem Q5.len{nm:List Int}{w:Wd}{n:Nat}(h:Q5 nm w n):w.T.flatten.length+w.loose.length+(vp w.left).length=2*nm.length:=by
 have:(w.T.flatten++w.loose++vp w.left).Perm (vp nm):=by
  rw[dQ];intro a;rw[cAq,cAq];exact h.cnt a
 have:=this.length_eq;rw[lAq,lAq,E6 nm]at this;exact this
theorem Q5.step{nm:List Int}{w:Wd}{n:Nat}{wild:Bool}(h:Q5 nm w n) (c:Int):Q5 nm (wW wild w c) (n+1):=by
 obtain⟨T,t0,hd,loose,left⟩:=w;obtain⟨hh,ht,lw,lT,lf,cnt,tr⟩:=h;simp only at hh ht lw lT lf cnt tr;have hr:T[hd]?=some (T.getD hd []):=by rw[gDq,gEg hh];rfl
 unfold wW;simp only;split
 .rename_i q;rcases dB t0 with z|⟨t,h',z⟩
  .exact absurd z q.2
  .subst z;rw[dD]at ht lw ⊢;rw[cZ,gv];simp only[fU,iN,bo];rw[lAq,lSq]at lw;exact⟨ht _ (by simp),λk hk=>ht k (by simp[hk]),(by simp only;lia),(by simp only;lia),lf,cnt,tr⟩
 .split
  .rename_i q;have hpos:0<loose.length:=bZ.mpr q.2;have hlt:De wild c loose<loose.length:=by
    unfold De;have b0:0<=c / 8 % (loose.length:Int):=aY _ (by lia)
    have b1:c / 8 % (loose.length:Int)<(loose.length:Int):=aR _ (by lia)
    split <;> lia
   refine⟨?_,?_,?_,?_,lf,λa=>?_,?_⟩
   .simp only [lZq];exact hh
   .simp only [lZq];exact ht
   .simp only;lia
   .simp only [lZq];lia
   .simp only;rw[zL a hr,←cnt a,←DS a hlt];lia
   .exact tr.set hr
  .cases left with
   |nil=>exact⟨hh,ht,(by simp only;lia),(by simp only;lia),lf,cnt,tr⟩
   |cons x left =>
    simp only;rw[lCq]at lf;have cx:=λa=>Cp x left a
    split
    .refine ⟨?_,?_,?_,?_,(by simp only;lia),λa=>?_,?_⟩
     .simp only [lAq,lZq,lSq];lia
     .intro k hk;simp only[lAq,lZq,lSq]at hk ⊢;rcases mAq.mp hk with hk|hk
      .have:=ht k hk;lia
      .rw [mSq.mp hk];lia
     .simp only [lAq,lSq];lia
     .simp only [lAq,lZq,lSq];lia
     .simp only;rw[fAq,aX,cAq,zL a hr];have:=cnt a;rw[cx a,←Mi a c x]at this;lia
     .exact (tr.set hr).add (by rw[lZq];exact hh) (K11.EY hr (by simp))
    .refine ⟨?_,?_,?_,?_,(by simp only;lia),λa=>?_,?_⟩
     .simp only [lZq];exact hh
     .simp only [lZq];exact ht
     .simp only;lia
     .simp only [lZq];lia
     .simp only;rw[zL a hr,cAq];have:=cnt a;rw[cx a,←Mi a c x]at this;lia
     .exact tr.set hr
theorem KJ{nm:List Int}{w:Wd}{n:Nat}{wild:Bool}{c:Int}{v0 v1 v8 v9 v10:Option AV}(h:Q5 nm w n) (hn:n<1000) (hm:nm.length<=1000):∃v8' v9' v10',rB (st v0 v1 wild w (some (.sh (.int c))) v8 v9 v10)=some (.nx (st v0 v1 wild (wW wild w c) (some (.sh (.int c))) v8' v9' v10')):=by
 have hlen:=h.len;obtain⟨T,t0,hd,loose,left⟩:=w;obtain⟨hh,ht,lw,lT,lf,cnt,tr⟩:=h;simp only at hh ht lw lT lf cnt tr hlen;have hr:T[hd]?=some (T.getD hd []):=by rw[gDq,gEg hh];rfl
 have hrl:=JK hr;rw[Mv hr];unfold wW;simp only
 by_cases q1:c % 4=1/\t0≠[]
 .rw [oQ q1];rcases dB t0 with z|⟨t,h',z⟩
  .exact absurd z q1.2
  .subst z;rw[dD,cZ,gv];simp only[fU,iN,bo];exact⟨_,_,_,P2 hr q1.1⟩
 .rw [oT q1]
  by_cases q2:c % 4=2/\loose≠[]
  .rw [oQ q2];exact⟨_,_,_,Rh hr (by lia) (by lia) (by have:=q2.1;lia) q2.1 q2.2⟩
  .rw [oT q2,Os hr q1 q2];cases left with
   |nil=>exact⟨_,_,_,PB hr⟩
   |cons x left =>
    simp only;rw[lCq]at lf
    by_cases q0:c % 4=0
    .rw [oQ q0];exact⟨_,_,_,Tw hr (by lia) (by lia) (by lia) (by lia) q0⟩
    .rw [oT q0];exact⟨_,_,_,Mf hr (by lia) (by lia) (by lia) q0⟩
def w0(nm:List Int):Wd:=⟨[[]],[],0,[],nm⟩
theorem RJ(nm:List Int):Q5 nm (w0 nm) 0:=⟨by simp[w0],(λk h=>by cases h),ae _,ae _,ae _,(λa=>by simp[w0]),K11.NU _⟩
theorem Cb{nm:List Int}{wild:Bool}:∀(cs:List Int) {w:Wd}{n:Nat},Q5 nm w n->Q5 nm (cs.foldl (wW wild) w) (n+cs.length)
 | [],w,n,h=>h
 |c::cs,w,n,h=>by
  have:=Cb (wild:=wild) cs (h.step (wild:=wild) c);rw[bY,lCq,show n+(cs.length+1)=n+1+cs.length by lia]
  exact this
theorem Jl{nm cs:List Int}{wild:Bool}{v7 v8 v9 v10:Option AV}(hc:cs.length<=63) (hn:nm.length<=1000):∃v7' v8' v9' v10',ux 7 rB (cs.map D.int) (st (some (.sh (dI cs))) (some (.sh (dI nm))) wild (w0 nm) v7 v8 v9 v10)=some (.nx (st (some (.sh (dI cs))) (some (.sh (dI nm))) wild (cs.foldl (wW wild) (w0 nm)) v7' v8' v9' v10')):=by
 have key:=yV (x:=7) (body:=rB) (λi S=>∃v7 v8 v9 v10,S=st (some (.sh (dI cs))) (some (.sh (dI nm))) wild ((cs.take i).foldl (wW wild) (w0 nm)) v7 v8 v9 v10) (ds:=cs.map D.int) (S:=st (some (.sh (dI cs))) (some (.sh (dI nm))) wild (w0 nm) v7 v8 v9 v10) ⟨v7,v8,v9,v10,rfl⟩ (by
  rintro i d S hd ⟨v7,v8,v9,v10,rfl⟩;rw[gMq]at hd;obtain⟨c,hc',rfl⟩:=oMq.mp hd;have hi:i<cs.length:=(gSq.mp hc').1;have ok:=Cb (nm:=nm) (wild:=wild) (cs.take i) (RJ nm);rw[lTq]at ok;obtain⟨v8',v9',v10',e⟩:=KJ (wild:=wild) (c:=c) (v0:=some (.sh (dI cs))) (v1:=some (.sh (dI nm))) (v8:=v8) (v9:=v9) (v10:=v10) ok (by lia) hn
  refine⟨_,e,some (.sh (.int c)),v8',v9',v10',?_⟩;rw[KL hc'])
 obtain⟨S',e,v7',v8',v9',v10',rfl⟩:=key;rw[lMq,bA]at e;exact⟨v7',v8',v9',v10',e⟩
theorem Lv{T:List (List Int)}{t0:List Nat}{hd:Nat}{loose left r:List Int}{wild:Bool}{v0 v1 v7 v8 v9 v10:Option AV}(hr:T[hd]?=some r) (hl:r.length+loose.length<=10000) :
  tG (uM (pN IJ (uP qu (nL (nN 5) og)) (rC (.int 0)))) uW 100000 (st v0 v1 wild ⟨T,t0,hd,loose,left⟩ v7 v8 v9 v10)=some (.nx (st v0 v1 wild ⟨T.set hd (r++loose.reverse),t0,hd,[],left⟩ v7 v8 v9 v10)):=by
 have hh:hd<T.length:=(gSq.mp hr).1;obtain⟨S',e,l2,rfl,z⟩:=zM (c:=uM (pN IJ (uP qu (nL (nN 5) og)) (rC (.int 0)))) (body:=uW)
  (λS=>∃l1 l2,S=st v0 v1 wild ⟨T.set hd (r++l2),t0,hd,l1,left⟩ v7 v8 v9 v10/\loose=l1++l2.reverse)
  (λS=>match S with|[_,_,_,_,_,some (.ow l),_,_,_,_,_]=>l.length|_=>0)
  (λS'=>∃l2,S'=st v0 v1 wild ⟨T.set hd (r++l2),t0,hd,[],left⟩ v7 v8 v9 v10/\loose=l2.reverse) (by
   rintro S ⟨l1,l2,rfl,hz⟩;have hzl:=congrArg bb hz;rw[lAq,List.length_reverse]at hzl;rcases dB l1 with rfl|⟨l,x,rfl⟩
   .refine ⟨false,_,?_,λq=>(nomatch q),λ_=>⟨l2,rfl,by rw[hz];rfl⟩⟩
    have k0:decide ((0:Int)<((0:Nat):Int))=false:=by decide
    have sl:=oB []
    simp_arith [st,sl,dI,k0]
   .rw [dD]at hz hzl ⊢;have hr2:(T.set hd (r++l2))[hd]?=some (r++l2):=aH hh;have n1:=A5 hr2;have iL:Hb T.length (hd:Int)=some hd:=JJ hh;have lT:(T.set hd (r++l2)).length=T.length:=lZq;have sw:=oB (cN (t0++[hd]));have at4:=NP (t0:=t0) (hd:=hd);have cl:=CB (t0++[hd]);have sl:=oB (l++[x]);have k0:(0:Int)<((l++[x]).length:Int):=by rw[lAq,lSq];lia
    have ex:(l++[x]).map (λn=>AV.sh (.int n))=l.map (λn=>AV.sh (.int n))++[.sh (.int x)]:=by rw[mBq];rfl
    have p1:(l.map (λn=>AV.sh (.int n))++[AV.sh (.int x)])[(l.map (λn=>AV.sh (.int n))++[AV.sh (.int x)]).length-1]?=some (.sh (.int x)):=by
     rw[lAq,lSq,gYq (by lia)]
     simp
    have p2:(l.map (λn=>AV.sh (.int n))++[AV.sh (.int x)]).dropLast=l.map (λn=>AV.sh (.int n)):=cZ
    have pp:=QY (r':=r++l2++[x]) hr2;have a1:=B3 (r++l2) x;have l1':(r++l2).length<qU:=by
     rw[lAq,lSq]at hzl;rw[lAq];show _<16777216;lia
    have ess:(T.set hd (r++l2)).set hd (r++l2++[x])=T.set hd (r++(l2++[x])):=by rw[eZ,bH]
    refine⟨true,st v0 v1 wild ⟨T.set hd (r++l2),t0,hd,l++[x],left⟩ v7 v8 v9 v10,?_,λ_=>⟨st v0 v1 wild ⟨T.set hd (r++(l2++[x])),t0,hd,l,left⟩ v7 v8 v9 v10,?_,⟨l,l2++[x],rfl,by rw[hz];simp⟩,?_⟩,λq=>(nomatch q)⟩
    .simp_arith [st,sl,dI,k0]
    .simp_arith [uW,st,n1,iL,lT,sw,dI,at4,cl,ex,p1,p2,l1',a1,pp,ess,eq_self,true_and]
    .show (l.map _).length<((l++[x]).map _).length;rw[lMq,lMq,lAq,lSq];lia) 100000 (st v0 v1 wild ⟨T,t0,hd,loose,left⟩ v7 v8 v9 v10) ⟨loose,[],by rw[aNq,Z.EU hr],by simp⟩ (by
   show (loose.map _).length<100000;rw[lMq];lia)
 rw[e,z,List.reverse_reverse]
def tw(wild:Bool) (nm cs:List Int):List (List Int):=(cs.foldl (wW wild) (w0 nm)).T.set (cs.foldl (wW wild) (w0 nm)).h ((cs.foldl (wW wild) (w0 nm)).T.getD (cs.foldl (wW wild) (w0 nm)).h []++(cs.foldl (wW wild) (w0 nm)).loose.reverse)
theorem Oa{nm cs:List Int}{wild:Bool}(hc:cs.length<=63) (hn:nm.length<=100):tK [dI cs,dI nm,.bl wild]=some (.ow ((tw wild nm cs).map aI))/\(∃left:List Int,∀a,(tw wild nm cs).flatten.count a+(vp left).count a=(vp nm).count a)/\K11.zk (tw wild nm cs)/\0<(tw wild nm cs).length/\(tw wild nm cs).length<=64:=by
 obtain⟨v7,v8,v9,v10,e⟩:=Jl (nm:=nm) (wild:=wild) (v7:=none) (v8:=none) (v9:=none) (v10:=none) hc (by lia)
 have ok:=Cb (nm:=nm) (wild:=wild) cs (RJ nm);rw[aK]at ok;unfold tw;generalize cs.foldl (wW wild) (w0 nm)=w at e ok;have hlen:=ok.len;obtain⟨T,t0,hd,loose,left⟩:=w;obtain⟨hh,ht,lw,lT,lf,cnt,tr⟩:=ok;simp only at hh ht lw lT lf cnt tr hlen ⊢;have hr:T[hd]?=some (T.getD hd []):=by rw[gDq,gEg hh];rfl
 have hrl:=JK hr;generalize T.getD hd []=r at hr hrl;have e2:=Lv (t0:=t0) (loose:=loose) (left:=left) (wild:=wild) (v0:=some (.sh (dI cs))) (v1:=some (.sh (dI nm))) (v7:=v7) (v8:=v8) (v9:=v9) (v10:=v10) hr (by lia)
 have e':ux 7 rB (cs.map D.int) [some (.sh (dI cs)),some (.sh (dI nm)),some (.sh (.bl wild)),some (.ow [.ow []]),some (.ow [.sh (.int 0)]),some (.ow []),some (aI nm),none,none,none,none]=some (.nx (st (some (.sh (dI cs))) (some (.sh (dI nm))) wild ⟨T,t0,hd,loose,left⟩ v7 v8 v9 v10)):=e;refine⟨?_,⟨left,λa=>?_⟩,tr.set hr,by rw[lZq];lia,by rw[lZq];lia⟩
 .have e3:((nm.map D.int).map AV.sh)=nm.map λn=>AV.sh (.int n):=by rw[mPq];rfl
  simp_arith [tK,B5,dI,e3]
  simp -implicitDefEqProofs only [Z.WK,fD,gF,fH,fJ,eU,↓reduceIte,reduceCtorEq,dI]at e';rw[e']
  simp_arith [e2]
  simp_arith [st]
 .rw [zL a hr,List.count_reverse,cnt a]
theorem CQ{nm cs:List Int}{wild:Bool}(hc:cs.length<=63) (hn:nm.length<=100):∃(T:List (List Int)) (left:List Int),tK [dI cs,dI nm,.bl wild]=some (.ow (T.map aI))/\(∀a,T.flatten.count a+(vp left).count a=(vp nm).count a)/\K11.zk T/\0<T.length/\T.length<=64:=by
 obtain⟨h1,⟨left,h2⟩,h3⟩:=Oa (nm:=nm) (cs:=cs) (wild:=wild) hc hn;exact⟨_,left,h1,h2,h3⟩
end K31
namespace K31
open PySem L2 Mr Z Xe Zl
def rot(r:List Int) (e:Int):List Int:=r.drop (r.idxOf e)++r.take (r.idxOf e)
theorem rot_perm(r:List Int) (e:Int):(rot r e).Perm r:=by
 unfold rot;exact eI.trans (by rw[bG])
theorem Qb(r:List Int) (e:Int):(rot r e).length=r.length:=(rot_perm r e).length_eq
theorem zZ{r:List Int}{e:Int}(he:e∈r) (hl:r.length<=500000):sv [dI r,.int e]=some (aI (rot r e)):=by
 have hle:r.idxOf e<=r.length:=bB (dR.mpr he);have hx:AC (dI r) [.int e]=some (.int (r.idxOf e:Nat)):=by
  show (qj (r.map D.int)).bind _=_;rw[qm];show (if _ then _ else _)=_
  rw[oQ he]
 have hlen:(r.drop (r.idxOf e)).length+(r.take (r.idxOf e)).length<=qU:=by rw[bj,lTq];show _<=16777216;lia
 simp_arith [sv,Af,hx,wZ,yE r _ hle,yG r _ hle,hlen,←mBq,BM]
 rfl
def A7(rs:List (List Int)) (s:List (List Int)×List Nat) (o:Int):List (List Int)×List Nat:=if plc rs o∈s.2 then s else (s.1++[rot (rs.getD (plc rs o) []) o],s.2++[plc rs o])
def L7(rs:List (List Int)):Nat->Nat->List (List Int)×List Nat->List (List Int)×List Nat
 |0,_,s=>s
 |f+1,i,s=>if i<s.1.flatten.length then L7 rs f (i+1) (A7 rs s (-(s.1.flatten.getD i 0))) else s
def By(rs:List (List Int)) (e:Int):List (List Int)×List Nat:=([rot (rs.getD (plc rs e) []) e],[plc rs e])
def rnd(rs:List (List Int)) (e:Int):List (List Int)×List Nat:=L7 rs 2000 0 (By rs e)
structure RI (rs:List (List Int)) (e:Int) (s:List (List Int)×List Nat) (i:Nat):Prop where
 pm:s.1.flatten.Perm (s.2.flatMap λp=>rs.getD p [])
 hd:∃Q,s.1=rot (rs.getD (plc rs e) []) e::Q
 nd:s.2.Nodup
 lt:∀p∈s.2,p<rs.length
 le:i<=s.1.flatten.length
 cl:∀j,j<i->plc rs (-(s.1.flatten.getD j 0))∈s.2
 ln:s.1.length=s.2.length
theorem K3{a b:List Int}{j:Nat}(h:j<a.length):(a++b).getD j 0=a.getD j 0:=by
 rw[gDq,gDq,gZq h]
theorem GQ{g:Nat->List Int}:∀{ps l:List Nat},ps.Nodup->(∀p∈ps,p∈l)->(ps.flatMap g).length<=(l.flatMap g).length
 | [],l,_,_=>aG _
 |p::ps,l,hn,hs=>by
  have hn':=aC.mp hn;have pe:=List.perm_cons_erase (hs p (by simp))
  have h1:=GQ (g:=g) (l:=l.erase p) hn'.2 λq hq=>(List.mem_erase_of_ne (λz:q=p=>hn'.1 (z ▸ hq))).mpr (hs q (by simp[hq]))
  rw[(pe.flatMap_right g).length_eq,cG,cG,lAq,lAq];lia
theorem BV(rs:List (List Int)):(bQ rs.length).flatMap (λp=>rs.getD p [])=rs.flatten:=by
 have e2:rs=(bQ rs.length).map λp=>rs.getD p []:=by
  refine ik (by simp) λi a b=>?_
  simp[a]
 conv=>rhs;rw[e2]
 rfl
theorem flat_nd{ps:List Nat}{rs:List (List Int)}(hn:ps.Nodup) (hl:∀p∈ps,p<rs.length):(ps.flatMap λp=>rs.getD p []).length<=rs.flatten.length:=by
 rw[←BV];exact GQ hn λp hp=>dh.mpr (hl p hp)
theorem RI.few{rs:List (List Int)}{e:Int}{s:List (List Int)×List Nat}{i:Nat}(h:RI rs e s i):s.1.flatten.length<=rs.flatten.length:=by
 rw[h.pm.length_eq];exact flat_nd h.nd h.lt
theorem RI.mem{rs:List (List Int)}(hm:Mp rs) {e:Int}{s:List (List Int)×List Nat}{i:Nat}(h:RI rs e s i) {x:Int}(hx:x∈s.1.flatten):x∈rs.flatten/\plc rs x∈s.2:=by
 obtain⟨p,hp,hx⟩:=cw.mp (h.pm.mem_iff.mp hx);have hlt:=h.lt p hp;have hr:rs[p]?=some rs[p]:=gEg hlt;rw[gDq,hr,bo]at hx;rw[plc_eq hm.hn hr hx];exact⟨mFq.mpr ⟨_,mGq hr,hx⟩,hp⟩
theorem RI.step{rs:List (List Int)}(hm:Mp rs) {e:Int}{s:List (List Int)×List Nat}{i:Nat}(h:RI rs e s i) (hi:i<s.1.flatten.length):RI rs e (A7 rs s (-(s.1.flatten.getD i 0))) (i+1):=by
 have hx:s.1.flatten.getD i 0∈s.1.flatten:=by
  rw[gDq,gEg hi];exact gRq hi
 obtain⟨m1,m2⟩:=h.mem hm hx;have hlt:=hm.lt (hm.hneg _ m1);unfold A7;split
 .rename_i q;refine⟨h.pm,h.hd,h.nd,h.lt,hi,λj hj=>?_,h.ln⟩
  by_cases hji:j<i
  .exact h.cl j hji
  .have:j=i:=by lia
   subst this;exact q
 .rename_i q;obtain⟨Q,hQ⟩:=h.hd;refine⟨?_,⟨Q++[_],by rw[hQ];rfl⟩,?_,?_,?_,λj hj=>?_,by simp[h.ln]⟩
  .simp only [fAq,aX,dq,fY];exact h.pm.append (rot_perm _ _)
  .exact nAq.mpr ⟨h.nd,by simp,λa ha b hb z=>q (by rw[mSq]at hb;rw[←hb,←z];exact ha)⟩
  .intro p hp;rcases mAq.mp hp with hp|hp
   .exact h.lt p hp
   .rw [mSq.mp hp];exact hlt
  .simp only [fAq,lAq];lia
  .simp only [fAq,aX];have hj':j<s.1.flatten.length:=by lia
   rw[K3 hj']
   by_cases hji:j<i
   .exact cB _ (h.cl j hji)
   .have:j=i:=by lia
    subst this;exact ay _ (by simp)
theorem Jj{rs:List (List Int)}(hm:Mp rs) {e:Int}(he:e∈rs.flatten):RI rs e (By rs e) 0:=by
 refine⟨?_,⟨[],rfl⟩,by simp[By],?_,aG _,λj hj=>absurd hj (bT _),rfl⟩
 .simp only [By,aX,fY];exact rot_perm _ _
 .intro p hp;simp only[By,mSq]at hp;rw[hp];exact hm.lt he
theorem Ml{rs:List (List Int)}(hm:Mp rs) {e:Int}:∀(f:Nat) {i:Nat}{s:List (List Int)×List Nat},RI rs e s i->rs.flatten.length-i<f->RI rs e (L7 rs f i s) (L7 rs f i s).1.flatten.length
 |0,i,s,h,hf=>absurd hf (bT _)
 |f+1,i,s,h,hf=>by
  unfold L7;split
  .rename_i q;have:=h.few;exact Ml hm f (h.step hm q) (by lia)
  .have:i=s.1.flatten.length:=by have:=h.le;lia
   subst this;exact h
theorem zA{rs:List (List Int)}(hm:Mp rs) {e:Int}(he:e∈rs.flatten):RI rs e (rnd rs e) (rnd rs e).1.flatten.length:=Ml hm 2000 (Jj hm he) (by have:=hm.hl;lia)
def L4(Q:List (List Int)):AV:=.ow (Q.map λr=>.sh (dI r))
def FG(rs:List (List Int)) (e:Int) (s:List (List Int)×List Nat) (i:Nat) (v7 v8:Option AV):AS:=[some (.sh (dM rs)),some (.sh (.int e)),some (.owd (qe 0 rs)),some (L4 s.1),some (aI s.1.flatten),some (.owd (kd s.2)),some (.sh (.int (i:Int))),v7,v8]
theorem DM(Q:List (List Int)):(Q.map λr=>AV.sh (dI r)).map nW=Q.map dI:=by
 rw[mPq];rfl
theorem R5{ks:List Nat}{t:Nat}(h:t∉ks):xN (kd ks) (az (t:Int)) (.bl true)=kd (ks++[t]):=by
 rw[kd_put2];unfold addN;rw[oT h]
theorem IM{rs:List (List Int)}(hm:Mp rs) {e:Int}{s:List (List Int)×List Nat}{i:Nat}{v7 v8:Option AV}(h:RI rs e s i) (hi:i<s.1.flatten.length):∃v7' v8',mb_round_turns_0 (FG rs e s i v7 v8)=some (.nx (FG rs e (A7 rs s (-(s.1.flatten.getD i 0))) (i+1) v7' v8')):=by
 have hx:s.1.flatten.getD i 0∈s.1.flatten:=by
  rw[gDq,gEg hi];exact gRq hi
 obtain⟨m1,m2⟩:=h.mem hm hx;have hn:=hm.hneg _ m1;have hlt:=hm.lt hn;have few:=h.few;have hl:=hm.hl;have hrr:=hm.hr;have pl:=K51.Pa _ _ h.nd h.lt;have ln:=h.ln;obtain⟨Q,ps⟩:=s;simp only at hi hx m1 m2 hn hlt few pl ln h ⊢;have at1:atI (Q.flatten.map D.int) (i:Int)=some (.int (Q.flatten.getD i 0)):=xg (by rw[gMq,gDq,gEg hi];rfl)
 have sE:=oB Q.flatten;generalize hx0:Q.flatten.getD i 0=x at *;have kv:=hm.kv hn;have kg:=kd_get ps (plc rs (-x));refine⟨some (.sh (.int (-x))),some (.sh (.int (plc rs (-x):Int))),?_⟩;have ei:((i+1:Nat):Int)=(i:Int)+1:=by lia
 unfold A7
 by_cases q:plc rs (-x)∈ps
 .have kg':(Z.getD (kd ps) (az (plc rs (-x):Int))).isSome=true:=by rw[kg];simp[q]
  simp only[q,if_true]
  simp_arith [mb_round_turns_0,FG,L4,sE,dI,at1,kv,kg',ei]
 .have kg':(Z.getD (kd ps) (az (plc rs (-x):Int))).isSome=false:=by rw[kg];simp[q]
  simp only[q,if_false];obtain⟨r,hr,hxr⟩:=hm.at hn;have gr:rs.getD (plc rs (-x)) []=r:=by rw[gDq,hr];rfl
  have rl:=hm.row hr;have tf:=zZ hxr (by lia)
  have at2:atI (rs.map dI) (plc rs (-x):Int)=some (dI r):=xg (by rw[gMq,hr];rfl)
  have kn:=R5 q;have kl:(kd ps).length<qU:=by unfold kd;rw[lMq];show _<16777216;lia
  have lQ:Q.length<qU:=by show _<16777216;lia
  have sQ:=DM Q;have e1:(Q.map λr=>AV.sh (dI r))++[aI (rot r (-x))]=(Q.map λr=>AV.sh (dI r))++[.ow ((rot r (-x)).map λn=>.sh (.int n))]:=rfl
  have s1:((Q.map λr=>AV.sh (dI r))++[aI (rot r (-x))]).map nW=(Q++[rot r (-x)]).map dI:=by
   rw[mBq,sQ,mBq];show _++[nW (aI (rot r (-x)))]=_;rw[oB];rfl
  have at3:atI ((Q++[rot r (-x)]).map dI) (-1)=some (dI (rot r (-x))):=by rw[mBq];exact Ma _ _
  have rrl:=Qb r (-x);have lE:Q.flatten.length+(rot r (-x)).length<=qU:=by rw[rrl];show _<=16777216;lia
  have e4:(Q.flatten.map λn=>AV.sh (.int n))++((rot r (-x)).map D.int).map AV.sh=(Q.flatten++rot r (-x)).map λn=>.sh (.int n):=by rw[mBq,mPq];rfl
  have e4':(Q.flatten.map λn=>AV.sh (.int n))++((rot r (-x)).map λn=>AV.sh (.int n))=(Q.flatten++rot r (-x)).map λn=>.sh (.int n):=mBq.symm
  have e5:(Q++[rot r (-x)]).flatten=Q.flatten++rot r (-x):=by simp
  have e6:((Q++[rot r (-x)]).map dI).map AV.sh=(Q++[rot r (-x)]).map λr=>AV.sh (dI r):=by rw[mPq];rfl
  have t1:(dI (rot r (-x))) = .list ((rot r (-x)).map D.int):=rfl;rw[gr]
  simp_arith [mb_round_turns_0,FG,L4,sE,at1,kv,kg',ei,kn,kl,lQ,dM,at2,tf,s1,at3,e6,t1,lE,e4,e4',e5]
theorem HE{rs:List (List Int)}(hm:Mp rs) {e:Int}(he:e∈rs.flatten):∃i v7 v8,tG (uM (pN Ud (nN 6) (uP qu (nL (nN 4) og)))) mb_round_turns_0 100000 (FG rs e (By rs e) 0 none none)=some (.nx (FG rs e (rnd rs e) i v7 v8)):=by
 have hl:=hm.hl;obtain⟨S',ew,i,v7,v8,rfl⟩:=zM (c:=uM (pN Ud (nN 6) (uP qu (nL (nN 4) og)))) (body:=mb_round_turns_0)
  (λS=>∃s i v7 v8,S=FG rs e s i v7 v8/\RI rs e s i/\L7 rs (2000-i) i s=rnd rs e)
  (λS=>match S with|[_,_,_,_,_,_,some (.sh (.int i)),_,_]=>2000-i.toNat|_=>0)
  (λS'=>∃i v7 v8,S'=FG rs e (rnd rs e) i v7 v8) (by
   rintro S ⟨s,i,v7,v8,rfl,h,hg⟩;have few:=h.few;have sE:=oB s.1.flatten
   by_cases hi:i<s.1.flatten.length
   .have c1:(i:Int)<(s.1.flatten.length:Int):=by lia
    obtain⟨v7',v8',e1⟩:=IM hm (v7:=v7) (v8:=v8) h hi;refine⟨true,FG rs e s i v7 v8,?_,λ_=>⟨_,e1,⟨_,_,_,_,rfl,h.step hm hi,?_⟩,?_⟩,λq=>(nomatch q)⟩
    .simp_arith [FG,sE,dI,c1]
    .rw [show 2000-i=(2000-(i+1))+1 by lia]at hg
     unfold L7 at hg;rw[oQ hi]at hg;exact hg
    .show 2000-((i+1:Nat):Int).toNat<2000-(i:Int).toNat;lia
   .have c1:¬ (i:Int)<(s.1.flatten.length:Int):=by lia
    refine⟨false,FG rs e s i v7 v8,?_,λq=>(nomatch q),λ_=>⟨i,v7,v8,?_⟩⟩
    .simp_arith [FG,sE,dI,c1]
    .have:L7 rs (2000-i) i s=s:=by
      cases 2000-i with
      |zero=>rfl
      |succ f =>
       unfold L7;rw[oT hi]
     rw[←hg,this]) 100000 (FG rs e (By rs e) 0 none none) ⟨_,_,_,_,rfl,Jj hm he,rfl⟩ (by
   show 2000-(0:Int).toNat<100000;lia)
 exact⟨i,v7,v8,ew⟩
theorem CO(Q:List (List Int)):nW (L4 Q)=dM Q:=by
 unfold L4;rw[qJ,DM]
structure Nm (nm:List Int):Prop where
 len:nm.length<=31
 nd:nm.Nodup
 lo:∀x∈nm,1<=x
structure Wm (nm:List Int) (T:List (List Int)):Prop where
 cnt:∃left,∀a,T.flatten.count a+(vp left).count a=(vp nm).count a
 tr:K11.zk T
 pos:0<T.length
 len:T.length<=63
theorem DG{nm:List Int}(h:Nm nm):(vp nm).Nodup:=K12.CC h.nd h.lo
theorem KA(l:List Int) (a:Int):(vp l).count (-a)=(vp l).count a:=by
 induction l with
 |nil=>rfl
 |cons x l ih =>
  rw[Cp,Cp,ih];congr 1;rw[show [x, -x]=[x]++[-x] from rfl,cAq,cAq]
  simp only[List.count_singleton];have e1:(x == -a)=(-x == a):=by rw[bX];simp <;> lia
  have e2:(-x == -a)=(x == a):=by rw[bX];simp <;> lia
  rw[e1,e2];lia
theorem Wm.neg{nm:List Int}{T:List (List Int)}(hn:Nm nm) (h:Wm nm T) {z:Int}(hz:z∈T.flatten):-z∈T.flatten:=by
 obtain⟨left,hc⟩:=h.cnt;have h1:=bU.mpr hz;have h2:=cC.mp (DG hn) z;have e1:=hc z;have e2:=hc (-z);rw[KA,KA]at e2;exact bU.mp (by lia)
abbrev gm:=K12.gm
theorem sJ(T:List (List Int)):(gm T).flatten.Perm T.flatten:=(zQ (K12.ql T)).trans (uj rN T)
theorem Fb(T:List (List Int)):(gm T).length=T.length:=by rw[(K12.ql T).length_eq,lMq]
def B7(rs:List (List Int)):Prop:=∀P:Nat->Prop,(∃s,s<rs.length/\P s)->(∀(p:Nat) (r:List Int) (x:Int),rs[p]?=some r->x∈r->P p->P (plc rs (-x)))->∀q,q<rs.length->P q
theorem Cq{T:List (List Int)}(hm:Mp (gm T)) {r:List Int}(hr:r∈T):∃p,(gm T)[p]?=some (uL r)/\∀x∈r,plc (gm T) x=p:=by
 have h1:uL r∈gm T:=(K12.ql T).mem_iff.mpr (mMq.mpr ⟨r,hr,rfl⟩);obtain⟨p,hp⟩:=aD.mp h1;exact⟨p,hp,λx hx=>plc_eq hm.hn hp ((rN r).mem_iff.mpr hx)⟩
theorem LH{T:List (List Int)}(hm:Mp (gm T)) (hpos:0<T.length) (tr:K11.zk T):B7 (gm T):=by
 intro P ⟨s,hs,ps⟩ hc q hq
 by_cases h1:T.length=1
 .rw [Fb,h1]at hs hq;have:q=s:=by lia
  rw[this];exact ps
 have rowne:∀k,k<T.length->∃z,z∈T.getD k []:=λk hk=>by
  by_cases hk0:k=0
  .subst hk0;obtain⟨j,e,hj,a,b⟩:=tr 1 (by lia) (by lia)
   have:j=0:=by lia
   subst this;exact⟨e,a⟩
  .obtain ⟨j,e,hj,a,b⟩:=tr k (by lia) hk
   exact⟨_,b⟩
 have rmem:∀k,k<T.length->T.getD k []∈T:=λk hk=>by
  rw[gDq,gEg hk];exact gRq hk
 have ends:∀k,k<T.length->∀z,z∈T.getD k []->z∈(gm T).flatten:=λk hk z hz=>(sJ T).mem_iff.mpr (mFq.mpr ⟨_,rmem k hk,hz⟩)
 have same:∀k,k<T.length->∀z w,z∈T.getD k []->w∈T.getD k []->P (plc (gm T) z)->P (plc (gm T) w):=λk hk z w hz hw hp=>by
  obtain⟨p,_,hp2⟩:=Cq hm (rmem k hk);rw[hp2 w hw];rw[hp2 z hz]at hp;exact hp
 have GH:∀z,z∈(gm T).flatten->P (plc (gm T) z)->P (plc (gm T) (-z)):=λz hz hp=>by
  obtain⟨r,hr,hx⟩:=hm.at hz;exact hc _ r z hr hx hp
 have down:(∀z,z∈T.getD 0 []->P (plc (gm T) z))->∀k,k<T.length->∀z,z∈T.getD k []->P (plc (gm T) z):=λh0 k=>by
  induction k using fZ with
  |ind k ih =>
   intro hk z hz
   by_cases hk0:k=0
   .subst hk0;exact h0 z hz
   .obtain ⟨j,e,hj,a,b⟩:=tr k (by lia) hk
    exact same k hk _ z b hz (GH e (ends j (by lia) e a) (ih j hj (by lia) e a))
 have up:∀k,k<T.length->(∀z,z∈T.getD k []->P (plc (gm T) z))->∀z,z∈T.getD 0 []->P (plc (gm T) z):=λk=>by
  induction k using fZ with
  |ind k ih =>
   intro hk hz
   by_cases hk0:k=0
   .subst hk0;exact hz
   .obtain ⟨j,e,hj,a,b⟩:=tr k (by lia) hk
    have p1:=GH (-e) (ends k hk _ b) (hz _ b);rw[fx]at p1;exact ih j hj (by lia) λz hz'=>same j (by lia) e z a hz' p1
 have find:∀q,q<(gm T).length->∃k,k<T.length/\∃z,z∈T.getD k []/\plc (gm T) z=q:=λq hq=>by
  have hr:=gEg hq;obtain⟨r,hr2,e⟩:=mMq.mp ((K12.ql T).mem_iff.mp (gRq hq));obtain⟨k,hk,e2⟩:=bM.mp hr2;have e3:T.getD k []=r:=by rw[gDq,gEg hk,e2];rfl
  obtain⟨z,hz⟩:=rowne k hk;refine⟨k,hk,z,hz,plc_eq hm.hn hr ?_⟩;rw[←e];exact(rN r).mem_iff.mpr (e3 ▸ hz)
 obtain⟨k,hk,z,hz,ez⟩:=find s hs;have z0:=up k hk λw hw=>same k hk z w hz hw (by rw[ez];exact ps)
 obtain⟨k',hk',z',hz',ez'⟩:=find q hq;have:=down z0 k' hk' z' hz';rw[ez']at this;exact this
theorem KB{rs:List (List Int)}(hm:Mp rs) (hc:B7 rs) {e:Int}(he:e∈rs.flatten):(rnd rs e).2.Perm (bQ rs.length)/\(rnd rs e).1.flatten.Perm rs.flatten:=by
 have h:=zA hm he;have all:∀q,q<rs.length->q∈(rnd rs e).2:=hc (λp=>p∈(rnd rs e).2) (by
   obtain⟨Q,hQ⟩:=h.hd;have h1:(rnd rs e).2≠[]:=λz=>by
    have:=h.ln;rw[hQ,z]at this;simp at this
   obtain⟨p,l,hp⟩:=List.exists_cons_of_ne_nil h1;exact⟨p,h.lt p (by rw[hp];simp),by rw[hp];simp⟩) (λp r x hr hx hp=>by
   have hxm:x∈(rnd rs e).1.flatten:=h.pm.mem_iff.mpr (cw.mpr ⟨p,hp,by rw[gDq,hr];exact hx⟩)
   obtain⟨j,hj,ej⟩:=bM.mp hxm;have:=h.cl j hj;rw[gDq,gEg hj,bo,ej]at this;exact this)
 have p1:(rnd rs e).2.Perm (bQ rs.length):=by
  rw[dQ];intro a
  by_cases ha:a<rs.length
  .have c1:=cC.mp h.nd a;have c2:=bU.mpr (all a ha);have c3:=cC.mp (fM (n:=rs.length)) a;have c4:=bU.mpr (dh.mpr ha);lia
  .rw [eX λz=>ha (h.lt a z),eX λz=>ha (dh.mp z)]
 refine⟨p1,h.pm.trans ((p1.flatMap_right _).trans ?_)⟩;rw[BV]
end K31
namespace K31
open PySem L2 Mr Z Xe Zl
open K12 (LY Ks)
def Ln(st sh a b:Int) (n:Nat):List Int:=(bQ n).map λk:Nat=>LY st sh a b k
theorem Qc{st sh a b:Int}(h1:1<=st) (h2:0<=sh) (k:Nat):1<=LY st sh a b k:=by
 have b1:0<=(a*(k:Int)+b) % 67:=aY _ (by decide)
 have l1:1*1<=st*((a*(k:Int)+b) % 67+1):=Int.mul_le_mul h1 (by lia) (by decide) (by lia)
 show 1<=st*((a*(k:Int)+b) % 67+1)+sh;lia
theorem OW{st sh a b:Int}{n:Nat}(hn:n<=31) (h1:1<=st) (h2:0<=sh) (h3:1<=a) (h4:a<=66):Nm (Ln st sh a b n):=by
 refine⟨by unfold Ln;rw[lMq,cF];lia,?_,λx h=>?_⟩
 .unfold Ln;rw[cg,aJ];refine bJ.imp_of_mem (λ{x y} hx hy hne e=>hne (Ks h1 h3 h4 (by have:=dh.mp hx;lia) (by have:=dh.mp hy;lia) e)) (cg.mp fM)
 .obtain ⟨k,_,rfl⟩:=mMq.mp h;exact Qc h1 h2 k
theorem Iv{one two st sh a b:Int}{n:Nat}(h:∀k:Nat,qD [.int one,.int two,.int (k:Int)]=some (.sh (.int (LY st sh a b k)))):qh pV (kSc (sZ K31.qD (nL (nN 1) (nL (nN 2) (nL (nN 0) og))))) [some (.sh (.int one)),some (.sh (.int two))] (pS 0 n)=some ((Ln st sh a b n).map λz=>.sh (.int z)):=by
 have key:=qq (te:=kSc (sZ K31.qD (nL (nN 1) (nL (nN 2) (nL (nN 0) og))))) (cap:=[some (.sh (.int one)),some (.sh (.int two))])
  (λd=>match d with|.int k=>.sh (.int (LY st sh a b k))|_=>.sh .non) (ds:=pS 0 n) (by
  intro d hd;rw[uK]at hd;obtain⟨k,_,rfl⟩:=mMq.mp hd;have hk:=h k;refine⟨[some (.sh (.int (k:Int))),some (.sh (.int one)),some (.sh (.int two))],?_⟩
  simp_arith [hk])
 rw[key,uK,mPq];unfold Ln;rw[mPq];rfl
end K31
namespace K33
open PySem L2 Mr Z Xe Zl
theorem Cw{u v:List Int}{o:Int}(h:o∉u):K31.rot (u++o::v) o=o::v++u:=by
 have e:(u++o::v).idxOf o=u.length:=by
  rw[List.idxOf_append,oT h,gw,aK]
 unfold K31.rot;rw[e,List.drop_left,List.take_left]
theorem NR{a b:List Int}{o:Int}(hn:(a++b).Nodup) (ho:o∈a++b):K31.rot (b++a) o=K31.rot (a++b) o:=by
 have hd:=(nAq.mp hn).2.2;rcases mAq.mp ho with h|h
 .obtain ⟨a1,a2,rfl,h1⟩:=dO h;have hb:o∉b:=λz=>hd o h o z rfl
  rw[show b++(a1++o::a2)=(b++a1)++o::a2 by simp,show (a1++o::a2)++b=a1++o::(a2++b) by simp,Cw (by simp[hb,h1]),Cw h1]
  simp
 .obtain ⟨b1,b2,rfl,h1⟩:=dO h;have ha:o∉a:=λz=>hd o z o h rfl
  rw[show (b1++o::b2)++a=b1++o::(b2++a) by simp,show a++(b1++o::b2)=(a++b1)++o::b2 by simp,Cw h1,Cw (by simp[ha,h1])]
  simp
theorem GT{t:List Int}(hn:t.Nodup) {o:Int}(ho:o∈t):K31.rot (uL t) o=K31.rot t o:=by
 have e:t.take (qf t t.length)++t.drop (qf t t.length)=t:=bG ..;have:=NR (a:=t.take (qf t t.length)) (b:=t.drop (qf t t.length)) (by rw[e];exact hn) (by rw[e];exact ho)
 rw[e]at this;exact this
theorem EZ{f:Int->Int}:∀{l:List Int}{x:Int},(∀y∈l,f y=f x->y=x)->(l.map f).idxOf (f x)=l.idxOf x
 | [],x,_=>rfl
 |y::l,x,h=>by
  rw[ar,gb,gb,EZ λz hz=>h z (mCo _ hz)]
  have e:(f y == f x)=(y == x):=by
   rw[bX];simp only[beq_iff_eq];exact⟨h y (by simp),λq=>by rw[q]⟩
  rw[e]
theorem QR{f:Int->Int}{t:List Int}{o:Int}(h:∀y∈t,f y=f o->y=o):K31.rot (t.map f) (f o)=(K31.rot t o).map f:=by
 unfold K31.rot;rw[EZ h,mBq,iT,iS]
structure Pb (f:Int->Int) (E:List Int):Prop where
 odd:∀x∈E,f (-x) = -(f x)
 inj:∀x∈E,∀y∈E,f x=f y->x=y
section
variable {f:Int->Int}{R:List (List Int)}
abbrev vk(f:Int->Int) (R:List (List Int)):List (List Int):=R.map λt=>t.map f
theorem wy(f:Int->Int) (R:List (List Int)):(vk f R).flatten=R.flatten.map f:=by
 unfold vk;rw[fL]
theorem Iq{f:Int->Int}:∀{E:List Int},E.Nodup->(∀x∈E,∀y∈E,f x=f y->x=y)->(E.map f).Nodup
 | [],_,_=>aN
 |x::E,hn,h=>by
  have hn':=aC.mp hn;rw[ar,aC];refine⟨λz=>?_,Iq hn'.2 λa ha b hb=>h a (mCo _ ha) b (mCo _ hb)⟩
  obtain⟨y,hy,e⟩:=mMq.mp z;have:=h y (mCo _ hy) x (by simp) e
  exact hn'.1 (this ▸ hy)
theorem VC{R:List (List Int)}(hn:R.flatten.Nodup) (hl:R.flatten.length<=63) (hr:R.length<=63) (hneg:∀e∈R.flatten, -e∈R.flatten):Mp (K31.gm R):=by
 have pf:=K31.sJ R;exact⟨pf.nodup_iff.mpr hn,by rw[pf.length_eq];exact hl,by rw[K31.Fb];exact hr,λe he=>pf.mem_iff.mpr (hneg e (pf.mem_iff.mp he))⟩
theorem IL{R:List (List Int)}(hn:R.flatten.Nodup) {t:List Int}(ht:t∈R):t.Nodup:=hn.sublist (au ht)
theorem NV(hm:Mp (K31.gm R)) {t:List Int}(ht:t∈R) {o:Int}(ho:o∈t):(K31.gm R).getD (plc (K31.gm R) o) []=uL t:=by
 obtain⟨p,hp,h2⟩:=K31.Cq hm ht;rw[h2 o ho,gDq,hp];rfl
theorem Hh(hm:Mp (K31.gm R)) {t:List Int}(ht:t∈R) {x y:Int}(hx:x∈t) (hy:y∈R.flatten):plc (K31.gm R) y=plc (K31.gm R) x↔y∈t:=by
 obtain⟨p,hp,h2⟩:=K31.Cq hm ht;refine⟨λh=>?_,λh=>by rw[h2 x hx,h2 y h]⟩
 obtain⟨r,hr,hyr⟩:=hm.at ((K31.sJ R).mem_iff.mpr hy);rw[h,h2 x hx,hp]at hr;cases hr;exact(rN t).mem_iff.mp hyr
structure HM (f:Int->Int) (R:List (List Int)):Prop where
 m1:Mp (K31.gm R)
 m2:Mp (K31.gm (vk f R))
 rn:Pb f R.flatten
 nd:R.flatten.Nodup
theorem HM.mem(h:HM f R) {x:Int}(hx:x∈R.flatten):f x∈(vk f R).flatten:=by
 rw[wy];exact mMq.mpr ⟨x,hx,rfl⟩
theorem HM.rot(h:HM f R) {o:Int}(ho:o∈R.flatten):K31.rot ((K31.gm (vk f R)).getD (plc (K31.gm (vk f R)) (f o)) []) (f o)=(K31.rot ((K31.gm R).getD (plc (K31.gm R) o) []) o).map f:=by
 obtain⟨t,ht,hot⟩:=mFq.mp ho;have ht':t.map f∈vk f R:=mMq.mpr ⟨t,ht,rfl⟩;have sub:∀y∈t,y∈R.flatten:=λy hy=>mFq.mpr ⟨t,ht,hy⟩
 have hinj:∀y∈t,∀z∈t,f y=f z->y=z:=λy hy z hz e=>h.rn.inj y (sub y hy) z (sub z hz) e
 rw[NV h.m1 ht hot,NV h.m2 ht' (mMq.mpr ⟨o,hot,rfl⟩),GT (IL h.nd ht) hot,GT (Iq (IL h.nd ht) hinj) (mMq.mpr ⟨o,hot,rfl⟩)];exact QR λy hy e=>hinj y hy o hot e
theorem HM.plc(h:HM f R) {x y:Int}(hx:x∈R.flatten) (hy:y∈R.flatten):Zl.plc (K31.gm R) y=Zl.plc (K31.gm R) x↔Zl.plc (K31.gm (vk f R)) (f y)=Zl.plc (K31.gm (vk f R)) (f x):=by
 obtain⟨t,ht,hxt⟩:=mFq.mp hx;have ht':t.map f∈vk f R:=mMq.mpr ⟨t,ht,rfl⟩;rw[Hh h.m1 ht hxt hy,Hh h.m2 ht' (mMq.mpr ⟨x,hxt,rfl⟩) (h.mem hy)];refine⟨λq=>mMq.mpr ⟨y,q,rfl⟩,λq=>?_⟩
 obtain⟨z,hz,e⟩:=mMq.mp q;rw[←h.rn.inj z (mFq.mpr ⟨t,ht,hz⟩) y hy e];exact hz
def VZ(f:Int->Int) (R:List (List Int)) (s s':List (List Int)×List Nat):Prop:=s'.1=vk f s.1/\∀x∈R.flatten,Zl.plc (K31.gm R) x∈s.2↔Zl.plc (K31.gm (vk f R)) (f x)∈s'.2
theorem HM.ini(h:HM f R) {e:Int}(he:e∈R.flatten):VZ f R (K31.By (K31.gm R) e) (K31.By (K31.gm (vk f R)) (f e)):=by
 refine⟨?_,λx hx=>?_⟩
 .show [_]=_;rw[h.rot he];rfl
 .show _∈[_]↔_∈[_];rw[mSq,mSq];exact h.plc he hx
theorem HM.step(h:HM f R) {s s':List (List Int)×List Nat}(q:VZ f R s s') {o:Int}(ho:o∈R.flatten):VZ f R (K31.A7 (K31.gm R) s o) (K31.A7 (K31.gm (vk f R)) s' (f o)):=by
 obtain⟨q1,q2⟩:=q;unfold K31.A7
 by_cases c:Zl.plc (K31.gm R) o∈s.2
 .rw [oQ c,oQ ((q2 o ho).mp c)];exact⟨q1,q2⟩
 .rw [oT c,oT λz=>c ((q2 o ho).mpr z)]
  refine⟨?_,λx hx=>?_⟩
  .show s'.1++[_]=vk f (s.1++[_]);rw[h.rot ho,q1];unfold vk;rw[mBq];rfl
  .show _∈s.2++[_]↔_∈s'.2++[_];rw[mAq,mAq,mSq,mSq,q2 x hx,h.plc ho hx]
theorem HM.go(h:HM f R) {e:Int}:∀(n i:Nat) {s s':List (List Int)×List Nat},K31.RI (K31.gm R) e s i->VZ f R s s'->(K31.L7 (K31.gm (vk f R)) n i s').1=vk f (K31.L7 (K31.gm R) n i s).1
 |0,i,s,s',_,q=>q.1
 |n+1,i,s,s',hi,q=>by
  unfold K31.L7;have e1:s'.1.flatten=s.1.flatten.map f:=by rw[q.1,wy]
  by_cases c:i<s.1.flatten.length
  .have c':i<s'.1.flatten.length:=by rw[e1,lMq];exact c
   rw[oQ c,oQ c'];have hx:s.1.flatten.getD i 0∈s.1.flatten:=by
    rw[gDq,gEg c];exact gRq c
   have hxR:s.1.flatten.getD i 0∈R.flatten:=(K31.sJ R).mem_iff.mp (hi.mem h.m1 hx).1;have hnR:-(s.1.flatten.getD i 0)∈R.flatten:=(K31.sJ R).mem_iff.mp (h.m1.hneg _ (hi.mem h.m1 hx).1);have e2:-(s'.1.flatten.getD i 0)=f (-(s.1.flatten.getD i 0)):=by
    rw[h.rn.odd _ hxR,e1,gDq,gMq,gDq,gEg c];rfl
   rw[e2];exact h.go n (i+1) (hi.step h.m1 c) (h.step q hnR)
  .have c':¬ i<s'.1.flatten.length:=by rw[e1,lMq];exact c
   rw[oT c,oT c'];exact q.1
theorem HM.rnd(h:HM f R) {e:Int}(he:e∈R.flatten):(K31.rnd (K31.gm (vk f R)) (f e)).1=vk f (K31.rnd (K31.gm R) e).1:=h.go 2000 0 (K31.Jj h.m1 ((K31.sJ R).mem_iff.mpr he)) (h.ini he)
def code(Q:List (List Int)):List (List Int):=Q.map λr=>r.map λx=>(Q.flatten.idxOf (-x):Int)
theorem Mq{Q:List (List Int)}(hr:Pb f Q.flatten) (hneg:∀x∈Q.flatten, -x∈Q.flatten):code (vk f Q)=code Q:=by
 unfold code;rw[wy];unfold vk;rw[mPq];refine mCq λr hrQ=>?_
 show (r.map f).map _=_;rw[mPq];refine mCq λx hx=>?_
 have hxm:x∈Q.flatten:=mFq.mpr ⟨r,hrQ,hx⟩;show (((Q.flatten.map f).idxOf (-(f x)):Nat):Int)=_;rw[←hr.odd x hxm,EZ λy hy e=>hr.inj y hy (-x) (hneg x hxm) e]
end
abbrev cR(r:List Int):D:=.tup (r.map .int)
abbrev cD(c:List (List Int)):D:=.tup (c.map cR)
def tRow(r:List Int):PyData:=.tuple (r.map .int)
theorem Wa(r:List Int):py (cR r)=some (tRow r):=by
 show py (.tup _)=_;simp only[py,FJ];rfl
theorem UU(c:List (List Int)):DL (c.map cR)=some (c.map tRow):=by
 induction c with
 |nil=>simp[DL]
 |cons r rs ih =>
  show DL (cR r::rs.map cR)=_;simp only[DL,Wa,ih];rfl
theorem UC(c:List (List Int)):py (cD c)=some (.tuple (c.map tRow)):=by
 show py (.tup _)=_;simp only[py,UU];rfl
theorem Kb:∀c:List (List Int),PyData.depthAll (c.map tRow)<=2
 | []=>by simp[PyData.depthAll]
 |r::c=>by
  have h1:=W.depthAll_ints r;have h2:=Kb c;simp only[ar,PyData.depthAll,tRow,PyData.depth];lia
theorem RG:∀c:List (List Int),PyData.canLayAll0 (c.map tRow)=true
 | []=>by simp[PyData.canLayAll0]
 |r::c=>by
  have h1:=W.canLayAll0_ints r;have h2:=RG c;simp only[ar,PyData.canLayAll0,tRow,PyData.canLay0];simp[h1,h2]
theorem Gi(c:List (List Int)):SeqAt.shaped (.tuple (c.map tRow))=true:=by
 have h1:=Kb c;have h2:PyData.depth (.tuple (c.map tRow))<=64:=by simp only[PyData.depth];lia
 show (PyData.canLay0 (.tuple (c.map tRow)) && decide (PyData.depth (.tuple (c.map tRow))<=64))=true;rw[eJ];exact⟨by simp only[PyData.canLay0];exact RG c,decide_eq_true h2⟩
theorem JN:∀rs ts:List (List Int),SeqAt.noMixAll (rs.map tRow) (ts.map tRow)=true
 | [],[]=>by simp[SeqAt.noMixAll]
 | [],_::_=>by simp[SeqAt.noMixAll]
 |_::_,[]=>by simp[SeqAt.noMixAll]
 |r::rs,t::ts=>by simp[SeqAt.noMixAll,tRow,SeqAt.noMix,W.noMix_ints r t,JN rs ts]
theorem Mh:∀rs ts:List (List Int),PySem.Spec.sameAll (rs.map tRow) (ts.map tRow)=decide (rs=ts)
 | [],[]=>by simp[PySem.Spec.sameAll]
 | [],_::_=>by simp[PySem.Spec.sameAll]
 |_::_,[]=>by simp[PySem.Spec.sameAll]
 |r::rs,t::ts=>by
  simp only[ar,PySem.Spec.sameAll,tRow,PySem.Spec.same,W.same_ints r t];rw[Mh rs ts]
  by_cases h:r=t <;> simp[h]
theorem OF(c e:List (List Int)):zw (cD c) (cD e)=some (.bl (decide (c=e))):=by
 unfold zw;rw[UC,UC];show (if _ then _ else _)=_
 rw[oQ ⟨Gi c,Gi e,by simp only[SeqAt.noMix];exact JN c e⟩]
 simp only[PySem.Spec.same,Mh]
theorem Sk(c e:List (List Int)):OX (cD c) (cD e)=some (.bl (!decide (c=e))):=by unfold OX;rw[OF];rfl
def CH:Nat->List Int->List (oJ×D)
 |_,[]=>[]
 |k,x::l=>((az x:oJ),D.int (k:Int))::CH (k+1) l
theorem Gh(x:Int):∀(l:List Int) (k:Nat),CH k (l++[x])=CH k l++[((az x:oJ),D.int ((k+l.length:Nat):Int))]
 | [],k=>by simp[CH]
 |y::l,k=>by
  show _::CH (k+1) (l++[x])=(_::CH (k+1) l)++_;rw[Gh x l (k+1),lCq,show k+1+l.length=k+(l.length+1) by lia]
  rfl
theorem CM:∀(l:List Int) (k:Nat),(CH k l).map (·.1)=l.map az
 | [],k=>rfl
 |y::l,k=>by
  show _::(CH (k+1) l).map (·.1)=_;rw[CM l (k+1)];rfl
theorem Qs(l:List Int) (k:Nat):(CH k l).length=l.length:=by
 have:=congrArg bb (CM l k)
 rwa [lMq,lMq]at this
theorem Kf{x:Int}:∀{l:List Int}{k:Nat},x∈l->Z.getD (CH k l) (.inl x)=some (.int ((k+l.idxOf x:Nat):Int))
 | [],k,h=>by cases h
 |y::l,k,h=>by
  unfold Z.getD;show ((((az y:oJ),D.int (k:Int))::CH (k+1) l).find? _).map _=_
  by_cases c:y=x
  .subst c;rw[bO (by simp),gw]
   rfl
  .rw [bC (by simp[c])]
   have:=Kf (l:=l) (k:=k+1) ((ah.mp h).resolve_left λz=>c z.symm)
   rw[gb,show (y == x)=false by simp[c]]
   show Z.getD (CH (k+1) l) (.inl x)=_;rw[this];show some (D.int ((k+1+l.idxOf x:Nat):Int))=some (D.int ((k+(l.idxOf x+1):Nat):Int));rw[show k+1+l.idxOf x=k+(l.idxOf x+1) by lia]
theorem zP{E r:List Int}(h:∀x∈r, -x∈E) (hl:r.length<=500000):ro [.dict (CH 0 E),dI r]=some (.sh (cR (r.map λx=>(E.idxOf (-x):Int)))):=by
 have key:qh pV (kSc (vY (nN 1) (Hz zx (nN 0)))) [some (.sh (.dict (CH 0 E)))] (r.map D.int)=some (r.map λx=>.sh (.int (E.idxOf (-x):Int))):=by
  rw[Z.qq λd=>match d with|.int x=>.sh (.int (E.idxOf (-x):Int))|_=>.sh .non]
  .rw [mPq];rfl
  .intro d hd;obtain⟨x,hx,rfl⟩:=mMq.mp hd;have g:=Kf (k:=0) (h x hx);rw[aK]at g;refine⟨[some (.sh (.int x)),some (.sh (.dict (CH 0 E)))],?_⟩
   simp_arith [g]
 have e:(r.map λx=>AV.sh (.int (E.idxOf (-x):Int))).map nW=(r.map λx=>(E.idxOf (-x):Int)).map D.int:=by
  rw[mPq,mPq];rfl
 have lk:r.length<=qU:=by show _<=16777216;lia
 simp_arith [ro,zS,dI,key,lk,e]
theorem CL{Q:List (List Int)}(hn:Q.flatten.Nodup) (hneg:∀x∈Q.flatten, -x∈Q.flatten) (hl:Q.flatten.length<=1000) (hQ:Q.length<=1000):tP [dM Q]=some (.sh (cD (code Q))):=by
 have to:=zX (rs:=Q) (by lia)
 have sE:=oB Q.flatten;have cl:qh pV (ou K33.ro (nO (oi 1) (nO (oi 0) oC))) [some (.sh (.dict (CH 0 Q.flatten)))] (Q.map dI)=some (Q.map λr=>.sh (cR (r.map λx=>(Q.flatten.idxOf (-x):Int)))):=by
  rw[Z.qq λd=>match d with|.list l=>(ro [.dict (CH 0 Q.flatten),.list l]).getD (.sh .non)|_=>.sh .non]
  .rw [mPq];refine congrArg some (mCq λr hr=>?_)
   have tc:=zP (E:=Q.flatten) (r:=r) (λx hx=>hneg x (mFq.mpr ⟨r,hr,hx⟩)) (by have:=bL.length_le (au hr);lia)
   show (ro [.dict (CH 0 Q.flatten),dI r]).getD (.sh .non)=_;rw[tc];rfl
  .intro d hd;obtain⟨r,hr,rfl⟩:=mMq.mp hd;have tc:=zP (E:=Q.flatten) (r:=r) (λx hx=>hneg x (mFq.mpr ⟨r,hr,hx⟩)) (by have:=bL.length_le (au hr);lia)
   refine⟨[some (.sh (dI r)),some (.sh (.dict (CH 0 Q.flatten)))],?_⟩
   simp_arith [tc,bo]
 obtain⟨S',e,v2,v3,rfl⟩:=MJ (x:=2) (y:=3) (k:=0) (body:=xo) (λi S=>∃v2 v3,S=[some (.sh (dM Q)),some (.owd (CH 0 (Q.flatten.take i))),v2,v3]) (ds:=Q.flatten.map D.int) (S:=[some (.sh (dM Q)),some (.owd []),none,none]) ⟨none,none,rfl⟩ (by
  rintro i d S hd ⟨v2,v3,rfl⟩;rw[aK];rw[gMq]at hd;obtain⟨x,hx,rfl⟩:=oMq.mp hd;have hi:i<Q.flatten.length:=(gSq.mp hx).1;have h3:(CH 0 (Q.flatten.take i)).length<qU:=by rw[Qs,lTq];show _<16777216;lia
  have hput:xN (CH 0 (Q.flatten.take i)) (.inl x) (.int (i:Int))=CH 0 (Q.flatten.take (i+1)):=by
   rw[zO]
   .rw [rL hx,Gh,lTq,dv (by lia),aK]
   .rw [CM];intro m;obtain⟨y,hy,e2⟩:=mMq.mp m;cases e2;have:=hn.sublist (cU (i+1) Q.flatten);rw[rL hx]at this;exact(nAq.mp this).2.2 _ hy _ (by simp) rfl
  refine⟨_,?_,some (.sh (.int (i:Int))),some (.sh (.int x)),rfl⟩
  simp_arith [xo,h3,hput])
 rw[lMq,aK,bA]at e;have st:(Q.map λr=>AV.sh (cR (r.map λx=>(Q.flatten.idxOf (-x):Int)))).map nW=(code Q).map cR:=by
  unfold code;rw[mPq,mPq];rfl
 have lQ:Q.length<=qU:=by show _<=16777216;lia
 simp_arith [tP,Ci,to,sE,dI,e,dM,cl,lQ,st]
theorem BR{rs:List (List Int)}(hn:rs.flatten.Nodup):∀{ps:List Nat},ps.Nodup->(∀p∈ps,p<rs.length)->(ps.flatMap λp=>rs.getD p []).Nodup
 | [],_,_=>aN
 |p::ps,hp,hl=>by
  have hp':=aC.mp hp;have row:∀q,q<rs.length->rs[q]?=some (rs.getD q []):=λq hq=>by rw[gDq,gEg hq];rfl
  rw[cG,nAq];refine⟨IL hn (mGq (row p (hl p (by simp)))),BR hn hp'.2 λq hq=>hl q (by simp[hq]),λa ha b hb e=>?_⟩
  subst e;obtain⟨q,hq,hb⟩:=cw.mp hb;have:=same_place hn (row p (hl p (by simp))) (row q (hl q (by simp[hq]))) ha hb
  exact hp'.1 (this ▸ hq)
section
variable {rs:List (List Int)}{e:Int}
theorem RY(hm:Mp rs) (he:e∈rs.flatten):(K31.rnd rs e).1.flatten.Nodup:=by
 have h:=K31.zA hm he;exact h.pm.nodup_iff.mpr (BR hm.hn h.nd h.lt)
theorem JE(hm:Mp rs) (he:e∈rs.flatten):∀x∈(K31.rnd rs e).1.flatten, -x∈(K31.rnd rs e).1.flatten:=λx hx=>by
 have h:=K31.zA hm he;obtain⟨j,hj,ej⟩:=bM.mp hx;have hp:=h.cl j hj;rw[gDq,gEg hj,bo,ej]at hp;obtain⟨r,hr,hxr⟩:=hm.at (hm.hneg x (h.mem hm hx).1);refine h.pm.mem_iff.mpr (cw.mpr ⟨_,hp,?_⟩);rw[gDq,hr];exact hxr
end
end K33
namespace K51
open PySem L2 Mr Z Xe Zl
def rot(r:List Int):List Int:=r.drop 1++r.take 1
def PV(r:List Int):List (oJ×Int):=(r.zip (rot r)).map λp=>(.inl p.1,p.2)
def Up(rs:List (List Int)):List (oJ×Int):=(rs.map PV).flatten
def XI(ps:List (oJ×Int)):List (oJ×D):=ps.map λp=>(p.1,D.int p.2)
end K51
namespace K15
open PySem L2 Mr Z Xe Zl
def nx(rs:List (List Int)) (e:Int):Int:=match Z.getD (K51.XI (K51.Up rs)) (.inl e) with
 |some (.int n)=>n
 |_=>0
end K15
namespace K16
open PySem L2 Mr Z Xe Zl
theorem UW(k:MK) (b:ME) (S:AS):Tu k b S=(k S).bind λx=>(b x.2).bind λy=>match x.1,y.1 with
 | .sh (.tup ds),.int i=>(L2.atI ds i).map λd=>(.sh d,y.2)
 |_,_=>none:=rfl
end K16
namespace K34
open PySem L2 Mr Z Xe Zl
section
variable {rs:List (List Int)}
theorem V8(h:Mp rs):K51.Mp rs:=⟨h.hn,h.hl,h.hr,h.hneg⟩
end
theorem LO(cs:List (List (List Int))):((cs.map dC).map AV.sh).map nW=cs.map dC:=by
 rw[mPq,mPq];exact mCq λ_ _=>rfl
end K34
namespace K39
open PySem L2 Mr Z Xe Zl
structure Au (G:List (List Int)) (f:Int->Int):Prop where
 mem:∀x∈G.flatten,f x∈G.flatten
 odd:∀x∈G.flatten,f (-x) = -(f x)
 nx:∀x∈G.flatten,f (K15.nx G x)=K15.nx G (f x)
def Ok(G:List (List Int)) (s e:Int):Prop:=∃f,Au G f/\f s=e
def WX(G:List (List Int)) (s e:Int):Bool:=@decide (Ok G s e) (cL _)
def af(G:List (List Int)) (s e:Int):Int->Int:=@dite _ (Ok G s e) (cL _) (λh=>Classical.choose h) λ_=>id
def Xi(G:List (List Int)) (s e:Int):List (List Int):=yK (G.flatten.map λx=>[x,af G s e x])
def Xy(G:List (List Int)) (s:Int) (E:List Int):List (List (List Int)):=(E.filter (WX G s)).map (Xi G s)
end K39
namespace K51
open PySem L2 Mr Z Xe Zl
structure Od (i:Nat) (PS:List (List Nat)):Prop where
 pw:PS.Pairwise λa b=>∃s∈a,∀y∈b,s<y
 lo:∀a∈PS,∃s∈a,s<i
theorem Od.mono{i j:Nat}{PS:List (List Nat)}(h:Od i PS) (hij:i<=j):Od j PS:=⟨h.pw,λa ha=>by
 obtain⟨s,h1,h2⟩:=h.lo a ha;exact⟨s,h1,by lia⟩⟩
theorem Od.add{i:Nat}{PS:List (List Nat)}(h:Od i PS) {ps:List Nat}(hi:i∈ps) (hy:∀y∈ps,i<=y):Od (i+1) (PS++[ps]):=by
 refine⟨eV.mpr ⟨h.pw,dt ..,λa ha b hb=>?_⟩,λa ha=>?_⟩
 .rw [mSq.mp hb];obtain⟨s,h1,h2⟩:=h.lo a ha;exact⟨s,h1,λy hy'=>by have:=hy y hy';lia⟩
 .rcases mAq.mp ha with q|q
  .obtain ⟨s,h1,h2⟩:=h.lo a q;exact⟨s,h1,by lia⟩
  .rw [mSq.mp q];exact⟨i,hi,by lia⟩
theorem Jg{rs:List (List Int)}(hm:Mp rs):∃kn PS,Ps rs rs.length kn PS/\Od rs.length PS/\qO [dM rs]=some (.ow (PS.map (pA rs))):=by
 have h1000:=hm.hr;have key:=yV (x:=3) (body:=rW) (λi S=>∃kn PS v3 v4 v5,S=[some (.sh (dM rs)),some (.owd (kd kn)),some (.ow (PS.map (pA rs))),v3,v4,v5]/\Ps rs i kn PS/\Od i PS) (ds:=pS 0 rs.length) (S:=[some (.sh (dM rs)),some (.owd []),some (.ow []),none,none,none])
  ⟨[],[],none,none,none,rfl,⟨by simp,by simp,by simp,by simp,by simp,by simp,by simp,by simp⟩,⟨bJ.nil,λa ha=>(by cases ha)⟩⟩ (by
  rintro i d S hd ⟨kn,PS,v3,v4,v5,rfl,hp,ho⟩;have hi:i<rs.length:=by
   have:=(gSq.mp hd).1
   rwa [qB]at this
  rw[zh hi,gV]at hd;cases hd;have hg:=kd_get kn i
  by_cases c:i∈kn
  .rw [decide_eq_true c]at hg;refine⟨[some (.sh (dM rs)),some (.owd (kd kn)),some (.ow (PS.map (pA rs))),some (.sh (.int (i:Int))),v4,v5],?_,kn,PS,_,_,_,rfl,⟨hp.sub,hp.dj,hp.pc,?_,hp.mem,hp.nd,hp.lt,?_⟩,ho.mono (aT _)⟩
   .simp_arith [rW,hg]
   .intro k hk;rcases dg.mp hk with q|rfl
    .exact hp.all k q
    .exact c
   .have:=hp.len;lia
  .rw [decide_eq_false c]at hg;obtain⟨ps,h1,e1⟩:=CN hm hi;have p1:=Pa _ _ hp.nd hp.lt;have p2:=Pa _ _ h1.nd h1.lt;have p3:=hp.len;have l2:ps.length<=qU:=by show _<=16777216;lia
   have l3:PS.length<qU:=by show _<16777216;lia
   obtain⟨v5',e2⟩:=Dv (ps:=ps) (kn:=kn) (v0:=some (.sh (dM rs))) (v2:=some (.ow (PS.map (pA rs)))) (v3:=some (.sh (.int (i:Int)))) (v4:=some (.sh (dI (ps.map λk:Nat=>(k:Int))))) (v5:=v5) (by lia)
   have e3:=BW h1.lt;refine⟨[some (.sh (dM rs)),some (.owd (kd (ps.foldl addN kn))),some (.ow ((PS++[ps]).map (pA rs))),some (.sh (.int (i:Int))),some (.sh (dI (ps.map λk:Nat=>(k:Int)))),v5'],?_,ps.foldl addN kn,PS++[ps],_,_,_,rfl,⟨?_,?_,?_,?_,?_,Ey hp.nd,?_,?_⟩,ho.add ((h1.iff i).mpr .base) (λy hy=>?_)⟩
   .simp_arith [rW,hg,e1,e2,e3,l2,l3,mBq,pA]
   .intro qs hq k hk;rcases mAq.mp hq with q|q
    .exact rd.mpr (.inl (hp.sub qs q k hk))
    .rw [mSq.mp q]at hk;exact rd.mpr (.inr hk)
   .rw [eV];refine⟨hp.dj,dt ..,λqs hq b hb k hk hk2=>c ?_⟩
    rw[mSq.mp hb]at hk2;obtain⟨s,hs,hc⟩:=hp.pc qs hq;exact hp.sub qs hq i ((hc.iff i).mpr (((hc.iff k).mp hk).trans (((h1.iff k).mp hk2).symm hm)))
   .intro qs hq;rcases mAq.mp hq with q|q
    .exact hp.pc qs q
    .rw [mSq.mp q];exact⟨i,hi,h1⟩
   .intro k hk;rcases dg.mp hk with q|rfl
    .exact rd.mpr (.inl (hp.all k q))
    .exact rd.mpr (.inr ((h1.iff k).mpr .base))
   .intro k hk;rcases rd.mp hk with q|q
    .obtain ⟨qs,a,b⟩:=hp.mem k q;exact⟨qs,mAq.mpr (.inl a),b⟩
    .exact ⟨ps,mAq.mpr (.inr (mSq.mpr rfl)),q⟩
   .intro k hk;rcases rd.mp hk with q|q
    .exact hp.lt k q
    .exact h1.lt k q
   .rw [lAq,lSq];lia
   .refine dG λq=>c ?_
    obtain⟨qs,hq,hk2⟩:=hp.mem y (hp.all y q);obtain⟨s,hs,hc⟩:=hp.pc qs hq;exact hp.sub qs hq i ((hc.iff i).mpr (((hc.iff y).mp hk2).trans (((h1.iff y).mp hy).symm hm))))
 obtain⟨S',e,kn,PS,v3,v4,v5,rfl,hp,ho⟩:=key;rw[qB]at hp ho;have r1:=zU (n:=rs.length) (by lia)
 refine⟨kn,PS,hp,ho,?_⟩
 simp_arith [qO,AU,dM,r1,e]
end K51
namespace K11
open PySem L2 Mr Z Xe Zl K12
structure Pm (P:List (List (List Int))):Prop where
 nd:P.flatten.flatten.Nodup
 mp:K51.Mp (gm P.flatten)
theorem yy{p:List (List Int)}(h:Cn p) (hb:[]∈p) (hn:p.flatten.Nodup):p=[[]]:=by
 obtain⟨k,hk⟩:=aD.mp hb;have hlt:=(gSq.mp hk).1;have hkD:p.getD k []=[]:=by rw[gDq,hk];rfl
 have h0:k=0:=by
  by_cases q:0<k
  .obtain ⟨j,e,_,_,h3⟩:=h.tr k q hlt;rw[hkD]at h3;cases h3
  .lia
 subst h0
 by_cases q:1<p.length
 .obtain ⟨j,e,h1,h2,_⟩:=h.tr 1 (by lia) q
  have:j=0:=by lia
  rw[this,hkD]at h2;cases h2
 .cases p with
  |nil=>cases hb
  |cons a p =>
   cases p with
   |nil =>
    have:a=[]:=aM.inj hk;rw[this]
   |cons b p=>exact absurd (show 1<(a::b::p).length by simp) q
theorem JI:∀{L:List (List Int)},L.flatten.Nodup->(∀l∈L,l≠[])->L.Nodup
 | [],_,_=>aN
 |a::L,h,hne=>by
  rw[fCq,nAq]at h;refine aC.mpr ⟨λm=>?_,JI h.2.1 λl hl=>hne l (mCo _ hl)⟩
  cases a with
  |nil=>exact hne [] (aj ..) rfl
  |cons x a=>exact h.2.2 x (aj ..) x (mFq.mpr ⟨_,m,aj ..⟩) rfl
section
variable {P:List (List (List Int))}
theorem zG(h:Pm P) {p:List (List Int)}(hp:p∈P):p.flatten.Nodup:=by
 have:=h.nd;rw[cE]at this;exact bJ.sublist (au (mMq.mpr ⟨p,hp,rfl⟩)) this
theorem Cf:∀{P:List (List (List Int))},P.flatten.flatten.Nodup->∀{p q:List (List Int)}{e:Int},p∈P->q∈P->e∈p.flatten->e∈q.flatten->p=q
 | [],_,p,q,e,hp,_,_,_=>by cases hp
 |a::P,h,p,q,e,hp,hq,h1,h2=>by
  rw[fCq,fAq,nAq]at h;have inP:∀{r:List (List Int)},r∈P->e∈r.flatten->e∈P.flatten.flatten:=λ{r} hr hr'=>by
   obtain⟨l,hl,hel⟩:=mFq.mp hr';exact mFq.mpr ⟨l,mFq.mpr ⟨r,hr,hl⟩,hel⟩
  rcases ah.mp hp with e1|e1
  .rcases ah.mp hq with e2|e2
   .rw [e1,e2]
   .rw [e1]at h1;exact absurd rfl (h.2.2 e h1 e (inP e2 h2))
  .rcases ah.mp hq with e2|e2
   .rw [e2]at h2;exact absurd rfl (h.2.2 e h2 e (inP e1 h1))
   .exact Cf h.2.1 e1 e2 h1 h2
theorem Ov(h:Pm P) {p:List (List Int)}(hp:p∈P) {r:List Int}(hr:r∈p):uL r∈gm P.flatten:=(ql _).mem_iff.mpr (mMq.mpr ⟨r,mFq.mpr ⟨p,hp,hr⟩,rfl⟩)
theorem vV(h:Pm P) {p:List (List Int)}(hp:p∈P) {r:List Int}(hr:r∈p) {e:Int}(he:e∈r):(gm P.flatten)[plc (gm P.flatten) e]?=some (uL r)/\∀k,(gm P.flatten)[k]?=some (uL r)->k=plc (gm P.flatten) e:=by
 have mp:=h.mp;have hg:e∈uL r:=(rN r).mem_iff.mpr he;obtain⟨k,hk⟩:=aD.mp (Ov h hp hr);have e1:=K51.plc_eq mp.hn hk hg;refine⟨by rw[show plc (gm P.flatten) e=k from e1];exact hk,λk' hk'=>?_⟩
 exact(K51.plc_eq mp.hn hk' hg).symm
theorem getD_mem{p:List (List Int)}{k:Nat}{e:Int}(h:e∈p.getD k []):p.getD k []∈p:=by
 rw[gDq]at h ⊢;cases q:p[k]? with
 |none=>rw[q]at h;cases h
 |some r=>exact mGq q
theorem FH(h:Pm P) {p:List (List Int)}(hp:p∈P) (hc:Cn p) {e0:Int}(h0:e0∈p.getD 0 []):∀k,k<p.length->∀e,e∈p.getD k []->K51.Ft (gm P.flatten) (plc (gm P.flatten) e0) (plc (gm P.flatten) e):=by
 intro k
 induction k using fZ with
 |_ k ih =>
  intro hk e he;have same:∀{e1 e2:Int}{k:Nat},e1∈p.getD k []->e2∈p.getD k []->plc (gm P.flatten) e1=plc (gm P.flatten) e2:=λ{e1 e2 k} q1 q2=>(vV h hp (getD_mem q2) q2).2 _ (vV h hp (getD_mem q1) q1).1
  by_cases q:0<k
  .obtain ⟨j,e',h1,h2,h3⟩:=hc.tr k q hk;have r:=ih j h1 (by lia) e' h2
   have hrow:=(vV h hp (getD_mem h2) h2).1;have st:=K51.Ft.step r hrow ((rN _).mem_iff.mpr h2);have e1:K51.plc (gm P.flatten) (-e')=plc (gm P.flatten) (-e'):=rfl;rw[e1,same h3 he]at st;exact st
  .have:k=0:=by lia
   subst this;rw[same h0 he];exact .base
theorem Il(h:Pm P) (hc:∀p∈P,Cn p) {s:Nat}{ps:List Nat}(hs:s<(gm P.flatten).length) (pc:K51.Pc (gm P.flatten) s ps):∃p∈P,(ps.map λk=>(gm P.flatten).getD k [])=gm p:=by
 have mp:=h.mp;obtain⟨ρ,hρ⟩:∃ρ,(gm P.flatten)[s]?=some ρ:=⟨_,gEg hs⟩;obtain⟨r0,hr0,e0⟩:=mMq.mp ((ql _).mem_iff.mp (mGq hρ));obtain⟨p,hp,hr0p⟩:=mFq.mp hr0;refine⟨p,hp,?_⟩;have cn:=hc p hp;have pn:=zG h hp
 by_cases hb:([]:List Int)∈p
 .have ep:=yy cn hb pn;rw[ep]at hr0p;rw[mSq.mp hr0p,Hl]at e0;subst e0;have only:∀k,K51.Ft (gm P.flatten) s k->k=s:=λk hk=>by
   induction hk with
   |base=>rfl
   |step _ a b ih =>
    rw[ih,hρ]at a;cases a;cases b
  have eps:ps=[s]:=by
   have m:s∈ps:=(pc.iff s).mpr .base;have all:∀k∈ps,k=s:=λk hk=>only k ((pc.iff k).mp hk)
   have nd:=pc.nd
   match ps,m,all,nd with
   | [a],m,all,_=>rw[all a (by simp)]
   |a::b::l,m,all,nd=>exact absurd ((all a (by simp)).trans (all b (by simp)).symm) (λz=>(aC.mp nd).1 (by rw[z];simp))
  have g1:gm [[]]=[[]]:=by
   have:(gm [[]]).Perm [[]]:=ql [[]];exact gJ.mp this
  rw[eps,ep,g1];show [(gm P.flatten).getD s []]=[[]];rw[gDq,hρ];rfl
 .have hne:∀r∈p,r≠[]:=λr hr z=>hb (z ▸ hr)
  have key:∀k,k∈ps↔∃r∈p,(gm P.flatten)[k]?=some (uL r):=λk=>by
   rw[pc.iff k];constructor
   .intro hk
    induction hk with
    |base=>exact⟨r0,hr0p,by rw[hρ,e0]⟩
    | @step k r e _ a b ih =>
     obtain⟨r',hr',er'⟩:=ih;rw[a]at er';cases er';have h1:e∈p.flatten:=mFq.mpr ⟨r',hr',(rN r').mem_iff.mp b⟩;obtain⟨r2,hr2,he2⟩:=mFq.mp (cn.clo e h1);exact⟨r2,hr2,(vV h hp hr2 he2).1⟩
   .rintro ⟨r,hr,er⟩;obtain⟨j0,hj0⟩:=aD.mp hr0p;obtain⟨j,hj⟩:=aD.mp hr;have hroot:p.getD 0 []∈p:=by
     cases hpp:p with
     |nil=>exact absurd hpp cn.ne
     |cons a l=>simp
    obtain⟨eR,hR⟩:=cX _ (hne _ hroot);obtain⟨x0,hx0⟩:=cX _ (hne _ hr0p);obtain⟨x,hx⟩:=cX _ (hne _ hr);have d0:p.getD j0 []=r0:=by rw[gDq,hj0];rfl
    have d1:p.getD j []=r:=by rw[gDq,hj];rfl
    have t0:=FH h hp cn hR j0 (gSq.mp hj0).1 x0 (by rw[d0];exact hx0)
    have t1:=FH h hp cn hR j (gSq.mp hj).1 x (by rw[d1];exact hx)
    have s0:s=plc (gm P.flatten) x0:=(vV h hp hr0p hx0).2 s (by rw[hρ,e0])
    have k0:k=plc (gm P.flatten) x:=(vV h hp hr hx).2 k er;rw[s0,k0];exact(t0.symm mp).trans t1
  refine HW ?_ ?_
  .refine (fy ?_ ?_).mpr λy=>?_
   .rw [cg,aJ];refine bJ.imp_of_mem (λ{a b} ha hb' hab q=>?_) (cg.mp pc.nd)
    obtain⟨r,hr,er⟩:=(key a).mp ha;obtain⟨r',hr',er'⟩:=(key b).mp hb';rw[gDq,gDq,er,er']at q;have q':uL r=uL r':=q;obtain⟨x,hx⟩:=cX _ (hne r hr);exact hab (((vV h hp hr hx).2 a er).trans ((vV h hp hr hx).2 b (by rw[er',q'])).symm)
   .refine JI ?_ λl hl=>?_
    .exact (uj rN p).nodup_iff.mpr pn
    .obtain ⟨r,hr,rfl⟩:=mMq.mp hl;intro z;have:=congrArg bb z;rw[Bo]at this;exact hne r hr (aU.mp this)
   .rw [mMq,mMq];constructor
    .rintro ⟨k,hk,rfl⟩;obtain⟨r,hr,er⟩:=(key k).mp hk;exact⟨r,hr,by rw[gDq,er];rfl⟩
    .rintro ⟨r,hr,rfl⟩;obtain⟨k,hk⟩:=aD.mp (Ov h hp hr);exact⟨k,(key k).mpr ⟨r,hr,hk⟩,by rw[gDq,hk];rfl⟩
  .rw [aJ];have so:=bJ.and pc.so (cg.mp pc.nd);refine bJ.imp_of_mem (λ{a b} ha hb' hab=>?_) so
   have hlt:a<b:=Nat.lt_of_le_of_ne hab.1 hab.2;have la:=pc.lt a ha;have lb:=pc.lt b hb';have:=bR.mp (zt (P.flatten.map uL)) a b la lb hlt;rw[gDq,gDq,gEg la,gEg lb];exact this
end
theorem Cr{ρ:List Int}{m:List (List Int)}:∀{f:List (List (List Int))},(∀m'∈f,ρ∈m'->m'=m)->f.flatten.count ρ=f.count m*m.count ρ
 | [],_=>by simp
 |a::f,h=>by
  have ih:=Cr (f:=f) λm' hm=>h m' (mCo _ hm)
  rw[fCq,cAq,ih]
  by_cases q:a=m
  .rw [q,List.count_cons_self,Nat.add_mul,Nat.one_mul,iX]
  .rw [List.count_cons_of_ne q];have:a.count ρ=0:=fw.mpr λz=>q (h a (aj ..) z)
   lia
theorem Vi{p:List (List Int)}(h:Cn p):∃ρ,ρ∈gm p:=by
 cases hp:p with
 |nil=>exact absurd hp h.ne
 |cons a l=>exact⟨uL a,(ql _).mem_iff.mpr (mMq.mpr ⟨a,by simp,rfl⟩)⟩
theorem Iy{P:List (List (List Int))}(h:Pm P) (hc:∀p∈P,Cn p) {p q:List (List Int)}(hp:p∈P) (hq:q∈P) {ρ:List Int}(h1:ρ∈gm p) (h2:ρ∈gm q):gm p=gm q:=by
 obtain⟨r,hr,er⟩:=mMq.mp ((ql _).mem_iff.mp h1);obtain⟨t,ht,et⟩:=mMq.mp ((ql _).mem_iff.mp h2);cases r with
 |nil =>
  rw[Hl]at er;have:t=[]:=by
   have:=congrArg bb et;rw[Bo,←er]at this;exact aU.mp this
  rw[yy (hc p hp) hr (zG h hp),yy (hc q hq) (this ▸ ht) (zG h hq)]
 |cons x r =>
  have hx:x∈uL (x::r):=(rN _).mem_iff.mpr (by simp)
  rw[er,←et]at hx;have hx2:x∈t:=(rN t).mem_iff.mp hx;rw[Cf h.nd hp hq (mFq.mpr ⟨_,hr,by simp⟩) (mFq.mpr ⟨t,ht,hx2⟩)]
theorem Hi{P:List (List (List Int))}(h:Pm P) (hc:∀p∈P,Cn p):∃PS:List (List Nat),K51.qO [dM (gm P.flatten)]=some (.ow (PS.map (K51.pA (gm P.flatten))))/\(PS.map λps=>ps.map λk=>(gm P.flatten).getD k [])=ug (P.map gm):=by
 obtain⟨kn,PS,hp,ho,e⟩:=K51.Jg (h.mp);refine⟨PS,e,?_⟩;have hA:∀ps∈PS,∃p∈P,(ps.map λk=>(gm P.flatten).getD k [])=gm p:=λps hps=>by
  obtain⟨s,hs,pc⟩:=hp.pc ps hps;exact Il h hc hs pc
 refine Ad ?_ ?_
 .rw [dQ];intro m;have hfl:(PS.map λps=>ps.map λk=>(gm P.flatten).getD k []).flatten.Perm (P.map gm).flatten:=((Gv hp).trans (ql _)).trans (Sz (.refl _)).symm
  have all1:∀m'∈(PS.map λps=>ps.map λk=>(gm P.flatten).getD k []),∃p∈P,m'=gm p:=λm' hm=>by
   obtain⟨ps,hps,rfl⟩:=mMq.mp hm;exact hA ps hps
  have all2:∀m'∈P.map gm,∃p∈P,m'=gm p:=λm' hm=>by
   obtain⟨p,hp',rfl⟩:=mMq.mp hm;exact⟨p,hp',rfl⟩
  by_cases q:∃p∈P,m=gm p
  .obtain ⟨p,hpP,rfl⟩:=q;obtain⟨ρ,hρ⟩:=Vi (hc p hpP);have c1:=Cr (ρ:=ρ) (m:=gm p) (f:=PS.map λps=>ps.map λk=>(gm P.flatten).getD k []) λm' hm hρ'=>by
    obtain⟨q,hq,rfl⟩:=all1 m' hm;exact Iy h hc hq hpP hρ' hρ
   have c2:=Cr (ρ:=ρ) (m:=gm p) (f:=P.map gm) λm' hm hρ'=>by
    obtain⟨q,hq,rfl⟩:=all2 m' hm;exact Iy h hc hq hpP hρ' hρ
   rw[hfl.count_eq,c2]at c1;exact(Nat.eq_of_mul_eq_mul_right (bU.mpr hρ) c1).symm
  .rw [fw.mpr λz=>q (all1 m z),fw.mpr λz=>q (all2 m z)]
 .rw [aJ];refine bJ.imp_of_mem (λ{a b} ha hb hab=>?_) ho.pw
  obtain⟨s,hs,hlt⟩:=hab;obtain⟨s1,_,pa⟩:=hp.pc a ha;obtain⟨s2,_,pb⟩:=hp.pc b hb
  match a,b,ha,hb,hs,hlt,pa,pb with
  |a0::as,b0::bs,ha,hb,hs,hlt,pa,pb =>
   have h0:a0<=s:=by
    rcases ah.mp hs with z|z
    .lia
    .exact (cy.mp pa.so).1 s z
   have hab:a0<b0:=by have:=hlt b0 (by simp);lia
   have la:=pa.lt a0 (by simp)
   have lb:=pb.lt b0 (by simp)
   have hsr:=bR.mp (zt (P.flatten.map uL)) a0 b0 la lb hab;have ea:(gm P.flatten).getD a0 []=(gm P.flatten)[a0]:=by rw[gDq,gEg la];rfl
   have eb:(gm P.flatten).getD b0 []=(gm P.flatten)[b0]:=by rw[gDq,gEg lb];rfl
   by_cases q:(gm P.flatten).getD b0 []=(gm P.flatten).getD a0 []
   .obtain ⟨p,hpP,e1⟩:=hA _ ha;obtain⟨p',hpP',e2⟩:=hA _ hb;have m1:(gm P.flatten).getD a0 []∈gm p:=by rw[←e1];simp
    have m2:(gm P.flatten).getD a0 []∈gm p':=by rw[←e2,←q];simp
    rw[e1,e2,Iy h hc hpP hpP' m1 m2];exact HT.uI _
   .rw [ar,ar,HT.oZ,oT q,ea,eb];exact hsr
  | [],b,ha,hb,hs,_,_,_=>cases hs
  |a0::as,[],ha,hb,hs,hlt,pa,pb =>
   have:=(pb.iff s2).mpr .base;cases this
end K11
namespace K35
open PySem PySem.Spec PyProof.Rows L2 Mr Z Xe Zl
open K12 (gm ql)
theorem Iz:∀{ds:List D}{ps:List PyData},ds.length=ps.length->(∀(i:Nat) (d:D) (p:PyData),ds[i]?=some d->ps[i]?=some p->py d=some p)->DL ds=some ps
 | [],[],_,_=>by simp[DL]
 |d::ds,p::ps,l,h=>by
  have h0:=h 0 d p rfl rfl;have ih:=Iz (ds:=ds) (ps:=ps) (by simpa using l) λi d p a b=>h (i+1) d p a b
  simp[DL,h0,ih]
theorem SB{n:Nat}{d:D}{p:PyData}(h:Dl n d p):py d=some p:=by
 induction h with
 |non=>rfl
 |bl=>rfl
 |int=>rfl
 |str _=>rfl
 |list l _ ih=>rw[py,Iz l ih];rfl
 |tup l _ ih=>rw[py,Iz l ih];rfl
theorem Qa{n:Nat}{d:D}{p:PyData}(h:Dl n d p) (hn:n<=64):zw d d=some (.bl true):=by
 have hp:=SB h;unfold zw;rw[hp];show (if _ then _ else _)=_
 rw[oQ ⟨h.shaped hn,h.shaped hn,h.mix⟩,same_self]
theorem Et{α:Type}{f:α->D}{g:α->PyData}{n:Nat}(l:List α) (h:∀x,Dl n (f x) (g x)):∀(i:Nat) (d:D) (p:PyData),(l.map f)[i]?=some d->(l.map g)[i]?=some p->Dl n d p:=λi d p a b=>by
 rw[gMq]at a b;obtain⟨x,hx,rfl⟩:=oMq.mp a;rw[hx]at b;cases b;exact h x
theorem Sq(cs:List (List (List Int))):∃p,Dl 3 (.list (cs.map dC)) p:=⟨_,.list (ps:=cs.map λc=>.tuple (c.map λr=>.tuple (r.map .int))) (by rw[lMq,lMq]) (Et cs λc=>.tup (by rw[lMq,lMq]) (Et c λr=>.tup (by rw[lMq,lMq]) (Et r λi=>.int)))⟩
theorem Ux(cs:List (List (List Int))):zw (.list (cs.map dC)) (.list (cs.map dC))=some (.bl true):=by
 obtain⟨p,h⟩:=Sq cs;exact Qa h (by decide)
end K35
namespace K40
open PySem L2 Mr Z Zl
open K31 (FG By rot L4 rnd)
open K39 (Au WX af Xi Xy)
theorem VL:mb_round_turns_0=K31.mb_round_turns_0:=rfl
theorem yj{rs:List (List Int)}(hm:Mp rs) {e:Int}(he:e∈rs.flatten):qR [dM rs,.int e]=some (L4 (rnd rs e).1):=by
 have hl:=hm.hl;obtain⟨i,v7,v8,ew⟩:=K31.HE hm he;rw[←VL]at ew;have pa:=Ak hm.hn (by lia)
 have kv:=hm.kv he;obtain⟨r,hr,hxr⟩:=hm.at he;have gr:rs.getD (plc rs e) []=r:=by rw[gDq,hr];rfl
 have rl:=hm.row hr;have tf:=K31.zZ hxr (by lia)
 have at2:atI (rs.map dI) (plc rs e:Int)=some (dI r):=xg (by rw[gMq,hr];rfl)
 have s1:=oB (rot r e);have at0:atI [dI (rot r e)] 0=some (dI (rot r e)):=rfl;have e3:((rot r e).map D.int).map AV.sh=(rot r e).map λn=>AV.sh (.int n):=by rw[mPq];rfl
 have e4:[((az (plc rs e:Int):oJ),D.bl true)]=kd [plc rs e]:=rfl;have l1:(1:Nat)<=qU:=by decide
 have e5:[some (.sh (dM rs)),some (.sh (.int e)),some (.owd (qe 0 rs)),some (.ow [.sh (dI (rot r e))]),some (.ow ((rot r e).map λn=>AV.sh (.int n))),some (.owd (kd [plc rs e])),some (.sh (.int 0)),none,none]=FG rs e (By rs e) 0 none none:=by
  unfold FG By L4;rw[gr];simp
 simp_arith [qR,xV,pa,kv,gM,dM,at2,tf,s1,at0,e3,e4,l1]
 simp -implicitDefEqProofs only [Z.WK,fD,gF,fH,fJ,eU,↓reduceIte,reduceCtorEq,dM]at e5;rw[e5,ew]
 simp_arith [FG]
theorem Dk{rs:List (List Int)}(hm:Mp rs) {e:Int}(he:e∈rs.flatten):tV [dM rs,.int e]=some (aI (rnd rs e).1.flatten):=by
 have hl:=hm.hl;have h1:=yj hm he;have h2:=(K31.zA hm he).few;have h3:=zX (rs:=(rnd rs e).1) (by lia)
 have h4:=K31.CO (rnd rs e).1
 simp_arith [tV,yP,h1,h4,h3]
theorem wu{rs:List (List Int)}(hm:Mp rs) {e:Int}(he:e∈rs.flatten):oE [dM rs,.int e]=some (.sh (K33.cD (K33.code (rnd rs e).1))):=by
 have h1:=yj hm he;have h:=K31.zA hm he;have h2:=h.few;have h5:=K51.Pa _ _ h.nd h.lt;have h6:=h.ln;have hl:=hm.hl;have hr:=hm.hr;have h3:=K33.CL (K33.RY hm he) (K33.JE hm he) (by lia) (by lia)
 have h4:=K31.CO (rnd rs e).1
 simp_arith [oE,yT,h1,h4,h3]
section
variable {G:List (List Int)}{s e:Int}
theorem K4(hm:Mp G) (hc:K31.B7 G) (hp:0<G.length):pZ [dM G]=some (.sh .non):=by
 obtain⟨kn,PS,h,e⟩:=K51.pieces_ok (K34.V8 hm);have h1:PS.length=1:=by
  obtain⟨ps,hps,_⟩:=h.mem 0 (h.all 0 hp);have pos:0<PS.length:=eh hps
  by_cases c:PS.length=1
  .exact c
  .obtain ⟨a,b,L,rfl⟩:∃a b L,PS=a::b::L:=by
    match PS,pos,c with
    | [a],_,c=>exact absurd rfl c
    |a::b::L,_,_=>exact⟨a,b,L,rfl⟩
   obtain⟨s1,l1,p1⟩:=h.pc a (by simp)
   obtain⟨s2,l2,p2⟩:=h.pc b (by simp)
   have r12:K51.Ft G s1 s2:=hc (λk=>K51.Ft G s1 k) ⟨s1,l1,.base⟩ (λp r x hr hx hp=>.step hp hr hx) s2 l2
   have dj:=(cy.mp h.dj).1 b (by simp)
   exact absurd ((p2.iff s2).mpr .base) (dj s2 ((p1.iff s2).mpr r12))
 have h':((PS.length:Nat):Int)=1:=by lia
 simp_arith [pZ,tJ,e,h']
end
end K40
namespace K37
open PySem L2 Mr Z Zl
open K31 (rnd B7)
def cd(G:List (List Int)) (e:Int):List (List Int):=K33.code (rnd G e).1
def rK(G:List (List Int)):List (List Int):=(AK ((qF G.flatten).map (cd G))).getD [[]]
def LJ(G:List (List Int)):List Int:=(qF G.flatten).filter λe=>decide (cd G e=rK G)
def lr(G:List (List Int)):List Int:=match LJ G with
 | []=>[]
 |s::_=>(rnd G s).1.flatten
structure Pg (G:List (List Int)):Prop where
 mp:Mp G
 cn:B7 G
 ps:0<G.length
 br:G.flatten=[]->G=[[]]
theorem AX{c:Int->List (List Int)}{kb:MK}{dm:D}:∀{E:List Int}{x:Int},(∀e∈E,Fd kb dm (.int e)=some (c e))->∃y,Mc kb dm (E.map D.int) (.int x) (c x)=some (.int y)/\y∈x::E/\(∀z∈x::E,HT.oZ (c z) (c y)=false)/\(x::E).find? (λe=>decide (c e=c y))=some y
 | [],x,_=>⟨x,rfl,by simp,λz hz=>by rw[mSq.mp hz];exact HT.uI _,by simp⟩
 |e::E,x,h=>by
  have he:=h e (aj ..);have h':=λz hz=>h z (mCo _ hz)
  by_cases q:HT.oZ (c e) (c x)=true
  .obtain ⟨y,h1,h2,h3,h4⟩:=AX (x:=e) h';have ne:c x≠c y:=λw=>by
    have:=h3 e (aj ..);rw[←w,q]at this;cases this
   refine⟨y,?_,mCo _ h2,λz hz=>?_,?_⟩
   .show (Fd kb dm (.int e)).bind _=_;rw[he,bE,oQ q,h1]
   .rcases ah.mp hz with rfl|hz
    .exact HT.qS _ _ _ (h3 e (aj ..)) (HT.tL _ _ q)
    .exact h3 z hz
   .rw [bC (by simp[ne]),h4]
  .have q':HT.oZ (c e) (c x)=false:=by simpa using q
   obtain⟨y,h1,h2,h3,h4⟩:=AX (x:=x) h';have hx:=h3 x (aj ..);refine⟨y,?_,?_,λz hz=>?_,?_⟩
   .show (Fd kb dm (.int e)).bind _=_;rw[he,bE,oT q,h1]
   .rcases ah.mp h2 with w|w
    .rw [w];simp
    .simp [w]
   .rcases ah.mp hz with rfl|hz
    .exact hx
    .rcases ah.mp hz with rfl|hz
     .exact HT.qS _ _ _ hx q'
     .exact h3 z (mCo _ hz)
   .by_cases w:c x=c y
    .rw [bO (by simp[w])]at h4 ⊢
     exact h4
    .have we:c e≠c y:=λv=>w (HT.sN _ _ hx (by rw[←v];exact q'))
     rw[bC (by simp[w])]at h4 ⊢
     rw[bC (by simp[we]),h4]
section
variable {G:List (List Int)}
theorem DB(hm:Mp G) {e:Int}(he:e∈G.flatten):Fd (ou K40.oE (nO (oi 1) (nO (oi 0) oC))) (dM G) (.int e)=some (cd G e):=by
 have rc:K40.oE [dM G,.int e]=some (.sh (dC (cd G e))):=K40.wu hm he;have:ou K40.oE (nO (oi 1) (nO (oi 0) oC)) [some (.sh (.int e)),some (.sh (dM G))]=some (.sh (dC (cd G e)),[some (.sh (.int e)),some (.sh (dM G))]):=by simp_arith [rc]
 unfold Fd;rw[this];exact Fi _
theorem NY{m:List (List Int)}(h1:m∈G.flatten.map (cd G)) (h2:∀e∈G.flatten,HT.oZ (cd G e) m=false):rK G=m:=by
 have pm:=qY G.flatten;unfold rK;obtain⟨z,hz,rfl⟩:=mMq.mp h1;cases hE:qF G.flatten with
 |nil =>
  rw[hE]at pm;have:=pm.mem_iff.mpr hz;cases this
 |cons x E =>
  have hl:AK ((x::E).map (cd G))=some ((E.map (cd G)).foldl (λm c=>if HT.oZ c m then c else m) (cd G x)):=rfl
  obtain⟨l1,l2⟩:=B8 hl;rw[hl,bo];rw[hE]at pm;obtain⟨y,hy,ey⟩:=mMq.mp l1;refine HT.sN _ _ ?_ (l2 _ (mMq.mpr ⟨z,pm.mem_iff.mpr hz,rfl⟩));rw[←ey];exact h2 y (pm.mem_iff.mp hy)
theorem Cz(hm:Mp G) (hE:G.flatten≠[]):∃s E,s∈G.flatten/\rK G=cd G s/\(∀e∈G.flatten,HT.oZ (cd G e) (cd G s)=false)/\LJ G=s::E/\Tp (ou K40.oE (nO (oi 1) (nO (oi 0) oC))) (dM G) ((qF G.flatten).map D.int)=some (.int s):=by
 have pm:=qY G.flatten;unfold LJ;cases hS:qF G.flatten with
 |nil =>
  rw[hS]at pm;exact absurd pm.symm.eq_nil hE
 |cons x E =>
  rw[hS]at pm;have mem:∀e∈x::E,e∈G.flatten:=λe he=>pm.mem_iff.mp he
  obtain⟨y,h1,h2,h3,h4⟩:=AX (c:=cd G) (x:=x) (E:=E) λe he=>DB hm (mem e (mCo _ he))
  have h3':∀e∈G.flatten,HT.oZ (cd G e) (cd G y)=false:=λe he=>h3 e (pm.mem_iff.mpr he)
  have el:=NY (mMq.mpr ⟨y,mem y h2,rfl⟩) h3';rw[el];rw[←List.head?_filter]at h4;obtain⟨E',hE'⟩:∃E',(x::E).filter (λe=>decide (cd G e=cd G y))=y::E':=by
   cases hf:(x::E).filter (λe=>decide (cd G e=cd G y)) with
   |nil=>rw[hf]at h4;cases h4
   |cons z E' =>
    rw[hf]at h4;cases h4;exact⟨E',rfl⟩
  refine⟨y,E',mem y h2,rfl,h3',hE',?_⟩;show (Fd _ (dM G) (.int x)).bind _=_;rw[DB hm (mem x (aj ..)),bE,h1]
theorem K8(Q:List (List Int)):(K33.code Q).flatten.length=Q.flatten.length:=by
 unfold K33.code;rw[gK,gK,mPq];refine congrArg List.sum (mCq λr _=>?_)
 exact lMq ..
theorem OY(hm:Mp G) {s:Int}(hs:s∈G.flatten):∃E,(rnd G s).1.flatten=s::E:=by
 obtain⟨Q,hQ⟩:=(K31.zA hm hs).hd;obtain⟨r,hr,hsr⟩:=hm.at hs;have gr:G.getD (plc G s) []=r:=by rw[gDq,hr];rfl
 obtain⟨u,v,rfl,hu⟩:=dO hsr;rw[hQ,gr,K33.Cw hu];exact⟨_,rfl⟩
theorem Ae(h:G.flatten=[]):LJ G=[]/\rK G=[[]]:=by
 have se:qF G.flatten=[]:=aU.mp (by rw[(qY _).length_eq,h];rfl)
 unfold LJ rK;rw[se];exact⟨rfl,rfl⟩
structure Lr (G:List (List Int)):Prop where
 pm:(lr G).Perm G.flatten
 ln:(rK G).flatten.length=G.flatten.length
 ne:rK G≠[]
 hd:(LJ G).take 1=(lr G).take 1
theorem xG(h:Pg G):Lr G:=by
 by_cases hE:G.flatten=[]
 .obtain ⟨b1,b2⟩:=Ae hE;have e:lr G=[]:=by unfold lr;rw[b1]
  exact⟨by rw[e,hE],by rw[b2,hE];rfl,by rw[b2];simp,by rw[e,b1]⟩
 .obtain ⟨s,E,hs,el,lo,eb,_⟩:=Cz h.mp hE;have e:lr G=(rnd G s).1.flatten:=by unfold lr;rw[eb]
  obtain⟨E',hh⟩:=OY h.mp hs;have pm:=(K31.KB h.mp h.cn hs).2;refine⟨by rw[e];exact pm,?_,?_,?_⟩
  .rw [el];unfold cd;rw[K8,pm.length_eq]
  .rw [el];obtain⟨Q,hQ⟩:=(K31.zA h.mp hs).hd;unfold cd K33.code;rw[hQ];simp
  .rw [e,hh,eb];rfl
theorem MU(hm:Mp G) {E:List Int}(hE:∀e∈E,e∈G.flatten):qh pV (ou K40.oE (nO (oi 1) (nO (oi 0) oC))) [some (.sh (dM G))] (E.map D.int)=some (((E.map (cd G)).map dC).map AV.sh):=by
 rw[Z.qq λd=>match d with|.int e=>.sh (dC (cd G e))|_=>.sh .non]
 .rw [mPq,mPq,mPq];rfl
 .intro d hd;obtain⟨e,he,rfl⟩:=mMq.mp hd;have rc:K40.oE [dM G,.int e]=some (.sh (dC (cd G e))):=K40.wu hm (hE e he);refine⟨[some (.sh (.int e)),some (.sh (dM G))],?_⟩
  simp_arith [rc]
theorem CU(h:Pg G):pM [dM G]=some (.sh (dC (rK G))):=by
 have op:=K40.K4 h.mp h.cn h.ps;have hl:=h.mp.hl;have eo:=Ku (rs:=G) (by lia)
 have pm:=qY G.flatten;have pl:=pm.length_eq
 by_cases hE:G.flatten=[]
 .rw [(Ae hE).2];have se:qF G.flatten=[]:=aU.mp (by rw[pl,hE];rfl)
  rw[se]at eo;rw[h.br hE]at op eo ⊢;have cc:K33.tP [dM [[]]]=some (.sh (dC [[]])):=K33.CL (Q:=[[]]) aN (λx hx=>by simp at hx) (by simp) (by simp)
  have z0:decide (((0:Nat):Int)=0)=true:=by decide
  have s0:=oB []
  simp_arith [pM,wk,op,eo,s0,dI,z0,cc]
 .have comp:=MU h.mp (E:=qF G.flatten) λe he=>pm.mem_iff.mp he
  have hpos:0<G.flatten.length:=bZ.mpr hE;have hm1:AK ((qF G.flatten).map (cd G))=some (rK G):=by
   unfold rK;cases hS:qF G.flatten with
   |nil=>rw[hS,bK]at pl;lia
   |cons x E=>rfl
  have sS:=oB (qF G.flatten);have hne:¬ ((qF G.flatten).length:Int)=0:=by lia
  have lS:(qF G.flatten).length<=qU:=by show _<=16777216;lia
  generalize rK G=m at hm1;generalize (qF G.flatten).map (cd G)=C at comp hm1;have sc:=K34.LO C;have cm:=zu C
  simp_arith [pM,wk,op,eo,sS,dI,hne,comp,lS,sc,cm,hm1]
theorem yc(h:Pg G):qQ [dM G]=some (aI (lr G)):=by
 have hl:=h.mp.hl;have eo:=Ku (rs:=G) (by lia)
 have pm:=qY G.flatten;have pl:=pm.length_eq
 by_cases hE:G.flatten=[]
 .have e:lr G=[]:=by unfold lr;rw[(Ae hE).1]
  have se:qF G.flatten=[]:=aU.mp (by rw[pl,hE];rfl)
  rw[se]at eo;rw[e];have z0:decide (((0:Nat):Int)=0)=true:=by decide
  have s0:=oB []
  simp_arith [qQ,vw,eo,s0,dI,z0]
  rfl
 .obtain ⟨s,E,hs,_,_,eb,em⟩:=Cz h.mp hE;have e:lr G=(rnd G s).1.flatten:=by unfold lr;rw[eb]
  have re:=K40.Dk h.mp hs;rw[←e]at re;have hpos:0<G.flatten.length:=bZ.mpr hE;have sS:=oB (qF G.flatten);have hne:¬ ((qF G.flatten).length:Int)=0:=by lia
  have sh:∀v,NW [some (.sh (dM G)),v] 0=some (dM G):=λ_=>rfl
  simp_arith [qQ,vw,eo,sS,dI,hne,Nu,sh,em,re]
end
end K37
namespace K37
open PySem L2 Mr Z Zl
open K12 (gm ql)
open K31 (rnd B7)
structure C0 (P:List (List (List Int))):Prop where
 pm:K11.Pm P
 cn:∀T∈P,K11.Cn T
 pg:∀T∈P,Pg (gm T)
 fl:P.flatten.flatten.length<=63
 lt:P.flatten.length<=63
 lp:P.length<=63
def Ls(P:List (List (List Int))):List (List (List Int)):=ug (P.map gm)
def bc(P:List (List (List Int))):List (List (List Int)):=(Ed ((Ls P).map λG=>(rK G,G))).map (·.2)
theorem yt(P:List (List (List Int))):(Ls P).Perm (P.map gm):=AL _
theorem EG(P:List (List (List Int))):(bc P).Perm (Ls P):=by
 have:=(vG ((Ls P).map λG=>(rK G,G))).map (·.2)
 rw[mPq]at this;exact this.trans (by rw[show ((λp:Cd×List (List Int)=>p.2)∘λG=>(rK G,G))=id from rfl,bV])
theorem MM(P:List (List (List Int))):(bc P).map rK=ug ((Ls P).map rK):=by
 have key:∀p∈Ed ((Ls P).map λG=>(rK G,G)),p.1=rK p.2:=λp hp=>by
  obtain⟨G,_,rfl⟩:=mMq.mp ((vG _).mem_iff.mp hp);rfl
 unfold bc;rw[mPq];have e:(Ed ((Ls P).map λG=>(rK G,G))).map (rK∘(·.2))=(Ed ((Ls P).map λG=>(rK G,G))).map (·.1):=mCq λp hp=>(key p hp).symm
 rw[e];refine Ad (((vG _).map (·.1)).trans ?_) ?_
 .rw [mPq];exact .refl _
 .rw [aJ];exact(zr (λ_=>0) _ (List.pairwise_of_forall λ_ _ _=>ae 0)).imp λh=>h.1
section
variable {P Q:List (List (List Int))}
theorem C0.mem(h:C0 P):∀G∈Ls P,Pg G:=λG hG=>by
 obtain⟨T,hT,rfl⟩:=mMq.mp ((yt P).mem_iff.mp hG);exact h.pg T hT
theorem C0.bcm(h:C0 P):∀G∈bc P,Pg G:=λG hG=>h.mem G ((EG P).mem_iff.mp hG)
theorem C0.ll(h:C0 P):(Ls P).length<=63:=by
 rw[(yt P).length_eq,lMq];exact h.lp
theorem pieces_ok(h:C0 P):∃xs,K51.qO [dM (gm P.flatten)]=some (.ow xs)/\xs.map nW=(Ls P).map dM:=by
 obtain⟨PS,e,eP⟩:=K11.Hi h.pm h.cn;refine⟨_,e,?_⟩;unfold Ls;rw[←eP,mPq,mPq];refine mCq λps _=>?_
 show nW (.ow (ps.map λk=>aI ((gm P.flatten).getD k [])))=dM _
 rw[qJ,mPq];show _=D.list ((ps.map λk=>(gm P.flatten).getD k []).map dI)
 rw[mPq];exact congrArg D.list (mCq λk _=>oB _)
theorem N2{L:List (List (List Int))}(h:∀G∈L,Pg G):qh pV (ou pM (nO (oi 0) oC)) [] (L.map dM)=some ((L.map rK).map λc=>.sh (dC c)):=by
 rw[Z.qq (λd=>match d with|.list ds=>.sh (dC (rK ((qA ds).getD [])))|_=>.sh .non)]
 .rw [mPq,mPq];refine congrArg some (mCq λG _=>?_)
  show AV.sh (dC (rK ((qA (G.map dI)).getD [])))=_;rw[qz];rfl
 .intro d hd;obtain⟨G,hG,rfl⟩:=mMq.mp hd;have ok:=CU (h G hG);refine⟨[some (.sh (dM G))],?_⟩;show _=some (AV.sh (dC (rK ((qA (G.map dI)).getD []))),_);rw[qz,bo]
  simp_arith [ok]
theorem Gq(h:C0 P):yB [dM (gm P.flatten)]=some (.ow ((ug ((Ls P).map rK)).map λc=>.sh (dC c))):=by
 obtain⟨xs,e,ex⟩:=pieces_ok h;have cc:=N2 h.mem;have hx:nW (.ow xs) = .list ((Ls P).map dM):=by rw[qJ,ex]
 have hl:=h.ll;have ll:((Ls P).length<=qU)=True:=eq_true (wj (by lia))
 have ne:(∀c∈(Ls P).map rK,c≠[])=True:=eq_true λc hc=>by
  obtain⟨G,hG,rfl⟩:=mMq.mp hc;exact(xG (h.mem G hG)).ne
 have l6:(((Ls P).map rK).length<64)=True:=eq_true (by rw[lMq];lia)
 have cd:=zu ((Ls P).map rK);generalize Ls P=L at cc hx ll ne cd l6;generalize L.map rK=C at cc ne cd l6;have sC:(C.map λc=>AV.sh (dC c)).map nW=C.map dC:=by rw[mPq];exact mCq λr _=>pK _
 simp_arith [yB,FC,e,hx,cc,ll,Rj,sC,cd,ne,l6,and_self]
theorem Eb{f:MF}{l:ML}{S S':AS}{ds:List D}{cs:List Cd}(hl:l S=some (ds,S')) (hk:Bd f ds=some cs) (hc:ds.length<64/\(∀c∈cs,c≠[])/\Sh ds/\NI cs ds):zH f l S=some (.ow ((Ed (cs.zip ds)).map λp=>.sh p.2),S'):=by
 rw[OB,hl,bE,hk,bE];exact uT hc _
theorem Cg{f:MF}{α:Type}{g:α->D}{c:α->Cd}:∀{L:List α},(∀G∈L,f [g G]=some (.sh (dC (c G))))->Bd f (L.map g)=some (L.map c)
 | [],_=>rfl
 |G::L,h=>by
  have e:IR f (g G)=some (c G):=by
   unfold IR;rw[h G (aj ..)];exact Fi _
  show (IR f (g G)).bind _=_;rw[e,bE,Cg λG hG=>h G (mCo _ hG)]
  rfl
theorem BN{P:List (List (List Int))}{i j r:Nat}{G G':List (List Int)}(hi:i<j) (hj:j<r) (g1:(Ls P)[i]?=some G) (g2:(Ls P)[r]?=some G) (g3:(Ls P)[j]?=some G'):G'=G:=by
 have s:=bR.mp (yq (P.map gm));obtain⟨l1,e1⟩:=gSq.mp g1;obtain⟨l2,e2⟩:=gSq.mp g2;obtain⟨l3,e3⟩:=gSq.mp g3;have a:=s i j l1 l3 hi;have b:=s j r l3 l2 hj;unfold Ls at e1 e2 e3;rw[e1,e3]at a;rw[e2,e3]at b;exact HT.sN _ _ a b
theorem uQ{α β:Type}{g:α->β}{L:List α}{i:Nat}{d:β}(h:(L.map g)[i]?=some d):∃G,L[i]?=some G/\d=g G:=by
 rw[gMq]at h;obtain⟨G,a,b⟩:=oMq.mp h;exact⟨G,a,b.symm⟩
theorem TJ{A B:List (List Int)}(h:dM A=dM B):A=B:=by
 have:=congrArg (λd=>match d with|.list ds=>qA ds|_=>none) h
 simp only[dM]at this;rw[qz,qz]at this;exact aM.inj this
theorem Me{α:Type}(g:List (List Int)->α):(Ed (((Ls P).map rK).zip ((Ls P).map g))).map (λp=>p.2)=(bc P).map g:=by
 rw[List.zip_map'];have:=Ky g ((Ls P).map λG=>(rK G,G))
 rw[mPq]at this;rw[show ((λa=>(rK a,g a)):List (List Int)->Cd×α)=(λp:Cd×List (List Int)=>(p.1,g p.2))∘λG=>(rK G,G) from rfl,this]
 unfold bc;rw[mPq,mPq];rfl
theorem Br(h:C0 P):uo [dM (gm P.flatten)]=some (.ow ((bc P).map λG=>.sh (dM G))):=by
 obtain⟨xs,e,ex⟩:=pieces_ok h;have hl:=h.ll;have sk:=Eb (f:=pM) (l:=lOf (ou K51.qO (nO (oi 0) oC))) (S:=[some (.sh (dM (gm P.flatten)))]) (ds:=(Ls P).map dM) (S':=[some (.sh (dM (gm P.flatten)))]) (by simp_arith [e,ex]) (Cg (c:=rK) λG hG=>CU (h.mem G hG)) ⟨by rw[lMq];lia,λc hc=>by
  obtain⟨G,hG,rfl⟩:=mMq.mp hc;exact(xG (h.mem G hG)).ne,.inl λd hd=>by
  obtain⟨G,_,rfl⟩:=mMq.mp hd;exact⟨G,rfl⟩,λi j r d d' hi hj h1 h2 h3 _=>by
  obtain⟨G,a1,rfl⟩:=uQ h1;obtain⟨G1,a2,e2⟩:=uQ h2;obtain⟨G2,a3,rfl⟩:=uQ h3;rw[←TJ e2]at a2;rw[BN hi hj a1 a2 a3]⟩
 have em:(Ed (((Ls P).map rK).zip ((Ls P).map dM))).map (λp=>AV.sh p.2)=(bc P).map λG=>.sh (dM G):=by
  have:=congrArg (List.map AV.sh) (Me (P:=P) dM);rw[mPq,mPq]at this;exact this
 rw[em]at sk
 simp_arith [uo,Ba,sk]
def yz(A B:List (List (List Int))):List (List Int):=(A.zip B).flatMap λp=>bh (λx y=>[x,y]) (lr p.1) (lr p.2)
theorem MZ{A B:List (List (List Int))}{G G':List (List Int)}(h:A.length=B.length):yz (A++[G]) (B++[G'])=yz A B++bh (λx y=>[x,y]) (lr G) (lr G'):=by
 unfold yz;rw[List.zip_append h,dq];simp
theorem IE{G G':List (List Int)}(h:Pg G) (h':Pg G') (e:rK G=rK G'):(lr G).length=(lr G').length:=by
 rw[(xG h).pm.length_eq,(xG h').pm.length_eq,← (xG h).ln,← (xG h').ln,e]
theorem M6{A B:List (List (List Int))}(hA:∀G∈A,Pg G) (hB:∀G∈B,Pg G) (hl:A.map rK=B.map rK) (h63:A.length<=63) {v0 v1:Option AV}:∃v3 v4,xv 3 4 vZ (A.map dM) (B.map dM) [v0,v1,some (.ow []),none,none]=some (.nx [v0,v1,some (aP (yz A B)),v3,v4]):=by
 have lAB:A.length=B.length:=by have:=congrArg bb hl;rwa [lMq,lMq]at this
 have key:=Oy (x:=3) (y:=4) (body:=vZ) (λi S=>∃v3 v4,S=[v0,v1,some (aP (yz (A.take i) (B.take i))),v3,v4]/\(yz (A.take i) (B.take i)).length<=63*i) (ds:=A.map dM) (es:=B.map dM) (S:=[v0,v1,some (.ow []),none,none]) (k:=0) (by rw[lMq,lMq];exact lAB) ⟨none,none,rfl,aG _⟩ (by
  rintro i d e S hd he ⟨v3,v4,rfl,hb⟩;obtain⟨G,hG,rfl⟩:=uQ hd;obtain⟨G',hG',rfl⟩:=uQ he;rw[aK]at hb ⊢;have pG:=hA G (mGq hG);have pG':=hB G' (mGq hG');have hi:=(gSq.mp hG).1;have el:rK G=rK G':=by
   have:=congrArg (λz=>z[i]?) hl
   simp only[gMq,hG,hG']at this;exact aM.inj this
  have pz:=KF (IE pG pG' el);have r1:=yc pG;have r2:=yc pG';have s1:=oB (lr G);have s2:=oB (lr G');have es:yz (A.take (i+1)) (B.take (i+1))=yz (A.take i) (B.take i)++bh (λx y=>[x,y]) (lr G) (lr G'):=by
   rw[rL hG,rL hG'];exact MZ (by rw[lTq,lTq,lAB])
  have lz:(bh (λx y=>[x,y]) (lr G) (lr G')).length<=63:=by
   rw[gG,(xG pG).pm.length_eq];have:=pG.mp.hl;lia
  rw[es];generalize bh (λx y=>[x,y]) (lr G) (lr G')=z at pz lz
  generalize yz (A.take i) (B.take i)=acc at hb;have lm:(acc.length+z.length<=qU)=True:=eq_true (wj (by lia))
  have sz:(z.map λr=>AV.sh (Ar r)).map nW=z.map Ar:=by rw[mPq];exact mCq λr _=>pK _
  have ea:acc.map (λr=>AV.sh (Ar r))++(z.map Ar).map AV.sh=(acc++z).map λr=>AV.sh (Ar r):=by rw[mBq,mPq];rfl
  refine⟨_,?_,some (.sh (dM G)),some (.sh (dM G')),rfl,by rw[lAq];lia⟩
  simp_arith [vZ,Wg,r1,r2,s1,s2,dI,pz,sz,lm,ea])
 obtain⟨S',e,v3,v4,rfl,_⟩:=key;rw[aK,lMq]at e;rw[bA,show B.take A.length=B by rw[lAB,bA]]at e
 exact⟨v3,v4,e⟩
end
section
variable {P Q:List (List (List Int))}
theorem Jm:∀{L:List (List (List Int))},(∀G∈L,Pg G)->(L.flatMap lr).Perm L.flatten.flatten
 | [],_=>.refl _
 |G::L,h=>by
  rw[cG,fCq,fAq];exact(xG (h G (aj ..))).pm.append (Jm λG hG=>h G (mCo _ hG))
theorem Kp:∀P:List (List (List Int)),(P.map gm).flatten.flatten.Perm P.flatten.flatten
 | []=>.refl _
 |T::P=>by
  rw[ar,fCq,fCq,fAq,fAq];exact(K31.sJ T).append (Kp P)
theorem Q2{A B:List (List (List Int))}(h:A.Perm B):A.flatten.flatten.Perm B.flatten.flatten:=zQ h.flatten
theorem C0.all(h:C0 P):((bc P).flatMap lr).Perm P.flatten.flatten:=(Jm h.bcm).trans ((Q2 ((EG P).trans (yt P))).trans (Kp P))
theorem JA:∀{a b:List Int},a.length=b.length->(bh (λx y=>[x,y]) a b).map (λr=>r.headD 0)=a
 | [],[],_=>rfl
 |x::a,y::b,h=>by
  show x::_=x::a;rw[JA (by simpa using h)]
theorem Kw:∀{A B:List (List (List Int))},(∀G∈A,Pg G)->(∀G∈B,Pg G)->A.map rK=B.map rK->(yz A B).map (λr=>r.headD 0)=A.flatMap lr
 | [],B,_,_,_=>rfl
 |G::A,[],_,_,h=>by cases h
 |G::A,G'::B,hA,hB,h=>by
  obtain⟨h1,h2⟩:=List.cons.inj h;show ((bh (λx y=>[x,y]) (lr G) (lr G'))++yz A B).map _=lr G++A.flatMap lr
  rw[mBq,JA (IE (hA G (aj ..)) (hB G' (aj ..)) h1),Kw (λG hG=>hA G (mCo _ hG)) (λG hG=>hB G (mCo _ hG)) h2]
theorem NH:∀{a b:List Int},∀r∈bh (λx y=>[x,y]) a b,r≠[]
 | [],b,r,h=>by cases b <;> cases h
 |x::a,[],r,h=>by cases h
 |x::a,y::b,r,h=>by
  rcases ah.mp h with rfl|h
  .simp
  .exact NH r h
theorem RU{A B:List (List (List Int))}:∀r∈yz A B,r≠[]:=λr hr=>by
 obtain⟨p,_,h⟩:=cw.mp hr;exact NH r h
structure xI (P Q:List (List (List Int))):Prop where
 f1:C0 P
 f2:C0 Q
 sm:(P.map λT=>rK (gm T)).Perm (Q.map λT=>rK (gm T))
theorem OZ(P:List (List (List Int))):((Ls P).map rK).Perm (P.map λT=>rK (gm T)):=by
 have:=(yt P).map rK;rw[mPq]at this;exact this
theorem xI.cs(h:xI P Q):ug ((Ls P).map rK)=ug ((Ls Q).map rK):=Ad ((AL _).trans ((OZ P).trans (h.sm.trans (OZ Q).symm))) (yq _)
theorem xI.bl(h:xI P Q):(bc P).map rK=(bc Q).map rK:=by rw[MM,MM,h.cs]
theorem xI.fst(h:xI P Q):(yz (bc P) (bc Q)).map (λr=>r.headD 0)=(bc P).flatMap lr:=Kw h.f1.bcm h.f2.bcm h.bl
theorem xI.len(h:xI P Q):(yz (bc P) (bc Q)).length=P.flatten.flatten.length:=by
 have:=congrArg bb h.fst
 rwa [lMq,h.f1.all.length_eq]at this
theorem xI.nd(h:xI P Q):(yz (bc P) (bc Q)).Nodup:=by
 have:((yz (bc P) (bc Q)).map λr=>r.headD 0).Nodup:=by
  rw[h.fst];exact h.f1.all.nodup_iff.mpr h.f1.pm.nd
 exact(aJ.mp this).imp λhne e=>hne (by rw[e])
theorem xI.bl63(h:xI P Q):(bc P).length<=63:=by
 rw[(EG P).length_eq];exact h.f1.ll
theorem KM(h:xI P Q):xS [dM (gm P.flatten),dM (gm Q.flatten)]=some (aP (yK (yz (bc P) (bc Q)))):=by
 have b1:=Br h.f1;have b2:=Br h.f2;obtain⟨v3,v4,lo⟩:=M6 h.f1.bcm h.f2.bcm h.bl h.bl63 (v0:=some (.sh (dM (gm P.flatten)))) (v1:=some (.sh (dM (gm Q.flatten))));have ll:((bc P).length=(bc Q).length)=True:=eq_true (by have:=congrArg bb h.bl;rwa [lMq,lMq]at this)
 have ne:(∀r∈yz (bc P) (bc Q),r≠[])=True:=eq_true RU;have l6:((yz (bc P) (bc Q)).length<64)=True:=eq_true (by rw[h.len];have:=h.f1.fl;lia)
 have st:∀L:List (List (List Int)),(L.map λG=>AV.sh (dM G)).map nW=L.map dM:=λL=>by rw[mPq];exact mCq λr _=>pK _
 have s1:=st (bc P);have s2:=st (bc Q);generalize yz (bc P) (bc Q)=z at lo ne l6;have sz:(z.map λr=>AV.sh (Ar r)).map nW=z.map Ar:=by rw[mPq];exact mCq λr _=>pK _
 have ti:=uF z
 simp_arith [xS,DU,b1,b2,s1,s2,ll,lo,Pq,sz,ti,ne,l6,and_self]
theorem FW(h:xI P Q):ui [dM (gm P.flatten),dM (gm Q.flatten)]=some (.sh (.tup [.str "alike", .list ((yK (yz (bc P) (bc Q))).map Ar)])):=by
 have c1:=Gq h.f1;have c2:=Gq h.f2;rw[←h.cs]at c2;have la:=KM h;generalize ug ((Ls P).map rK)=C at c1 c2;generalize yK (yz (bc P) (bc Q))=z at la;have sC:(C.map λc=>AV.sh (dC c)).map nW=C.map dC:=by rw[mPq];exact mCq λr _=>pK _
 have sz:(z.map λr=>AV.sh (Ar r)).map nW=z.map Ar:=by rw[mPq];exact mCq λr _=>pK _
 have ec:=K35.Ux C
 simp_arith [ui,Bl,c1,c2,sC,ec,la,sz]
def sX(G:List (List Int)):D:=.tup [dC (rK G),dI ((lr G).take 1)]
theorem HL{G:List (List Int)}(h:Pg G):qh (uM (pN zw (rOf (ou K40.oE (nO (oi 2) (nO (oi 0) oC)))) (nN 1))) (oi 0) [some (.sh (dC (rK G))),some (.sh (dM G))] ((qF G.flatten).map D.int)=some ((LJ G).map λn=>.sh (.int n)):=by
 rw[Z.Be (λd=>match d with|.int e=>decide (cd G e=rK G)|_=>false) λd=>.sh d]
 .unfold LJ;rw[List.filter_map,mPq];rfl
 .intro d hd;obtain⟨e,he,rfl⟩:=mMq.mp hd;have rc:K40.oE [dM G,.int e]=some (.sh (dC (cd G e))):=K40.wu h.mp ((qY _).mem_iff.mp he);have dc:zw (dC (cd G e)) (dC (rK G))=some (.bl (decide (cd G e=rK G))):=K33.OF _ _;refine⟨[some (.sh (.int e)),some (.sh (dC (rK G))),some (.sh (dM G))],?_,λ_=>⟨[some (.sh (.int e)),some (.sh (dC (rK G))),some (.sh (dM G))],?_⟩⟩
  .simp_arith [rc,dc]
  .simp_arith []
theorem Gw{L:List (List (List Int))}(h:∀G∈L,Pg G) (hl:L.length<=63) {v0:Option AV}:∃v2 v3 v4,ux 2 uw (L.map dM) [v0,some (.ow []),none,none,none]=some (.nx [v0,some (.ow (L.map λG=>.sh (sX G))),v2,v3,v4]):=by
 have key:=yV (x:=2) (body:=uw) (λi S=>∃v2 v3 v4,S=[v0,some (.ow ((L.take i).map λG=>.sh (sX G))),v2,v3,v4]) (ds:=L.map dM) (S:=[v0,some (.ow []),none,none,none]) ⟨none,none,none,rfl⟩ (by
  rintro i d S hd ⟨v2,v3,v4,rfl⟩;obtain⟨G,hG,rfl⟩:=uQ hd;have pG:=h G (mGq hG);have cp:=K51.QA (rs:=G) (by have:=pG.mp.hr;lia)
  have sG:(G.map aI).map nW=G.map dI:=xt G;have lc:=CU pG;have tl:=zX (rs:=G) (by have:=pG.mp.hl;lia)
  have s1:=oB G.flatten;have fl63:=pG.mp.hl;have l6:(G.flatten.length<64)=True:=eq_true (by lia)
  have bg:=HL pG;have sS:=oB (qF G.flatten);have ls:((qF G.flatten).length<=qU)=True:=eq_true (wj (by rw[(qY _).length_eq];lia))
  have sb:=oB (LJ G);have ct:xi (LJ G) none (some 1)=(lr G).take 1:=by
   rw[← (xG pG).hd]
   by_cases hz:LJ G=[]
   .rw [hz];rfl
   .exact yE (LJ G) 1 (bZ.mpr hz)
  have et:(L.take i).map (λG=>AV.sh (sX G))++[.sh (sX G)]=(L.take (i+1)).map λG=>.sh (sX G):=by
   rw[rL hG,mBq];rfl
  have lm:((L.take i).length<qU)=True:=eq_true (by rw[lTq];exact Nv (by lia))
  unfold sX at et ⊢;have sl:=oB ((lr G).take 1);refine⟨_,?_,some (.sh (dM G)),some (.sh (dC (rK G))),some (aI (LJ G)),rfl⟩;unfold dM at cp lc tl bg ⊢
  simp_arith [uw,cp,sG,lc,tl,s1,l6,sS,dI,ls,bg,sb,wZ,ct,sl,lm,et])
 obtain⟨S',e,v2,v3,v4,rfl⟩:=key;rw[lMq,bA]at e;exact⟨v2,v3,v4,e⟩
end
section
variable {P Q:List (List (List Int))}
theorem PZ(h:C0 P) {T:List (List Int)}(hT:T∈P):pD [dM T]=some (.ow ((gm T).map aI)):=by
 have s1:=bL.length_le (au hT);have h1:=h.lt;exact wH (rs:=T) (λr hr=>by
  have:=bL.length_le (au (mFq.mpr ⟨T,hT,hr⟩));have:=h.fl;lia) (by lia)
theorem Lu(h:C0 P):qh pV (ou pD (nO (oi 0) oC)) [] (P.map dM)=some ((P.map gm).map λG=>.ow (G.map aI)):=by
 rw[Z.qq (λd=>match d with|.list ds=>.ow ((gm ((qA ds).getD [])).map aI)|_=>.sh .non)]
 .rw [mPq,mPq];refine congrArg some (mCq λG _=>?_)
  show AV.ow ((gm ((qA (G.map dI)).getD [])).map aI)=_;rw[qz];rfl
 .intro d hd;obtain⟨T,hT,rfl⟩:=mMq.mp hd;have ok:=PZ h hT;refine⟨[some (.sh (dM T))],?_⟩;show _=some (AV.ow ((gm ((qA (T.map dI)).getD [])).map aI),_);rw[qz,bo]
  simp_arith [ok]
theorem LC(G:List (List Int)):vf [sX G]=some (.sh (dC (rK G))):=by
 have a0:atI [dC (rK G),dI ((lr G).take 1)] 0=some (dC (rK G)):=rfl;unfold sX
 simp_arith [vf,BY,K16.UW,a0]
theorem QP{A B:List (List Int)}(h:sX A=sX B):(lr A).take 1=(lr B).take 1:=by
 have:=congrArg (λd=>match d with|.tup [_,.list ds]=>qj ds|_=>none) h
 simp only[sX,dI]at this;rw[qm,qm]at this;exact aM.inj this
theorem Im(h:C0 P) {A B:List (List Int)}(hA:A∈Ls P) (hB:B∈Ls P) (e:(lr A).take 1=(lr B).take 1):A=B:=by
 have a:=xG (h.mem A hA);have b:=xG (h.mem B hB);cases hc:lr A with
 |nil =>
  rw[hc]at e;have e2:lr B=[]:=by
   cases hd:lr B with
   |nil=>rfl
   |cons x l=>rw[hd]at e;cases e
  rw[(h.mem A hA).br (by have:=a.pm;rw[hc]at this;exact this.symm.eq_nil),(h.mem B hB).br (by have:=b.pm;rw[e2]at this;exact this.symm.eq_nil)]
 |cons x l =>
  rw[hc]at e;obtain⟨l',hd⟩:∃l',lr B=x::l':=by
   cases hd:lr B with
   |nil=>rw[hd]at e;cases e
   |cons y l'=>rw[hd]at e;cases e;exact⟨l',rfl⟩
  have xA:x∈A.flatten:=a.pm.mem_iff.mp (by rw[hc];simp)
  have xB:x∈B.flatten:=b.pm.mem_iff.mp (by rw[hd];simp)
  obtain⟨T,hT,rfl⟩:=mMq.mp ((yt P).mem_iff.mp hA);obtain⟨U,hU,rfl⟩:=mMq.mp ((yt P).mem_iff.mp hB);rw[K11.Cf h.pm.nd hT hU ((K31.sJ T).mem_iff.mp xA) ((K31.sJ U).mem_iff.mp xB)]
theorem D9(h:C0 P):rX [.list (P.map dM)]=some (.ow ((bc P).map λG=>.sh (sX G))):=by
 have gc:=Lu h;have hl:=h.ll;have hp:=h.lp;have lP:(P.length<=qU)=True:=eq_true (wj (by lia))
 have l6:(P.length<64)=True:=eq_true (by lia)
 have sg:((P.map gm).map λG=>AV.ow (G.map aI)).map nW=(P.map gm).map dM:=by
  rw[mPq];refine mCq λG _=>?_
  show nW (.ow (G.map aI))=_;rw[qJ,xt]
 have mo:=BO (P.map gm);have eL:ug (P.map gm)=Ls P:=rfl;have sL:((Ls P).map λm=>AV.sh (dM m)).map nW=(Ls P).map dM:=by rw[mPq];exact mCq λr _=>pK _
 obtain⟨v2,v3,v4,lo⟩:=Gw h.mem hl (v0:=some (.sh (.list (P.map dM))));have sR:((Ls P).map λG=>AV.sh (sX G)).map nW=(Ls P).map sX:=by rw[mPq];exact mCq λr _=>pK _
 have sk:=Eb (f:=vf) (l:=sD 1) (S:=[some (.sh (.list (P.map dM))),some (.ow ((Ls P).map λG=>.sh (sX G))),v2,v3,v4]) (ds:=(Ls P).map sX) (S':=[some (.sh (.list (P.map dM))),some (.ow (((Ls P).map sX).map .sh)),v2,v3,v4]) (by simp_arith [sR]) (Cg (c:=rK) λG _=>LC G) ⟨by rw[lMq];lia,λc hc=>by
  obtain⟨G,hG,rfl⟩:=mMq.mp hc;exact(xG (h.mem G hG)).ne,.inr λd hd=>by
  obtain⟨G,_,rfl⟩:=mMq.mp hd;exact⟨_,_,rfl⟩,λi j r d d' hi hj h1 h2 h3 _=>by
  obtain⟨G,a1,rfl⟩:=uQ h1;obtain⟨G1,a2,e2⟩:=uQ h2;obtain⟨G2,a3,rfl⟩:=uQ h3;rw[←Im h (mGq a1) (mGq a2) (QP e2)]at a2;rw[BN hi hj a1 a2 a3]⟩
 have em:(Ed (((Ls P).map rK).zip ((Ls P).map sX))).map (λp=>AV.sh p.2)=(bc P).map λG=>.sh (sX G):=by
  have:=congrArg (List.map AV.sh) (Me (P:=P) sX);rw[mPq,mPq]at this;exact this
 rw[em]at sk
 simp_arith [rX,Bf,lP,gc,Qp,sg,mo,lMq,l6,eL,sL,lo,sk]
theorem DK(h:C0 P):sq [.list (P.map dM)]=some (.ow ((gm P.flatten).map aI)):=by
 have h1:=h.fl;have h2:=h.lt;have key:=yV (x:=2) (body:=wm) (λi S=>∃v2,S=[some (.sh (.list (P.map dM))),some (K31.L4 (P.take i).flatten),v2]) (ds:=P.map dM) (S:=[some (.sh (.list (P.map dM))),some (.ow []),none]) ⟨none,rfl⟩ (by
  rintro i d S hd ⟨v2,rfl⟩;obtain⟨T,hT,rfl⟩:=uQ hd;have ef:(P.take (i+1)).flatten=(P.take i).flatten++T:=by rw[rL hT,fAq,aX]
  have ls:(P.take (i+1)).flatten.length<=P.flatten.length:=by
   have:=congrArg (λz=>z.flatten.length) (bG (i+1) P)
   simp only[fAq,lAq]at this;lia
  rw[ef,lAq]at ls;have l1:((P.take i).flatten.length+T.length<=qU)=True:=eq_true (wj (by lia))
  have ea:(P.take i).flatten.map (λr=>AV.sh (dI r))++T.map (λr=>.sh (dI r))=((P.take i).flatten++T).map λr=>.sh (dI r):=by rw[mBq]
  refine⟨[some (.sh (.list (P.map dM))),some (K31.L4 ((P.take i).flatten++T)),some (.sh (dM T))],?_,some (.sh (dM T)),by rw[ef]⟩
  unfold K31.L4
  simp_arith [wm,dM,l1,ea])
 obtain⟨S',e,v2,rfl⟩:=key;rw[lMq,bA]at e;have ig:pD [dM P.flatten]=some (.ow ((gm P.flatten).map aI)):=wH (rs:=P.flatten) (λr hr=>by
  have:=bL.length_le (au hr);lia) (by lia)
 have sO:=K31.CO P.flatten;unfold K31.L4 at e sO
 simp_arith [sq,Bn,e,sO,ig]
theorem Nf(h:xI P Q) {i:Nat}{G G':List (List Int)}(hG:(bc P)[i]?=some G) (hG':(bc Q)[i]?=some G') {v0 v1 v2 v3 v4 v5 v6 v7:Option AV}:vK [v0,v1,v2,v3,v4,v5,v6,v7,some (.sh (.tup [.str "alike", .list ((yK (yz (bc P) (bc Q))).map Ar)])),some (.sh (sX G)),some (.sh (sX G'))]=some (.nx [v0,v1,v2,v3,v4,v5,v6,v7,some (.sh (.tup [.str "alike", .list ((yK (yz (bc P) (bc Q))).map Ar)])),some (.sh (sX G)),some (.sh (sX G'))]):=by
 have el:rK G=rK G':=by
  have:=congrArg (λz=>z[i]?) h.bl
  simp only[gMq,hG,hG']at this;exact aM.inj this
 have pG:=h.f1.bcm G (mGq hG);have pG':=h.f2.bcm G' (mGq hG');have ll:=IE pG pG' el;have cc:OX (dC (rK G)) (dC (rK G'))=some (.bl false):=by
  rw[el];have:=K33.Sk (rK G') (rK G');rw[decide_eq_true rfl]at this;exact this
 have t0:∀a b:D,wG (.tup [a,b]) (.int 0)=some a:=λ_ _=>rfl
 have t1:∀a b:D,wG (.tup [a,b]) (.int 1)=some b:=λ_ _=>rfl
 have fl:∀l:List Int,qu [dI l]=some (.int (l.length:Int)):=λl=>by
  show some (D.int ((l.map D.int).length:Int))=_;rw[lMq]
 cases hc:lr G with
 |nil =>
  have hd:lr G'=[]:=aU.mp (by rw[←ll,hc];rfl)
  have f0:=fl [];have n1:decide (((0:Nat):Int)=1)=false:=by decide
  unfold sX;rw[hc,hd,List.take_nil]
  simp_arith [vK,t0,t1,cc,f0,n1]
 |cons x l =>
  obtain⟨y,l',hd⟩:∃y l',lr G'=y::l':=by
   cases hd:lr G' with
   |nil=>rw[hc,hd]at ll;cases ll
   |cons y l'=>exact⟨y,l',rfl⟩
  have mem:[x,y]∈yz (bc P) (bc Q):=by
   refine cw.mpr ⟨(G,G'),mGq (i:=i) ?_,?_⟩
   .rw [cW];exact⟨hG,hG'⟩
   .show [x,y]∈bh _ (lr G) (lr G');rw[hc,hd];exact aj ..
  have ct:=SC (yK (yz (bc P) (bc Q))) [x,y];have c1:(yK (yz (bc P) (bc Q))).count [x,y]=1:=by
   rw[(Am _).count_eq];have:=cC.mp h.nd [x,y];have:=bU.mpr mem;lia
  rw[c1]at ct;have f0:=fl [x];have f1:=fl [y];have n1:decide (((1:Nat):Int)=1)=true:=by decide
  have i1:∀z:Int,Hy (dI [z]) (.int 0)=some (.int z):=λ_=>rfl
  unfold sX;rw[hc,hd,fi,gk,fi,gk];generalize yK (yz (bc P) (bc Q))=z at ct;have ct':GV (.list (z.map Ar)) [.tup [.int x,.int y]]=some (.int ((1:Nat):Int)):=ct
  simp_arith [vK,t0,t1,cc,f0,f1,n1,i1,ct']
end
end K37
namespace K33
open PySem L2 Mr Z Xe Zl
def Bv(ot:List Int) (bits:Int) (k:Nat):Int:=ot.getD k 0*(1-2*(bits / ((k:Int)+2) % 2))
def yL(nm ot:List Int) (bits:Int):Nat->List (oJ×D)
 |0=>[]
 |k+1=>yL nm ot bits k++[((az (nm.getD k 0):oJ),D.int (Bv ot bits k)),((az (-(nm.getD k 0)):oJ),D.int (-(Bv ot bits k)))]
section
variable {nm ot:List Int}{bits:Int}
theorem GS(l:List Int) (x:Int):K31.vp (l++[x])=K31.vp l++[x, -x]:=by
 unfold K31.vp;rw[dq];rfl
theorem DI{n:Nat}(h:n<nm.length):nm.take (n+1)=nm.take n++[nm.getD n 0]:=rL (by rw[gDq,gEg h];rfl)
theorem B2:∀{n:Nat},n<=nm.length->(yL nm ot bits n).map (·.1)=(K31.vp (nm.take n)).map az
 |0,_=>by simp[yL,K31.vp]
 |n+1,h=>by
  rw[DI (by lia),GS,mBq,←B2 (n:=n) (by lia)]
  show (yL nm ot bits n++[((az (nm.getD n 0):oJ),D.int (Bv ot bits n)),((az (-(nm.getD n 0)):oJ),D.int (-(Bv ot bits n)))]).map (·.1)=_;rw[mBq];rfl
theorem Kh(n:Nat):(yL nm ot bits n).length=2*n:=by
 induction n with
 |zero=>rfl
 |succ n ih =>
  unfold yL;rw[lAq,ih];show 2*n+2=_;lia
theorem Ha{a b:List (oJ×D)}{k:oJ}{d:D}(h:Z.getD a k=some d):Z.getD (a++b) k=some d:=by
 unfold Z.getD at h ⊢;obtain⟨kv,h1,h2⟩:=oMq.mp h;rw[List.find?_append,h1];show some kv.2=_;rw[←h2]
theorem QE{k:Nat}(hk:0<=bits / ((k:Int)+2) % 2/\bits / ((k:Int)+2) % 2<2):Bv ot bits k=ot.getD k 0∨Bv ot bits k = -(ot.getD k 0):=by
 unfold Bv;have h:bits / ((k:Int)+2) % 2=0∨bits / ((k:Int)+2) % 2=1:=by lia
 rcases h with h|h
 .left;rw[h,show (1:Int)-2*0=1 from rfl,eD]
 .right;rw[h,show (1:Int)-2*1 = -1 from rfl,iA,eD]
theorem N3(k:Nat):Bv ot bits k=ot.getD k 0∨Bv ot bits k = -(ot.getD k 0):=QE ⟨aY _ (by decide),aR _ (by decide)⟩
theorem FD(hn:K31.Nm nm) {k:Nat}(hk:k<nm.length):(az (nm.getD k 0):oJ)∉(yL nm ot bits k).map (·.1)/\(az (-(nm.getD k 0)):oJ)∉(yL nm ot bits k++[((az (nm.getD k 0):oJ),D.int (Bv ot bits k))]).map (·.1):=by
 have nd:(K31.vp (nm.take (k+1))).Nodup:=K12.CC (hn.nd.sublist (cU ..)) λx hx=>hn.lo x (cY hx)
 have hx:1<=nm.getD k 0:=hn.lo _ (by rw[gDq,gEg hk];exact gRq hk)
 rw[DI hk,GS,nAq]at nd;refine⟨λm=>?_,λm=>?_⟩
 .rw [B2 (by lia)]at m
  obtain⟨y,hy,e⟩:=mMq.mp m;cases e;exact nd.2.2 _ hy _ (by simp) rfl
 .rw [mBq,B2 (by lia)]at m
  rcases mAq.mp m with m|m
  .obtain ⟨y,hy,e⟩:=mMq.mp m;cases e;exact nd.2.2 _ hy _ (by simp) rfl
  .have:=mSq.mp m;have:=az.inj this;lia
theorem EL(hn:K31.Nm nm):∀{n:Nat},n<=nm.length->∀{k:Nat},k<n->Z.getD (yL nm ot bits n) (az (nm.getD k 0))=some (.int (Bv ot bits k))/\Z.getD (yL nm ot bits n) (az (-(nm.getD k 0)))=some (.int (-(Bv ot bits k)))
 |0,_,k,hk=>absurd hk (bT _)
 |n+1,h,k,hk=>by
  by_cases c:k<n
  .obtain ⟨h1,h2⟩:=EL hn (n:=n) (by lia) c
   unfold yL;exact⟨Ha h1,Ha h2⟩
  .have:k=n:=by lia
   subst this;obtain⟨n1,n2⟩:=FD (ot:=ot) (bits:=bits) hn (show k<nm.length by lia)
   unfold yL;refine⟨?_,?_⟩
   .rw [getD_app n1];unfold Z.getD;rw[bO (by simp)]
    rfl
   .rw [show yL nm ot bits k++[((az (nm.getD k 0):oJ),D.int (Bv ot bits k)),((az (-(nm.getD k 0)):oJ),D.int (-(Bv ot bits k)))]=(yL nm ot bits k++[((az (nm.getD k 0):oJ),D.int (Bv ot bits k))])++[((az (-(nm.getD k 0)):oJ),D.int (-(Bv ot bits k)))] by simp,getD_app n2]
    unfold Z.getD;rw[bO (by simp)]
    rfl
def JT(kvs:List (oJ×D)) (x:Int):Int:=match Z.getD kvs (az x) with
 |some (.int z)=>z
 |_=>0
theorem Ef{kvs:List (oJ×D)}{x z:Int}(h:Z.getD kvs (az x)=some (.int z)):JT kvs x=z:=by
 unfold JT;rw[h]
theorem BB{x:Int}(h:x∈K31.vp nm):∃k,k<nm.length/\(x=nm.getD k 0∨x = -(nm.getD k 0)):=by
 obtain⟨y,hy,q⟩:=K31.Pr.mp h;obtain⟨k,hk,rfl⟩:=bM.mp hy;refine⟨k,hk,?_⟩;rw[gDq,gEg hk];exact q
theorem OV{l:List Int}(hn:l.Nodup) {j k:Nat}(hj:j<l.length) (hk:k<l.length) (h:l.getD j 0=l.getD k 0):j=k:=by
 rw[gDq,gDq,gEg hj,gEg hk]at h;have e1:=hn.idxOf_getElem j hj;have e2:=hn.idxOf_getElem k hk;have h':l[j]=l[k]:=h;rw[h',e2]at e1;exact e1.symm
theorem QI(hn:K31.Nm nm) {x:Int}(h:x∈K31.vp nm):Z.getD (yL nm ot bits nm.length) (az x)=some (.int (JT (yL nm ot bits nm.length) x)):=by
 obtain⟨k,hk,q⟩:=BB h;obtain⟨g1,g2⟩:=EL (ot:=ot) (bits:=bits) hn (ae _) hk;rcases q with rfl|rfl
 .rw [Ef g1];exact g1
 .rw [Ef g2];exact g2
theorem PP(hn:K31.Nm nm) (ho:K31.Nm ot) (hl:nm.length<=ot.length):Pb (JT (yL nm ot bits nm.length)) (K31.vp nm):=by
 have val:∀k,k<nm.length->JT (yL nm ot bits nm.length) (nm.getD k 0)=Bv ot bits k/\JT (yL nm ot bits nm.length) (-(nm.getD k 0)) = -(Bv ot bits k):=λk hk=>by
  obtain⟨g1,g2⟩:=EL (ot:=ot) (bits:=bits) hn (ae _) hk;exact⟨Ef g1,Ef g2⟩
 have pos:∀k,k<nm.length->1<=ot.getD k 0:=λk hk=>ho.lo _ (by rw[gDq,gEg (show k<ot.length by lia)];exact gRq _)
 refine⟨λx hx=>?_,λx hx y hy e=>?_⟩
 .obtain ⟨k,hk,q⟩:=BB hx;obtain⟨v1,v2⟩:=val k hk;rcases q with rfl|rfl
  .rw [v1,v2]
  .rw [fx,v1,v2,fx]
 .obtain ⟨j,hj,q⟩:=BB hx;obtain⟨k,hk,q'⟩:=BB hy;obtain⟨v1,v2⟩:=val j hj;obtain⟨w1,w2⟩:=val k hk;have pj:=pos j hj;have pk:=pos k hk;have ej:=N3 (ot:=ot) (bits:=bits) j;have ek:=N3 (ot:=ot) (bits:=bits) k;have hjk:ot.getD j 0=ot.getD k 0:=by
   rcases q with rfl|rfl <;> rcases q' with rfl|rfl <;> simp only[v1,v2,w1,w2]at e <;> lia
  have:j=k:=OV ho.nd (by lia) (by lia) hjk
  subst this;rcases q with rfl|rfl <;> rcases q' with rfl|rfl <;> simp only[v1,v2]at e <;> first|rfl|lia
end
theorem FN{ns:List Int}{two st sh a b:Int}{n:Nat}(h:∀k:Nat,K31.qD [.int two,.int (cell ns 3),.int (k:Int)]=some (.sh (.int (K12.LY st sh a b k)))):qh pV (kSc (sZ K31.qD (nL (nN 1) (nL (sZ Zl.oN (nL (nN 2) (nL (rC (.int 3)) og))) (nL (nN 0) og))))) [some (.sh (.int two)),some (.sh (.scr ns))] (pS 0 n)=some ((K31.Ln st sh a b n).map λz=>.sh (.int z)):=by
 have c3:=BK ns (k:=3) (by decide)
 have t3:(3:Int).toNat=3:=rfl;have key:=qq (te:=kSc (sZ K31.qD (nL (nN 1) (nL (sZ Zl.oN (nL (nN 2) (nL (rC (.int 3)) og))) (nL (nN 0) og))))) (cap:=[some (.sh (.int two)),some (.sh (.scr ns))])
  (λd=>match d with|.int k=>.sh (.int (K12.LY st sh a b k))|_=>.sh .non) (ds:=pS 0 n) (by
  intro d hd;rw[uK]at hd;obtain⟨k,_,rfl⟩:=mMq.mp hd;have hk:=h k;refine⟨[some (.sh (.int (k:Int))),some (.sh (.int two)),some (.sh (.scr ns))],?_⟩
  simp_arith [c3,t3,hk])
 rw[key,uK,mPq];unfold K31.Ln;rw[mPq];rfl
section
variable {kvs:List (oJ×D)}{f:Int->Int}
theorem JQ{t:List Int}(h:∀x∈t,Z.getD kvs (az x)=some (.int (f x))):qh pV (kSc (vY (nN 1) (nN 0))) [some (.sh (.dict kvs))] (t.map D.int)=some ((t.map f).map λz=>.sh (.int z)):=by
 rw[Z.qq λd=>match d with|.int x=>.sh (.int (f x))|_=>.sh .non]
 .rw [mPq,mPq];rfl
 .intro d hd;obtain⟨x,hx,rfl⟩:=mMq.mp hd;have g:=h x hx;refine⟨[some (.sh (.int x)),some (.sh (.dict kvs))],?_⟩
  simp_arith [g]
theorem Mz{T:List (List Int)}(h:∀x∈T.flatten,Z.getD kvs (az x)=some (.int (f x))) (hl:T.flatten.length<=1000):qh pV (rS (xJ (oi 0)) [1] pV (kSc (vY (nN 1) (nN 0)))) [some (.sh (.dict kvs))] (T.map dI)=some ((vk f T).map aI):=by
 rw[Z.qq λd=>match d with|.list l=>.ow ((qh pV (kSc (vY (nN 1) (nN 0))) [some (.sh (.dict kvs))] l).getD [])|_=>.sh .non]
 .rw [mPq,mPq];refine congrArg some (mCq λt ht=>?_)
  have hr:=JQ (t:=t) (f:=f) λx hx=>h x (mFq.mpr ⟨t,ht,hx⟩)
  show AV.ow ((qh pV (kSc (vY (nN 1) (nN 0))) [some (.sh (.dict kvs))] (t.map D.int)).getD [])=_;rw[hr];rfl
 .intro d hd;obtain⟨t,ht,rfl⟩:=mMq.mp hd;have hr:=JQ (t:=t) (f:=f) λx hx=>h x (mFq.mpr ⟨t,ht,hx⟩)
  have lt:t.length<=qU:=by
   have:=bL.length_le (au ht);show _<=16777216;lia
  refine⟨[some (.sh (dI t)),some (.sh (.dict kvs))],?_⟩
  simp_arith [dI,hr,lt,bo]
end
end K33
namespace K37
open PySem L2 Mr Z Zl
open K12 (gm ql)
open K31 (rnd B7 vp Nm)
open K33 (vk Pb yL JT)
theorem FB:∀{L:List (List Int)},(∀r∈L,r≠[])->L.length<=L.flatten.length
 | [],_=>ae _
 |r::L,h=>by
  have:=FB λr hr=>h r (mCo _ hr)
  have:=bZ.mpr (h r (aj ..));rw[fCq,lAq,lCq];lia
theorem Gg{T:List (List Int)}(tr:K11.zk T):T.length<=T.flatten.length+1:=by
 cases T with
 |nil=>exact aG _
 |cons t T =>
  have:=FB (L:=T) λr hr=>by
   obtain⟨k,hk⟩:=aD.mp hr;have hl:=(gSq.mp hk).1;obtain⟨j,e,_,_,b⟩:=tr (k+1) (by lia) (by simp;lia)
   rw[gDq,List.getElem?_cons_succ,hk,bo]at b;intro q;rw[q]at b;cases b
  rw[fCq,lAq,lCq];lia
theorem Vz{T:List (List Int)}(cn:K11.Cn T) (nd:T.flatten.Nodup) (hl:T.flatten.length<=62):Pg (gm T):=by
 have ln:=Gg cn.tr;have mp:Mp (gm T):=K33.VC nd (by lia) (by lia) cn.clo
 have pos:0<T.length:=bZ.mpr cn.ne;refine⟨mp,K31.LH mp pos cn.tr,by rw[K31.Fb];exact pos,λhE=>?_⟩
 have fT:T.flatten=[]:=by
  have:=K31.sJ T;rw[hE]at this;exact this.symm.eq_nil
 have eT:T=[[]]:=by
  cases T with
  |nil=>cases pos
  |cons r T =>
   have r0:r=[]:=(List.append_eq_nil_iff.mp fT).1;exact K11.yy cn (by rw[r0];simp) nd
 rw[eT];exact gJ.mp (ql [[]])
theorem Nn{P:List (List (List Int))}(cn:∀T∈P,K11.Cn T) (nd:P.flatten.flatten.Nodup) (fl:P.flatten.flatten.length<=62) (lt:P.flatten.length<=63) (lp:P.length<=63):C0 P:=by
 have pG:(gm P.flatten).flatten.Perm P.flatten.flatten:=K31.sJ _;have lG:(gm P.flatten).length=P.flatten.length:=K31.Fb _;have ng:∀z∈P.flatten.flatten, -z∈P.flatten.flatten:=λe he=>by
  obtain⟨r,hr,her⟩:=mFq.mp he;obtain⟨T,hT,hrT⟩:=mFq.mp hr;obtain⟨r',hr',he'⟩:=mFq.mp ((cn T hT).clo e (mFq.mpr ⟨r,hrT,her⟩));exact mFq.mpr ⟨r',mFq.mpr ⟨T,hT,hr'⟩,he'⟩
 have pm:K11.Pm P:=⟨nd,⟨pG.nodup_iff.mpr nd,by rw[pG.length_eq];lia,by lia,λe he=>pG.mem_iff.mpr (ng e (pG.mem_iff.mp he))⟩⟩
 refine⟨pm,cn,λT hT=>Vz (cn T hT) (K11.zG pm hT) ?_,by lia,lt,lp⟩
 have s1:T.flatten.length<=P.flatten.flatten.length:=by
  rw[cE];exact bL.length_le (au (mMq.mpr ⟨T,hT,rfl⟩))
 lia
section
variable {f:Int->Int}{T:List (List Int)}
theorem Nk(k:Nat):(vk f T).getD k []=(T.getD k []).map f:=by
 unfold vk;rw[gDq,gMq,gDq];cases T[k]? <;> rfl
theorem Ub(cn:K11.Cn T) (rn:Pb f T.flatten):K11.Cn (vk f T):=by
 refine⟨λq=>cn.ne (List.map_eq_nil_iff.mp q),λz hz=>?_,λk h0 hk=>?_⟩
 .rw [K33.wy]at hz ⊢;obtain⟨x,hx,rfl⟩:=mMq.mp hz;rw[←rn.odd x hx];exact mMq.mpr ⟨-x,cn.clo x hx,rfl⟩
 .have lt:k<T.length:=by unfold vk at hk;rwa [lMq]at hk
  obtain⟨j,e,hj,a,b⟩:=cn.tr k h0 lt;have he:e∈T.flatten:=mFq.mpr ⟨_,K11.getD_mem a,a⟩;refine⟨j,f e,hj,?_,?_⟩
  .rw [Nk];exact mMq.mpr ⟨e,a,rfl⟩
  .rw [Nk,←rn.odd e he];exact mMq.mpr ⟨-e,b,rfl⟩
theorem QQ(h1:Pg (gm T)) (h2:Pg (gm (vk f T))) (rn:Pb f T.flatten) (nd:T.flatten.Nodup):rK (gm (vk f T))=rK (gm T):=by
 have p1:=K31.sJ T;have p2:=K31.sJ (vk f T);rw[K33.wy]at p2
 by_cases hE:(gm T).flatten=[]
 .have hT:T.flatten=[]:=by rw[hE]at p1;exact p1.symm.eq_nil
  rw[hT]at p2;rw[(Ae hE).2,(Ae p2.eq_nil).2]
 .have two:K33.HM f T:=⟨h1.mp,h2.mp,rn,nd⟩;have cdr:∀e∈T.flatten,cd (gm (vk f T)) (f e)=cd (gm T) e:=λe he=>by
   have he':=p1.mem_iff.mpr he;unfold cd;rw[two.rnd he];have pm:=(K31.KB h1.mp h1.cn he').2.trans p1;exact K33.Mq ⟨λx hx=>rn.odd x (pm.mem_iff.mp hx),λx hx y hy e=>rn.inj x (pm.mem_iff.mp hx) y (pm.mem_iff.mp hy) e⟩ (K33.JE h1.mp he')
  obtain⟨s,E,hs,el,lo,_,_⟩:=Cz h1.mp hE;have hs':=p1.mem_iff.mp hs;rw[el];refine NY (mMq.mpr ⟨f s,p2.mem_iff.mpr (mMq.mpr ⟨s,hs',rfl⟩),cdr s hs'⟩) λe he=>?_
  obtain⟨x,hx,rfl⟩:=mMq.mp (p2.mem_iff.mp he);rw[cdr x hx];exact lo x (p1.mem_iff.mpr hx)
end
theorem D6(f:Int->Int) (P:List (List (List Int))):(P.map (vk f)).flatten=vk f P.flatten:=by
 unfold vk;rw[fL]
theorem P8{P:List (List (List Int))}{f:Int->Int}(h:C0 P) (fl:P.flatten.flatten.length<=62) (rn:Pb f P.flatten.flatten):xI P (P.map (vk f)):=by
 have sub:∀T∈P,∀x∈T.flatten,x∈P.flatten.flatten:=λT hT x hx=>by
  obtain⟨r,hr,hx⟩:=mFq.mp hx;exact mFq.mpr ⟨r,mFq.mpr ⟨T,hT,hr⟩,hx⟩
 have rT:∀T∈P,Pb f T.flatten:=λT hT=>⟨λx hx=>rn.odd x (sub T hT x hx),λx hx y hy e=>rn.inj x (sub T hT x hx) y (sub T hT y hy) e⟩
 have eQ:(P.map (vk f)).flatten.flatten=P.flatten.flatten.map f:=by rw[D6,K33.wy]
 have fQ:C0 (P.map (vk f)):=Nn (λU hU=>by
  obtain⟨T,hT,rfl⟩:=mMq.mp hU;exact Ub (h.cn T hT) (rT T hT)) (by rw[eQ];exact K33.Iq h.pm.nd rn.inj) (by rw[eQ,lMq];exact fl) (by
  rw[D6];unfold vk;rw[lMq];exact h.lt) (by rw[lMq];exact h.lp)
 refine⟨h,fQ,?_⟩;rw[mPq];rw[mCq (g:=(λT=>rK (gm T))∘vk f) λT hT=>(QQ (h.pg T hT) (fQ.pg _ (mMq.mpr ⟨T,hT,rfl⟩)) (rT T hT) (K11.zG h.pm hT)).symm]
section
variable {nm ot:List Int}{bits:Int}
theorem Ji{T:List (List Int)}(hn:Nm nm) (hl:nm.length<=ot.length) (hT:∀x∈T.flatten,x∈vp nm) (hf:T.flatten.length<=1000) (hr:T.length<=1000):su [dM T,dI nm,dI ot,.int bits]=some (.ow ((vk (JT (yL nm ot bits nm.length)) T).map aI)):=by
 have hle:=hn.len;obtain⟨S',e,v5,v6,rfl⟩:=yV (x:=5) (body:=vO) (λi S=>∃v5 v6,S=[some (.sh (dM T)),some (.sh (dI nm)),some (.sh (dI ot)),some (.sh (.int bits)),some (.owd (yL nm ot bits i)),v5,v6]) (ds:=pS 0 nm.length) (S:=[some (.sh (dM T)),some (.sh (dI nm)),some (.sh (dI ot)),some (.sh (.int bits)),some (.owd []),none,none]) ⟨none,none,rfl⟩ (by
  rintro i d S hd ⟨v5,v6,rfl⟩;rw[uK,gMq]at hd;obtain⟨i',hi',rfl⟩:=oMq.mp hd;obtain⟨hlt,hii⟩:=gSq.mp hi';rw[List.getElem_range]at hii;subst hii;rw[cF]at hlt;have at0:atI (nm.map D.int) (i:Int)=some (.int (nm.getD i 0)):=xg (by rw[gMq,gDq,gEg hlt];rfl)
  have at1:atI (ot.map D.int) (i:Int)=some (.int (ot.getD i 0)):=xg (by rw[gMq,gDq,gEg (show i<ot.length by lia)];rfl)
  have dk:=wo (i:=bits) (j:=(i:Int)+2) (by lia) (by lia)
  have m2:=tD (i:=bits / ((i:Int)+2)) (j:=2) (by decide)
  have b0:0<=bits / ((i:Int)+2) % 2:=aY _ (by decide)
  have b1:bits / ((i:Int)+2) % 2<2:=aR _ (by decide)
  have c1:=Jt (i:=2) (j:=bits / ((i:Int)+2) % 2) (by lia) (by lia)
  have c2:=FU (i:=ot.getD i 0) (j:=1-2*(bits / ((i:Int)+2) % 2)) (by lia) (by lia)
  have es:ot.getD i 0*(1-2*(bits / ((i:Int)+2) % 2))=K33.Bv ot bits i:=rfl;obtain⟨n1,n2⟩:=K33.FD (ot:=ot) (bits:=bits) hn hlt;have p1:=zO (d:=D.int (K33.Bv ot bits i)) n1;have p2:=zO (d:=D.int (-(K33.Bv ot bits i))) n2;have l1:(yL nm ot bits i).length<qU:=by rw[K33.Kh];show _<16777216;lia
  have l2:(yL nm ot bits i++[((az (nm.getD i 0):oJ),D.int (K33.Bv ot bits i))]).length<qU:=by rw[lAq,K33.Kh];show 2*i+1<16777216;lia
  have fin:yL nm ot bits i++[((az (nm.getD i 0):oJ),D.int (K33.Bv ot bits i))]++[((az (-(nm.getD i 0)):oJ),D.int (-(K33.Bv ot bits i)))]=yL nm ot bits (i+1):=by
   show _=yL nm ot bits i++[_,_];simp
  refine⟨_,?_,some (.sh (.int (i:Int))),some (.sh (.int (K33.Bv ot bits i))),rfl⟩
  simp_arith [vO,dI,at0,at1,dk,m2,c1,c2,es,p1,l1,p2,l2,fin])
 have hr1:Dc [.int (nm.length:Int)]=some (pS 0 nm.length):=zU (by lia)
 rw[qB]at e;have rr:=K33.Mz (kvs:=yL nm ot bits nm.length) (f:=JT (yL nm ot bits nm.length)) (T:=T) (λx hx=>K33.QI hn (hT x hx)) hf
 have lT:(T.length<=qU)=True:=eq_true (wj (by lia))
 unfold dM at e ⊢
 simp_arith [su,Ah,hr1,e,rr,lT]
theorem ET{P:List (List (List Int))}(hn:Nm nm) (hl:nm.length<=ot.length) {kind:Int}(hT:∀T∈P,(∀x∈T.flatten,x∈vp nm)/\T.flatten.length<=1000/\T.length<=1000):qh pV (ou su (nO (oi 0) (nO (oi 1) (nO (oi 2) (nO (kSc (pN yM (nN 3) (rC (.int 18)))) oC))))) [some (.sh (dI nm)),some (.sh (dI ot)),some (.sh (.int kind))] (P.map dM)=some ((P.map (vk (JT (yL nm ot (kind / 18) nm.length)))).map λU=>.ow (U.map aI)):=by
 rw[Z.qq (λd=>match d with|.list ds=>.ow ((vk (JT (yL nm ot (kind / 18) nm.length)) ((qA ds).getD [])).map aI)|_=>.sh .non)]
 .rw [mPq,mPq];refine congrArg some (mCq λG _=>?_)
  show AV.ow ((vk _ ((qA (G.map dI)).getD [])).map aI)=_;rw[qz];rfl
 .intro d hd;obtain⟨T,hT',rfl⟩:=mMq.mp hd;obtain⟨a,b,c⟩:=hT T hT';have ok:=Ji (bits:=kind / 18) hn hl a b c;have dk:=wo (i:=kind) (j:=18) (by decide) (by decide)
  refine⟨[some (.sh (dM T)),some (.sh (dI nm)),some (.sh (dI ot)),some (.sh (.int kind))],?_⟩;show _=some (AV.ow ((vk _ ((qA (T.map dI)).getD [])).map aI),_);rw[qz,bo]
  simp_arith [dk,ok]
end
theorem KH(k:Nat):qh pV (vT (nO (vT oC) oC)) [] (pS 0 k)=some (aL k (.ow [.ow []])):=by
 rw[Z.qq (λ_=>.ow [.ow []])]
 .rw [List.map_const',qB]
 .intro d hd;refine⟨[some (.sh d)],?_⟩
  simp_arith []
theorem QJ:K11.Cn [[]]:=⟨by simp,by simp,λk h1 h2=>by simp at h2;lia⟩
theorem W0(i:Int):∃k:Nat,k<=2/\uZ (.int i) (.int 3)=some (.int (k:Int)):=by
 have p0:0<=i % 3:=aY _ (by lia)
 have p1:i % 3<3:=aR _ (by lia)
 refine⟨(i % 3).toNat,by lia,?_⟩
 rw[Int.toNat_of_nonneg p0];exact tD (by decide)
structure Bu (nm:List Int) (P:List (List (List Int))):Prop where
 fm:C0 P
 fl:P.flatten.flatten.length<=62
 sub:∀x∈P.flatten.flatten,x∈vp nm
theorem Ow{nm cs:List Int}(hnm:Nm nm) (l18:nm.length=18) (hl:cs.length<=63) (kind:Int):∃xs P,vd [dI cs,dI nm,.int kind]=some (.ow xs)/\xs.map nW=P.map dM/\Bu nm P:=by
 have n1:xi nm none (some 6)=nm.take 6:=yE nm 6 (by lia)
 have n2:xi nm (some 6) (some 12)=(nm.drop 6).take 6:=Hg nm 6 12;have n3:xi nm (some 12) none=nm.drop 12:=yG nm 12 (by lia)
 have ns':nm=nm.take 6++((nm.drop 6).take 6++nm.drop 12):=by
  have:=bG 6 (nm.drop 6);rw[List.drop_drop]at this;rw[this,bG]
 obtain⟨j,hj,ej⟩:∃j:Nat,j<=cs.length/\yM (.int (cs.length:Int)) (.int 2)=some (.int (j:Int)):=⟨cs.length / 2,by lia,by rw[wo (by decide) (by decide)];rfl⟩
 obtain⟨m,hm,e3⟩:=W0 (kind / 2);obtain⟨k,hk,e4⟩:=W0 (kind / 6);have d2:=wo (i:=kind) (j:=2) (by decide) (by decide)
 have d6:=wo (i:=kind) (j:=6) (by decide) (by decide)
 have m2:=tD (i:=kind) (j:=2) (by decide)
 have q1:=yE cs j hj;have q2:=yG cs j hj;have b1:(cs.take j).length<=63:=by rw[lTq];lia
 have b2:(cs.drop j).length<=63:=by rw[bj];lia
 generalize cs.take j=A1 at q1 b1;generalize cs.drop j=A2 at q2 b2;have nA:Nm (nm.take 6):=⟨by rw[lTq];lia,hnm.nd.sublist (cU _ _),λx hx=>hnm.lo x (cY hx)⟩
 have nB:Nm ((nm.drop 6).take 6):=⟨by rw[lTq,bj];lia,hnm.nd.sublist ((cU _ _).trans (ib _ _)),λx hx=>hnm.lo x (gA (cY hx))⟩
 have nC:Nm (nm.drop 12):=⟨by rw[bj];lia,hnm.nd.sublist (ib _ _),λx hx=>hnm.lo x (gA hx)⟩
 obtain⟨T1,l1,t1,c1,r1,p1,s1⟩:=K31.CQ (nm:=nm.take 6) (cs:=A1) (wild:=decide (kind % 2=1)) b1 (by have:=nA.len;lia)
 obtain⟨T2,l2,t2,c2,r2,p2,s2⟩:=K31.CQ (nm:=(nm.drop 6).take 6) (cs:=A2) (wild:=decide (kind % 2=1)) b2 (by have:=nB.len;lia)
 obtain⟨T3,l3,t3,c3,r3,p3,s3⟩:=K31.CQ (nm:=nm.drop 12) (cs:=A1) (wild:=decide (kind % 2=1)) b1 (by have:=nC.len;lia)
 have lA:(nm.take 6).length<=6:=by rw[lTq];lia
 have lB:((nm.drop 6).take 6).length<=6:=by rw[lTq];lia
 have lC:(nm.drop 12).length<=6:=by rw[bj];lia
 have each:∀{nn:List Int}{T:List (List Int)},Nm nn->nn.length<=6->(∃left,∀a,T.flatten.count a+(vp left).count a=(vp nn).count a)->K11.zk T->0<T.length->K11.Cn T/\T.flatten.length<=12/\T.length<=13:=λ{nn T} hn hl cnt tr pos=>by
  have fl:T.flatten.length<=12:=by
   obtain⟨left,h⟩:=cnt;have:(T.flatten++vp left).Perm (vp nn):=dQ.mpr λa=>by rw[cAq];exact h a
   have:=this.length_eq;rw[lAq,K31.E6 nn]at this;lia
  have tl:=Gg tr;have sl:T.length<=63:=by lia
  have w:K31.Wm nn T:=⟨cnt,tr,pos,sl⟩;exact⟨⟨λq=>(by rw[q]at pos;cases pos),λz hz=>w.neg hn hz,tr⟩,fl,by lia⟩
 have E1:=each nA lA ⟨l1,c1⟩ r1 p1;have E2:=each nB lB ⟨l2,c2⟩ r2 p2;have E3:=each nC lC ⟨l3,c3⟩ r3 p3;have cnt:∀a,T1.flatten.count a+T2.flatten.count a+T3.flatten.count a<=(vp nm).count a:=λa=>by
  have e:(vp nm).count a=(vp (nm.take 6)).count a+((vp ((nm.drop 6).take 6)).count a+(vp (nm.drop 12)).count a):=by
   conv=>lhs;rw[ns']
   unfold K31.vp;rw[dq,dq,cAq,cAq]
  have:=c1 a;have:=c2 a;have:=c3 a;lia
 have bu:Bu nm (([T1,T2,T3]:List (List (List Int))).take (1+m)++aL k [[]]):=by
  have mem:∀T∈([T1,T2,T3]:List (List (List Int))).take (1+m)++aL k [[]],K11.Cn T:=λT hT=>by
   rcases mAq.mp hT with z|z
   .have z:=cY z;simp only[ah,bN,or_false]at z;rcases z with z|z|z
    .rw [z];exact E1.1
    .rw [z];exact E2.1
    .rw [z];exact E3.1
   .rw [(List.mem_replicate.mp z).2];exact QJ
  have rf:∀k:Nat,(aL k ([[]]:List (List Int))).flatten.flatten=[]/\(aL k ([[]]:List (List Int))).flatten.length=k:=λk=>by
   induction k with
   |zero=>exact⟨rfl,rfl⟩
   |succ k ih =>
    rw[gD,fCq,fAq,ih.1,lAq,ih.2];exact⟨rfl,by simp;lia⟩
  have e12:=E1.2;have e22:=E2.2;have e32:=E3.2;have tk:(([T1,T2,T3]:List (List (List Int))).take (1+m)).flatten.length<=39/\(([T1,T2,T3]:List (List (List Int))).take (1+m)).flatten.flatten.length<=36/\∀a,(([T1,T2,T3]:List (List (List Int))).take (1+m)).flatten.flatten.count a<=T1.flatten.count a+T2.flatten.count a+T3.flatten.count a:=by
   have hmm:m=0∨m=1∨m=2:=by lia
   rcases hmm with rfl|rfl|rfl
   all_goals
    refine⟨?_,?_,λa=>?_⟩
    all_goals
     simp only[iW,fD,fi,gk,fCq,List.flatten_nil,fAq,lAq,cAq,bK,List.count_nil];lia
  have ff:(([T1,T2,T3]:List (List (List Int))).take (1+m)++aL k [[]]).flatten.flatten=(([T1,T2,T3]:List (List (List Int))).take (1+m)).flatten.flatten:=by rw[fAq,fAq,(rf k).1,aNq]
  have bn:=K31.DG hnm;have le:∀a,(([T1,T2,T3]:List (List (List Int))).take (1+m)).flatten.flatten.count a<=(vp nm).count a:=λa=>aS (tk.2.2 a) (cnt a)
  refine⟨Nn mem ?_ ?_ ?_ ?_,by rw[ff];lia,λx hx=>?_⟩
  .rw [ff];exact cC.mpr λa=>aS (le a) (cC.mp bn a)
  .rw [ff];lia
  .rw [fAq,lAq,(rf k).2];lia
  .rw [lAq,lTq,dw];simp only[lCq,bK];lia
  .rw [ff]at hx;exact bU.mp (aE (bU.mpr hx) (le x))
 have ec:xi [dM T1,dM T2,dM T3] none (some ((1+m:Nat):Int))=(([T1,T2,T3]:List (List (List Int))).take (1+m)).map dM:=by
  rw[show [dM T1,dM T2,dM T3]=[T1,T2,T3].map dM from rfl,wZ,yE _ (1+m) (by simp;lia)]
 have i1:(1:Int)+(m:Int)=((1+m:Nat):Int):=by lia
 have bk:=KH k;have rk:=zU (n:=k) (by lia)
 have lk:(pS 0 k).length<=qU:=by rw[qB];exact wj (by lia)
 have sT:∀T:List (List Int),nW (.ow (T.map aI))=dM T:=λT=>by rw[qJ,xt]
 have sK:(aL k (AV.ow [.ow []])).map nW=(aL k ([[]]:List (List Int))).map dM:=by rw[gT,gT];rfl
 have cat:(([T1,T2,T3]:List (List (List Int))).take (1+m)).map dM++(aL k ([[]]:List (List Int))).map dM=(([T1,T2,T3]:List (List (List Int))).take (1+m)++aL k [[]]).map dM:=by rw[mBq]
 have lcat:(([T1,T2,T3]:List (List (List Int))).take (1+m)).length+k<=qU:=by rw[lTq];simp only[lCq,bK];exact wj (by lia)
 generalize ([T1,T2,T3]:List (List (List Int))).take (1+m)=P1 at bu ec cat lcat;refine⟨((P1++aL k [[]]).map dM).map AV.sh,P1++aL k [[]],?_,by rw[mPq];exact(mCq λr _=>pK _).trans (bV _),bu⟩
 unfold dI at t1 t2 t3
 simp_arith [vd,C4,dI,ej,d2,d6,e3,e4,m2,q1,q2,n1,n2,n3,wZ,t1,t2,t3,sT,i1,ec,rk,bk,lk,sK,cat,dw,lcat]
section
variable {P Q:List (List (List Int))}
theorem ND(h:xI P Q) {v0 v1 v2 v3 v4 v5 v6 v7:Option AV}:∃v9 v10,xv 9 10 vK ((bc P).map sX) ((bc Q).map sX) [v0,v1,v2,v3,v4,v5,v6,v7,some (.sh (.tup [.str "alike", .list ((yK (yz (bc P) (bc Q))).map Ar)])),none,none]=some (.nx [v0,v1,v2,v3,v4,v5,v6,v7,some (.sh (.tup [.str "alike", .list ((yK (yz (bc P) (bc Q))).map Ar)])),v9,v10]):=by
 have key:=Oy (x:=9) (y:=10) (body:=vK) (λi S=>∃v9 v10,S=[v0,v1,v2,v3,v4,v5,v6,v7,some (.sh (.tup [.str "alike", .list ((yK (yz (bc P) (bc Q))).map Ar)])),v9,v10]) (ds:=(bc P).map sX) (es:=(bc Q).map sX) (S:=[v0,v1,v2,v3,v4,v5,v6,v7,some (.sh (.tup [.str "alike", .list ((yK (yz (bc P) (bc Q))).map Ar)])),none,none]) (k:=0) (by
  have:=congrArg bb h.bl
  rwa [lMq,lMq]at this ⊢) ⟨none,none,rfl⟩ (by
  rintro i d e S hd he ⟨v9,v10,rfl⟩;obtain⟨G,hG,rfl⟩:=uQ hd;obtain⟨G',hG',rfl⟩:=uQ he;exact⟨_,Nf h hG hG',_,_,rfl⟩)
 obtain⟨S',e,v9,v10,rfl⟩:=key;exact⟨v9,v10,e⟩
theorem Oo(G:List (List Int)):((G.map λr=>(r.length:Int)).sum)=(G.flatten.length:Int):=by
 induction G with
 |nil=>rfl
 |cons r G ih =>
  rw[ar,iU,ih,fCq,lAq];lia
theorem OU(h:C0 P):qh pV (kSc (uP qu (nL (rOf (ou oV (nO (oi 0) oC))) og))) [] (P.map dM)=some (((P.map fP).map λr=>(r.length:Int)).map λn=>.sh (.int n)):=by
 rw[Z.qq (λd=>match d with|.list ds=>.sh (.int ((((qA ds).getD []).flatten.length:Nat):Int))|_=>.sh .non)]
 .rw [mPq,mPq,mPq];refine congrArg some (mCq λG _=>?_)
  show AV.sh (.int ((((qA (G.map dI)).getD []).flatten.length:Nat):Int))=_;rw[qz];rfl
 .intro d hd;obtain⟨T,hT,rfl⟩:=mMq.mp hd;have s1:T.flatten.length<=P.flatten.flatten.length:=by
   rw[cE];exact bL.length_le (au (mMq.mpr ⟨T,hT,rfl⟩))
  have ok:=zX (rs:=T) (by have:=h.fl;lia)
  have sf:=oB T.flatten;refine⟨[some (.sh (dM T))],?_⟩;show _=some (AV.sh (.int ((((qA (T.map dI)).getD []).flatten.length:Nat):Int)),_);rw[qz,bo]
  simp_arith [ok,sf,dI]
def tl:MS:=(oy (pI 8 (ou K37.ui (nO (ou K37.sq (nO (oi 6) oC)) (nO (ou K37.sq (nO (oi 7) oC)) oC))))
 (oy (Cj (EJ (D3 (uM (uP G3 (nL (nN 8) (nL (rC (.ty "tuple")) og))))) (EJ (uM (pN OI (uP qu (nL (nN 8) og)) (rC (.int 2)))) (EJ (uM (pN OI (pN wG (nN 8) (rC (.int 0))) (rC (.str "alike")))) (D3 (uM (uP G3 (nL (pN wG (nN 8) (rC (.int 1))) (nL (rC (.ty "list")) og)))))))) (ri (kSc (rC (.bl false)))) sr)
 (oy (GO 9 10 (ou K37.rX (nO (oi 6) oC)) (ou K37.rX (nO (oi 7) oC)) vK)
 (ri (kSc (pN EB (uP qu (nL (pN wG (nN 8) (rC (.int 1))) og)) (uP MW (nL (rOf (rS (xJ (oi 6)) [] pV (kSc (uP qu (nL (rOf (ou Zl.oV (nO (oi 0) oC))) og))))) og))))))))
theorem QH(h:xI P Q) {x y:AV}(hx:nW x = .list (P.map dM)) (hy:nW y = .list (Q.map dM)) {v0 v1 v2 v3 v4 v5:Option AV}:tl [v0,v1,v2,v3,v4,v5,some x,some y,none,none,none]=some (.rt (.sh (.bl true))):=by
 have j1:=DK h.f1;have j2:=DK h.f2;have g1:=xt (gm P.flatten);have g2:=xt (gm Q.flatten);have co:=FW h;have s1:=D9 h.f1;have s2:=D9 h.f2;have st:∀L:List (List (List Int)),(L.map λG=>AV.sh (sX G)).map nW=L.map sX:=λL=>by rw[mPq];exact mCq λr _=>pK _
 have r1:=st (bc P);have r2:=st (bc Q);obtain⟨v9,v10,lo⟩:=ND h (v0:=v0) (v1:=v1) (v2:=v2) (v3:=v3) (v4:=v4) (v5:=v5) (v6:=some (.sh (.list (P.map dM)))) (v7:=some (.sh (.list (Q.map dM))));have ll:((bc P).length=(bc Q).length)=True:=eq_true (by have:=congrArg bb h.bl;rwa [lMq,lMq]at this)
 have lc:=OU h.f1;have lP:(P.length<=qU)=True:=eq_true (wj (by have:=h.f1.lp;lia))
 have hlen:(yK (yz (bc P) (bc Q))).length=P.flatten.flatten.length:=by rw[(Am _).length_eq,h.len]
 have fs:=Lb ((P.map fP).map λr=>(r.length:Int)) ⟨λn hn=>by
  obtain⟨r,hr,rfl⟩:=mMq.mp hn;have:=bL.length_le (au hr);rw[←cE]at this;have:=h.f1.fl;lia,by rw[lMq,lMq];have:=h.f1.lp;lia⟩
 rw[Oo,←cE,←hlen]at fs;generalize yK (yz (bc P) (bc Q))=z at co lo fs;generalize (P.map fP).map (λr=>(r.length:Int))=ks at lc fs
 have sk:=BJ ks;have it:∀a b:D,G3 [.tup [a,b],.ty "tuple"]=some (.bl true):=λ_ _=>rfl
 have il:∀l:List D,G3 [.list l,.ty "list"]=some (.bl true):=λ_=>rfl
 have lt:∀a b:D,qu [.tup [a,b]]=some (.int 2):=λ_ _=>rfl
 have t0:∀a b:D,wG (.tup [a,b]) (.int 0)=some a:=λ_ _=>rfl
 have t1:∀a b:D,wG (.tup [a,b]) (.int 1)=some b:=λ_ _=>rfl
 have na:OI (.str "alike") (.str "alike")=some (.bl false):=by unfold OI;rfl
 have fz:qu [.list (z.map Ar)]=some (.int (z.length:Int)):=by
  show some (D.int ((z.map Ar).length:Int))=_;rw[lMq]
 unfold dM at j1 j2 co s1 s2 lo hx hy lc
 simp_arith [tl,hx,hy,j1,j2,g1,g2,co,it,il,lt,t0,t1,na,s1,s2,r1,r2,ll,lo,lP,lc,fz,sk,fs]
end
theorem Se{ns:List Int}(hns:ns.length<=63):Ou [.scr ns]=some (.sh (.bl true)):=by
 obtain⟨st,sh,a,b,h1,_,h2,_,h3,h4,en⟩:=K31.Js (cell ns 0) (cell ns 1);have hnm:=K31.OW (b:=b) (n:=18) (by decide) h1 h2 h3 h4
 have nc:=K31.Iv (n:=18) en;have l18:(K31.Ln st sh a b 18).length=18:=by unfold K31.Ln;rw[lMq,cF]
 generalize K31.Ln st sh a b 18=nm at hnm nc l18;obtain⟨st',sh',a',b',h1',_,h2',_,h3',h4',en'⟩:=K31.Js (cell ns 1) (cell ns 3);have hot:=K31.OW (b:=b') (n:=18) (by decide) h1' h2' h3' h4'
 have nc':=K33.FN (n:=18) en';have m18:(K31.Ln st' sh' a' b' 18).length=18:=by unfold K31.Ln;rw[lMq,cF]
 generalize K31.Ln st' sh' a' b' 18=ot at hot nc' m18;have hcs:xi ns (some 4) (some 67)=(ns.drop 4).take 63:=Hg ns 4 67;have hl:((ns.drop 4).take 63).length<=63:=by rw[lTq];exact Nat.min_le_left ..
 generalize (ns.drop 4).take 63=cs at hcs hl;obtain⟨xs,P,eb,ex,bu⟩:=Ow hnm l18 hl (cell ns 2);have rn:=K33.PP (bits:=cell ns 2 / 18) hnm hot (by lia)
 have rc:=ET (P:=P) (ot:=ot) (kind:=cell ns 2) hnm (by lia) λT hT=>⟨λx hx=>bu.sub x (by
  obtain⟨r,hr,hx⟩:=mFq.mp hx;exact mFq.mpr ⟨r,mFq.mpr ⟨T,hT,hr⟩,hx⟩),by
  have s1:T.flatten.length<=P.flatten.flatten.length:=by
   rw[cE];exact bL.length_le (au (mMq.mpr ⟨T,hT,rfl⟩))
  have:=bu.fl;lia,by
  have:=bL.length_le (au hT);have:=bu.fm.lt;lia⟩
 generalize JT (yL nm ot (cell ns 2 / 18) nm.length)=f at rn rc;have both:=P8 (f:=f) bu.fm bu.fl ⟨λx hx=>rn.odd x (bu.sub x hx),λx hx y hy e=>rn.inj x (bu.sub x hx) y (bu.sub y hy) e⟩
 have lP:(P.length<=qU)=True:=eq_true (wj (by have:=bu.fm.lp;lia))
 generalize P.map (vk f)=Q at rc both;have sQ:nW (.ow (Q.map λU=>AV.ow (U.map aI))) = .list (Q.map dM):=by
  rw[qJ,mPq];refine congrArg D.list (mCq λU _=>?_)
  show nW (.ow (U.map aI))=_;rw[qJ,xt]
 have fin:=λv0 v1 v2 v3 v4 v5=>QH both (x:=.sh (.list (P.map dM))) (y:=.ow (Q.map λU=>AV.ow (U.map aI))) (pK _) sQ (v0:=v0) (v1:=v1) (v2:=v2) (v3:=v3) (v4:=v4) (v5:=v5)
 have lw:MC=(oy (pI 1 (kSc (sZ Zl.oN (nL (nN 0) (nL (rC (.int 0)) og)))))
   (oy (pI 2 (kSc (sZ Zl.oN (nL (nN 0) (nL (rC (.int 1)) og)))))
   (oy (pI 3 (kSc (sZ Zl.oN (nL (nN 0) (nL (rC (.int 2)) og)))))
   (oy (pI 4 (rS (SX (nL (rC (.int 18)) og)) [1,2] pV (kSc (sZ K31.qD (nL (nN 1) (nL (nN 2) (nL (nN 0) og)))))))
   (oy (pI 5 (rS (SX (nL (rC (.int 18)) og)) [2,0] pV (kSc (sZ K31.qD (nL (nN 1) (nL (sZ Zl.oN (nL (nN 2) (nL (rC (.int 3)) og))) (nL (nN 0) og)))))))
   (oy (pI 6 (ou K37.vd (nO (HA (sD 0) (ud (rC (.int 4))) (ud (rC (.int 67)))) (nO (oi 4) (nO (oi 3) oC)))))
   (oy (pI 7 (rS (xJ (oi 6)) [4,5,3] pV (ou K37.su (nO (oi 0) (nO (oi 1) (nO (oi 2) (nO (kSc (pN yM (nN 3) (rC (.int 18)))) oC)))))))
   tl))))))):=rfl
 have r18:Dc [.int 18]=some (pS 0 18):=zU (n:=18) (by decide)
 have l18':(pS 0 18).length<=qU:=by rw[qB];show 18<=16777216;decide
 have sn:=oB nm;have so:=oB ot;have sc:=oB cs;have sx:nW (.ow xs) = .list (P.map dM):=by rw[qJ,ex]
 simp_arith [Ou,lw,UN,UR,Vn,hcs,r18,l18',nc,nc',sn,so,sc,dI,wZ,eb,sx,lP,rc,fin]
end K37
namespace K37
open PySem L2 Mr Z
def WC(K:W.Frag) (c:Addr):Option Addr:=match K.lookup c with
 |some oc=>(match oc.data with
  | .fields vs=>(match (vs[11]?:Option Value) with
   |some (.ref P)=>some P
   |_=>none)
  |_=>none)
 |none=>none
theorem Qt{K:W.Frag}{h:Heap}{P c:Addr}{q:Str}(hM:uc K=[(P,q)]) (hn:K.lookup P=none) (ht:h.get? P=some (W.tabObj #[])) (hc:W.CodeHd h c P):AF K h:=by
 intro x hx;rw[hM]at hx ⊢;obtain rfl:=mSq.mp hx;exact⟨by simp[List.lookup],hn,ht,c,hc⟩
theorem Sd{l:W.OpenLaw}{w:jo}{K:W.Frag}{h:Heap}{mg:Str->Option Value}{fa:Addr}(X:K.In h) (G:h.Ns jn mg) (hfa:mg "law" = some (.ref fa))
  (a0:At K "told_ends" sj f0 fd0)
  (a1:At K "ends_of" vo f1 fd1)
  (a2:At K "places_at" tI f2 fd2)
  (a3:At K "reached" wB f3 fd3)
  (a4:At K "pieces" vN f4 fd4)
  (a5:At K "refuse_not_one_piece" pW f5 fd5)
  (a6:At K "turn_from" uC f6 fd6)
  (a7:At K "round_turns" rO f7 fd7)
  (a8:At K "round_ends" tT f8 fd8)
  (a9:At K "turn_code" uB f9 fd9)
  (a10:At K "code_of" vg f10 fd10)
  (a11:At K "round_code" rA f11 fd11)
  (a12:At K "least_round" sY f12 fd12)
  (a13:At K "least_code" rF f13 fd13)
  (a14:At K "codes" zI f14 fd14)
  (a15:At K "by_codes" vC f15 fd15)
  (a16:At K "laying" xW f16 fd16)
  (a17:At K "compared" vS f17 fd17)
  (a18:At K "_law_cell" yp f18 fd18)
  (a19:At K "_law_name" ym f19 fd19)
  (a20:At K "_law_turns" wJ f20 fd20)
  (a21:At K "_law_turned" vA f21 fd21)
  (a22:At K "_law_good" wX f22 fd22)
  (a23:At K "_law_copy" xO f23 fd23)
  (a24:At K "_law_flat" wI f24 fd24)
  (a25:At K "_law_renamed" uD f25 fd25)
  (a26:At K "_law_built" wC f26 fd26)
  (a27:At K "_law_joined" vz f27 fd27)
  (a28:At K "_law_first" wD f28 fd28)
  (a29:At K "_law_starts" vx f29 fd29)
  (a30:W.nsIn K jn "law" = some (some (.ref f30))) (l30:K.lookup f30=some ⟨oc30,od30,.func (W.fnOf "law" "law" (uV yU) (tX yU) (nY yU) .none kV30 dc30 pm30 an30 cd30 ct30),sl30⟩) (c30:W.codeIn K cd30 "law" = true) (k30:W.keepIn K (.ref f30)=true)
  (btu:W.nsIn K jn "tuple" = some none)
  (bx_sum:W.nsIn K jn "sum" = some none)
  (z0:W.nsIn K jn "len" = some none) (z1:W.nsIn K jn "min" = some none) (z2:W.nsIn K jn "max" = some none) (z3:W.nsIn K jn "abs" = some none) (z4:W.nsIn K jn "all" = some none) (z5:W.nsIn K jn "sorted" = some none) (z6:W.nsIn K jn "isinstance" = some none) (z7:W.nsIn K jn "list" = some none) (z8:W.nsIn K jn "int" = some none) (z9:W.nsIn K jn "bool" = some none) (z10:W.nsIn K jn "str" = some none) (z11:W.nsIn K jn "dict" = some none) (z12:W.nsIn K jn "zip" = some none) (z13:W.nsIn K jn "enumerate" = some none) (z14:W.nsIn K jn "range" = some none) (z15:W.nsIn K jn "reversed" = some none)
  {cLm pLm:Addr}(hC:fd12.code = .ref cLm) (hP:WC K cLm=some pLm) (hT:W.codeHdIn K cLm pLm=true) (hM:uc K=[(pLm,(("least_round" : Str) ++ ".<locals>.") ++ "<lambda>")]) :
  ∃fd:jE,(∀(s:Shared) (v:Value),lM s fd ⟨[v],[]⟩ [("_law_script", v)])/\∀base:Heap,K.In base->base.Ns jn mg->wU l.prog w K mg base QV 11 fa fd ["_law_script"] (Kt K):=by
 have e:=hfa.symm.trans (W.mg_of X G a30);cases e;have B:Bt mg:=⟨W.mg_none_of X G z0,W.mg_none_of X G z1,W.mg_none_of X G z2,W.mg_none_of X G z3,W.mg_none_of X G z4,W.mg_none_of X G z5,W.mg_none_of X G z6,W.mg_none_of X G z7,W.mg_none_of X G z8,W.mg_none_of X G z9,W.mg_none_of X G z10,W.mg_none_of X G z11,W.mg_none_of X G z12,W.mg_none_of X G z13,W.mg_none_of X G z14,W.mg_none_of X G z15⟩;have D30:yx K mg "law" yU ["_law_script"] _ _:=⟨Ik l30 c30 k30,W.mg_of X G a30,b1 (Ik l30 c30 k30) λ_ _ _ _ _ _ _=>rfl⟩
 refine⟨W.fnOf "law" "law" (uV yU) (tX yU) (nY yU) .none kV30 dc30 pm30 an30 cd30 ct30,λs v=>.of_eq rfl,λbase kb nb=>?_⟩
 have bTU:=W.mg_none_of X G btu;have bX_sum:=W.mg_none_of X G bx_sum;have F0:=Ee (P:=l.prog) (w:=w) (base:=base) (zB X G a0 (b1 a0.F λ_ _ _ _ _ _ _=>rfl)) B
 have F1:=Ic (zB X G a1 (b1 a1.F λ_ _ _ _ _ _ _=>rfl)) B F0
 have F2:=EF (P:=l.prog) (w:=w) (base:=base) (zB X G a2 (b1 a2.F λ_ _ _ _ _ _ _=>rfl)) B
 have F3:=Jh (zB X G a3 (b2 a3.F λ_ _ _ _ _ _ _ _=>rfl)) B F2
 have F4:=Lx (zB X G a4 (b1 a4.F λ_ _ _ _ _ _ _=>rfl)) B F3
 have F5:=wR (zB X G a5 (b1 a5.F λ_ _ _ _ _ _ _=>rfl)) B F4
 have F6:=Fg (P:=l.prog) (w:=w) (base:=base) (zB X G a6 (b2 a6.F λ_ _ _ _ _ _ _ _=>rfl)) B
 have F7:=C3 (zB X G a7 (b2 a7.F λ_ _ _ _ _ _ _ _=>rfl)) B F2 F6
 have F8:=Dj (zB X G a8 (b2 a8.F λ_ _ _ _ _ _ _ _=>rfl)) B F0 F7
 have F9:=Fl (P:=l.prog) (w:=w) (base:=base) (zB X G a9 (b2 a9.F λ_ _ _ _ _ _ _ _=>rfl)) B bTU
 have F10:=Ie (zB X G a10 (b1 a10.F λ_ _ _ _ _ _ _=>rfl)) B bTU F0 F9
 have F11:=Dq (zB X G a11 (b2 a11.F λ_ _ _ _ _ _ _ _=>rfl)) B F10 F7
 have F12:=BP (zB X G a12 (b1 a12.F λ_ _ _ _ _ _ _=>rfl)) hC hT (by rw[hM];exact mSq.mpr rfl) B F1 F8 F11
 have F13:=Dp (zB X G a13 (b1 a13.F λ_ _ _ _ _ _ _=>rfl)) B F5 F1 F10 F11
 have F14:=MG (zB X G a14 (b1 a14.F λ_ _ _ _ _ _ _=>rfl)) B F13 F4
 have F15:=Gn (zB X G a15 (b1 a15.F λ_ _ _ _ _ _ _=>rfl)) B F4 F13
 have F16:=Lh (zB X G a16 (b2 a16.F λ_ _ _ _ _ _ _ _=>rfl)) B F15 F12
 have F17:=Gu (zB X G a17 (b2 a17.F λ_ _ _ _ _ _ _ _=>rfl)) B F14 F16
 have F18:=Lj (P:=l.prog) (w:=w) (base:=base) (zB X G a18 (b2 a18.F λ_ _ _ _ _ _ _ _=>rfl)) B
 have F19:=KI (P:=l.prog) (w:=w) (base:=base) (zB X G a19 (b3 a19.F λ_ _ _ _ _ _ _ _ _=>rfl)) B
 have F20:=Ia (P:=l.prog) (w:=w) (base:=base) (zB X G a20 (b3 a20.F λ_ _ _ _ _ _ _ _ _=>rfl)) B
 have F21:=G7 (P:=l.prog) (w:=w) (base:=base) (zB X G a21 (b1 a21.F λ_ _ _ _ _ _ _=>rfl)) B
 have F22:=KG (zB X G a22 (b1 a22.F λ_ _ _ _ _ _ _=>rfl)) B F21
 have F23:=L1 (P:=l.prog) (w:=w) (base:=base) (zB X G a23 (b1 a23.F λ_ _ _ _ _ _ _=>rfl)) B
 have F24:=Lc (P:=l.prog) (w:=w) (base:=base) (zB X G a24 (b1 a24.F λ_ _ _ _ _ _ _=>rfl)) B
 have F25:=E8 (P:=l.prog) (w:=w) (base:=base) (zB X G a25 (b4 a25.F λ_ _ _ _ _ _ _ _ _ _=>rfl)) B
 have F26:=HS (zB X G a26 (b3 a26.F λ_ _ _ _ _ _ _ _ _=>rfl)) B F20
 have F27:=GC (zB X G a27 (b1 a27.F λ_ _ _ _ _ _ _=>rfl)) B F22
 have F28:=Ja (P:=l.prog) (w:=w) (base:=base) (zB X G a28 (b1 a28.F λ_ _ _ _ _ _ _=>rfl)) B
 have F29:=Hn (zB X G a29 (b1 a29.F λ_ _ _ _ _ _ _=>rfl)) B F13 F28 F22 F23 F24 F11
 have F30:=S9 D30 B bTU bX_sum F18 F26 F17 F19 F25 F27 F29 F24;exact F30.ok.imp (Rg λns h=>Se h)
theorem Wn{l:W.OpenLaw}{q:jj}{loose:List Str}{XP:(Str->Option Value)->Heap->Prop}{YP:jo->Heap->Prop}{d:DefRec}{K:Params->W.Frag}(hn:l.most=some 63) (hdf:d.params.defaults=[])
  (hY:∀(w:jo) (h:Heap),YP w h->(K w.params).In h) (hT:∀(w:jo) (h:Heap),YP w h->AF (K w.params) h)
  (F:∀(w:jo) (mg:Str->Option Value) (fa:Addr) (h:Heap),(K w.params).In h->h.Ns jn mg->mg d.name=some (.ref fa) ->
   ∃fd:jE,(∀(s:Shared) (u:Value),lM s fd ⟨[u],[]⟩ [("_law_script", u)])/\∀base:Heap,(K w.params).In base->base.Ns jn mg->wU l.prog w (K w.params) mg base QV 11 fa fd ["_law_script"] (Kt (K w.params))) :
  W.WalkO q loose XP YP l.row.toRowW d [] (λf vs=>PySem.call f vs) :=
 L2.PR (n:=63) (k:=11) (x := "_law_script") (CX:=λ_=>QV) (sp:=λw=>Kt (K w.params)) hn (by decide) hdf ⟨rfl,by decide,by decide⟩ hY hT F (λ_ _ a ns hl _ hS=>⟨a,ns,rfl,hS,hl,λ_=>rfl⟩) λ_ _ _ _ _ z=>z
end K37
structure PySem.W.Fast:Prop where(tw3336873044350243436 tw16904979912550609545 tw12480400448322012017 tw8097571868354491799 tw17821462036066610304 tw17299089866706807026 tw7291331622417965758 tw7820123866817441484 tw2400742248211693954 tw13125625881490128241 tw2486710200342027176 tw7425185382535842380 tw11827520816154690941 tw8176645061061548671 tw5335940236330538948 tw5073384019285897771 tw11558383995461769777 tw16106360917727809048 tw5173783075481691767 tw4119755394825048768 tw7021605531065460550 tw7471894415047988877 tw15218215665034727823 tw7389679930734907663 tw6798937053551376357 tw12245261079654509626 tw15298797321149681298 tw1622341208239741969 tw10581708859370873549 tw15139505146964527189 tw12873053259127632561 tw17009066249290933868 tw10701535279888574755 tw8419499027967992754 tw1508739420338219078 tw1304534107971467495 tw3491919717478085849 tw14590753654479911695 tw4984551853514363837 tw16569661189686348476 tw11348775928857306386 tw2274994140716528886 tw2164727491386219271 tw14110791559646627911 tw16888329673194581951 tw2552748719056782726 tw12610496732847558846 tw2292839918229082480 tw16691285660943621714 tw4490591009585791990 tw3101165448615851555 tw5120343963923882592 tw15708728631248123031 tw8676249858139505003 tw5943401936313665249 tw9124790469119532664 tw10621504738545095977 tw4803015981815493531 tw11803296590087141500 tw8118613081387735039 tw8060861285785613690 tw12599925187116155400 tw14782942249910161474 tw11181849448268770201 tw14574103218287161903 tw9249504417690941154 tw12945017910573627579 tw2367138871220393232 tw17419799179754324755 tw2474354343084209079 tw6868284672240998520 tw11979768206191745466 tw4030862250849429885 tw6464556050560997770 tw13798775132801492516 tw7419087584550637084 tw13068247596986940196 tw9942831594124962409 tw899820983804745362 tw3393279396320001686 tw13789815214799274107 tw12929215117635117920 tw16772189600763743432 tw8418515654981725385 tw15718376984743260461 tw227862711010754957 tw9939397926187688444 tw17609685118003260280 tw1792240641400154462 tw10126700266859484777 tw14754352872613534804 tw2941702784517853910 tw4477294322208237945 tw2073000631544222716 tw4967215462661782826 tw1591123879312025553 tw10487141112233190044 tw2702925598711977783 tw3843729330616290461 tw5508172355098287788 tw16922935004496046926 tw9211322055997653551 tw11984338162792901249 tw2362123529029488996 tw9069928862582074212 tw6158414683374736407 tw1212105331219305273 tw11457842014485375856 tw3395242851226420797 tw5395600106870777280 tw10859996191425404151 tw13747688071645711933 tw7076205682341140999 tw8155929619381437520 tw13125189619111271616 tw2170979899191553518 tw10092585178387011480 tw1957530979732450323 tw6880928923206250205 tw14187975740482577096 tw339794232833219690 tw11953672360582428296 tw14486611424790910281 tw6884737908705899566 tw2709633343564966307 tw12659969750771965888 tw17879283245665993514 tw5431120330295282803 tw11852597070292635815 tw879771780437434664 tw16334929832884625801 tw9684489892816839487 tw15815523293366880870 tw4307973842214625766 tw1108393686715951863 tw17964714759114735969 tw9594623946131587577 tw15584898017739289572 tw9773524594590501976 tw17292568224276843746 tw5154651252026953456 tw3236230657341913134 tw5259848833811821114 tw2302724881762611882 tw12001142443718710560 tw11978398939440234385 tw7509749127563796381 tw3291496070860959488 tw5387703233752238301 tw12155002076824337552 tw12922236067013615141 tw13707302222575087194 tw7855908236840568038 tw8256041143774910889 tw14065269052371902785 tw14057003352803666103 tw15128877297230051798 tw15061345754491777168 tw1186609721779063656 tw6680125891313785075 tw4807413188017297605 tw14063796203812559627 tw6956228980592695939 tw13146379647409677942 tw15554542280524777371 tw15135952013721219777 tw2112266704870045191 tw2370047238326050435 tw529388190751118666 tw2284582795720974720:True)
open PySem PySem.W PyProof.Rows
set_option maxRecDepth 100000 in
set_option maxHeartbeats 0 in
theorem PySem.Challenge.cw_mapround_k37_laid_from_the_least_holds : PySem.Challenge.rw_mapround_k37_laid_from_the_least.Holds := by
 w_on;o_law;k_head;(case hw=>w_witness2)
 k_fill
 refine K37.Wn (l:=PySem.Challenge.rw_mapround_k37_laid_from_the_least) rfl rfl (λw h Y=>W.km_in_of Y) ?T ?F
 case T=>exact λw h Y=>K37.Qt (P:=138) (c:=142) (q:=(("least_round" : Str) ++ ".<locals>.") ++ "<lambda>") (by kernel_rfl) (by kernel_rfl) (W.km_tabs_of Y 138 (by k_mem)) (W.codeHd_of_K (W.km_in_of Y) (by kernel_rfl))
 case F =>
  intro w mg fa h KX G hmg;apply K37.Sd KX G hmg
  case a12=>exact Mr.RF (by k_is) (by k_is) (by k_is) (by k_is)
  case hC=>first|exact rfl|k_is
  case hP=>first|k_is|exact rfl
  all_goals first|exact Mr.RF (by k_is) (by k_is) (by k_is) (by k_is)|exact Mr.atM_mk (by k_is) (by k_is) (by k_is) (by k_is) (by k_is)|k_is|kernel_rfl

import PyProof.Rows.All
import Wide.All
import OpenK.AllK
import Wide.FinOn
import Lean
import PyProof.EqAt
import PyProof.EqKinds
import PyProof.TupleCall
import KE.KIntText
import PyProof.ConsumeWalk
import PySem.Challenge.RW_mapround_k46_whole_doors_and_lands
set_option Elab.async false
set_option linter.all false
set_option maxRecDepth 100000
set_option maxHeartbeats 4000000
open Option renaming bind_eq_some_iff->oBq,map_eq_some_iff->oMq
open List renaming getElem?_eq_some_iff->gSq,getElem?_eq_getElem->gEg,getD_eq_getElem?_getD->gDq,length_append->lAq,length_map->lMq,mem_append->mAq,mem_flatten->mFq,mem_map->mMq,getElem?_map->gMq,mem_of_getElem?->mGq,map_congr_left->mCq,getElem_mem->gRq,length_singleton->lSq,mem_singleton->mSq,length_take->lTq,nodup_append->nAq,append_nil->aNq,flatten_append->fAq,getElem?_append_right->gYq,getElem?_append_left->gZq,length_cons->lCq,map_map->mPq,map_append->mBq,mem_cons_of_mem->mCo,length_set->lZq,flatten_cons->fCq,count_append->cAq,mem_cons->ae,mem_cons_self->ag,append_assoc->ah,mem_append_right->aj,nodup_cons->aq,mem_iff_getElem?->ar,map_cons->au,mem_append_left->aw,getElem?_set_ne->aA,replicate->aB,getElem?_set_self->aC,sublist_flatten_of_mem->aF,size_toArray->aG,nodup_iff_pairwise_ne->aJ,perm_append_comm->aL,pairwise_append->aO,mem_filter->aQ,length_drop->aR,nodup_nil->aU,count_pos_iff->aW,Pairwise->aY,drop_eq_getElem_cons->aZ,take_append_drop->bb,getElem?_eq_none->bc,pairwise_map->bg,length_range->bh,Perm->bj,flatten_singleton->bo,length_eq_zero_iff->bq,take_length->bA,take_sublist->bC,foldl_cons->bD,mem_flatMap->bE,mem_of_mem_drop->bF,getElem?_set->bG,zipWith->bH,count_nil->bJ,mem_of_mem_take->bK,reduceReplicate->bL,range->bN,eraseIdx_cons_succ->bO,perm_ext_iff_of_nodup->bP,append_of_mem->bQ,pairwise_iff_getElem->bR,count_cons->bS,perm_iff_count->bT,drop_sublist->bV,mem_range->bW,pairwise_cons->cg,length->cm,mem_reverse->cu,take_of_length_le->cA,take_add_one->cB,length_replicate->cE,set_cons_zero->cG,set_cons_succ->cH,cons_append->cJ,countP_eq_length_filter->cK,nodup_iff_count->cL,getElem?_concat_length->cP,getElem?_range->cR,mem_or_eq_of_mem_set->cT,length_filter_le->cY,getElem?_drop->cZ,mem_iff_getElem->dg,dropLast_concat->dk,find?_cons->du,ext_getElem?->dw,getElem?_replicate->dA,set_set->dC,filter_cons_of_neg->dD,reverse_append->dE,drop_eq_nil_of_le->dF,find?_cons_of_neg->dJ,any_eq_true->dN,perm_middle->dO,count_eq_zero->dP,filter_append->dQ,map_id->dR,getElem?_zipWith->dS,eq_nil_or_concat->dU,concat_eq_append->dW,length_nil->dX,nil_append->dY,any_cons->ee,getElem?_zip_eq_some->eh,findIdx_lt_length_of_exists->ez,take_succ_eq_append_getElem->eD,length_eq_countP_add_countP->eE,getElem?_take_of_lt->eF,eq_of_mem_replicate->eI,drop_length->eJ,filter_sublist->eN,filter_cons_of_pos->eO,getElem?_cons_zero->eP,find?_cons_of_pos->eS,pairwise_lt_range->eT,foldl_append->eZ,Sublist->fe,length_eraseIdx->ff,length_pos_iff->fj,extract_eq_take_drop->fk,map_nil->fB,eraseIdx_cons_zero->fF,getLast?_singleton->fG,drop_zero->fI,getElem_drop->fJ,eraseIdx_append_of_length_le->fK,flatMap_cons->fO,length_pos_of_mem->fQ,drop_of_length_le->fS,zipWith_cons_cons->fT,append_eq_nil_iff->fU,eraseIdxIfInBounds_toArray->fX,not_mem_nil->gf,set_getElem_self->gj,min?_eq_some_iff->gm,mem_eraseIdx_iff_getElem?->gw,reverse_reverse->gB,findIdx_getElem->gC,getLast?_append->gD,filterMap_cons->gK,replicate_succ->gL,flatMap_append->gN,dropLast_concat_getLast->gO,zip_cons_cons->gR,mem_replicate->gS,getElem_take->gY,findIdx?_eq_none_iff->gZ,find?_isSome->hU,idxOf_lt_length_iff->hZ,length_erase_of_mem->ik,all_eq_true->ip,nodup_range->iq,pairwise_mergeSort->iw,flatten_eq_nil_iff->iA,of_mem_zip->iB,length_zip->iD,filter_nil->iE,set_append_right->iF,mem_of_mem_erase->iM,count_cons_of_ne->iN,take_zero->iO,flatten_flatten->iS,count_cons_self->iT,all_cons->iV,mergeSort_perm->iW,map_take->iX,findIdx?->iY,length_zipWith->iZ,perm_singleton->ja,mem_filterMap->jb,getElem_idxOf->jc,getElem?_take->jd,forIn_toArray->je,count_reverse->jf,cons->jj,getElem?_inj->jk,filter_congr->jl,getElem_inj->jm,drop_append->jr,append_inj'->jx,forIn_cons->jA,filter_map->jB,forIn_nil->jG,any_map->jL
open And renaming intro->aa
open Nat renaming le_refl->af,ne_of_lt->aE,lt_of_lt_of_le->aT,zero_le->bp,lt_succ_of_lt->bU,le_trans->bY,zero_add->bZ,reduceEqDiff->cv,reduceLeDiff->cw,ne_of_gt->cD,lt_succ_iff_lt_or_eq->cF,le_succ->cO,not_lt_zero->cQ,le_of_lt->cS,reduceAdd->cU,reduceSub->cV,sub_self->dB,lt_irrefl->dZ,min_eq_left->eQ,add_comm->fc,lt_succ_self->fg,mod_eq_of_lt->fi,add_one_sub_one->fq,lt_or_eq_of_le->fu,add_sub_cancel_left->fE,add_assoc->gc,lt_add_right->gk,strongRecOn->gF,le_of_eq->gG,pos_of_ne_zero->gQ,lt_trichotomy->gX,add_zero->ir,mod_self->iz,lt_trans->jg,min_self->jh,le_of_lt_succ->ji,le_of_not_lt->jq,max_eq_right->jt,min_eq_right->ju,le_add_right->jw,mod_lt->jD,sub_zero->jM
open Array renaming getElem?_eq_getElem->ai,length_toList->ax,getElem?_toList->az,toList_append->aS,getElem?_eq_some_iff->bf,getElem_mem->bu,toList_reverse->dh,toList_push->dv,size_extract->fA,toList_extract->gA,toList_setIfInBounds->gU,getD->il,getElem?_extract->iC,mem_toList_iff->iQ,toArray_toList->iR,Perm->jC,size_map->jF
open PySem.Heap renaming get?_push_of_some->ak,lt_size->ao,get?_push_size->aX,SameBut->cC,get?_update_ne->eK,size_update->fh,get?_push_ne->fL,DictOf->fY,size_push->gP,get?_update_self->iG
open PySem.F renaming plainAttrs_list->ay,slot_list_append->aM,type_list_append->aN,called_set->cI,slot_list_pop->cW,type_list_pop->cX,slot_dict_setdefault->gM,slot_dict_values->ie,slot_list_index->iu,plainAttrs_dict->iy,plain_set_new->iH
open Option renaming some->aD,map_some->cf,isSome_map->eW,getD_some->gg,some_or->iP,getD_none->jo,none->jQ
open Sum renaming inl->aH,inr->gW
open Bool renaming false_ne_true->aK,eq_iff_iff->bI,false_eq_true->de,not_eq_true->dG,not_eq_true'->fM,and_eq_true->fV,or_eq_true->jz,false_and->jE,false_or->jK,or_true->jN
open Classical renaming propDecidable->aV,byContradiction->ft
open Int renaming neg_neg->bw,emod_nonneg->bx,emod_lt_of_pos->bz,toNat_natCast->dq,le_refl->fZ,le_of_lt->gH,zero_add->gI,fdiv_eq_ediv_of_nonneg->gT,toNat->iK,mul_one->jn
open PyProof.Rows renaming callWith_type1->bX,boot_sorted->df,boot_list->eU,boot_isinstance->eV,callWith_builtin1->gu,boot_abs->iI,boot_all->iJ,eq_dataH_same->jH,boot_bool->jO,boot_min->jR,boot_int->jS,lt_int->jT
open PySem.Value renaming ref->cj,type->fP,bool->gJ,int->gV,none->iU,isStrOf->jI,str->jJ,isInt->jP
open Prod renaming ext->jy
open PySem renaming wpAny_bind->jU,wpAny_pure->jX,model->jY,wpAny->kc,sizeLine->ke,Program->kf,mainGlobals->kg,World->ki,starEach->ko,wpAny_holding->kr,codeAny_builtin->ku,wpAny_mono->kx,FuncData->kA,call_isinstance->kE,wpAny_truthy_bool->kH,compareOp->kJ,sysModules->kL,wpAny_passesOwn->kM,isinstance_true->kN,sizeLine_eq->kO,valueAt->kP,intKind->kQ,wpAny_Call_Name_kw->kR,scanBound->kS,plainId_quiet->kY,backTo->kZ,sliceBounds->lg,bootBuiltins->ly,binaryOp->lz,call_meets->lC,codeAny->lD,cLine->lF,Scope->lH,wpAny_field->lJ,unsupported->lK,pyNext->lO,behindInMarks->lS,wpAny_call_entry->lU,wpAny_execs_nil->lY,letOwnedTupleGo->lZ,codeAny_mono->mi,wpAny_rule->mj,stored->mn,ZipApart->mq,relabel->mv,tupleKind_room_in1->mw,wpAny_newList->mB,attributeBase->mC,wpAny_pyIter_list->mD,foldedSetIterable->mF,assignEach->mH,callerA->mI,wpAny_comprehension_free->mJ,relayAll->mK,IsPair->mL,wpAny_callSpecial?_slot->mM,wpAny_Call_method0_late->mN,tupleKind->mP,atKey->mQ,wpAny_nextOf_list_item->mR,subscripted->mS,wpAny_notOrdered_dict->mT,wpAny_isTrue_Compare1->mU,builtinLookup_eq_fast->mV,wpAny_seqItems->mW,isSubtype_type->mX,getItem->mY,BindsTo->mZ,lookup_relabel_local->nh,typeLookup->ni,intKind_is->nj,wpAny_attempt->nq,wpAny_typeOf->nv,swapsWith->nA,seqIndex?->nB
open PyProof.Rows renaming Keyed->jV,wpS_bind->jW,wpS_pure->jZ,arrOf->kj,seqObj->kq,IntsAre->kz,wpS_forRange->kB,setArr->kC,wpS_mono->kF,SortKind->kG,elem'->kK,pendingOf->kT,wpS_modify->kU,oneType'->kX,wpS_get->lj,getElem?_mirror_all->lu,reverseSlice'->lQ,gallopOf->lV,AllBare->lW,pairsOf_size->mh,envOfC->mz,sortedHeap->mG,get?_update_seq->mO,subscriptTail->nt,listUpdate_at->nu,seqEpoch_at->nC
noncomputable section
open Array renaming mem_of_getElem?->aQq
local macro_rules|`(tactic|trivial)=>`(tactic|first|exact Or.inl rfl|exact Or.inr rfl|exact Or.inr (Or.inl rfl)|exact Or.inr (Or.inr rfl)|exact⟨rfl,rfl,rfl,by decide +kernel,rfl,by decide +kernel,by decide +kernel⟩|fail)
theorem pN{c:Prop}{_:Decidable c}(h:c){α}{t e:α}:ite c t e=t:=if_pos h
theorem pJ{c:Prop}{_:Decidable c}(h:¬c){α}{t e:α}:ite c t e=e:=if_neg h
namespace L2
open PySem PySem.Spec PyProof.Rows
abbrev oU:=Sum Int Str
def EC:oU->Value->Bool
 | .inl k,v=>jP k v
 | .inr x,v=>jI x v
def YG(w:ki):oU->Int
 | .inl k=>hashInt k
 | .inr x=>hashStr w x
theorem qF:∀{k:oU}{v:Value},EC k v=true->(∃i t,k=aH i/\v=gV i t)∨(∃x t,k=gW x/\v=jJ x t)
 | .inl i,v,h=>by
  obtain⟨t,e⟩:=Value.isInt_shape (k:=i) (v:=v) h;exact .inl ⟨i,t,rfl,e⟩
 | .inr x,v,h=>by
  obtain⟨t,e⟩:=Value.isStrOf_shape (x:=x) (v:=v) h;exact .inr ⟨x,t,rfl,e⟩
theorem Ex(i:Int) (t:Tok):EC (.inl i) (.int i t)=true:=by simp[EC,jP]
theorem LN(x:Str) (t:Tok):EC (.inr x) (.str x t)=true:=by simp[EC,jI]
theorem TV(a b:Int):decide ((aH a:oU)=aH b)=(a == b):=by
 by_cases e:a=b
 .subst e;simp
 .have h:¬ (aH a:oU)=aH b:=λq=>e (aH.inj q)
  rw[decide_eq_false h];exact(beq_eq_false_iff_ne.mpr e).symm
theorem Vc(a b:Str):decide ((gW a:oU)=gW b)=decide (a=b):=by
 by_cases e:a=b
 .subst e;simp
 .have h:¬ (gW a:oU)=gW b:=λq=>e (gW.inj q)
  rw[decide_eq_false h,decide_eq_false e]
theorem U0(a:Int) (b:Str):decide ((aH a:oU)=gW b)=false:=decide_eq_false (λq=>nomatch q)
theorem UR(a:Str) (b:Int):decide ((gW a:oU)=aH b)=false:=decide_eq_false (λq=>nomatch q)
def qv(prog:kf) (w:ki):PySem.KeyKind prog w oU where
 is:=EC
 hash:=YG w
 inj:=λv a b ha hb=>by
  rcases qF ha with ⟨i,t,rfl,rfl⟩|⟨x,t,rfl,rfl⟩
  .rcases qF hb with ⟨j,u,rfl,e⟩|⟨y,u,rfl,e⟩
   .injection e with e1 _;rw[e1]
   .exact nomatch e
  .rcases qF hb with ⟨j,u,rfl,e⟩|⟨y,u,rfl,e⟩
   .exact nomatch e
   .injection e with e1 _;rw[e1]
 byValue:=λk v h=>by
  rcases qF h with ⟨i,t,rfl,rfl⟩|⟨x,t,rfl,rfl⟩ <;> rfl
 pyHash:=λhv h=>by
  rcases qF hv with ⟨i,t,rfl,rfl⟩|⟨x,t,rfl,rfl⟩
  .exact wpAny_pyHash_int h
  .exact wpAny_pyHash_str h
 eqBool:=λhu hv h=>by
  rcases qF hu with ⟨i,t,rfl,rfl⟩|⟨x,t,rfl,rfl⟩
  .rcases qF hv with ⟨j,u,rfl,rfl⟩|⟨y,u,rfl,rfl⟩
   .rw [TV]at h;exact wpAny_eqBool_int h
   .rw [U0]at h;exact SeqAt.EqAt.int_str i t y u _ _ _ _ h
  .rcases qF hv with ⟨j,u,rfl,rfl⟩|⟨y,u,rfl,rfl⟩
   .rw [UR]at h;exact SeqAt.EqAt.str_int x t j u _ _ _ _ h
   .rw [Vc]at h;exact wpAny_eqBool_str h
 «strs»:=λk x t v h=>by
  rcases qF h with ⟨i,u,rfl,e⟩|⟨y,u,rfl,e⟩
  .exact nomatch e
  .injection e with e1 _
   subst e1;cases v <;> rfl
theorem Ha(prog:kf) (w:ki) (i:Int) (t:Tok):(qv prog w).is (.inl i) (.int i t)=true:=Ex i t
theorem G8(prog:kf) (w:ki) (x:Str) (t:Tok):(qv prog w).is (.inr x) (.str x t)=true:=LN x t
inductive V where
 |non|bl (b:Bool)|int (i:Int)|str (x:Str)|byt (b:Array UInt8)|flt (b:UInt64)|ref (a:Addr)|ty (n:String)
 deriving DecidableEq
def qp:V->Value->Prop
 | .non,u=>u=iU
 | .bl b,u=>u=gJ b
 | .int i,u=>∃t,u=gV i t
 | .str x,u=>∃t,u=jJ x t
 | .byt b,u=>∃t,u=Value.bytes b t
 | .flt b,u=>∃t,u=Value.float b t
 | .ref a,u=>u=cj a
 | .ty n,u=>u=fP n
abbrev pY:List V->List Value->Prop:=Paired qp
theorem pY.length{xs:List V}{us:List Value}(r:pY xs us):xs.length=us.length:=Paired.length r
theorem pY.get:∀{xs:List V}{us:List Value}{i:Nat}{x:V},pY xs us->xs[i]?=some x->∃u,us[i]?=some u/\qp x u
 |_,_,_,_,.nil,e=>by simp at e
 |_,_,0,_,.cons r _,e=>by simp at e;subst e;exact⟨_,rfl,r⟩
 |_,_,i+1,x,.cons _ t,e=>by
  obtain⟨u,h1,h2⟩:=pY.get (i:=i) (x:=x) t (by simpa using e)
  exact⟨u,by simpa using h1,h2⟩
theorem pY.set{x:V}{u:Value}(r:qp x u):∀{xs:List V}{us:List Value}(i:Nat),pY xs us->pY (xs.set i x) (us.set i u)
 |_,_,_,.nil=>.nil
 |_,_,0,.cons _ t=>.cons r t
 |_,_,i+1,.cons q t=>.cons q (pY.set r i t)
theorem pY.append:∀{xs ys:List V}{us ws:List Value},pY xs us->pY ys ws->pY (xs++ys) (us++ws)
 |_,_,_,_,.nil,s=>s
 |_,_,_,_,.cons r t,s=>.cons r (pY.append t s)
theorem pY.take:∀{xs:List V}{us:List Value}(n:Nat),pY xs us->pY (xs.take n) (us.take n)
 |_,_,0,_=>.nil
 |_,_,_+1,.nil=>.nil
 |_,_,n+1,.cons r t=>.cons r (pY.take n t)
theorem pY.drop:∀{xs:List V}{us:List Value}(n:Nat),pY xs us->pY (xs.drop n) (us.drop n)
 |_,_,0,r=>r
 |_,_,_+1,.nil=>.nil
 |_,_,n+1,.cons _ t=>pY.drop n t
def An:Option V->Option Value->Prop
 |some v,some u=>qp v u
 |none,none=>True
 |_,_=>False
def KV{κ:Type}:List (κ×V)->List (κ×Value)->Prop:=Paired λ(p:κ×V) (q:κ×Value)=>p.1=q.1/\qp p.2 q.2
def kV:oU->V
 | .inl i=>.int i
 | .inr x=>.str x
inductive HO where
 /-- a list -/
 |lst (xs:List V)
 /-- a tuple (never changes) -/
 |tup (xs:List V)
 /-- a dict whose keys are ints and texts;one whose keys are tuples of ints and texts (the empty one is both) -/
 |dK (kvs:List (oU×V))|dT (kvs:List (List oU×V))
 /-- a set of ints: its members,its size -/
 |set (S:Int->Bool) (n:Nat)
 /-- an instance of the class at C,its dict at dx,its attributes -/
 |ins (C dx:Addr) (fs:List (Str×V))
 /-- the dict of the instance at x -/
 |own (x:Addr)
 /-- the dict of an exception -/
 |xd (fs:List (Str×V))
 /-- a bound method,f of x -/
 |met (f x:Addr)
 /-- a range object lo,lo+1,.. below hi -/
 |rng (lo hi:Int)
 /-- a thing that is known to the object (the script;a dict while a loop walks it): read,never written while it is so -/
 |frz (o:Obj) (u:HO)
 /-- a code object's table -/
 |tbl (ps:Array Value)
 /-- any other thing,by what is true of its one object (a def of one's own: SetO a S n:=HO.ext λh=>..) -/
 |ext (φ:Heap->Prop)
abbrev Hp:=Addr->Option HO
def qP(H:Hp) (a:Addr) (o:HO):Hp:=λb=>if b=a then some o else H b
theorem pD{H:Hp}{a:Addr}{o:HO}:qP H a o a=some o:=by unfold qP;rw[pN rfl]
theorem oV{H:Hp}{a b:Addr}{o:HO}(h:b≠a):qP H a o b=H b:=by unfold qP;rw[pJ h]
theorem V4{H:Hp}{a b:Addr}{o u:HO}(h:H a=some o) (h':H b=some u) (d:o≠u):a≠b:=by
 intro e;subst e;rw[h]at h';exact d (aD.inj h')
theorem qY{H:Hp}{a b:Addr}{o:HO}(h:H a=some o) (h':H b=none):a≠b:=by
 intro e;subst e;rw[h]at h';cases h'
section
variable (P:kf) (w:ki)
def qW(H:Hp) (h:Heap) (a:Addr):HO->Prop
 | .lst xs=>xs.length<=ke/\∃(its:List Value) (n:Nat),pY xs its/\h.get? a=some { cls:=.type "list", data:=.seq its.toArray n }
 | .tup xs=>xs.length<=ke/\∃its:List Value,pY xs its/\IsTup h a its.toArray
 | .dK kvs=>kvs.length<=ke/\(a == kL)=false/\∃vs,KV kvs vs/\h.DictOf (qv P w) a vs
 | .dT kvs=>kvs.length<=ke/\(a == kL)=false/\∃xs:List (List oU×Addr×Value),
   Paired (λ(p:List oU×V) (q:List oU×Addr×Value)=>p.1=q.1/\H q.2.1=some (.tup (p.1.map kV))/\qp p.2 q.2.2) kvs xs /\
   ∃o es ep,h.get? a=some o/\o.ExactDict/\o.data = .dict es ep/\es.toList=xs.map (entryOfKey (mP (qv P w)))/\(xs.map (·.1)).Nodup
 | .set S n=>h.SetOf (kQ P w) a S n
 | .ins C dx fs=>H dx=some (.own a)/\fs.length<=1000/\dx≠a/\h.get? a=some (W.instObj C dx) /\
   ∃mA,h.Ns1 dx mA/\(∀f,An (fs.lookup f) (mA f))/\PySem.Within mA (fs.map (·.1))
 | .own _=>∃o,h.get? a=some o
 | .xd fs=>∃mA,h.Ns1 a mA/\∀f,An (fs.lookup f) (mA f)
 | .rng lo hi=>∃t u v,h.get? a=some { cls:=.type "range", data:=.fields #[.int lo t,.int hi u,.int 1 v] }
 | .frz o u=>h.get? a=some o/\qW H h a u
 | .tbl ps=>h.get? a=some { cls:=.none,data:=.fields ps }
 | .met f x=>h.get? a=some (W.methodObj (.ref f) (.ref x))
 | .ext φ=>φ h/\(∃o,h.get? a=some o)/\∀h1 h2:Heap,φ h1->(∀o,h1.get? a=some o->h2.get? a=some o)->φ h2
def Ac(H:Hp) (h:Heap):Prop:=∀a o,H a=some o->qW P w H h a o
end
section
variable {P:kf}{w:ki}{H H':Hp}{h h':Heap}{a:Addr}{o:HO}
theorem qW.lt(x:qW P w H h a o):a<h.objs.size:=by
 cases o with
 |lst xs=>obtain⟨_,_,_,_,e⟩:=x;exact ao e
 |tup xs=>obtain⟨_,_,_,p⟩:=x;exact p.lt
 |dK kvs=>obtain⟨_,_,_,_,o,_,_,e,_⟩:=x;exact ao e
 |dT kvs=>obtain⟨_,_,_,_,o,_,_,e,_⟩:=x;exact ao e
 |set S n=>obtain⟨o,_,_,_,e,_⟩:=x;exact ao e
 |ins C dx fs=>obtain⟨_,_,_,e,_⟩:=x;exact ao e
 |own y=>obtain⟨_,e⟩:=x;exact ao e
 |xd fs=>obtain⟨_,⟨_,_,_,e,_⟩,_⟩:=x;exact ao e
 |rng lo hi=>obtain⟨_,_,_,e⟩:=x;exact ao e
 |frz ob u=>obtain⟨e,_⟩:=x;exact ao e
 |tbl ps=>exact ao (show h.get? a=some _ from x)
 |met f y=>exact ao (show h.get? a=some _ from x)
 |ext φ=>obtain⟨_,⟨_,e⟩,_⟩:=x;exact ao e
theorem Paired.mapP{α β:Type}{F G:α->β->Prop}:∀{l₁:List α}{l₂:List β},Paired F l₁ l₂->(∀a b,F a b->G a b)->Paired G l₁ l₂
 |_,_,.nil,_=>.nil
 |_,_,.cons r t,f=>.cons (f _ _ r) (Paired.mapP t f)
theorem qW.stay(x:qW P w H h a o) (k:∀b u,(b=a∨H b=some (.own a))->h.get? b=some u->h'.get? b=some u)
  (ho:∀b,H b=some (.own a)->H' b=some (.own a)) (ht:∀b xs,H b=some (.tup xs)->H' b=some (.tup xs)):qW P w H' h' a o:=by
 induction o with
 |lst xs=>obtain⟨z,its,n,r,e⟩:=x;exact⟨z,its,n,r,k _ _ (.inl rfl) e⟩
 |tup xs=>obtain⟨z,its,r,ob,e,c⟩:=x;exact⟨z,its,r,ob,k _ _ (.inl rfl) e,c⟩
 |dK kvs=>obtain⟨z,y,vs,r,ob,es,ep,e,c⟩:=x;exact⟨z,y,vs,r,ob,es,ep,k _ _ (.inl rfl) e,c⟩
 |dT kvs =>
  obtain⟨z,y,xs,r,ob,es,ep,e,c⟩:=x;exact⟨z,y,xs,Paired.mapP r λp q z=>⟨z.1,ht _ _ z.2.1,z.2.2⟩,ob,es,ep,k _ _ (.inl rfl) e,c⟩
 |set S n=>obtain⟨ob,es,ep,t,e,c⟩:=x;exact⟨ob,es,ep,t,k _ _ (.inl rfl) e,c⟩
 |ins C dx fs =>
  obtain⟨d,z,ne,e,mA,⟨od,es,ep,e2,c⟩,r⟩:=x;exact⟨ho _ d,z,ne,k _ _ (.inl rfl) e,mA,⟨od,es,ep,k _ _ (.inr d) e2,c⟩,r⟩
 |own y=>obtain⟨ob,e⟩:=x;exact⟨ob,k _ _ (.inl rfl) e⟩
 |xd fs=>obtain⟨mA,⟨od,es,ep,e,c⟩,r⟩:=x;exact⟨mA,⟨od,es,ep,k _ _ (.inl rfl) e,c⟩,r⟩
 |rng lo hi=>obtain⟨t,u,v,e⟩:=x;exact⟨t,u,v,k _ _ (.inl rfl) e⟩
 |frz ob u ih=>obtain⟨e,q⟩:=x;exact⟨k _ _ (.inl rfl) e,ih q⟩
 |tbl ps =>
  have e:h.get? a=some { cls:=.none,data:=.fields ps }:=x;show h'.get? a=some { cls:=.none,data:=.fields ps };exact k a _ (.inl rfl) e
 |met f y =>
  have e:h.get? a=some (W.methodObj (.ref f) (.ref y)):=x;show h'.get? a=some (W.methodObj (.ref f) (.ref y));exact k a _ (.inl rfl) e
 |ext φ=>obtain⟨p,⟨o,e⟩,st⟩:=x;exact⟨st _ _ p λo q=>k _ _ (.inl rfl) q,⟨o,k _ _ (.inl rfl) e⟩,st⟩
theorem Ac.lt(x:Ac P w H h) (e:H a=some o):a<h.objs.size:=(x a o e).lt
theorem Ac.fresh(x:Ac P w H h) (e:h.objs.size<=a):H a=none:=by
 cases q:H a with
 |none=>rfl
 |some u=>exact absurd (aT (x.lt q) e) (dZ _)
theorem Ac.kept(x:Ac P w H h) (k:∀b u,h.get? b=some u->h'.get? b=some u):Ac P w H h':=λa o e =>
 (x a o e).stay (λb u _ q=>k b u q) (λ_ q=>q) λ_ _ q=>q
theorem Ac.laid(x:Ac P w H h) (k:∀b u,h.get? b=some u->h'.get? b=some u) (hp:h.objs.size<=a) (new:qW P w (qP H a o) h' a o):Ac P w (qP H a o) h':=λb u e=>by
 have hn:=x.fresh hp
 by_cases hb:b=a
 .subst hb;rw[pD]at e;cases e;exact new
 .rw [oV hb]at e;exact(x b u e).stay (λc v _ q=>k c v q) (λc q=>by rw[oV (qY q hn)];exact q) λc xs q=>by rw[oV (qY q hn)];exact q
end
def Rd(H:Hp) (a:Addr) (u:HO):Prop:=H a=some u∨∃o,H a=some (.frz o u)
theorem Rd.ok{P:kf}{w:ki}{H:Hp}{h:Heap}{a:Addr}{u:HO}(r:Rd H a u) (x:Ac P w H h):qW P w H h a u:=by
 rcases r with r|⟨o,r⟩
 .exact x a u r
 .obtain ⟨_,q⟩:=x a _ r;exact q
def Wn:Option HO->Prop
 |some (.lst _)=>True
 |some (.dK _)=>True
 |some (.dT _)=>True
 |some (.set _ _)=>True
 |some (.ins _ _ _)=>True
 |some (.ext _)=>True
 |_=>False
section
variable {P:kf}{w:ki}{H:Hp}{h h':Heap}{x e:Addr}{o':HO}
theorem Ac.write(ok:Ac P w H h) (mu:Wn (H x)) (he:e=x∨H e=some (.own x)) (k:∀b u,b≠e->h.get? b=some u->h'.get? b=some u) (heo:∃u,h'.get? e=some u)
  (new:qW P w (qP H x o') h' x o'):Ac P w (qP H x o') h':=λb u q=>by
 have nown:∀c y,H c=some (.own y)->c≠x:=λc y r z=>by subst z;rw[r]at mu;exact mu
 have ntup:∀c xs,H c=some (.tup xs)->c≠x:=λc xs r z=>by subst z;rw[r]at mu;exact mu
 by_cases hb:b=x
 .subst hb;rw[pD]at q;cases q;exact new
 .rw [oV hb]at q
  by_cases hbe:b=e
  .have q':H b=some (.own x):=by
    rcases he with z|z
    .exact absurd (hbe.trans z) hb
    .rw [hbe];exact z
   rw[q]at q';cases q';obtain⟨v,hv⟩:=heo;exact⟨v,by rw[hbe];exact hv⟩
  .refine (ok b u q).stay (λc v hc r=>k c v ?_ r) (λc r=>by rw[oV (nown c b r)];exact r) λc xs r=>by rw[oV (ntup c xs r)];exact r
   rcases hc with rfl|hc
   .exact hbe
   .rintro rfl;rcases he with z|z
    .exact nown c b hc z
    .rw [hc]at z;cases z;exact hb rfl
end
structure Un (fs ex:List Addr) (H H':Hp) (h h':Heap):Prop where
 keep:∀b o,h.get? b=some o->H b=none->b∉fs->b∉ex->h'.get? b=some o
 slot:∀b o,h.get? b=some o->H b=none->b∈fs->b∉ex->∃sl,h'.get? b=some { o with slots:=sl }
 free:∀b o,h.get? b=some o->H b=none->b∉ex->H' b=none
 there:∀b o,h.get? b=some o->b∉ex->∃o',h'.get? b=some o'
 tups:∀b xs,H b=some (.tup xs)->H' b=some (.tup xs)
 frzs:∀b o u,H b=some (.frz o u)->H' b=some (.frz o u)
 tbls:∀b ps,H b=some (.tbl ps)->∃more,H' b=some (.tbl (ps++more))
section
variable {fs fs' ex ex':List Addr}{H H1 H2:Hp}{h h1 h2 h':Heap}{a x e:Addr}{o:HO}
theorem Un.any(u:Un fs ex H H1 h h1) {b:Addr}{ob:Obj}(q:h.get? b=some ob) (n:H b=none) (hx:b∉ex):∃sl,h1.get? b=some { ob with slots:=sl }:=by
 by_cases hb:b∈fs
 .exact u.slot b ob q n hb hx
 .exact ⟨ob.slots,u.keep b ob q n hb hx⟩
theorem Un.kept(k:∀b u,h.get? b=some u->h'.get? b=some u):Un fs ex H H h h' :=
 ⟨λb ob q _ _ _=>k b ob q,λb ob q _ _ _=>⟨ob.slots,k b ob q⟩,λ_ _ _ n _=>n,λb ob q _=>⟨ob,k b ob q⟩,λ_ _ q=>q,λ_ _ _ q=>q,λ_ ps q=>⟨#[],by rw[q];simp⟩⟩
theorem Un.refl:Un fs ex H H h h:=Un.kept λ_ _ q=>q
theorem Un.laid(k:∀b u,h.get? b=some u->h'.get? b=some u) (hp:h.objs.size<=a) (hn:H a=none):Un fs ex H (qP H a o) h h' where
 keep:=λb u q _ _ _=>k b u q
 slot:=λb u q _ _ _=>⟨u.slots,k b u q⟩
 free:=λb u q n _=>by rw[oV (aE (aT (ao q) hp))];exact n
 there:=λb u q _=>⟨u,k b u q⟩
 tups:=λb xs q=>by rw[oV (qY q hn)];exact q
 frzs:=λb u xs q=>by rw[oV (qY q hn)];exact q
 tbls:=λb ps q=>⟨#[],by rw[oV (qY q hn),q];simp⟩
theorem Un.write(mu:Wn (H x)) (he:e=x∨H e=some (.own x)) (k:∀b u,b≠e->h.get? b=some u->h'.get? b=some u) (heo:∃u,h'.get? e=some u):Un fs ex H (qP H x o) h h':=by
 have hx:∀b,H b=none->b≠x:=λb n z=>by subst z;rw[n]at mu;exact mu
 have hb:∀b,H b=none->b≠e:=λb n z=>by
  subst z;rcases he with r|r
  .exact hx b n r
  .rw [n]at r;cases r
 have hm:∀b u,H b=some u->¬ Wn (some u)->b≠x:=λb u q nm z=>by subst z;rw[q]at mu;exact nm mu
 refine⟨λb u q n _ _=>k b u (hb b n) q,λb u q n _ _=>⟨u.slots,k b u (hb b n) q⟩,λb u q n _=>by rw[oV (hx b n)];exact n,λb u q _=>?_,
  λb xs q=>by rw[oV (hm b _ q λz=>z)];exact q,λb u xs q=>by rw[oV (hm b _ q λz=>z)];exact q,λb ps q=>⟨#[],by rw[oV (hm b _ q λz=>z),q];simp⟩⟩
 by_cases hbe:b=e
 .subst hbe;exact heo
 .exact ⟨u,k b u hbe q⟩
end
def XQ(h:Heap) (H:Hp):List Addr:=(bN h.objs.size).filter λa=>(H a).isSome
def FD(h:Heap) (H:Hp):Heap:=W.hideAll h (XQ h H)
theorem K9(h:Heap) (H:Hp):(FD h H).objs.size=h.objs.size:=W.hideAll_size _ _
theorem M8{h:Heap}{H:Hp}{b:Addr}{o:Obj}(e:h.get? b=some o) (n:H b=none):(FD h H).get? b=some o :=
 W.hideAll_get _ e λhm=>by
  have q:(H b).isSome=true:=(aQ.mp hm).2;rw[n]at q;simp at q
theorem QZ{h:Heap}{H:Hp}{b:Addr}{o:Obj}(e:(FD h H).get? b=some o):h.get? b=some o/\H b=none:=by
 have e':h.get? b=some o:=W.of_hideAll (XQ h H) e;refine⟨e',?_⟩;cases q:H b with
 |none=>rfl
 |some x =>
  have hm:b∈XQ h H:=aQ.mpr ⟨bW.mpr (ao e'),by simp[q]⟩
  have z:(FD h H).get? b=none:=W.hideAll_none (XQ h H) hm;rw[z]at e;cases e
def Rx(g h:Heap) (L:Addr):List (Addr×Obj):=(bN h.objs.size).filterMap λa=>if a=L∨(g.get? a).isSome=true then none else (h.get? a).map λo=>(a,o)
def rest(g h:Heap) (L d:Addr):List (Addr×Obj):=(Rx g h L).filter λp=>decide (p.1≠d)
structure Mod (K:W.Frag) (mg:Str->Option Value) (base:Heap):Prop where
 kin:K.In base
 glob:base.Ns kg mg
 blt:∃mb,base.Ns builtinsNs mb/\∀x:Str,x ≠ "__name__" -> mb x=ly x
 nolimit:base.NoLimit
structure Cx where
 prog:kf
 w:ki
 K:W.Frag
 mg:Str->Option Value
 base:Heap
 A:Around
 N:List Str
 s₀:Shared
 H₀:Hp
 env:Env
 outer:List Env
 stack:List Env
 ex:List Addr
 fn:Str->Bool
 calm:Bool
 pn:List (Addr×Obj)
 xe:Value->Shared->Prop
def PP(l:List Env):List Addr:=l.filterMap (·.frame)
abbrev Cx.fs(X:Cx):List Addr:=PP X.outer
def Ys(sc:lH) (x:Str):Prop:=sc.names.lookup x=some .local∨sc.names.lookup x=some .cell∨sc.names.lookup x=some .free
def WW(sc:lH) (x:Str):Prop:=sc.names.lookup x=some .local∨sc.names.lookup x=some .cell
def Yt(env:Env) (h:Heap) (m:Str->Option Value) (x:Str) (u:Value):Prop :=
 (env.kindOf x=some .local/\m x=some u)∨((env.kindOf x=some .cell∨env.kindOf x=some .free)/\∃c,env.cells.lookup x=some c/\h.IsCell c (some u))
structure Cx.Ok (X:Cx):Prop where
 mod:Mod X.K X.mg X.base
 kind:X.env.scope.kind = .function
 glob:X.env.globals=kg
 blt:X.env.builtins=builtinsNs
 above:X.s₀.heap.objs.size<=X.env.locals
 inj:∀x y c,X.env.cells.lookup x=some c->X.env.cells.lookup y=some c->x=y
 has:∀x,(X.env.kindOf x=some .cell∨X.env.kindOf x=some .free)->∃c,X.env.cells.lookup x=some c
 cab:∀x c,X.fn x=true->X.env.cells.lookup x=some c->X.s₀.heap.objs.size<=c
 hd:X.calm=true->X.A.handled=none
 frames:X.A.frames=some X.stack
 stk:X.stack=X.outer∨(X.stack=X.env::X.outer/\X.env.frame=some X.env.locals)
 exf:∀b∈X.ex,b≠X.env.locals/\∀x c,X.env.cells.lookup x=some c->c≠b
 bs:∀b o,X.base.get? b=some o->X.s₀.heap.get? b=some o/\X.H₀ b=none
 bsz:X.base.objs.size<=X.s₀.heap.objs.size
 noex:∀b o,X.base.get? b=some o->b∉X.ex
 exfs:∀b∈X.ex,b∉X.fs
 funs:X.s₀.heap.FunFrames X.base X.outer
 frf:∀b∈X.fs,X.H₀ b=none
structure Inv (X:Cx) (ou:List (Addr×Obj)) (σ:List (Option V)) (H:Hp) (s:Shared):Prop where
 ok:X.Ok
 os:s.os=X.s₀.os
 bare:lW s.gens
 base:Un X.fs X.ex X.H₀ H X.s₀.heap s.heap
 loc:∃m,s.heap.Ns X.env.locals m/\∀(i:Nat) (x:Str) (v:V),X.N[i]?=some x->σ[i]?=some (some v)->Ys X.env.scope x->∃u,qp v u/\Yt X.env s.heap m x u
 cell:∀x c,X.env.cells.lookup x=some c->∃v,s.heap.IsCell c v
 free:H X.env.locals=none
 freeC:∀x c,X.env.cells.lookup x=some c->H c=none
 pin:∀p∈X.pn++ou,s.heap.get? p.1=some p.2/\H p.1=none/\p.1≠X.env.locals/\p.1∉X.fs/\∀v,p.2.data ≠ .cell v
 hok:Ac X.prog X.w H s.heap
 len:σ.length=X.N.length
section
variable {X:Cx}{ou:List (Addr×Obj)}{σ:List (Option V)}{H H':Hp}{s:Shared}{h':Heap}
theorem Cx.Ok.nofr(ok:X.Ok) {b:Addr}{o:Obj}(e:X.base.get? b=some o):b∉X.fs:=λhb=>by
 have:=(ok.funs.mem hb).1;rw[e]at this;cases this
theorem Inv.bs(I:Inv X ou σ H s):∀b o,X.base.get? b=some o->s.heap.get? b=some o/\H b=none:=λb o e =>
 ⟨I.base.keep b o (I.ok.bs b o e).1 (I.ok.bs b o e).2 (I.ok.nofr e) (I.ok.noex b o e),I.base.free b o (I.ok.bs b o e).1 (I.ok.bs b o e).2 (I.ok.noex b o e)⟩
theorem Inv.bk(I:Inv X ou σ H s):∀b o,X.base.get? b=some o->s.heap.get? b=some o:=λb o e=>(I.bs b o e).1
theorem Inv.mod(I:Inv X ou σ H s):Mod X.K X.mg X.base:=I.ok.mod
theorem Inv.kIn(I:Inv X ou σ H s):X.K.In s.heap:=I.ok.mod.kin.keeps I.bk
theorem Inv.lt(I:Inv X ou σ H s):X.env.locals<s.heap.objs.size:=let ⟨_,hn,_⟩:=I.loc;hn.lt
theorem Inv.sz(I:Inv X ou σ H s):X.s₀.heap.objs.size<=s.heap.objs.size:=bY I.ok.above (cS I.lt)
theorem Inv.nofs(I:Inv X ou σ H s) {a:Addr}(h:s.heap.objs.size<=a):a∉X.fs:=λhb=>by
 obtain⟨_,o,ho,_⟩:=I.ok.funs.mem hb;exact absurd (aT (ao ho) (bY I.sz h)) (dZ _)
theorem Inv.cne(I:Inv X ou σ H s):∀x c,X.env.cells.lookup x=some c->c≠X.env.locals:=λx c e z=>by
 obtain⟨v,o,ho,hd⟩:=I.cell x c e;obtain⟨m,⟨o',es,ep,ho',hd',_⟩,_⟩:=I.loc;rw[z,ho']at ho;cases ho;rw[hd']at hd;cases hd
theorem Inv.funs(I:Inv X ou σ H s):s.heap.FunFrames X.base X.outer:=by
 have all:∀(l:List Env),(∀b∈PP l,b∈X.fs)->X.s₀.heap.FunFrames X.base l->s.heap.FunFrames X.base l:=by
  intro l
  induction l with
  |nil=>intro _ _;trivial
  |cons env r ih =>
   intro hs hl;obtain⟨hk,⟨L,o,hf,hn,ho,hd⟩,hr⟩:=hl;have hL:L∈X.fs:=hs L (by unfold PP;rw[gK,hf];exact ag)
   obtain⟨sl,e⟩:=I.base.slot L o ho (I.ok.frf L hL) hL λz=>I.ok.exfs L z hL
   exact⟨hk,⟨L,_,hf,hn,e,hd⟩,ih (λb hb=>hs b (by unfold PP;rw[gK,hf];exact mCo _ hb)) hr⟩
 exact all X.outer (λ_ hb=>hb) I.ok.funs
theorem Inv.stack(I:Inv X ou σ H s):s.heap.FunFrames X.base X.stack:=by
 rcases I.ok.stk with e|⟨e,hf⟩
 .rw [e];exact I.funs
 .rw [e];obtain⟨m,hn,_⟩:=I.loc;refine .cons (by rw[I.ok.kind];decide) hf hn ?_ I.funs
  exact Heap.get?_none_of_le (bY I.ok.bsz I.ok.above)
theorem Inv.stkSub(I:Inv X ou σ H s):∀b∈PP X.stack,b∈X.env.locals::X.fs:=λb hb=>by
 rcases I.ok.stk with e|⟨e,hf⟩
 .rw [e]at hb;exact mCo _ hb
 .rw [e]at hb;unfold PP at hb;rw[gK,hf]at hb;exact hb
theorem Inv.stkFree(I:Inv X ou σ H s):∀b∈PP X.stack,H b=none:=λb hb=>by
 rcases ae.mp (I.stkSub b hb) with e|hb
 .rw [e];exact I.free
 .obtain ⟨_,o,ho,_⟩:=I.ok.funs.mem hb;exact I.base.free b o ho (I.ok.frf b hb) λz=>I.ok.exfs b z hb
theorem Inv.step{g':Array GenState}{t':Nat}{d':Drawn}{ch:List Addr}(I:Inv X ou σ H s)
  (hch:∀b∈ch,(b∈X.ex∨X.s₀.heap.objs.size<=b)/\b≠X.env.locals/\(∀x c,X.env.cells.lookup x=some c->c≠b)/\∀p∈X.pn++ou,p.1≠b)
  (keep:∀b o,b≠X.env.locals->b∉X.fs->b∉ch->s.heap.get? b=some o->H b=none->h'.get? b=some o)
  (slot:∀b o,b≠X.env.locals->b∈X.fs->b∉ch->s.heap.get? b=some o->H b=none->∃sl,h'.get? b=some { o with slots:=sl }) (free:∀b o,b∉ch->s.heap.get? b=some o->H b=none->H' b=none)
  (there:∀b o,b∉ch->s.heap.get? b=some o->∃o',h'.get? b=some o')
  (tups:∀b xs,H b=some (.tup xs)->H' b=some (.tup xs)) (frzs:∀b o u,H b=some (.frz o u)->H' b=some (.frz o u)) (tbls:∀b ps,H b=some (.tbl ps)->∃more,H' b=some (.tbl (ps++more)))
  (ns:∀m,s.heap.Ns X.env.locals m->h'.Ns X.env.locals m) (hok:Ac X.prog X.w H' h') (hg:lW g') :
  Inv X ou σ H' { s with heap:=h',gens:=g',drawn:=d',toks:=t' }:=by
 have neL:∀b o,X.s₀.heap.get? b=some o->b≠X.env.locals:=λb o e=>aE (aT (ao e) I.ok.above)
 have neC:∀b o,X.s₀.heap.get? b=some o->b∉X.ex->b∉ch:=λb o e hx hb=>by
  rcases (hch b hb).1 with z|z
  .exact hx z
  .exact absurd (aT (ao e) z) (dZ _)
 have cellK:∀x c,X.env.cells.lookup x=some c->∀v,s.heap.IsCell c v->h'.IsCell c v:=λx c e v ⟨o,ho,hd⟩=>by
  have nch:c∉ch:=λz=>(hch c z).2.2.1 x c e rfl
  by_cases hc:c∈X.fs
  .obtain ⟨sl,q⟩:=slot c o (I.cne x c e) hc nch ho (I.freeC x c e);exact⟨_,q,hd⟩
  .exact ⟨o,keep c o (I.cne x c e) hc nch ho (I.freeC x c e),hd⟩
 refine⟨I.ok,I.os,hg,⟨λb o e n hb hx=>?_,λb o e n hb hx=>?_,λb o e n hx=>?_,λb o e hx=>?_,λb xs e=>tups b xs (I.base.tups b xs e),λb o xs e=>frzs b o xs (I.base.frzs b o xs e),λb ps e=>?_⟩,?_,λx c e=>?_,?_,λx c e=>?_,λp hp=>?_,hok,I.len⟩
 .exact keep b o (neL b o e) hb (neC b o e hx) (I.base.keep b o e n hb hx) (I.base.free b o e n hx)
 .obtain ⟨sl,e1⟩:=I.base.slot b o e n hb hx;obtain⟨sl',e2⟩:=slot b _ (neL b o e) hb (neC b o e hx) e1 (I.base.free b o e n hx);exact⟨sl',e2⟩
 .obtain ⟨o',e1⟩:=I.base.there b o e hx;exact free b o' (neC b o e hx) e1 (I.base.free b o e n hx)
 .obtain ⟨o',e1⟩:=I.base.there b o e hx;exact there b o' (neC b o e hx) e1
 .obtain ⟨m1,e1⟩:=I.base.tbls b ps e;obtain⟨m2,e2⟩:=tbls b _ e1;exact⟨m1++m2,by rw[e2,Array.append_assoc]⟩
 .obtain ⟨m,hn,hl⟩:=I.loc;refine⟨m,ns m hn,λi x v e1 e2 e3=>?_⟩
  obtain⟨u,r,l⟩:=hl i x v e1 e2 e3;refine⟨u,r,?_⟩;rcases l with l|⟨k,c,e,z⟩
  .exact .inl l
  .exact .inr ⟨k,c,e,cellK x c e _ z⟩
 .obtain ⟨v,z⟩:=I.cell x c e;exact⟨v,cellK x c e v z⟩
 .obtain ⟨m,⟨o,_,_,ho,_⟩,_⟩:=I.loc;exact free _ o (λz=>(hch _ z).2.1 rfl) ho I.free
 .obtain ⟨v,o,ho,hd⟩:=I.cell x c e;exact free c o (λz=>(hch c z).2.2.1 x c e rfl) ho (I.freeC x c e)
 .obtain ⟨e,n,ne,nf,d⟩:=I.pin p hp;have nch:p.1∉ch:=λz=>(hch p.1 z).2.2.2 p hp rfl
  exact⟨keep p.1 p.2 ne nf nch e n,free p.1 p.2 nch e n,ne,nf,d⟩
theorem Inv.un{t':Nat}(I:Inv X ou σ H s) (u:Un X.fs [] H H' s.heap h') (hok:Ac X.prog X.w H' h'):Inv X ou σ H' { s with heap:=h',toks:=t' }:=by
 obtain⟨m,⟨o,es,ep,ho,r⟩,_⟩:=id I.loc;obtain⟨sl,hL⟩:=u.any ho I.free (by simp)
 exact I.step (g':=s.gens) (d':=s.drawn) (ch:=[]) (λ_ z=>nomatch z) (λb o _ hb _ e n=>u.keep b o e n hb (by simp)) (λb o _ hb _ e n=>u.slot b o e n hb (by simp)) (λb o _ e n=>u.free b o e n (by simp)) (λb o _ e=>u.there b o e (by simp)) u.tups u.frzs u.tbls (λm' hm=>by
  obtain⟨o',es',ep',ho',r'⟩:=hm;rw[ho]at ho';cases ho';exact⟨_,es',ep',hL,r'⟩) hok I.bare
theorem Inv.call{g':Array GenState}{t':Nat}{d':Drawn}{ch:List Addr}(I:Inv X ou σ H s) (u:Un (PP X.stack) ch H H' s.heap h') (hok:Ac X.prog X.w H' h') (hg:lW g')
  (hch:∀b∈ch,(b∈X.ex∨X.s₀.heap.objs.size<=b)/\b≠X.env.locals/\(∀x c,X.env.cells.lookup x=some c->c≠b)/\∀p∈X.pn++ou,p.1≠b) :
  Inv X ou σ H' { s with heap:=h',gens:=g',drawn:=d',toks:=t' }:=by
 obtain⟨m,⟨o,es,ep,ho,r⟩,_⟩:=id I.loc;obtain⟨sl,hL⟩:=u.any ho I.free λz=>(hch _ z).2.1 rfl
 exact I.step (ch:=ch) hch (λb o hL hb hc e n=>u.keep b o e n (λz=>(ae.mp (I.stkSub b z)).elim hL hb) hc) (λb o _ _ hc e n=>u.any e n hc) (λb o hc e n=>u.free b o e n hc) (λb o hc e=>u.there b o e hc) u.tups u.frzs u.tbls (λm' hm=>by
  obtain⟨o',es',ep',ho',r'⟩:=hm;rw[ho]at ho';cases ho';exact⟨_,es',ep',hL,r'⟩) hok hg
theorem Inv.turned{t':Nat}{it:Addr}(I:Inv X ou σ H s) (k:∀b o,b≠it->s.heap.get? b=some o->h'.get? b=some o) (hn:H it=none) (hL:it≠X.env.locals)
  (h1:it∈X.ex∨X.s₀.heap.objs.size<=it) (h2:∀x c,X.env.cells.lookup x=some c->c≠it) (h3:∀p∈X.pn++ou,p.1≠it):Inv X ou σ H { s with heap:=h',toks:=t' }:=by
 have nit:∀b u,H b=some u->b≠it:=λb u e z=>by rw[z,hn]at e;cases e
 refine I.step (g':=s.gens) (d':=s.drawn) (ch:=[it]) (λb hb=>?_) (λb o _ _ hc e _=>k b o (λz=>hc (by simp[z])) e) (λb o _ _ hc e _=>⟨o.slots,k b o (λz=>hc (by simp[z])) e⟩) (λ_ _ _ _ n=>n)
  (λb o hc e=>⟨o,k b o (λz=>hc (by simp[z])) e⟩) (λ_ _ e=>e) (λ_ _ _ e=>e) (λb ps e=>⟨#[],by rw[e];simp⟩) (λm hm=>?_) (λb u e=>?_) I.bare
 .have e:b=it:=by simpa using hb
  subst e;exact⟨h1,hL,h2,h3⟩
 .obtain ⟨o,es,ep,ho,r⟩:=hm;exact⟨o,es,ep,k _ o (Ne.symm hL) ho,r⟩
 .refine (I.hok b u e).stay (λc v hc q=>k c v ?_ q) (λ_ q=>q) λ_ _ q=>q
  rcases hc with z|z
  .rw [z];exact nit b u e
  .exact nit c _ z
theorem Inv.tok(I:Inv X ou σ H s) (t:Nat):Inv X ou σ H { s with toks:=t }:=I.un (h':=s.heap) (t':=t) Un.refl I.hok
theorem Inv.kept{t':Nat}(I:Inv X ou σ H s) (k:∀b u,s.heap.get? b=some u->h'.get? b=some u):Inv X ou σ H { s with heap:=h',toks:=t' }:=I.un (Un.kept k) (I.hok.kept k)
theorem Inv.laid{a:Addr}{o:HO}{t':Nat}(I:Inv X ou σ H s) (k:∀b u,s.heap.get? b=some u->h'.get? b=some u) (hp:s.heap.objs.size<=a) (new:qW X.prog X.w (qP H a o) h' a o) :
  Inv X ou σ (qP H a o) { s with heap:=h',toks:=t' }:=I.un (Un.laid k hp (I.hok.fresh hp)) (I.hok.laid k hp new)
theorem Inv.write{x e:Addr}{o:HO}{t':Nat}(I:Inv X ou σ H s) (mu:Wn (H x)) (he:e=x∨H e=some (.own x)) (k:∀b u,b≠e->s.heap.get? b=some u->h'.get? b=some u) (heo:∃u,h'.get? e=some u)
  (new:qW X.prog X.w (qP H x o) h' x o):Inv X ou σ (qP H x o) { s with heap:=h',toks:=t' }:=I.un (Un.write mu he k heo) (I.hok.write mu he k heo new)
theorem Inv.pins_of{pins':List (Addr×Obj)}(I:Inv X ou σ H s) (h:∀p∈pins',s.heap.get? p.1=some p.2/\H p.1=none/\p.1≠X.env.locals/\p.1∉X.fs/\∀v,p.2.data ≠ .cell v):Inv X pins' σ H s :=
 ⟨I.ok,I.os,I.bare,I.base,I.loc,I.cell,I.free,I.freeC,λp hp=>(mAq.mp hp).elim (λz=>I.pin p (aw _ z)) (h p),I.hok,I.len⟩
theorem Gg{N:List Str}(hN:N.Nodup) {i j:Nat}{x:Str}(a:N[i]?=some x) (b:N[j]?=some x):i=j:=by
 obtain⟨h1,e1⟩:=gSq.mp a;obtain⟨h2,e2⟩:=gSq.mp b;exact(jm hN).mp (e1.trans e2.symm)
theorem Ky{M:Model}{A:Around}{E:Value->Shared->Prop}{i:Nat}{x:Str}{v:V}{u:Value}{Q:Unit->Shared->Prop}(I:Inv X ou σ H s) (hN:X.N.Nodup) (hi:X.N[i]?=some x) (hx:WW X.env.scope x) (r:qp v u)
  (h:∀s',Inv X ou (σ.set i (some v)) H s'->(∃a,cC a s.heap s'.heap/\(a=X.env.locals∨X.env.cells.lookup x=some a))->Q () s') (hf:X.fn x=true∨X.env.scope.names.lookup x=some .local:=by trivial):kc M A (storeName X.env x u) Q E s:=by
 obtain⟨m,hn,hl⟩:=id I.loc;have hcls:(X.env.scope.kind == .class || (X.env.scope.kind == .module && X.env.locals != X.env.globals))=false:=by rw[I.ok.kind];rfl
 have hiσ:i<σ.length:=by rw[I.len];exact(gSq.mp hi).1
 have cne:=I.cne;have tracked:∀{a:Addr}{h':Heap},(∃o,s.heap.get? a=some o/\H a=none)->cC a s.heap h'->Ac X.prog X.w H h':=λ{a h'} ha hs b ob e=>by
  obtain⟨_,_,hfree⟩:=ha;refine(I.hok b ob e).stay (λc w' hc q=>(hs.2 c ?_).trans q) (λ_ q=>q) λ_ _ q=>q
  rintro rfl;rcases hc with rfl|hc
  .rw [hfree]at e;cases e
  .rw [hfree]at hc;cases hc
 rcases hx with hk|hk
 .refine wpAny_storeName_local hk hn (λh' hn' hs=>?_) hcls
  obtain⟨oL,_,_,hoL,_⟩:=id hn;refine h _ ⟨I.ok,I.os,I.bare,⟨λb o e n hb hx=>?_,λb o e n hb hx=>?_,I.base.free,λb o e hx=>?_,I.base.tups,I.base.frzs,I.base.tbls⟩,⟨_,hn',λj y v' e1 e2 e3=>?_⟩,λy c e=>?_,I.free,I.freeC,λp hp=>?_,tracked ⟨oL,hoL,I.free⟩ hs,by simpa using I.len⟩ ⟨_,hs,.inl rfl⟩
  .exact (hs.2 b (aE (aT (ao e) I.ok.above))).trans (I.base.keep b o e n hb hx)
  .obtain ⟨sl,e1⟩:=I.base.slot b o e n hb hx;exact⟨sl,(hs.2 b (aE (aT (ao e) I.ok.above))).trans e1⟩
  .obtain ⟨o',e1⟩:=I.base.there b o e hx;exact⟨o',(hs.2 b (aE (aT (ao e) I.ok.above))).trans e1⟩
  .by_cases hj:j=i
   .subst hj;rw[hi]at e1;cases e1;rw[aC hiσ]at e2;cases e2;exact⟨u,r,.inl ⟨hk,by simp⟩⟩
   .rw [aA (Ne.symm hj)]at e2;obtain⟨u',r',q⟩:=hl j y v' e1 e2 e3;refine⟨u',r',?_⟩;rcases q with ⟨k,e⟩|⟨k,c,e,z⟩
    .refine .inl ⟨k,?_⟩;have:y≠x:=λe=>hj (Gg hN e1 (e ▸ hi))
     simp[this,e]
    .exact .inr ⟨k,c,e,z.sameBut hs (cne y c e)⟩
  .obtain ⟨w',z⟩:=I.cell y c e;exact⟨w',z.sameBut hs (cne y c e)⟩
  .obtain ⟨e,n,ne,nf,d⟩:=I.pin p hp;exact⟨(hs.2 p.1 ne).trans e,n,ne,nf,d⟩
 .have hfn:X.fn x=true:=by
   rcases hf with z|z
   .exact z
   .rw [z]at hk;cases hk
  obtain⟨c,hc⟩:=I.ok.has x (.inl hk);obtain⟨w',z⟩:=I.cell x c hc;refine wpAny_storeName_cell I.ok.kind hk hc z (λh' hc' hs=>?_)
  obtain⟨oc,hoc,hocd⟩:=id z;refine h { s with heap:=h' } ⟨I.ok,I.os,I.bare,⟨λb o e n hb hx=>?_,λb o e n hb hx=>?_,I.base.free,λb o e hx=>?_,I.base.tups,I.base.frzs,I.base.tbls⟩,⟨m,hn.sameBut hs (Ne.symm (cne x c hc)),λj y v' e1 e2 e3=>?_⟩,λy c' e=>?_,I.free,I.freeC,λp hp=>?_,tracked ⟨oc,hoc,I.freeC x c hc⟩ hs,by simpa using I.len⟩ ⟨c,hs,.inr hc⟩
  .exact (hs.2 b (aE (aT (ao e) (I.ok.cab x c hfn hc)))).trans (I.base.keep b o e n hb hx)
  .obtain ⟨sl,e1⟩:=I.base.slot b o e n hb hx;exact⟨sl,(hs.2 b (aE (aT (ao e) (I.ok.cab x c hfn hc)))).trans e1⟩
  .obtain ⟨o',e1⟩:=I.base.there b o e hx;exact⟨o',(hs.2 b (aE (aT (ao e) (I.ok.cab x c hfn hc)))).trans e1⟩
  .by_cases hj:j=i
   .subst hj;rw[hi]at e1;cases e1;rw[aC hiσ]at e2;cases e2;exact⟨u,r,.inr ⟨.inl hk,c,hc,hc'⟩⟩
   .rw [aA (Ne.symm hj)]at e2;obtain⟨u',r',q⟩:=hl j y v' e1 e2 e3;refine⟨u',r',?_⟩;rcases q with q|⟨k,c',e,z'⟩
    .exact .inl q
    .refine .inr ⟨k,c',e,z'.sameBut hs ?_⟩;rintro rfl;exact hj (Gg hN e1 (I.ok.inj _ _ _ e hc ▸ hi))
  .by_cases hcc:c'=c
   .subst hcc;exact⟨_,hc'⟩
   .obtain ⟨w2,z2⟩:=I.cell y c' e;exact⟨w2,z2.sameBut hs hcc⟩
  .obtain ⟨e,n,ne,nf,d⟩:=I.pin p hp;refine⟨(hs.2 p.1 ?_).trans e,n,ne,nf,d⟩;intro q;rw[q,hoc]at e;have q':oc=p.2:=aD.inj e;exact d w' (by rw[←q'];exact hocd)
theorem Gy{M:Model}{A:Around}{E:Value->Shared->Prop}{i:Nat}{x:Str}{v:V}{u:Value}{Q:Unit->Shared->Prop}(I:Inv X ou σ H s) (hN:X.N.Nodup) (hi:X.N[i]?=some x) (hx:WW X.env.scope x) (r:qp v u)
  (h:∀s',Inv X ou (σ.set i (some v)) H s'->Q () s') (hf:X.fn x=true∨X.env.scope.names.lookup x=some .local:=by trivial):kc M A (storeName X.env x u) Q E s :=
 Ky I hN hi hx r (λs' I' _=>h s' I') hf
theorem Inv.call'{s':Shared}{ch:List Addr}(I:Inv X ou σ H s) (ho:s'.os=s.os) (u:Un (PP X.stack) ch H H' s.heap s'.heap) (hok:Ac X.prog X.w H' s'.heap) (hg:lW s'.gens)
  (hch:∀b∈ch,(b∈X.ex∨X.s₀.heap.objs.size<=b)/\b≠X.env.locals/\(∀x c,X.env.cells.lookup x=some c->c≠b)/\∀p∈X.pn++ou,p.1≠b):Inv X ou σ H' s':=by
 obtain⟨h',g',d',t',o'⟩:=s';have e:o'=s.os:=ho;subst e;exact I.call (g':=g') (t':=t') (d':=d') u hok hg hch
end
abbrev XK:=Value->Option Addr->Hp->Prop
abbrev St:=List (Option V)
abbrev VK:=V->Hp->Prop
abbrev TE:=St->Hp->VK->Prop
abbrev TT:=St->Hp->(Bool->Hp->Prop)->Prop
abbrev TA:=St->Hp->(List V->Hp->Prop)->Prop
structure zj where
 nx:St->Hp->Prop
 rt:VK
 bk:St->Hp->Prop:=λ_ _=>False
 ct:St->Hp->Prop:=λ_ _=>False
abbrev TS:=zj->St->Hp->Prop
def EP(X:Cx) (ou:List (Addr×Obj)) (σ:St) (Q:VK) (u:Value) (s':Shared):Prop:=∃v H',Inv X ou σ H' s'/\qp v u/\Q v H'
def TP(X:Cx) (ou:List (Addr×Obj)) (σ:St) (Q:Bool->Hp->Prop) (b:Bool) (s':Shared):Prop:=∃H',Inv X ou σ H' s'/\Q b H'
def AP(X:Cx) (ou:List (Addr×Obj)) (σ:St) (Q:List V->Hp->Prop) (us:List Value) (s':Shared):Prop:=∃vs H',Inv X ou σ H' s'/\pY vs us/\Q vs H'
def SP(X:Cx) (ou:List (Addr×Obj)) (D:zj) (f:Flow) (s':Shared):Prop :=
 match f with
 | .next=>∃σ' H',Inv X ou σ' H' s'/\D.nx σ' H'
 | .brk=>∃σ' H',Inv X ou σ' H' s'/\D.bk σ' H'
 | .cont=>∃σ' H',Inv X ou σ' H' s'/\D.ct σ' H'
 | .ret u=>∃v σ' H',Inv X ou σ' H' s'/\qp v u/\D.rt v H'
def PE(X:Cx) (e:Expr) (t:TE):Prop :=
 ∀(ou:List (Addr×Obj)) (s:Shared) (σ:St) (H:Hp) (Q:VK),Inv X ou σ H s->t σ H Q->kc (jY X.prog X.w) X.A (eval e X.env) (EP X ou σ Q) X.xe s
def PT(X:Cx) (e:Expr) (t:TT):Prop :=
 ∀(ou:List (Addr×Obj)) (s:Shared) (σ:St) (H:Hp) (Q:Bool->Hp->Prop),Inv X ou σ H s->t σ H Q->kc (jY X.prog X.w) X.A (isTrue e X.env (eval e X.env)) (TP X ou σ Q) X.xe s
def PW(X:Cx) (e:Expr) (t:TT):Prop :=
 ∀(whole:Sem Value) (ou:List (Addr×Obj)) (s:Shared) (σ:St) (H:Hp) (Q:Bool->Hp->Prop),Inv X ou σ H s->t σ H Q->kc (jY X.prog X.w) X.A (isTrue e X.env whole) (TP X ou σ Q) X.xe s
theorem PW.pt{X:Cx}{e:Expr}{t:TT}(h:PW X e t):PT X e t:=h _
def PA(X:Cx) (es:List Expr) (t:TA):Prop :=
 ∀(pos:Pos) (ou:List (Addr×Obj)) (s:Shared) (σ:St) (H:Hp) (Q:List V->Hp->Prop),Inv X ou σ H s->t σ H Q->kc (jY X.prog X.w) X.A (spliced (kZ pos (ko es X.env))) (AP X ou σ Q) X.xe s
def PS(X:Cx) (st:Stmt) (t:TS):Prop :=
 ∀(ou:List (Addr×Obj)) (s:Shared) (σ:St) (H:Hp) (D:zj),Inv X ou σ H s->t D σ H->kc (jY X.prog X.w) X.A (exec st X.env) (SP X ou D) X.xe s
def Lf(X:Cx) (st:List Stmt) (t:TS):Prop :=
 ∀(ou:List (Addr×Obj)) (s:Shared) (σ:St) (H:Hp) (D:zj),Inv X ou σ H s->t D σ H->kc (jY X.prog X.w) X.A (execs st X.env) (SP X ou D) X.xe s
theorem thn{α:Type}{t:Sem α}{Q Q':α->Shared->Prop}{M:Model}{A:Around}{E:Value->Shared->Prop}{s:Shared}(h:kc M A t Q E s) (hQ:∀a s,Q a s->Q' a s):kc M A t Q' E s:=kx h hQ λ_ _ x=>x
section
variable {X:Cx}
def wR(i:Nat):TE:=λσ H Q=>∃v,σ[i]?=some (some v)/\Q v H
def tC(v:V):TE:=λ_ H Q=>Q v H
theorem Vw{i:Nat}{x:Str}{pos:Pos}(hN:X.N[i]?=some x) (hv:Ys X.env.scope x) (hd:(x == ("__debug__" : Str))=false:=by decide) (hcd:(x == ("__classdict__" : Str))=false:=by decide):PE X (.Name x pos) (wR i):=by
 intro ou s σ H Q I h;obtain⟨v,e,h⟩:=h;obtain⟨m,hn,hl⟩:=I.loc;obtain⟨u,r,l⟩:=hl i x v hN e hv;have fin:EP X ou σ Q u s:=⟨v,H,I,r,h⟩;rcases l with ⟨hk,hm⟩|⟨hk,c,hc,hcell⟩
 .exact wpAny_Name (wpAny_loadName_local I.ok.kind hk hn hm fin) hd
 .rcases hk with hk|hk
  .exact wpAny_Name (wpAny_loadName_cell I.ok.kind hk hc hcell fin) hd
  .exact wpAny_Name (wpAny_loadName_free I.ok.kind hk hc hcell fin hcd) hd
theorem oI{i j pos}:PE X (.Constant (.int i) j pos) (tC (.int i)):=λ_ _ _ H _ I h=>wpAny_Constant_int ⟨.int i,H,I.tok _,⟨_,rfl⟩,h⟩
theorem D9{b j pos}:PE X (.Constant (.bool b) j pos) (tC (.bl b)):=λ_ _ _ H _ I h=>Constant_bool ⟨.bl b,H,I,rfl,h⟩
def Gl(X:Cx) (x:Str):Prop:=X.env.kindOf x=some .globalImplicit
theorem QX{E:Value->Shared->Prop}{ou:List (Addr×Obj)}{s:Shared}{σ:St}{H:Hp}{x:Str}{u:Value}{pos:Pos}{Q:Value->Shared->Prop}(I:Inv X ou σ H s) (hg:Gl X x) (hm:X.mg x=some u) (h:Q u s)
  (hd:(x == ("__debug__" : Str))=false:=by decide):kc (jY X.prog X.w) X.A (eval (.Name x pos) X.env) Q E s :=
 Calls.Name_function_global I.ok.kind hg (Calls.loadGlobal_global (by rw[I.ok.glob];exact I.mod.glob.keeps I.bk) hm h) hd
theorem yj{E:Value->Shared->Prop}{ou:List (Addr×Obj)}{s:Shared}{σ:St}{H:Hp}{x:Str}{u:Value}{pos:Pos}{Q:Value->Shared->Prop}(I:Inv X ou σ H s) (hg:Gl X x) (hm:X.mg x=none) (hv:ly x=some u) (h:Q u s)
  (hn:x ≠ "__name__" := by decide) (hd:(x == ("__debug__" : Str))=false:=by decide):kc (jY X.prog X.w) X.A (eval (.Name x pos) X.env) Q E s:=by
 obtain⟨mb,h1,h2⟩:=I.mod.blt;exact Calls.Name_function_global I.ok.kind hg (Calls.loadGlobal_builtin (by rw[I.ok.glob];exact I.mod.glob.keeps I.bk) hm (by rw[I.ok.blt];exact h1.keeps I.bk) ((h2 x hn).trans hv) h) hd
theorem Ft{x:Str}{v:V}{u:Value}{pos:Pos}(hg:Gl X x) (hm:X.mg x=none) (hv:ly x=some u) (r:qp v u) (hn:x ≠ "__name__" := by decide) (hd:(x == ("__debug__" : Str))=false:=by decide):PE X (.Name x pos) (tC v) :=
 λ_ _ _ H _ I h=>yj I hg hm hv ⟨v,H,I,r,h⟩ hn hd
variable {a b:Expr}{ta tb:TE}{pos:Pos}
def PC(X:Cx) (op:CmpOp) (a b:Expr) (t:TE):Prop :=
 ∀(ou:List (Addr×Obj)) (s:Shared) (σ:St) (H:Hp) (Q:VK),Inv X ou σ H s->t σ H Q ->
  kc (jY X.prog X.w) X.A (eval a X.env) (λv s₁=>kc (jY X.prog X.w) X.A (eval b X.env) (λu s₂=>kc (jY X.prog X.w) X.A (kJ op v u) (EP X ou σ Q) X.xe s₂) X.xe s₁) X.xe s
def tB(t:TE):TT:=λσ H Q=>t σ H λx H1=>∃c,x = .bl c/\Q c H1
theorem HL{op:CmpOp}{t:TE}(h:PC X op a b t) (h1:lS op b=false:=by first|exact nobehind _ (by decide) (by decide)|rfl):PT X (.Compare a [op] [b] pos) (tB t):=by
 intro ou s σ H Q I hw;refine mU (thn (h ou s σ H _ I hw) λv s1 h1=>thn h1 λu s2 h2=>thn h2 λc s3 ⟨x,H1,I1,r1,q1⟩=>?_) h1
 obtain⟨d,rfl,q⟩:=q1;cases r1;exact kH ⟨H1,I1,q⟩
theorem Hs{e:Expr}{t:TE}(h:PE X e t) (he:∀whole,isTrue e X.env whole=(do let v ←whole;standAt e.pos;holding [v] (truthy v)):=by intro _;rfl):PT X e (tB t):=by
 intro ou s σ H Q I hw;refine isTrue_plain (thn (h ou s σ H _ I hw) λv s1 ⟨x,H1,I1,r1,q1⟩=>?_) (he _)
 obtain⟨d,rfl,q⟩:=q1;cases r1;exact kH ⟨H1,I1,q⟩
variable {tA tB':TT}{rest:List Expr}
def WH(t u:TT):TT:=λσ H Q=>t σ H λc H1=>if c=true then u σ H1 Q else Q false H1
def VX(t:TT):TT:=λσ H Q=>t σ H λc H1=>Q (!c) H1
theorem Jv(ha:PT X a tA):PW X (.BoolOp .And [a] pos) tA:=by
 intro wh ou s σ H Q I h;refine isTrue_and (thn (ha ou s σ H Q I h) λc s1 e=>?_)
 cases c with
 |true=>exact isTrue_and_nil e
 |false=>exact e
theorem Oe(ha:PT X a tA) (hb:PW X (.BoolOp .And (b::rest) pos) tB'):PW X (.BoolOp .And (a::b::rest) pos) (WH tA tB'):=by
 intro wh ou s σ H Q I h;refine isTrue_and (thn (ha ou s σ H _ I h) λc s1 ⟨H1,I1,q1⟩=>?_)
 cases c with
 |true=>exact hb wh ou s1 σ H1 Q I1 q1
 |false=>exact⟨H1,I1,q1⟩
theorem O4(ha:PT X a tA):PT X (.UnaryOp .Not a pos) (VX tA):=by
 intro ou s σ H Q I h;exact isTrue_not (ha ou s σ H (λc H1=>Q (!c) H1) I h)
def S7(ta tb:TE):TE:=λσ H Q=>ta σ H λx H1=>∃c,x = .bl c/\if c=true then tb σ H1 Q else Q (.bl false) H1
def Tz(ta:TE):TE:=λσ H Q=>ta σ H λx H1=>∃c,x = .bl c/\Q (.bl (!c)) H1
theorem P8{op} {t:TE}(h:PE X a t):PE X (.BoolOp op [a] pos) t:=λou s σ H Q I hw=>BoolOp_one (h ou s σ H Q I hw)
theorem OQ(ha:PE X a ta) (hb:PE X (.BoolOp .And (b::rest) pos) tb):PE X (.BoolOp .And (a::b::rest) pos) (S7 ta tb):=by
 intro ou s σ H Q I h;refine BoolOp_and (thn (ha ou s σ H _ I h) λv s1 ⟨x,H1,I1,r1,q1⟩=>?_)
 obtain⟨c,rfl,q1⟩:=q1;cases r1;refine kH ?_;cases c with
 |true=>exact hb ou s1 σ H1 Q I1 q1
 |false=>exact⟨.bl false,H1,I1,rfl,q1⟩
theorem VB(ha:PE X a ta):PE X (.UnaryOp .Not a pos) (Tz ta):=by
 intro ou s σ H Q I h;refine UnaryOp_ (thn (ha ou s σ H _ I h) λv s1 ⟨x,H1,I1,r1,q1⟩=>?_)
 obtain⟨c,rfl,q1⟩:=q1;cases r1;exact not_of (kH ⟨.bl (!c),H1,I1,rfl,q1⟩)
end
def sS(K:W.Frag) (H:Hp) (a:Addr) (xs:List V):Prop :=
 Rd H a (.lst xs) ∨
  ∃(o:Obj) (its:Array Value) (n:Nat),K.lookup a=some o/\o.cls = .type "list" /\ o.dict=none/\o.data = .seq its n/\its.size<=ke/\pY xs its.toList
def Jo(K:W.Frag) (H:Hp) (a:Addr) (xs:List V):Prop :=
 Rd H a (.tup xs) ∨
  ∃(o:Obj) (its:Array Value) (n:Nat),K.lookup a=some o/\o.cls = .type "tuple" /\ o.data = .seq its n/\its.size<=ke/\pY xs its.toList
def X3:Value->Option V
 | .none=>some .non
 | .bool b=>some (.bl b)
 | .int i _=>some (.int i)
 | .str x _=>some (.str x)
 | .bytes b _=>some (.byt b)
 | .float b _=>some (.flt b)
 | .ref a=>some (.ref a)
 | .type n=>some (.ty n)
 |_=>none
theorem qp.abs{x:V}{u:Value}(r:qp x u):X3 u=some x:=by
 cases x with
 |non=>cases r;rfl
 |bl _=>cases r;rfl
 |int _=>obtain⟨t,rfl⟩:=r;rfl
 |str _=>obtain⟨t,rfl⟩:=r;rfl
 |byt _=>obtain⟨t,rfl⟩:=r;rfl
 |flt _=>obtain⟨t,rfl⟩:=r;rfl
 |ref _=>cases r;rfl
 |ty _=>cases r;rfl
theorem qp.inj{x y:V}{u:Value}(r:qp x u) (q:qp y u):x=y:=aD.inj (r.abs.symm.trans q.abs)
theorem pY.inj:∀{xs ys:List V}{us:List Value},pY xs us->pY ys us->xs=ys
 |_,_,_,.nil,.nil=>rfl
 |_,_,_,.cons r t,.cons r' t'=>by rw[r.inj r',pY.inj t t']
section
variable {X:Cx}{ou:List (Addr×Obj)}{σ:St}{H:Hp}{s:Shared}{a:Addr}{xs ys:List V}
theorem sS.of{K:W.Frag}(h:H a=some (.lst xs)):sS K H a xs:=.inl (.inl h)
theorem Jo.of{K:W.Frag}(h:H a=some (.tup xs)):Jo K H a xs:=.inl (.inl h)
theorem Inv.list(I:Inv X ou σ H s) (h:sS X.K H a xs):∃its:List Value,pY xs its/\PlainL s.heap a its.toArray/\xs.length<=ke:=by
 rcases h with h|⟨o,its,n,hk,hc,hd,hs,hz,r⟩
 .obtain ⟨z,its,n,r,e⟩:=h.ok I.hok;exact⟨its,r,⟨_,n,e,rfl,rfl,rfl⟩,z⟩
 .refine ⟨its.toList,r,⟨o,n,I.kIn a o hk,hc,hd,by simpa using hs⟩,?_⟩
  have e:=r.length;simp only[ax]at e;lia
theorem Inv.tuple(I:Inv X ou σ H s) (h:Jo X.K H a xs):∃its:List Value,pY xs its/\IsTup s.heap a its.toArray/\xs.length<=ke:=by
 rcases h with h|⟨o,its,n,hk,hc,hs,hz,r⟩
 .obtain ⟨z,its,r,p⟩:=h.ok I.hok;exact⟨its,r,p,z⟩
 .refine ⟨its.toList,r,⟨o,I.kIn a o hk,hc,n,by simpa using hs⟩,?_⟩
  have e:=r.length;simp only[ax]at e;lia
theorem Inv.list_inj(I:Inv X ou σ H s) (h:sS X.K H a xs) (h':sS X.K H a ys):xs=ys:=by
 obtain⟨its,r,⟨o,n,e,_,_,d⟩,_⟩:=I.list h;obtain⟨its',r',⟨o',n',e',_,_,d'⟩,_⟩:=I.list h';rw[e]at e';cases e';rw[d]at d';injection d' with d1 _
 have:its=its':=by simpa using congrArg Array.toList d1
 subst this;exact r.inj r'
end
abbrev Cx.wish(X:Cx) (E:Value->Shared->Prop):Cx:={ X with xe:=E }
abbrev Cx.nox(X:Cx):Cx:=X.wish λ_ _=>False
theorem Cx.Ok.wish{X:Cx}(ok:X.Ok) (E:Value->Shared->Prop):(X.wish E).Ok :=
 ⟨ok.mod,ok.kind,ok.glob,ok.blt,ok.above,ok.inj,ok.has,ok.cab,ok.hd,ok.frames,ok.stk,ok.exf,ok.bs,ok.bsz,ok.noex,ok.exfs,ok.funs,ok.frf⟩
theorem Cx.Ok.unwish{X:Cx}{E:Value->Shared->Prop}(ok:(X.wish E).Ok):X.Ok :=
 ⟨ok.mod,ok.kind,ok.glob,ok.blt,ok.above,ok.inj,ok.has,ok.cab,ok.hd,ok.frames,ok.stk,ok.exf,ok.bs,ok.bsz,ok.noex,ok.exfs,ok.funs,ok.frf⟩
section
variable {X:Cx}{ou:List (Addr×Obj)}{σ:St}{H:Hp}{s:Shared}{E:Value->Shared->Prop}
theorem Inv.wish(I:Inv X ou σ H s) (E:Value->Shared->Prop):Inv (X.wish E) ou σ H s:=⟨I.ok.wish E,I.os,I.bare,I.base,I.loc,I.cell,I.free,I.freeC,I.pin,I.hok,I.len⟩
theorem Inv.unwish(I:Inv (X.wish E) ou σ H s):Inv X ou σ H s:=⟨I.ok.unwish,I.os,I.bare,I.base,I.loc,I.cell,I.free,I.freeC,I.pin,I.hok,I.len⟩
theorem SP.unwish{D:zj}{f:Flow}{s':Shared}(h:SP (X.wish E) ou D f s'):SP X ou D f s':=by
 cases f with
 |next=>obtain⟨σ',H',I,q⟩:=h;exact⟨σ',H',I.unwish,q⟩
 |brk=>obtain⟨σ',H',I,q⟩:=h;exact⟨σ',H',I.unwish,q⟩
 |cont=>obtain⟨σ',H',I,q⟩:=h;exact⟨σ',H',I.unwish,q⟩
 |ret u=>obtain⟨v,σ',H',I,r,q⟩:=h;exact⟨v,σ',H',I.unwish,r,q⟩
theorem Lf.nox{st:List Stmt}{t:TS}(h:Lf X.nox st t):Lf X st t:=λou s σ H D I hw =>
 kx (h ou s σ H D (I.wish _) hw) (λ_ _ q=>q.unwish) λ_ _ z=>False.elim z
end
section
variable {X:Cx}{st:Stmt}{rest:List Stmt}{t u:TS}{e:Expr}{te:TE}{pos:Pos}
def Tj:TS:=λD σ H=>D.nx σ H
def Oy(t u:TS):TS:=λD σ H=>t { D with nx:=u D } σ H
theorem sU:Lf X [] Tj:=λ_ _ σ H _ I h=>lY ⟨σ,H,I,h⟩
theorem oB(h1:PS X st t) (h2:Lf X rest u):Lf X (st::rest) (Oy t u):=by
 intro ou s σ H D I h;refine wpAny_execs_cons (thn (h1 ou s σ H { D with nx:=u D } I h) λf s1 q=>?_)
 cases f with
 |next =>
  obtain⟨σ',H',I',q⟩:=q;exact h2 ou s1 σ' H' D I' q
 |ret v=>exact q
 |brk=>exact q
 |cont=>exact q
theorem oK(h1:PS X st t):Lf X [st] t:=by
 intro ou s σ H D I h;refine wpAny_execs_cons (thn (h1 ou s σ H D I h) λf s1 q=>?_)
 cases f with
 |next=>exact lY q
 |ret v=>exact q
 |brk=>exact q
 |cont=>exact q
theorem Inv.quiet{ou:List (Addr×Obj)}{σ:St}{H:Hp}{s:Shared}(I:Inv X ou σ H s):interactive X.env=false:=by simp[interactive,I.ok.kind]
def AB(te:TE):TS:=λD σ H=>te σ H λ_ H1=>D.nx σ H1
theorem rA(he:PE X e te) (hs:nA e none pos.line X.env=pure false:=by rfl):PS X (.Expr e pos) (AB te):=by
 intro ou s σ H D I h;exact wpAny_Expr_any (thn (he ou s σ H _ I h) λv s1 ⟨x,H1,I1,r1,q1⟩=>⟨σ,H1,I1,q1⟩) I.quiet hs
def Vx(te:TE):TS:=λD σ H=>te σ H D.rt
theorem qB(he:PE X e te):PS X (.Return (some e) pos) (Vx te):=by
 intro ou s σ H D I h;exact wpAny_Return_some (thn (he ou s σ H _ I h) λv s1 ⟨x,H1,I1,r1,q1⟩=>⟨x,σ,H1,I1,r1,q1⟩)
def Q0(c:TT) (t u:TS):TS:=λD σ H=>c σ H λb H1=>if b=true then t D σ H1 else u D σ H1
theorem uA{c:Expr}{a b:List Stmt}{tc:TT}(hc:PT X c tc) (ha:Lf X a t) (hb:Lf X b u):PS X (.If c a b pos) (Q0 tc t u):=by
 intro ou s σ H D I h;refine wpAny_If (thn (hc ou s σ H _ I h) λd s1 ⟨H1,I1,q1⟩=>?_)
 cases d with
 |true=>exact ha ou s1 σ H1 D I1 q1
 |false=>exact hb ou s1 σ H1 D I1 q1
end
abbrev TG:=V->St->Hp->(St->Hp->Prop)->Prop
abbrev Uz:=List V->St->Hp->(St->Hp->Prop)->Prop
def PG(X:Cx) (target:Expr) (t:TG):Prop :=
 ∀(ou:List (Addr×Obj)) (s:Shared) (σ:St) (H:Hp) (v:V) (u:Value) (Q:St->Hp->Prop),Inv X ou σ H s->qp v u->t v σ H Q ->
  kc (jY X.prog X.w) X.A (assign target X.env u) (λ_ s'=>∃σ' H',Inv X ou σ' H' s'/\Q σ' H') X.xe s
def XT(X:Cx) (ts:List Expr) (t:Uz):Prop :=
 ∀(ou:List (Addr×Obj)) (s:Shared) (σ:St) (H:Hp) (vs:List V) (us:List Value) (Q:St->Hp->Prop),Inv X ou σ H s->pY vs us->t vs σ H Q ->
  kc (jY X.prog X.w) X.A (assignInOrder ((mH ts X.env).map (·.2)) us) (λ_ s'=>∃σ' H',Inv X ou σ' H' s'/\Q σ' H') X.xe s
section
variable {X:Cx}{pos:Pos}
def tW(i:Nat):TG:=λv σ H Q=>Q (σ.set i (some v)) H
theorem qZ{i:Nat}{x:Str}(hN:X.N.Nodup) (hi:X.N[i]?=some x) (hx:WW X.env.scope x) (hf:X.fn x=true∨X.env.scope.names.lookup x=some .local:=by trivial):PG X (.Name x pos) (tW i):=by
 intro ou s σ H v u Q I r h;exact wpAny_assign_Name (Gy I hN hi hx r (λs' I'=>⟨_,H,I',h⟩) hf)
def RQ:Uz:=λvs σ H Q=>vs=[]/\Q σ H
def De(t:TG) (u:Uz):Uz:=λvs σ H Q=>∃v r,vs=v::r/\t v σ H λσ' H'=>u r σ' H' Q
theorem QJ:XT X [] RQ:=by
 intro ou s σ H vs us Q I r h;obtain⟨e,h⟩:=h;subst e;cases r;exact assignInOrder_nil ⟨σ,H,I,h⟩
theorem Hm{e:Expr}{es:List Expr}{t:TG}{u:Uz}(h1:PG X e t) (h2:XT X es u)
  (hs:(mH (e::es) X.env).map (·.2)=assign e X.env::(mH es X.env).map (·.2):=by rfl):XT X (e::es) (De t u):=by
 intro ou s σ H vs us Q I r h;obtain⟨v,vr,e1,h⟩:=h;subst e1;cases r with
 |cons r rr =>
  rw[hs];refine assignInOrder_cons (thn (h1 ou s σ H _ _ _ I r h) λ_ s1 ⟨σ1,H1,I1,q1⟩=>?_)
  exact h2 ou s1 σ1 H1 _ _ Q I1 rr q1
def Q8(K:W.Frag) (n:Nat) (t:Uz):TG:=λv σ H Q=>∃a xs,v = .ref a/\Jo K H a xs/\xs.length=n/\t xs σ H Q
theorem TX{es:List Expr}{k:Nat}{t:Uz}{n:Nat}(hc:X.calm=true) (h:XT X es t)
  (hn:(mH es X.env).length=n:=by rfl) (hst:(mH es X.env).findIdx? (·.1)=none:=by rfl):PG X (.Tuple es k pos) (Q8 X.K n t):=by
 intro ou s σ H v u Q I r hw;obtain⟨a,xs,e1,hq,hl,hw⟩:=hw;subst e1;cases r;obtain⟨its,rv,ht,hz⟩:=I.tuple hq;refine assign_Tuple_tuple (I.ok.hd hc) ht (by simp[hn,←hl,rv.length]) hst λh' hx=>?_
 have I1:Inv X ou σ H { s with heap:=h' }:=I.kept (t':=s.toks) λb o e=>hx b o (aE (ao e)) e
 exact h ou _ σ H xs _ Q I1 (by simpa using rv) hw
def IW(te:TE) (g:TG):TS:=λD σ H=>te σ H λx H1=>g x σ H1 D.nx
theorem oX{i:Nat}{x:Str}{e:Expr}{te:TE}{pos':Pos}(hN:X.N.Nodup) (hi:X.N[i]?=some x) (hx:WW X.env.scope x) (he:PE X e te) (hs:nA e (some (.Name x pos')) pos.line X.env=pure false:=by rfl) (hf:X.fn x=true∨X.env.scope.names.lookup x=some .local:=by trivial) :
  PS X (.Assign [.Name x pos'] e pos) (IW te (tW i)):=by
 intro ou s σ H D I h;refine wpAny_Assign_Name (thn (he ou s σ H _ I h) λv s1 ⟨y,H1,I1,r1,q1⟩=>?_) hs
 exact Gy I1 hN hi hx r1 (λs2 I2=>⟨_,H1,I2,q1⟩) hf
end
section
variable {X:Cx}{pos:Pos}
def Nz(c:TT) (tb:TS):TS:=λD σ H=>∃W:Nat->St->Hp->Prop,(∃m,W m σ H)/\∀m σ H,W m σ H ->
 c σ H λb H1=>if b=true then ∃N:St->Hp->Prop,(∀σ' H',N σ' H'->∃m',m'<m/\W m' σ' H')/\tb { D with nx:=N,ct:=N,bk:=D.nx } σ H1 else D.nx σ H1
theorem AQ{c:Expr}{body:List Stmt}{tc:TT}{tb:TS}(hp:PassesOwn (jY X.prog X.w) X.A X.env X.xe) (hc:PT X c tc) (hb:Lf X body tb):PS X (.While c body [] pos) (Nz tc tb):=by
 intro ou s σ H D I h;obtain⟨W,⟨m0,w0⟩,turn⟩:=h;refine wpAny_While (codeAny_whileLoop (λn s'=>∃σ' H',Inv X ou σ' H' s'/\W n σ' H') ?_ m0 ⟨σ,H,I,w0⟩)
 rintro n s1 ⟨σ1,H1,I1,w1⟩;refine kM hp (thn (hc ou s1 σ1 H1 _ I1 (turn n σ1 H1 w1)) λb s2 ⟨H2,I2,q2⟩=>?_)
 cases b with
 |true =>
  obtain⟨N,hN,q2⟩:=q2;rw[pN rfl];refine kM hp (thn (hb ou s2 σ1 H2 _ I2 q2) λf s3 q3=>?_)
  cases f with
  |next =>
   obtain⟨σ3,H3,I3,n3⟩:=q3;obtain⟨m',hm,w3⟩:=hN σ3 H3 n3;exact⟨m',hm,σ3,H3,I3,w3⟩
  |cont =>
   obtain⟨σ3,H3,I3,n3⟩:=q3;obtain⟨m',hm,w3⟩:=hN σ3 H3 n3;exact⟨m',hm,σ3,H3,I3,w3⟩
  |brk=>exact q3
  |ret v=>exact q3
 |false =>
  rw[pJ aK];exact lY ⟨σ1,H2,I2,q2⟩
end
structure It where
 go:Nat->Hp->Prop
 yld:Nat->Hp->V->Hp->Prop
 stop:Nat->Hp->Prop
def Ds(X:Cx) (ou:List (Addr×Obj)) (H:Hp) (b:Addr):Prop :=
 H b=none/\b≠X.env.locals/\b∉X.fs/\(b∈X.ex∨X.s₀.heap.objs.size<=b)/\(∀x c,X.env.cells.lookup x=some c->c≠b)/\∀p∈X.pn++ou,p.1≠b
theorem Inv.fpOk{X:Cx}{ou:List (Addr×Obj)}{σ:St}{H H':Hp}{s:Shared}{b:Addr}(I:Inv X ou σ H s) (hb:s.heap.objs.size<=b) (hn:H' b=none):Ds X ou H' b:=by
 refine⟨hn,cD (aT I.lt hb),I.nofs hb,.inr (bY I.sz hb),λx c e z=>?_,λp hp z=>?_⟩
 .obtain ⟨v,q⟩:=I.cell x c e;exact absurd (aT q.lt (by rw[z];exact hb)) (dZ _)
 .exact absurd (aT (ao (I.pin p hp).1) (by rw[z];exact hb)) (dZ _)
structure HZ (P:kf) (w:ki) (K:W.Frag) (tg:Expr) (J:It) (fp:List Addr) (it:Addr) (tn:Nat->Heap->Prop):Prop where
 mem:it∈fp
 obj:∀i h,tn i h->∀b∈fp,∃o,h.get? b=some o/\∀v,o.data ≠ .cell v
 keep:∀i h h',tn i h->(∀b∈fp,∀o,h.get? b=some o->h'.get? b=some o)->tn i h'
 item:∀(X:Cx),X.prog=P->X.w=w->X.K=K->X.calm=true->∀(i:Nat) (ou:List (Addr×Obj)) (s:Shared) (σ:St) (H:Hp) (E:Value->Shared->Prop),Inv X ou σ H s->(∀b∈fp,Ds X ou H b)->tn i s.heap->J.go i H ->
  kc (jY P w) X.A (lO (.ref it)) (λr s1=>∃u,r=some u /\
   kc (jY P w) X.A (lZ tg (.ref it) u) (λ_ s2=>∃x H',Inv X ou σ H' s2/\qp x u/\J.yld i H x H'/\tn (i+1) s2.heap/\∀b∈fp,H' b=none) E s1) E s
 done:∀(X:Cx),X.prog=P->X.w=w->X.K=K->X.calm=true->∀(i:Nat) (ou:List (Addr×Obj)) (s:Shared) (σ:St) (H:Hp) (E:Value->Shared->Prop),Inv X ou σ H s->(∀b∈fp,Ds X ou H b)->tn i s.heap->J.stop i H ->
  kc (jY P w) X.A (lO (.ref it)) (λr s1=>r=none/\Inv X ou σ H s1) E s
 self:∀(A:Around) (i:Nat) (s:Shared) (Q:Value->Shared->Prop) (E:Value->Shared->Prop),tn i s.heap->Q (.ref it) s->kc (jY P w) A (pyIter (.ref it)) Q E s
abbrev TI:=St->Hp->(It->Hp->Prop)->Prop
def Y5(X:Cx) (ou:List (Addr×Obj)) (σ:St) (tg:Expr) (R:It->Hp->Prop) (itv:Value) (s2:Shared):Prop :=
 ∃(it:Addr) (fp:List Addr) (tn:Nat->Heap->Prop) (J:It) (H':Hp),itv = .ref it/\Inv X ou σ H' s2/\HZ X.prog X.w X.K tg J fp it tn/\tn 0 s2.heap/\(∀b∈fp,Ds X ou H' b)/\R J H'
def PI(X:Cx) (tg wk:Expr) (wi:TI):Prop :=
 ∀(ou:List (Addr×Obj)) (s:Shared) (σ:St) (H:Hp) (R:It->Hp->Prop),Inv X ou σ H s->wi σ H R ->
  kc (jY X.prog X.w) X.A (eval wk X.env) (λv s1=>kc (jY X.prog X.w) X.A (pyIter v) (Y5 X ou σ tg R) X.xe s1) X.xe s
theorem JI{M:Model}{A:Around}{E:Value->Shared->Prop}{s:Shared}{tg:Expr}{it:Addr}{u:Value}{o:Obj}{n:String}{vs:Array Value}{Q:Unit->Shared->Prop}(ho:s.heap.get? it=some o) (hc:o.cls = .type n) (hd:o.data = .fields vs)
    (hn:["enumerate", "zip", "dict_itemiterator", "dict_reverseitemiterator", "odict_iterator", "itertools.zip_longest", "itertools.pairwise"].contains n=false) (hQ:Q () s):kc M A (lZ tg (.ref it) u) Q E s:=by
  unfold lZ;cases tg <;> first
    |exact jX hQ
    | (cases u <;> first
        |exact jX hQ
        | (refine jU (wpAny_load ho ?_)
           rw[hc,hd];show kc M A (if (["enumerate", "zip", "dict_itemiterator", "dict_reverseitemiterator", "odict_iterator", "itertools.zip_longest", "itertools.pairwise"].contains n && vs[0]? == some (rawInt _))=true then _ else _) Q E s
           rw[pJ (by intro h;rw[hn,jE]at h;cases h)]
           exact jX hQ))
def Xn(K:W.Frag) (a:Addr):It :=
 ⟨λi H=>∃xs x,sS K H a xs/\xs[i]?=some x,λi H x H'=>H'=H/\∀xs,sS K H a xs->xs[i]?=some x,λi H=>∃xs,sS K H a xs/\xs.length<=i⟩
def Ro(lo:Int) (n:Nat):It:=⟨λi _=>i<n,λi H x H'=>H'=H/\x = .int (lo+i),λi _=>n<=i⟩
theorem Me{P:kf}{w:ki}{K:W.Frag}{tg:Expr}(a it:Addr):HZ P w K tg (Xn K a) [it] it (λi h=>h.IsListIter it a i) where
 mem:=by simp
 obj:=λi h st b hb=>by
  have e:b=it:=by simpa using hb
  subst e;obtain⟨o,e,c,d⟩:=st;exact⟨o,e,λv z=>by rw[d]at z;cases z⟩
 keep:=λi h h' st k=>st.at λo e=>k it (by simp) o e
 item:=by
  intro X hP hw hK hc i ou s σ H E I hf st hg;subst hP hw hK;obtain⟨xs,x,hq,hx⟩:=hg;obtain⟨its,rv,p,hz⟩:=I.list hq;obtain⟨u,hu,ru⟩:=rv.get hx;obtain⟨f0,f1,f2,f3,f4,f5⟩:=hf it (by simp)
  refine wpAny_pyNext_list_item st p.isList (x:=u) (by simpa using hu) λh' st' sb=>?_
  have I1:Inv X ou σ H { s with heap:=h' }:=I.turned (t':=s.toks) (λb o hb e=>(sb.2 b hb).trans e) f0 f1 f3 f4 f5
  obtain⟨o,e,c,d⟩:=id st';exact⟨u,rfl,JI (s:={ s with heap:=h' }) e c d (by decide) ⟨x,H,I1,ru,⟨rfl,λys hy=>by rw[I.list_inj hy hq];exact hx⟩,st',λb hb=>(hf b hb).1⟩⟩
 done:=by
  intro X hP hw hK hc i ou s σ H E I hf st hg;subst hP hw hK;obtain⟨xs,hq,hx⟩:=hg;obtain⟨its,rv,p,hz⟩:=I.list hq;obtain⟨f0,f1,f2,f3,f4,f5⟩:=hf it (by simp)
  have hl:=rv.length;exact wpAny_pyNext_list_end (I.ok.hd hc) st p.isList (by simp;lia) λh' eb=>⟨rfl,I.turned (t':=s.toks) (λb o hb e=>eb b o hb e) f0 f1 f3 f4 f5⟩
 self:=λ_ _ _ _ _ st h=>wpAny_pyIter_listiter st h
theorem Il{P:kf}{w:ki}{K:W.Frag}{tg:Expr}(it:Addr) (lo:Int) (n:Nat):HZ P w K tg (Ro lo n) [it] it (λi h=>IsRangeIter h it (lo+(i:Nat)*1) ((n:Int)-(i:Nat)) 1) where
 mem:=by simp
 obj:=λi h st b hb=>by
  have e:b=it:=by simpa using hb
  subst e;exact⟨_,st,λv z=>by
   have z':Data.fields _=Data.cell v:=z;cases z'⟩
 keep:=λi h h' st k=>k it (by simp) _ st
 item:=by
  intro X hP hw hK hc i ou s σ H E I hf st hg;subst hP hw hK;obtain⟨f0,f1,f2,f3,f4,f5⟩:=hf it (by simp)
  have W:=Walks.range (prog:=X.prog) (w:=X.w) (I.ok.hd hc) it lo 1 n;refine W.item i s _ _ hg st λv h' tk hv st' kk=>?_
  obtain⟨t,rfl⟩:=hv;have I1:Inv X ou σ H { s with heap:=h',toks:=tk }:=I.turned (λb o hb e=>kk b o (by simpa using hb) e) f0 f1 f3 f4 f5
  refine⟨_,rfl,JI (s:={ s with heap:=h',toks:=tk }) (n := "range_iterator") st' rfl rfl (by decide) ⟨.int (lo+i),H,I1,⟨t,?_⟩,⟨rfl,rfl⟩,st',λb hb=>(hf b hb).1⟩⟩
  rw[jn]
 done:=by
  intro X hP hw hK hc i ou s σ H E I hf st hg;subst hP hw hK;obtain⟨f0,f1,f2,f3,f4,f5⟩:=hf it (by simp)
  exact wpAny_pyNext_range_end (I.ok.hd hc) st (by have:n<=i:=hg;lia) λh' eb=>⟨rfl,I.turned (t':=s.toks) (λb o hb e=>eb b o hb e) f0 f1 f3 f4 f5⟩
 self:=λ_ _ _ _ _ st h=>wpAny_pyIter_rangeiter st h
section
variable {X:Cx}{tg:Expr}
def NL(K:W.Frag) (tl:TE):TI:=λσ H R=>tl σ H λx H1=>∃a,x = .ref a/\(∃xs,sS K H1 a xs)/\R (Xn K a) H1
theorem rE{l:Expr}{tl:TE}(hl:PE X l tl):PI X tg l (NL X.K tl):=by
 intro ou s σ H R I h;refine thn (hl ou s σ H _ I h) λv s1 ⟨x,H1,I1,r1,q1⟩=>?_
 obtain⟨a,e,⟨xs,hq⟩,q⟩:=q1;subst e;cases r1;obtain⟨its,rv,p,hz⟩:=I1.list hq;refine mD p.isList ?_;refine⟨s1.heap.objs.size,[s1.heap.objs.size],_,_,H1,rfl,I1.kept (t':=s1.toks) λb o e=>ak _ e,Me a _,⟨_,aX _ rfl,rfl,rfl⟩,λb hb=>?_,q⟩
 have e:b=s1.heap.objs.size:=by simpa using hb
 subst e;exact I1.fpOk (af _) (I1.hok.fresh (af _))
theorem Oz{ou:List (Addr×Obj)}{σ:St}{H:Hp}{s:Shared}{R:It->Hp->Prop}{E:Value->Shared->Prop}{lo hi:Int}{t u v:Tok}{tk:Nat}(I:Inv X ou σ H s) (h1:-(2 ^ 62)<=lo) (h2:lo<2 ^ 62) (h3:-(2 ^ 62)<=hi) (h4:hi<2 ^ 62)
  (q:R (Ro lo (hi-lo).toNat) H):kc (jY X.prog X.w) X.A (pyIter (.ref s.heap.objs.size)) (Y5 X ou σ tg R) E { s with heap:=s.heap.push { cls:=.type "range", data:=.fields #[.int lo t,.int hi u,.int 1 v] },toks:=tk }:=by
 refine wpAny_pyIter_range (IsRange.new ..) (small_one h1 h2 h3 h4) ?_;have I1:Inv X ou σ H { s with heap:=s.heap.push { cls:=.type "range", data:=.fields #[.int lo t,.int hi u,.int 1 v] },toks:=tk }:=I.kept λb o e=>ak _ e
 refine⟨(s.heap.push { cls:=.type "range", data:=.fields #[.int lo t,.int hi u,.int 1 v] }).objs.size,[(s.heap.push { cls:=.type "range", data:=.fields #[.int lo t,.int hi u,.int 1 v] }).objs.size],_,_,H,rfl,
  I1.kept (t':=tk) λb o e=>ak _ e,Il _ lo (hi-lo).toNat,?_,λb hb=>?_,q⟩
 .have e1:lo+((0:Nat):Int)*1=lo:=by simp
  have e2:(((hi-lo).toNat:Nat):Int)-((0:Nat):Int)=Builtin.Range.rangeSize lo hi 1:=by rw[rangeSize_one];split <;> lia
  show IsRangeIter _ _ (lo+((0:Nat):Int)*1) ((((hi-lo).toNat:Nat):Int)-((0:Nat):Int)) 1;rw[e1,e2];exact aX _ rfl
 .have e:b=(s.heap.push { cls:=.type "range", data:=.fields #[.int lo t,.int hi u,.int 1 v] }).objs.size:=by simpa using hb
  subst e;exact I1.fpOk (af _) (I1.hok.fresh (af _))
def Oc(ta:TA):TI:=λσ H R=>ta σ H λvs H1=>∃j:Int,vs=[.int j]/\-(2 ^ 62)<=j/\j<2 ^ 62/\R (Ro 0 j.toNat) H1
theorem tI{a:Expr}{ta:TA}{p pos:Pos}(hg:Gl X "range") (hm:X.mg "range" = none) (ha:PA X [a] ta) (hs:ko [a] X.env=[(false,eval a X.env)]:=by rfl):PI X tg (.Call (.Name "range" p) [a] [] pos) (Oc ta):=by
 intro ou s σ H R I h;refine Call_ (yj I hg hm boot_range (bX (thn (ha pos ou s σ H _ I h) λus s1 ⟨vs,H1,I1,r1,q1⟩=>?_) hs rfl))
 obtain⟨j,e,q1,q2,q⟩:=q1;subst e;cases r1 with
 |cons r rr =>
  cases rr;obtain⟨t,rfl⟩:=r;exact call_range_1 (Oz I1 (by lia) (by lia) q1 q2 (by simpa using q))
def Nc(wi:TI) (g:TG) (tb:TS):TS:=λD σ H=>wi σ H λJ H1=>∃W:Nat->Nat->St->Hp->Prop,(∃m,W 0 m σ H1)/\∀i m σ H,W i m σ H ->
 (J.stop i H/\D.nx σ H)∨(J.go i H/\∃N:St->Hp->Prop,(∀σ' H',N σ' H'->∃m',m'<m/\W (i+1) m' σ' H')/\∀x H',J.yld i H x H'->g x σ H' λσ2 H2=>tb { D with nx:=N,ct:=N,bk:=D.nx } σ2 H2)
def CH(fp:List Addr) (h:Heap):List (Addr×Obj):=fp.filterMap λb=>(h.get? b).map λo=>(b,o)
theorem ye{fp:List Addr}{h:Heap}{b:Addr}{o:Obj}(hb:b∈fp) (e:h.get? b=some o):(b,o)∈CH fp h:=jb.mpr ⟨b,hb,by rw[e];rfl⟩
theorem KF{fp:List Addr}{h:Heap}{p:Addr×Obj}(hp:p∈CH fp h):p.1∈fp/\h.get? p.1=some p.2:=by
 obtain⟨b,hb,e⟩:=jb.mp hp;cases q:h.get? b with
 |none=>rw[q]at e;cases e
 |some o =>
  rw[q]at e;have e':(b,o)=p:=aD.inj e;subst e';exact⟨hb,q⟩
theorem Inv.pinned{ou:List (Addr×Obj)}{σ:St}{H:Hp}{s:Shared}{fp:List Addr}(I:Inv X ou σ H s) (hf:∀b∈fp,Ds X ou H b) (ho:∀b∈fp,∃o,s.heap.get? b=some o/\∀v,o.data ≠ .cell v):Inv X (ou++CH fp s.heap) σ H s :=
 I.pins_of λp hp=>(mAq.mp hp).elim (λz=>I.pin p (aj _ z)) λz=>by
  obtain⟨hb,e⟩:=KF z;obtain⟨f0,f1,f2,_⟩:=hf p.1 hb;obtain⟨o,e',d⟩:=ho p.1 hb;rw[e]at e';cases e';exact⟨e,f0,f1,f2,d⟩
theorem Inv.unpinned{ou pl:List (Addr×Obj)}{σ:St}{H:Hp}{s:Shared}(I:Inv X (ou++pl) σ H s):Inv X ou σ H s:=I.pins_of λp hp=>I.pin p (aj _ (aw _ hp))
theorem tR{wk:Expr}{body:List Stmt}{wi:TI}{g:TG}{tb:TS}{pos:Pos}(hp:PassesOwn (jY X.prog X.w) X.A X.env X.xe) (hc:X.calm=true) (hi:PI X tg wk wi) (hg:PG X tg g) (hb:Lf X body tb)
  (hs:∀x,mF wk X.env x=pure x:=by intro _;rfl):PS X (.For tg wk body [] pos) (Nc wi g tb):=by
 intro ou s σ H D I h;refine wpAny_For (thn (hi ou s σ H _ I h) λv s1 h1=>thn h1 λitv s2 h2=>?_) hs
 obtain⟨it,fp,tn,J,H2,e,I2,T,DW,f2,W,⟨m0,w0⟩,turn⟩:=h2;subst e;have stat:∀{H':Hp},(∀b∈fp,H' b=none)->∀b∈fp,Ds X ou H' b:=λhn b hb=>⟨hn b hb,(f2 b hb).2⟩
 refine codeAny_forLoop_any (λn s'=>∃i σ' H',Inv X ou σ' H' s'/\tn i s'.heap/\(∀b∈fp,H' b=none)/\W i n σ' H') ?_ m0 ⟨0,σ,H2,I2,DW,λb hb=>(f2 b hb).1,w0⟩
 rintro n s3 ⟨i,σ3,H3,I3,XG,fr3,w3⟩;rcases turn i n σ3 H3 w3 with ⟨stop,qn⟩|⟨go,N,hN,step⟩
 .refine kM hp (thn (T.done X rfl rfl rfl hc i ou s3 σ3 H3 X.xe I3 (stat fr3) XG stop) λr s4 ⟨hr,I4⟩=>?_)
  subst hr;exact lY ⟨σ3,H3,I4,qn⟩
 .refine kM hp (thn (T.item X rfl rfl rfl hc i ou s3 σ3 H3 X.xe I3 (stat fr3) XG go) λr s4 ⟨u,hr,h4⟩=>?_)
  subst hr;refine kM hp (thn h4 λ_ s5 ⟨x,H5,I5,r5,y5,st5,fr5⟩=>?_)
  have I5':=I5.pinned (stat fr5) (T.obj _ _ st5);refine kM hp (thn (hg _ s5 σ3 H5 x u _ I5' r5 (step x H5 y5)) λ_ s6 ⟨σ6,H6,I6,q6⟩=>?_)
  refine kM hp (thn (hb _ s6 σ6 H6 _ I6 q6) λf s7 q7=>?_)
  have again:∀{σ7:St}{H7:Hp},Inv X (ou++CH fp s5.heap) σ7 H7 s7->N σ7 H7->∃m,m<n/\∃i σ' H',Inv X ou σ' H' s7/\tn i s7.heap/\(∀b∈fp,H' b=none)/\W i m σ' H':=λ{σ7 H7} I7 n7=>by
   obtain⟨m',hm,w7⟩:=hN σ7 H7 n7;refine⟨m',hm,i+1,σ7,H7,I7.unpinned,T.keep _ _ _ st5 λb hb o e=>(I7.pin (b,o) (aj _ (aj _ (ye hb e)))).1,λb hb=>?_,w7⟩
   obtain⟨o,e,d⟩:=T.obj _ _ st5 b hb;exact(I7.pin (b,o) (aj _ (aj _ (ye hb e)))).2.1
  cases f with
  |next=>obtain⟨σ7,H7,I7,n7⟩:=q7;exact again I7 n7
  |cont=>obtain⟨σ7,H7,I7,n7⟩:=q7;exact again I7 n7
  |brk=>obtain⟨σ7,H7,I7,q7⟩:=q7;exact⟨σ7,H7,I7.unpinned,q7⟩
  |ret v=>obtain⟨x7,σ7,H7,I7,r7,q7⟩:=q7;exact⟨x7,σ7,H7,I7.unpinned,r7,q7⟩
end
theorem Ny{K:W.Frag}{a:Addr}{xs:List V}{g:TG}{tb:TS}{D:zj}{σ:St}{H:Hp}(Pv:Nat->St->Hp->Prop) (h0:Pv 0 σ H) (hl:∀i σ H,i<=xs.length->Pv i σ H->sS K H a xs)
  (hs:∀i x σ H,xs[i]?=some x->Pv i σ H->g x σ H λσ2 H2=>tb { D with nx:=Pv (i+1),ct:=Pv (i+1),bk:=D.nx } σ2 H2) (hd:∀σ H,Pv xs.length σ H->D.nx σ H) :
  ∃W:Nat->Nat->St->Hp->Prop,(∃m,W 0 m σ H)/\∀i m σ H,W i m σ H ->
   ((Xn K a).stop i H/\D.nx σ H)∨((Xn K a).go i H/\∃N:St->Hp->Prop,(∀σ' H',N σ' H'->∃m',m'<m/\W (i+1) m' σ' H')/\∀x H',(Xn K a).yld i H x H'->g x σ H' λσ2 H2=>tb { D with nx:=N,ct:=N,bk:=D.nx } σ2 H2):=by
 refine⟨λi m σ H=>m=xs.length-i/\i<=xs.length/\Pv i σ H,⟨xs.length,by simp,bp _,h0⟩,?_⟩
 rintro i m σ H ⟨rfl,hi,p⟩;have q:=hl i σ H hi p
 by_cases hlt:i<xs.length
 .refine .inr ⟨⟨xs,xs[i],q,by simp[hlt]⟩,Pv (i+1),λσ' H' p'=>⟨xs.length-(i+1),by lia,rfl,hlt,p'⟩,λx H' y=>?_⟩
  obtain⟨e,y⟩:=y;subst e;exact hs i x σ _ (y xs q) p
 .have e:i=xs.length:=by lia
  subst e;exact .inl ⟨⟨xs,q,af _⟩,hd σ H p⟩
theorem KP{lo:Int}{n:Nat}{g:TG}{tb:TS}{D:zj}{σ:St}{H:Hp}(Pv:Nat->St->Hp->Prop) (h0:Pv 0 σ H)
  (hs:∀i σ H,i<n->Pv i σ H->g (.int (lo+i)) σ H λσ2 H2=>tb { D with nx:=Pv (i+1),ct:=Pv (i+1),bk:=D.nx } σ2 H2) (hd:∀σ H,Pv n σ H->D.nx σ H) :
  ∃W:Nat->Nat->St->Hp->Prop,(∃m,W 0 m σ H)/\∀i m σ H,W i m σ H ->
   ((Ro lo n).stop i H/\D.nx σ H)∨((Ro lo n).go i H/\∃N:St->Hp->Prop,(∀σ' H',N σ' H'->∃m',m'<m/\W (i+1) m' σ' H')/\∀x H',(Ro lo n).yld i H x H'->g x σ H' λσ2 H2=>tb { D with nx:=N,ct:=N,bk:=D.nx } σ2 H2):=by
 refine⟨λi m σ H=>m=n-i/\i<=n/\Pv i σ H,⟨n,by simp,bp _,h0⟩,?_⟩
 rintro i m σ H ⟨rfl,hi,p⟩
 by_cases hlt:i<n
 .refine .inr ⟨hlt,Pv (i+1),λσ' H' p'=>⟨n-(i+1),by lia,rfl,hlt,p'⟩,λx H' y=>?_⟩
  obtain⟨e,y⟩:=y;subst e y;exact hs i σ _ hlt p
 .have e:i=n:=by lia
  subst e;exact .inl ⟨af _,hd σ H p⟩
abbrev R2:=V->V->Hp->VK->Prop
def DU(X:Cx) (f:Value->Value->Sem Value) (r:R2):Prop :=
 ∀(ou:List (Addr×Obj)) (s:Shared) (σ:St) (H:Hp) (x y:V) (v u:Value) (Q:VK),Inv X ou σ H s->qp x v->qp y u->r x y H Q ->
  kc (jY X.prog X.w) X.A (f v u) (EP X ou σ Q) X.xe s
def Ye(X:Cx) (f:Value->Sem Value) (r:V->Hp->VK->Prop):Prop :=
 ∀(ou:List (Addr×Obj)) (s:Shared) (σ:St) (H:Hp) (x:V) (v:Value) (Q:VK),Inv X ou σ H s->qp x v->r x H Q ->
  kc (jY X.prog X.w) X.A (f v) (EP X ou σ Q) X.xe s
def yw(X:Cx) (f:Value) (r:List V->Hp->VK->Prop):Prop :=
 ∀(ou:List (Addr×Obj)) (s:Shared) (σ:St) (H:Hp) (xs:List V) (us:List Value) (Q:VK),Inv X ou σ H s->pY xs us->r xs H Q ->
  kc (jY X.prog X.w) X.A (call f us) (EP X ou σ Q) X.xe s
def Qs(r:R2) (ta tb:TE):TE:=λσ H Q=>ta σ H λx H1=>tb σ H1 λy H2=>r x y H2 Q
def Zb(r:V->Hp->VK->Prop) (ta:TE):TE:=λσ H Q=>ta σ H λx H1=>r x H1 Q
def rI(C:Int->Int->Prop) (g:Int->Int->V):R2:=λx y H Q=>∃i j,x = .int i/\y = .int j/\C i j/\Q (g i j) H
def Lq(g:Int->Int->V):R2:=λx y H Q=>∃i j,x = .int i/\y = .int j/\Q (g i j) H
def rU(g:Int->V):V->Hp->VK->Prop:=λx H Q=>∃i,x = .int i/\Q (g i) H
section
variable {X:Cx}{a b c:Expr}{ta tb tc:TE}{pos:Pos}
theorem U6(ha:PE X a ta) (hb:PE X b tb) {ou:List (Addr×Obj)}{s:Shared}{σ:St}{H:Hp}{R:V->V->Hp->Prop}(I:Inv X ou σ H s)
  (h:ta σ H λx H1=>tb σ H1 λy H2=>R x y H2) {Q:Value->Shared->Prop}{f:Value->Value->Sem Value}
  (hf:∀v u s2 x y H2,Inv X ou σ H2 s2->qp x v->qp y u->R x y H2->kc (jY X.prog X.w) X.A (f v u) Q X.xe s2) :
  kc (jY X.prog X.w) X.A (eval a X.env) (λv s₁=>kc (jY X.prog X.w) X.A (eval b X.env) (λu s₂=>kc (jY X.prog X.w) X.A (f v u) Q X.xe s₂) X.xe s₁) X.xe s:=by
 refine thn (ha ou s σ H _ I h) λv s1 ⟨x,H1,I1,r1,q1⟩=>?_
 refine thn (hb ou s1 σ H1 _ I1 q1) λu s2 ⟨y,H2,I2,r2,q2⟩=>?_
 exact hf v u s2 x y H2 I2 r1 r2 q2
theorem pP{op:Operator}{r:R2}(ho:DU X (lz op) r) (ha:PE X a ta) (hb:PE X b tb):PE X (.BinOp a op b pos) (Qs r ta tb):=by
 intro ou s σ H Q I h;exact wpAny_BinOp (U6 ha hb I h λv u s2 x y H2 I2 rx ry q=>ho ou s2 σ H2 x y v u Q I2 rx ry q)
theorem AR{op:UnaryOp}{r:V->Hp->VK->Prop}(ho:Ye X (unaryOp op) r) (ha:PE X a ta):PE X (.UnaryOp op a pos) (Zb r ta):=by
 intro ou s σ H Q I h;exact UnaryOp_ (thn (ha ou s σ H _ I h) λv s1 ⟨x,H1,I1,r1,q1⟩=>ho ou s1 σ H1 x v Q I1 r1 q1)
theorem WQ{f:Value->Value->Sem Value}{C:Int->Int->Prop}{g:Int->Int->Int}
  (rule:∀(i j:Int) (t u:Tok) (s:Shared) (Q:Value->Shared->Prop) (E:Value->Shared->Prop),C i j->Q (.int (g i j) s.toks) { s with toks:=s.toks+1 }->kc (jY X.prog X.w) X.A (f (.int i t) (.int j u)) Q E s) :
  DU X f (rI C λi j=>.int (g i j)):=by
 intro ou s σ H x y v u Q I rx ry h;obtain⟨i,j,rfl,rfl,hc,q⟩:=h;obtain⟨t,rfl⟩:=rx;obtain⟨t',rfl⟩:=ry;exact rule i j t t' s _ _ hc ⟨.int (g i j),H,I.tok _,⟨_,rfl⟩,q⟩
theorem Xb{f:Value->Value->Sem Value}{g:Int->Int->Int}
  (rule:∀(i j:Int) (t u:Tok) (s:Shared) (Q:Value->Shared->Prop) (E:Value->Shared->Prop),Q (.int (g i j) s.toks) { s with toks:=s.toks+1 }->kc (jY X.prog X.w) X.A (f (.int i t) (.int j u)) Q E s) :
  DU X f (Lq λi j=>.int (g i j)):=by
 intro ou s σ H x y v u Q I rx ry h;obtain⟨i,j,rfl,rfl,q⟩:=h;obtain⟨t,rfl⟩:=rx;obtain⟨t',rfl⟩:=ry;exact rule i j t t' s _ _ ⟨.int (g i j),H,I.tok _,⟨_,rfl⟩,q⟩
theorem Uc{f:Value->Value->Sem Value}{g:Int->Int->Bool}
  (rule:∀(i j:Int) (t u:Tok) (s:Shared) (Q:Value->Shared->Prop) (E:Value->Shared->Prop),Q (.bool (g i j)) s->kc (jY X.prog X.w) X.A (f (.int i t) (.int j u)) Q E s) :
  DU X f (Lq λi j=>.bl (g i j)):=by
 intro ou s σ H x y v u Q I rx ry h;obtain⟨i,j,rfl,rfl,q⟩:=h;obtain⟨t,rfl⟩:=rx;obtain⟨t',rfl⟩:=ry;exact rule i j t t' s _ _ ⟨.bl (g i j),H,I,rfl,q⟩
def UK(i j:Int):Prop:=0<j/\j<1073741824
def Vz(i j:Int):Prop:=0<=j/\j<=1000000/\i.natAbs<2 ^ 64
def OG(i j:Int):Prop:=(-(2 ^ 64)<i/\i<2 ^ 64)∨(-(2 ^ 64)<j/\j<2 ^ 64)
theorem OG.ok{i j:Int}(h:OG i j):IntMulOk i j:=by
 rcases h with ⟨h1,h2⟩|⟨h1,h2⟩
 .exact .of_left (intBits_le_64 h1 h2)
 .exact .of_right (intBits_le_64 h1 h2)
theorem xP:DU X (lz .Add) (Lq λi j=>.int (i+j)):=Xb λ_ _ _ _ _ _ _ q=>add_int q
theorem CI:DU X (lz .Sub) (Lq λi j=>.int (i-j)):=Xb λ_ _ _ _ _ _ _ q=>sub_int q
theorem Fv:DU X (lz .Mult) (rI OG λi j=>.int (i*j)):=WQ λ_ _ _ _ _ _ _ hc q=>mul_int q hc.ok
theorem wK:DU X (lz .FloorDiv) (rI UK λi j=>.int (i / j)):=WQ λi j _ _ _ _ _ hc q=>by
 have h1:(0:Int)<j:=hc.1;have h2:j<1073741824:=hc.2;exact floordiv_int (by lia) (by rw[gT i (by lia)];exact q) (.inl (PyProof.noPylong_small (by lia)))
theorem rN:DU X (lz .Mod) (rI (λ_ j=>0<j) λi j=>.int (i % j)):=WQ λi j _ _ _ _ _ hc q=>by
 have h1:(0:Int)<j:=hc;exact mod_int' (by lia) (by rw[Int.fmod_eq_emod_of_nonneg i (by lia)];exact q)
theorem E3:DU X (lz .Pow) (rI Vz λi j=>.int (i ^ j.toNat)):=WQ λ_ _ _ _ _ _ _ hc q=>pow_int_small hc.1 hc.2.1 hc.2.2 q
theorem Zu{f:Value->Sem Value}{g:Int->Int}
  (rule:∀(i:Int) (t:Tok) (s:Shared) (Q:Value->Shared->Prop) (E:Value->Shared->Prop),Q (.int (g i) s.toks) { s with toks:=s.toks+1 }->kc (jY X.prog X.w) X.A (f (.int i t)) Q E s) :
  Ye X f (rU λi=>.int (g i)):=by
 intro ou s σ H x v Q I rx h;obtain⟨i,rfl,q⟩:=h;obtain⟨t,rfl⟩:=rx;exact rule i t s _ _ ⟨.int (g i),H,I.tok _,⟨_,rfl⟩,q⟩
theorem xS:Ye X (unaryOp .USub) (rU λi=>.int (-i)):=Zu λ_ _ _ _ _ q=>neg_int q
end
def scal:V->V->Bool
 | .non,.non=>true|.non,.int _=>true|.int _,.non=>true|.non,.bl _=>true|.bl _,.non=>true|.non,.str _=>true|.str _,.non=>true
 | .int _,.int _=>true|.bl _,.bl _=>true|.str _,.str _=>true|.byt _,.byt _=>true
 | .int _,.str _=>true|.str _,.int _=>true|.bl _,.str _=>true|.str _,.bl _=>true
 |_,_=>false
def YL:R2:=λx y H Q=>scal x y=true/\Q (.bl (decide (x=y))) H
def YV:R2:=λx y H Q=>scal x y=true/\Q (.bl (!decide (x=y))) H
theorem J9{i j:Int}:decide (V.int i=V.int j)=(i == j):=by
 rw[bI];simp
theorem Qq{i j:Bool}:decide (V.bl i=V.bl j)=(i == j):=by
 rw[bI];simp
theorem JF{i j:Str}:decide (V.str i=V.str j)=(i == j):=by
 rw[bI];simp
theorem J4{i j:Array UInt8}:decide (V.byt i=V.byt j)=(i.toList == j.toList):=by
 rw[bI];cases i;cases j;simp
section
variable {X:Cx}{a b c:Expr}{ta tb tc:TE}{pos:Pos}
theorem qk{ou:List (Addr×Obj)}{σ:St}{H:Hp}{s:Shared}{Q:VK}{k k':Bool}(I:Inv X ou σ H s) (q:Q (.bl k) H) (e:k=k'):EP X ou σ Q (.bool k') s:=by
 subst e;exact⟨.bl k,H,I,rfl,q⟩
theorem BQ:DU X (kJ .Eq) YL:=by
 intro ou s σ H x y v u Q I rx ry h;obtain⟨hs,q⟩:=h;cases x with
 |non =>
  cases rx;cases y with
  |non=>cases ry;exact PySem.EqNone.eq_none_none (qk I q (by simp))
  |bl j=>cases ry;exact PySem.EqNone.eq_none_bool (qk I q (by simp))
  |int j=>obtain⟨t',rfl⟩:=ry;exact PySem.EqNone.eq_none_int (qk I q (by simp))
  |str j=>obtain⟨t',rfl⟩:=ry;exact PySem.EqNone.eq_none_str (qk I q (by simp))
  |_=>exact absurd (show false=true from hs) aK
 |bl i =>
  cases rx;cases y with
  |non=>cases ry;exact PySem.EqNone.eq_bool_none (qk I q (by simp))
  |bl j=>cases ry;exact eq_bool (qk I q Qq)
  |str j=>obtain⟨t',rfl⟩:=ry;exact PySem.EqMixed.eq_bool_str (qk I q (by simp))
  |_=>exact absurd (show false=true from hs) aK
 |int i =>
  obtain⟨t,rfl⟩:=rx;cases y with
  |non=>cases ry;exact PySem.EqNone.eq_int_none (qk I q (by simp))
  |int j=>obtain⟨t',rfl⟩:=ry;exact eq_int (qk I q J9)
  |str j=>obtain⟨t',rfl⟩:=ry;exact PySem.EqMixed.eq_int_str (qk I q (by simp))
  |_=>exact absurd (show false=true from hs) aK
 |str i =>
  obtain⟨t,rfl⟩:=rx;cases y with
  |non=>cases ry;exact PySem.EqNone.eq_str_none (qk I q (by simp))
  |bl j=>cases ry;exact PySem.EqMixed.eq_str_bool (qk I q (by simp))
  |int j=>obtain⟨t',rfl⟩:=ry;exact PySem.EqMixed.eq_str_int (qk I q (by simp))
  |str j=>obtain⟨t',rfl⟩:=ry;exact eq_str (qk I q JF)
  |_=>exact absurd (show false=true from hs) aK
 |byt i =>
  obtain⟨t,rfl⟩:=rx;cases y with
  |byt j=>obtain⟨t',rfl⟩:=ry;exact W.eq_bytes (qk I q J4)
  |_=>exact absurd (show false=true from hs) aK
 |_=>cases y <;> exact absurd (show false=true from hs) aK
theorem Td:DU X (kJ .NotEq) YV:=by
 intro ou s σ H x y v u Q I rx ry h;obtain⟨hs,q⟩:=h;cases x with
 |non =>
  cases rx;cases y with
  |non=>cases ry;exact PySem.EqNone.ne_none_none (qk I q (by simp))
  |bl j=>cases ry;exact PySem.EqNone.ne_none_bool (qk I q (by simp))
  |int j=>obtain⟨t',rfl⟩:=ry;exact PySem.EqNone.ne_none_int (qk I q (by simp))
  |str j=>obtain⟨t',rfl⟩:=ry;exact PySem.EqNone.ne_none_str (qk I q (by simp))
  |_=>exact absurd (show false=true from hs) aK
 |bl i =>
  cases rx;cases y with
  |non=>cases ry;exact PySem.EqNone.ne_bool_none (qk I q (by simp))
  |bl j=>cases ry;exact ne_bool (qk I q (congrArg not Qq))
  |str j=>obtain⟨t',rfl⟩:=ry;exact PySem.EqMixed.ne_bool_str (qk I q (by simp))
  |_=>exact absurd (show false=true from hs) aK
 |int i =>
  obtain⟨t,rfl⟩:=rx;cases y with
  |non=>cases ry;exact PySem.EqNone.ne_int_none (qk I q (by simp))
  |int j=>obtain⟨t',rfl⟩:=ry;exact ne_int (qk I q (congrArg not J9))
  |str j=>obtain⟨t',rfl⟩:=ry;exact PySem.EqMixed.ne_int_str (qk I q (by simp))
  |_=>exact absurd (show false=true from hs) aK
 |str i =>
  obtain⟨t,rfl⟩:=rx;cases y with
  |non=>cases ry;exact PySem.EqNone.ne_str_none (qk I q (by simp))
  |bl j=>cases ry;exact PySem.EqMixed.ne_str_bool (qk I q (by simp))
  |int j=>obtain⟨t',rfl⟩:=ry;exact PySem.EqMixed.ne_str_int (qk I q (by simp))
  |str j=>obtain⟨t',rfl⟩:=ry;exact ne_str (qk I q (congrArg not JF))
  |_=>exact absurd (show false=true from hs) aK
 |byt i =>
  obtain⟨t,rfl⟩:=rx;cases y with
  |byt j=>obtain⟨t',rfl⟩:=ry;exact W.ne_bytes (qk I q (congrArg not J4))
  |_=>exact absurd (show false=true from hs) aK
 |_=>cases y <;> exact absurd (show false=true from hs) aK
theorem SZ:DU X (kJ .Lt) (Lq λi j=>.bl (decide (i<j))):=Uc λ_ _ _ _ _ _ _ q=>lt_int q
theorem C8:DU X (kJ .Gt) (Lq λi j=>.bl (decide (j<i))):=Uc λ_ _ _ _ _ _ _ q=>gt_int q
theorem V9:DU X (kJ .GtE) (Lq λi j=>.bl (decide (j<=i))):=Uc λ_ _ _ _ _ _ _ q=>ge_int q
theorem rm(b:Expr) {op:CmpOp}(h:op ≠ .In:=by decide) (h2:op ≠ .NotIn:=by decide):lS op b=false:=by
 have e1:(op == CmpOp.In)=false:=by cases op <;> first|rfl|exact absurd rfl h
 have e2:(op == CmpOp.NotIn)=false:=by cases op <;> first|rfl|exact absurd rfl h2
 cases b <;> simp[lS,e1,e2]
theorem B9{op:CmpOp}{r:R2}(ho:DU X (kJ op) r) (ha:PE X a ta) (hb:PE X b tb) (hm:lS op b=false):PE X (.Compare a [op] [b] pos) (Qs r ta tb):=by
 intro ou s σ H Q I h;exact wpAny_Compare1 (U6 ha hb I h λv u s2 x y H2 I2 rx ry q=>ho ou s2 σ H2 x y v u Q I2 rx ry q) hm
def Tq(t:TE):TT:=λσ H Q=>t σ H λx H'=>∃k,x = .bl k/\Q k H'
theorem qI{op:CmpOp}{r:R2}(ho:DU X (kJ op) r) (ha:PE X a ta) (hb:PE X b tb) (hm:lS op b=false):PT X (.Compare a [op] [b] pos) (Tq (Qs r ta tb)):=by
 intro ou s σ H Q I h;refine mU (thn (ha ou s σ H _ I h) λv s1 ⟨x,H1,I1,r1,q1⟩=>thn (hb ou s1 σ H1 _ I1 q1) λu s2 ⟨y,H2,I2,r2,q2⟩ =>
  thn (ho ou s2 σ H2 x y v u _ I2 r1 r2 q2) λc s3 ⟨z,H3,I3,r3,k,e,q3⟩=>?_) hm
 subst e;cases r3;exact kH ⟨H3,I3,q3⟩
theorem Pd:(ke:Nat)<2 ^ 63:=by rw[kO];decide
theorem yO{x:V}{us:List Value}(r:pY [x] us):∃u,us=[u]/\qp x u:=by
 cases r with
 |cons r1 r2=>cases r2;exact⟨_,rfl,r1⟩
theorem SV{x y:V}{us:List Value}(r:pY [x,y] us):∃u w',us=[u,w']/\qp x u/\qp y w':=by
 cases r with
 |cons r1 r2 =>
  cases r2 with
  |cons r3 r4=>cases r4;exact⟨_,_,rfl,r1,r3⟩
theorem Hn:yw X (.builtin "abs") (λxs H Q=>∃i,xs=[.int i]/\Q (.int (if i<0 then -i else i)) H):=by
 intro ou s σ H xs us Q I r h;obtain⟨i,rfl,q⟩:=h;obtain⟨u,rfl,t,rfl⟩:=yO r;exact call_abs_int λu tk=>⟨.int (if i<0 then -i else i),H,I.tok _,⟨_,rfl⟩,q⟩
def Wk(K:W.Frag) (x:V) (H:Hp) (n:Nat):Prop :=
 match x with
 | .str y=>y.length<=ke/\n=y.length
 | .byt y=>y.size<=ke/\n=y.size
 | .ref p=>(∃xs,sS K H p xs/\n=xs.length)∨∃xs,Jo K H p xs/\n=xs.length
 |_=>False
theorem qe:yw X (.builtin "len") (λxs H Q=>∃x n,xs=[x]/\Wk X.K x H n/\Q (.int n) H):=by
 intro ou s σ H xs us Q I r h;obtain⟨x,n,rfl,e,q⟩:=h;obtain⟨u,rfl,rx⟩:=yO r;have hl:=Pd;have hs:ke=16777216:=kO;cases x with
 |str y =>
  obtain⟨t,rfl⟩:=rx;obtain⟨hy,e'⟩:y.length<=ke/\n=y.length:=e;subst e';exact len_str (by lia) ⟨.int _,H,I.tok _,⟨_,rfl⟩,q⟩
 |byt y =>
  obtain⟨t,rfl⟩:=rx;obtain⟨hy,e'⟩:y.size<=ke/\n=y.size:=e;subst e';exact W.len_bytes (by lia) ⟨.int _,H,I.tok _,⟨_,rfl⟩,q⟩
 |ref p =>
  cases rx;have e':(∃xs,sS X.K H p xs/\n=xs.length)∨∃xs,Jo X.K H p xs/\n=xs.length:=e;rcases e' with ⟨xs,hx,e'⟩|⟨xs,hx,e'⟩
  .subst e';obtain⟨its,r',pl,hz⟩:=I.list hx;have hlen:=r'.length;exact Calls.call_len_list pl.isList (by simp only[aG];lia) ⟨.int xs.length,H,I.tok _,⟨_,by simp only[aG];rw[hlen]⟩,q⟩
  .subst e';obtain⟨its,r',pl,hz⟩:=I.tuple hx;have hlen:=r'.length;exact len_tuple pl (by simp only[aG];lia) ⟨.int xs.length,H,I.tok _,⟨_,by simp only[aG];rw[hlen]⟩,q⟩
 |_=>exact(show False from e).elim
end
theorem An.some_of{v:V}{o:Option Value}(r:An (some v) o):∃u,o=some u/\qp v u:=by
 cases o with
 |none=>exact(show False from r).elim
 |some u=>exact⟨u,rfl,r⟩
theorem An.none_of{o:Option Value}(r:An none o):o=none:=by
 cases o with
 |none=>rfl
 |some u=>exact(show False from r).elim
structure xj (k:Nat) (A:Around):Prop where
 hd:A.handled=none
 dp:A.depth+3*k+5<recursionLimit
 un:A.units+16*k+200<lF
theorem xj.mono{j k:Nat}{A:Around}(r:xj k A) (h:j<=k):xj j A:=⟨r.hd,by have:=r.dp;lia,by have:=r.un;lia⟩
theorem xj.deeper{k:Nat}{A:Around}(r:xj (k+1) A) (env:Env):xj k (A.deeper env) :=
 ⟨r.hd,by have:=r.dp;show A.depth+1+3*k+5<_;lia,by have:=r.un;show A.units+3+16*k+200<_;lia⟩
theorem xj.depth{k:Nat}{A:Around}(r:xj k A):A.depth<recursionLimit:=by have:=r.dp;lia
theorem xj.units{k:Nat}{A:Around}(r:xj k A):A.units+64<lF:=by have:=r.un;lia
def wV:TA:=λ_ H Q=>Q [] H
def um(ta:TE) (tr:TA):TA:=λσ H Q=>ta σ H λx H1=>tr σ H1 λxs H2=>Q (x::xs) H2
section
variable {X:Cx}{e:Expr}{es:List Expr}{te:TE}{t:TA}{pos:Pos}
theorem oA:PA X [] wV:=λ_ _ _ _ H Q I h=>Calls.spliced_nil ⟨[],H,I,.nil,h⟩
theorem ox(ha:PE X e te) (hr:PA X es t) (hs:ko (e::es) X.env=(false,eval e X.env)::ko es X.env:=by rfl):PA X (e::es) (um te t):=by
 intro pos ou s σ H Q I h;rw[hs];show kc _ _ (spliced ((false,eval e X.env)::kZ pos (ko es X.env))) _ _ s;refine Calls.spliced_cons (thn (ha ou s σ H _ I h) λu s1 ⟨x,H1,I1,r1,q1⟩=>?_)
 exact thn (hr pos ou s1 σ H1 _ I1 q1) λus s2 ⟨xs,H2,I2,r2,q2⟩=>⟨x::xs,H2,I2,.cons r1 r2,q2⟩
def UC(t:TA):TE:=λσ H Q=>t σ H λxs H1=>xs.length<=ke/\∀p,H1 p=none->Q (.ref p) (qP H1 p (.lst xs))
theorem rZ(h:PA X es t):PE X (.List es pos) (UC t):=by
 intro ou s σ H Q I hq;refine wpAny_List_spliced (thn (h pos ou s σ H _ I hq) λus s1 ⟨xs,H1,I1,r,z,q⟩=>⟨by rw[←r.length];exact z,?_⟩)
 have hf:H1 s1.heap.objs.size=none:=I1.hok.fresh (af _);refine⟨.ref s1.heap.objs.size,qP H1 s1.heap.objs.size (.lst xs),I1.laid (t':=s1.toks) (λb u e=>ak _ e) (af _) ?_,rfl,q _ hf⟩
 exact⟨z,us,0,r,aX _ rfl⟩
end
abbrev Sp:=List V->Hp->VK->XK->Prop
abbrev N6:=List Env->Hp->Shared->XK->Value->Shared->Prop
structure Sr (P:kf) (w:ki) (K:W.Frag) (mg:Str->Option Value) (base:Heap) (A:Around) (outer:List Env) (s:Shared) (H:Hp):Prop where
 frames:A.frames=some outer
 mod:Mod K mg base
 bs:∀b o,base.get? b=some o->s.heap.get? b=some o/\H b=none
 bsz:base.objs.size<=s.heap.objs.size
 funs:s.heap.FunFrames base outer
 frf:∀b∈PP outer,H b=none
 hok:Ac P w H s.heap
 bare:lW s.gens
def CE(outer:List Env) (P:kf) (w:ki) (H:Hp) (s:Shared) (Q:VK) (u:Value) (s':Shared):Prop :=
 ∃v H',s'.os=s.os/\lW s'.gens/\Un (PP outer) [] H H' s.heap s'.heap/\Ac P w H' s'.heap/\qp v u/\Q v H'
def CR(CX:N6) (outer:List Env) (P:kf) (w:ki) (H:Hp) (s:Shared) (Q:VK) (E:XK) (r:Result) (s':Shared):Prop :=
 match r with
 | .ok (.ret u)=>CE outer P w H s Q u s'
 | .ok _=>False
 | .error e=>CX outer H s E e s'
structure BS (P:kf) (w:ki) (K:W.Frag) (mg:Str->Option Value) (base:Heap) (CX:N6) (k:Nat) (f:Addr) (fd:kA) (ps:List Str) (sp:Sp):Prop where
 len:∀vs H Q E,sp vs H Q E->vs.length=ps.length
 run:∀(A:Around) (outer:List Env) (s:Shared) (H:Hp) (args:Args) (us:List Value) (vs:List V) (Q:VK) (E:XK),xj k A->Sr P w K mg base A outer s H->mZ s fd args (ps.zip us)->pY vs us->sp vs H Q E ->
  lD (jY P w) A (.call (.ref f) args) (CR CX outer P w H s Q E) s
theorem BS.imp{P:kf}{w:ki}{K:W.Frag}{mg:Str->Option Value}{base:Heap}{CX:N6}{k:Nat}{f:Addr}{fd:kA}{ps:List Str}{sp sp':Sp}(F:BS P w K mg base CX k f fd ps sp)
  (h:∀vs H Q E,sp' vs H Q E->sp vs H Q E):BS P w K mg base CX k f fd ps sp' :=
 ⟨λvs H Q E q=>F.len vs H Q E (h _ _ _ _ q),λA outer s H args us vs Q E hr he hb hv hs=>F.run A outer s H args us vs Q E hr he hb hv (h _ _ _ _ hs)⟩
section
variable {X:Cx}{ou:List (Addr×Obj)}{σ:St}{H:Hp}{s s':Shared}
theorem Inv.env0(I:Inv X ou σ H s):Sr X.prog X.w X.K X.mg X.base X.A X.stack s H :=
 ⟨I.ok.frames,I.ok.mod,I.bs,bY I.ok.bsz I.sz,I.stack,I.stkFree,I.hok,I.bare⟩
theorem Inv.after{Q:VK}{u:Value}(I:Inv X ou σ H s) (h:CE X.stack X.prog X.w H s Q u s'):EP X ou σ Q u s':=by
 obtain⟨v,H',os,bare,un,hok,r,q⟩:=h;obtain⟨hh,g,d,t,os'⟩:=s';obtain rfl:os'=s.os:=os;exact⟨v,H',I.call (h':=hh) (g':=g) (d':=d) (t':=t) (ch:=[]) un hok bare (λb z=>absurd z (by simp)),r,q⟩
end
def Kf(sp:Sp) (dvs:List V) (E:XK) (t:TA):TE:=λσ H Q=>t σ H λvs H1=>sp (vs++dvs) H1 Q E
def zp(K:W.Frag) (fd:kA) (ps:List Str) (ds:List Value):Prop :=
 ∀(s:Shared) (us:List Value),K.In s.heap->(us++ds).length=ps.length->mZ s fd ⟨us,[]⟩ (ps.zip (us++ds))
theorem zp.all{K:W.Frag}{fd:kA}{ps:List Str}(h:∀us:List Value,us.length=ps.length->bindArgs fd ⟨us,[]⟩=pure (ps.zip us)):zp K fd ps []:=λs us _ hl=>by
 rw[aNq]at hl ⊢;exact .of_eq (h us hl)
def Jb(CX:N6) (X:Cx) (E:XK):Prop:=∀(ou:List (Addr×Obj)) (σ:St) (H:Hp) (s:Shared) (e:Value) (s':Shared),Inv X ou σ H s->CX X.stack H s E e s'->X.xe e s'
section
variable {X:Cx}{CX:N6}{k:Nat}{f C:Addr}{fd:kA}{ps:List Str}{sp:Sp}{dvs:List V}{ds:List Value}{E:XK}{x m:Str}{p pos apos:Pos}{e o:Expr}{es:List Expr}{ta:TE}{t:TA}
theorem Ug{ou:List (Addr×Obj)}{σ:St}{H:Hp}{s:Shared}{Q:VK}{us:List Value}{vs:List V}(F:BS X.prog X.w X.K X.mg X.base CX k f fd ps sp) (hr:xj k X.A) (hb:zp X.K fd ps ds) (hd:pY dvs ds) (hx:Jb CX X E)
  (I:Inv X ou σ H s) (r:pY vs us) (h:sp (vs++dvs) H Q E):kc (jY X.prog X.w) X.A (call (.ref f) us) (EP X ou σ Q) X.xe s:=by
 have r2:pY (vs++dvs) (us++ds):=r.append hd;have hl:(us++ds).length=ps.length:=by rw[←r2.length];exact F.len _ _ _ _ h
 refine wpAny_call (mi (F.run X.A X.stack s H ⟨us,[]⟩ (us++ds) (vs++dvs) Q E hr I.env0 (hb s us I.kIn hl) r2 h) λr s' hq=>?_)
 cases r with
 |error e=>exact hx ou σ H s e s' I hq
 |ok fl =>
  cases fl with
  |ret u=>exact I.after hq
  |next=>exact False.elim hq
  |brk=>exact False.elim hq
  |cont=>exact False.elim hq
theorem Sb(F:BS X.prog X.w X.K X.mg X.base CX k f fd ps sp) (hr:xj k X.A) (hg:Gl X x) (hm:X.mg x=some (.ref f)) (hk:W.keepIn X.K (.ref f)=true) (hb:zp X.K fd ps ds) (hd:pY dvs ds) (hx:Jb CX X E)
  (ha:PA X (e::es) t) (hdb:(x == ("__debug__" : Str))=false:=by decide) (he:ko (e::es) X.env=(false,eval e X.env)::ko es X.env:=by rfl) (hpl:(kZ pos (ko es X.env)).any (·.1)=false:=by rfl) :
  PE X (.Call (.Name x p) (e::es) [] pos) (Kf sp dvs E t):=by
 intro ou s σ H Q I h;refine kR (QX I hg hm ?_ hdb);refine W.callWith_K (h₀:=X.base) I.ok.mod.kin hk (thn (ha pos ou s σ H _ I h) λus s1 ⟨vs,H1,I1,r,q⟩=>⟨I1.kIn,?_⟩) he hpl
 exact Ug F hr hb hd hx I1 r q
end
structure qm (N P:List Str) (sc:lH):Prop where
 kind:sc.kind = .function
 co:sc.isCoroutine=false
 gen:sc.isGenerator=false
 nd:N.Nodup
 pre:N.take P.length=P
 par:∀x∈P,sc.names.lookup x=some .local∨sc.names.lookup x=some .cell
 nofree:∀y∈sc.names,y.2 ≠ .free
theorem El{kindOf:Str->Option NameKind}{x:Str}:∀{binds:List (Str×Value)}{m:Str->Option Value},(∀v,(x,v)∉binds)->bindL kindOf binds m x=m x
 | [],_,_=>rfl
 | (n,v)::r,m,h=>by
  unfold bindL;rw[El λw hw=>h w (mCo _ hw)]
  split
  .have:x≠n:=by rintro rfl;exact h v ag
   simp[this]
  .rfl
theorem Em{kindOf:Str->Option NameKind}{x:Str}:∀{binds:List (Str×Value)}{m:Str->Option Value},(∀v,(x,v)∉binds)->bindC kindOf binds m x=m x
 | [],_,_=>rfl
 | (n,v)::r,m,h=>by
  unfold bindC;rw[Em λw hw=>h w (mCo _ hw)]
  split
  .rfl
  .have:x≠n:=by rintro rfl;exact h v ag
   simp[this]
theorem Ee{kindOf:Str->Option NameKind}{x:Str}{v:Value}:∀{P:List Str}{vs:List Value}{i:Nat}{m:Str->Option Value},P.Nodup->P[i]?=some x->vs[i]?=some v->kindOf x=some .local ->
  bindL kindOf (P.zip vs) m x=some v
 | [],_,_,_,_,h,_,_=>by simp at h
 |_::_,[],_,_,_,_,h,_=>by simp at h
 |p::P,w::vs,0,m,nd,h1,h2,hk=>by
  simp at h1 h2;subst h1;subst h2;show bindL kindOf ((p,w)::P.zip vs) m p=_;unfold bindL;rw[El λv hv=>(aq.mp nd).1 (iB hv).1,pN hk]
  simp
 |p::P,w::vs,i+1,m,nd,h1,h2,hk=>by
  show bindL kindOf ((p,w)::P.zip vs) m x=_;unfold bindL;exact Ee (i:=i) (aq.mp nd).2 (by simpa using h1) (by simpa using h2) hk
theorem Eh{kindOf:Str->Option NameKind}{x:Str}{v:Value}:∀{P:List Str}{vs:List Value}{i:Nat}{m:Str->Option Value},P.Nodup->P[i]?=some x->vs[i]?=some v->kindOf x≠some .local ->
  bindC kindOf (P.zip vs) m x=some v
 | [],_,_,_,_,h,_,_=>by simp at h
 |_::_,[],_,_,_,_,h,_=>by simp at h
 |p::P,w::vs,0,m,nd,h1,h2,hk=>by
  simp at h1 h2;subst h1;subst h2;show bindC kindOf ((p,w)::P.zip vs) m p=_;unfold bindC;rw[Em λv hv=>(aq.mp nd).1 (iB hv).1,pJ hk]
  simp
 |p::P,w::vs,i+1,m,nd,h1,h2,hk=>by
  show bindC kindOf ((p,w)::P.zip vs) m x=_;unfold bindC;exact Eh (i:=i) (aq.mp nd).2 (by simpa using h1) (by simpa using h2) hk
def yn(N:List Str) (vs:List V):St:=vs.map some++aB (N.length-vs.length) none
def Mc(CX:N6) (P:kf) (w:ki) (K:W.Frag) (mg:Str->Option Value) (base:Heap) (N:List Str) (qual:Str) (scope:lH) (f:Addr) (cd:Value) (A:Around) (outer:List Env) (s:Shared) (H:Hp) (E:XK):Cx where
 prog:=P
 w:=w
 K:=K
 mg:=mg
 base:=base
 A:=A.deeper (mz qual scope s.heap.objs.size f cd)
 N:=N
 s₀:=s
 H₀:=H
 env:=mz qual scope s.heap.objs.size f cd
 outer:=outer
 stack:=mz qual scope s.heap.objs.size f cd::outer
 ex:=[]
 calm:=true
 fn:=λ_=>true
 pn:=[]
 xe:=λe s'=>kc (jY P w) (A.deeper (mz qual scope s.heap.objs.size f cd)) (leaving (mz qual scope s.heap.objs.size f cd) e) (λ_ s''=>CX outer H s E e s'') (λe' s''=>CX outer H s E e' s'') s'
theorem FW{sc:lH}{n:Nat}{x:Str}(h:sc.names.lookup x=some .cell):∃c,(cellsFrom n sc.names []).lookup x=some c:=by
 have q:=W.cellsFrom_some sc.names n [] (.inl h);exact Option.isSome_iff_exists.mp q
theorem KH{CX:N6}{P:kf}{w:ki}{K:W.Frag}{mg:Str->Option Value}{base:Heap}{N ps:List Str}{qual:Str}{scope:lH}{f:Addr}{cd:Value}{A:Around}{outer:List Env}{s s1:Shared}{H:Hp}{E:XK}{us:List Value}{vs:List V}
  (S:qm N ps scope) (hd:A.handled=none) (e0:Sr P w K mg base A outer s H) (hl:vs.length=ps.length) (r:pY vs us)
  (x:InCallC s s.heap.objs.size (bindL (mz qual scope s.heap.objs.size f cd).kindOf (ps.zip us) λ_=>none) (cellsFrom (s.heap.objs.size+1) scope.names []) (bindC (mz qual scope s.heap.objs.size f cd).kindOf (ps.zip us) λ_=>none) s1) :
  Inv (Mc CX P w K mg base N qual scope f cd A outer s H E) [] (yn N vs) H s1:=by
 have hpl:ps.length<=N.length:=by have:=congrArg cm S.pre;rw[lTq]at this;lia
 obtain⟨h1,tk,rfl,hk⟩:=x.done;have noA:∀b:Addr,b∉(Mc CX P w K mg base N qual scope f cd A outer s H E).ex:=λb z=>absurd (show b∈([]:List Addr) from z) (by simp)
 refine⟨⟨e0.mod,S.kind,rfl,rfl,af _,λy z c h1 h2=>?_,λy hy=>?_,λy c _ h=>?_,λ_=>hd,Around.frames_deeper e0.frames,.inr ⟨rfl,rfl⟩,λb z=>absurd z (noA b),e0.bs,e0.bsz,λb _ _=>noA b,λb z=>absurd z (noA b),e0.funs,e0.frf⟩,
  rfl,e0.bare,Un.kept hk,⟨_,x.toInCall.ns,λi y v h1 h2 h3=>?_⟩,λy c h=>⟨_,x.cell y c h⟩,e0.hok.fresh (af _),λy c h=>?_,λp hp=>absurd (show p∈([]:List (Addr×Obj)) from hp) (by simp),e0.hok.kept hk,?_⟩
 .exact name_of_addr x.apart (PySem.mem_of_lookup h1) (PySem.mem_of_lookup h2)
 .have hy:scope.names.lookup y=some .cell∨scope.names.lookup y=some .free:=hy;rcases hy with hy|hy
  .exact FW hy
  .exact absurd rfl (S.nofree _ (PySem.mem_of_lookup hy))
 .exact cS (x.above y c (PySem.mem_of_lookup h))
 .have hi:i<vs.length:=by
   unfold yn at h2
   by_cases hi:i<vs.length
   .exact hi
   .rw [gYq (by simpa using hi)]at h2
    rw[dA]at h2;split at h2 <;> cases h2
  have ha:vs[i]?=some v:=by
   unfold yn at h2;rw[gZq (by simpa using hi),gMq]at h2
   cases e:vs[i]? with
   |none=>rw[e]at h2;cases h2
   |some a=>rw[e]at h2;cases h2;rfl
  obtain⟨u,hu,rv⟩:=r.get ha;have hp:ps[i]?=some y:=by
   rw[←S.pre,eF (by lia)];exact h1
  have ndP:ps.Nodup:=by rw[←S.pre];exact S.nd.sublist (bC _ _)
  refine⟨u,rv,?_⟩;rcases S.par y (mGq hp) with k|k
  .exact .inl ⟨k,Ee ndP hp hu k⟩
  .obtain ⟨c,e⟩:=FW (n:=s.heap.objs.size+1) k;refine .inr ⟨.inl k,c,e,?_⟩;have q:=x.cell y c e;rw[Eh ndP hp hu (by show scope.names.lookup y≠_;rw[k];decide)]at q
   exact q
 .exact e0.hok.fresh (cS (x.above y c (PySem.mem_of_lookup h)))
 .unfold yn;show _=N.length;rw[lAq,lMq,cE];lia
theorem WJ{CX:N6}{P:kf}{w:ki}{K:W.Frag}{mg:Str->Option Value}{base:Heap}{k:Nat}{f:Addr}{name qual:Str}{params:Arguments}{body:List Stmt}{scope:lH}{dV kV doc pm ve ct oc:Value}{an od:Option Addr}
  {osl:Array (Option Value)}{N ps:List Str}{sp:Sp}(lk:K.lookup f=some ⟨oc,od,.func (W.fnOf name qual params body scope dV kV doc pm an ve ct),osl⟩) (hcd:W.codeIn K ve qual=true) (S:qm N ps scope)
  (len:∀vs H Q E,sp vs H Q E->vs.length=ps.length)
  (hbody:∀(A:Around) (outer:List Env) (s:Shared) (H:Hp) (vs:List V) (Q:VK) (E:XK),xj k (A.deeper (mz qual scope s.heap.objs.size f ve))->sp vs H Q E ->
   ∃t,Lf (Mc CX P w K mg base N qual scope f ve A outer s H E) body t/\t { nx:=λ_ H'=>Q .non H',rt:=Q } (yn N vs) H) :
  BS P w K mg base CX (k+1) f (W.fnOf name qual params body scope dV kV doc pm an ve ct) ps sp:=by
 refine⟨len,λA outer s H args us vs Q E hr e0 hb r hsp=>?_⟩
 have hl:=len _ _ _ _ hsp;have KX:K.In s.heap:=e0.mod.kin.keeps λb o e=>(e0.bs b o e).1
 have lim:s.heap.NoLimit:=e0.mod.nolimit.keeps λb o e=>(e0.bs b o e).1
 have hkind:∀y∈ps.zip us,scope.names.lookup y.1=some .local∨(scope.names.lookup y.1=some .cell/\((cellsFrom (s.heap.objs.size+1) scope.names []).lookup y.1).isSome=true):=λ⟨n,v⟩ hy=>by
  rcases S.par n (iB hy).1 with q|q
  .exact .inl q
  .exact .inr ⟨q,W.cellsFrom_some _ _ _ (.inl q)⟩
 refine codeAny_call_function hr.depth (KX _ _ lk) rfl S.co S.gen rfl (W.codeRec_of KX hcd) (hb _ _ _ _ ?_);refine wpAny_newFunctionEnv_cells S.kind hkind λenv he s1 x=>?_
 subst he;refine⟨lim.keeps x.toInCall.keep,codeAny_func ?_⟩;obtain⟨t,ht,hq⟩:=hbody A outer s H vs Q E (hr.deeper _) hsp;have I:Inv (Mc CX P w K mg base N qual scope f ve A outer s H E) [] (yn N vs) H s1:=KH S hr.hd e0 hl r x;refine kx (ht [] s1 (yn N vs) H _ I hq) (λfl s' hs=>?_) λe s' hs=>hs
 have fin:∀{σ':St}{H':Hp}{v:V}{u:Value},Inv (Mc CX P w K mg base N qual scope f ve A outer s H E) [] σ' H' s'->qp v u->Q v H'->CE outer P w H s Q u s' :=
  λ{σ' H' v u} J rv q=>⟨v,H',J.os,J.bare,J.base,J.hok,rv,q⟩
 cases fl with
 |ret u =>
  obtain⟨v,σ',H',J,rv,q⟩:=hs;exact fin J rv q
 |next =>
  obtain⟨σ',H',J,q⟩:=hs;exact fin (v:=V.non) (u:=iU) J rfl q
 |brk =>
  obtain⟨_,_,_,q⟩:=hs;exact False.elim q
 |cont =>
  obtain⟨_,_,_,q⟩:=hs;exact False.elim q
section
variable {X:Cx}{x:Str}{p pos:Pos}{e:Expr}{es:List Expr}{t:TA}{id T:String}{r:List V->Hp->VK->Prop}
def Mj(r:List V->Hp->VK->Prop) (t:TA):TE:=λσ H Q=>t σ H λvs H1=>r vs H1 Q
theorem oY(hc:yw X (.builtin id) r) (hg:Gl X x) (hm:X.mg x=none) (hv:ly x=some (.builtin id)) (ha:PA X (e::es) t) (hn:x ≠ "__name__" := by decide) (hdb:(x == ("__debug__" : Str))=false:=by decide)
  (he:ko (e::es) X.env=(false,eval e X.env)::ko es X.env:=by rfl) (hpl:(kZ pos (ko es X.env)).any (·.1)=false:=by rfl):PE X (.Call (.Name x p) (e::es) [] pos) (Mj r t):=by
 intro ou s σ H Q I h;refine kR (yj I hg hm hv ?_ hn hdb);exact gu (thn (ha pos ou s σ H _ I h) λus s1 ⟨vs,H1,I1,r1,q1⟩=>hc ou s1 σ H1 vs us Q I1 r1 q1) he hpl
theorem Bo(hc:yw X (.type T) r) (hg:Gl X x) (hm:X.mg x=none) (hv:ly x=some (.type T)) (ha:PA X (e::es) t) (hn:x ≠ "__name__" := by decide) (hdb:(x == ("__debug__" : Str))=false:=by decide)
  (he:ko (e::es) X.env=(false,eval e X.env)::ko es X.env:=by rfl) (hpl:(kZ pos (ko es X.env)).any (·.1)=false:=by rfl):PE X (.Call (.Name x p) (e::es) [] pos) (Mj r t):=by
 intro ou s σ H Q I h;refine kR (yj I hg hm hv ?_ hn hdb);exact bX (thn (ha pos ou s σ H _ I h) λus s1 ⟨vs,H1,I1,r1,q1⟩=>hc ou s1 σ H1 vs us Q I1 r1 q1) he hpl
end
end L2
namespace HT
open PySem PyProof.Rows
def tq:List Int->List Int->Bool
 | [],[]=>false
 | [],_::_=>true
 |_::_,[]=>false
 |x::xs,y::ys=>if x=y then tq xs ys else decide (x<y)
theorem xR(x y:Int) (xs ys:List Int):tq (x::xs) (y::ys)=if x=y then tq xs ys else decide (x<y):=rfl
theorem D3:tq [] []=false:=rfl
theorem CO(y:Int) (ys:List Int):tq [] (y::ys)=true:=rfl
theorem Dp(x:Int) (xs:List Int):tq (x::xs) []=false:=rfl
theorem NX(A:Around) (s:Shared) (a:Int) (t:Tok) (c:Int) (u:Tok):∃e,SeqAt.EqAt A s (.int a t) (.int c u) e/\(e=true↔a=c) :=
 ⟨(a == c),SeqAt.EqAt.int_int a t c u,by simp⟩
theorem Pg(A:Around) (s:Shared) (a:Int) (t:Tok) (c:Int) (u:Tok) (prog:kf) (w:ki) (E:Value->Shared->Prop) (Q:Value->Shared->Prop) (h:Q (.bool (decide (a<c))) s) :
  kc (jY prog w) A (richCompare .Lt (.int a t) (.int c u)) Q E s :=
 (jT h:kc (jY prog w) A (kJ .Lt (.int a t) (.int c u)) Q E s)
section
open PySem.SeqAt
open PySem.AutoSeq1 (wpAny_loadPart')
open PySem.MeetsSeq PySem.MeetsSeq2 PySem.MeetsSeq3
end
section
variable {prog:kf}{w:ki}{A:Around}{E:Value->Shared->Prop}{s:Shared}
def DS(n d:Nat):Option Int->Nat
 |none=>d
 |some v=>if v<0 then (v+(n:Int)).toNat else min v.toNat n
theorem FJ(n d:Nat):DS n d none=d:=rfl
theorem Cp(n d k:Nat):DS n d (some (k:Int))=min k n:=by
 show (if (k:Int)<0 then ((k:Int)+(n:Int)).toNat else min (k:Int).toNat n)=min k n
 rw[pJ (by lia),dq]
end
end HT
namespace L2
open PySem PySem.Spec PyProof.Rows
abbrev TO:=St->Hp->(Option Int->Hp->Prop)->Prop
def PO(X:Cx) (e:Option Expr) (t:TO):Prop :=
 ∀(ou:List (Addr×Obj)) (s:Shared) (σ:St) (H:Hp) (Q:Option Int->Hp->Prop),Inv X ou σ H s->t σ H Q ->
  kc (jY X.prog X.w) X.A (evalPart e X.env) (λu s'=>∃o H',Inv X ou σ H' s'/\IsPart u o/\Q o H') X.xe s
def Kq:TO:=λ_ H Q=>Q none H
def Tg(t:TE):TO:=λσ H Q=>t σ H λx H1=>∃i,x = .int i/\Q (some i) H1
theorem zW{ns:List Int}:∀{us:List Value},pY (ns.map V.int) us->kz us ns:=by
 induction ns with
 |nil=>intro us r;rw[fB]at r;cases r;exact .nil
 |cons n ns ih =>
  intro us r;rw[au]at r;cases r with
  |cons r1 r2 =>
   obtain⟨t,e⟩:=r1;subst e;exact .cons n t (ih r2)
section
variable {X:Cx}{e:Expr}{te:TE}{lo hi:Option Expr}{tl th:TO}{pos p2:Pos}
theorem EU:PO X none Kq:=by
 intro ou s σ H Q I h;rw[evalPart_none];exact jX ⟨none,H,I,.none,h⟩
theorem AM(h:PE X e te):PO X (some e) (Tg te):=by
 intro ou s σ H Q I hw;rw[evalPart_some];refine thn (h ou s σ H _ I hw) λu s1 ⟨x,H1,I1,r1,q1⟩=>?_
 obtain⟨i,rfl,q⟩:=q1;obtain⟨t,rfl⟩:=r1;exact⟨some i,H1,I1,.int i t,q⟩
def YK(X:Cx) (r:V->Option Int->Option Int->Hp->VK->Prop):Prop :=
 ∀(ou:List (Addr×Obj)) (s:Shared) (σ:St) (H:Hp) (x:V) (v vl vu:Value) (lo hi:Option Int) (sl:Addr) (Q:VK),Inv X ou σ H s->qp x v->s.heap.IsSliceOf sl vl vu .none->IsPart vl lo->IsPart vu hi->r x lo hi H Q ->
  ∃T id,ni (.type T) "__getitem__" = pure (some (.builtin id))/\s.TypeIs v T/\kc (jY X.prog X.w) X.A (mY v (.ref sl)) (EP X ou σ Q) X.xe s
def Za(r:V->Option Int->Option Int->Hp->VK->Prop) (te:TE) (tl th:TO):TE:=λσ H Q=>te σ H λx H1=>tl σ H1 λl H2=>th σ H2 λu H3=>r x l u H3 Q
theorem Am{r:V->Option Int->Option Int->Hp->VK->Prop}(hr:YK X r) (he:PE X e te) (hl:PO X lo tl) (hu:PO X hi th):PE X (.Subscript e (.Slice lo hi none p2) pos) (Za r te tl th):=by
 intro ou s σ H Q I h;refine Subscript_ (thn (he ou s σ H _ I h) λv s1 ⟨x,H1,I1,r1,q1⟩=>?_)
 refine wpAny_Slice (thn (hl ou s1 σ H1 _ I1 q1) λvl s2 ⟨l,H2,I2,pl,q2⟩=>thn (hu ou s2 σ H2 _ I2 q2) λvu s3 ⟨u,H3,I3,pu,q3⟩=>?_)
 rw[evalPart_none];refine jX ?_;have I4:Inv X ou σ H3 { s3 with heap:=s3.heap.push { cls:=.type "slice", data:=.fields #[vl,vu,.none] } }:=I3.kept (t':=s3.toks) λb ob q=>ak _ q
 obtain⟨T,id,hT,ht,hg⟩:=hr ou { s3 with heap:=s3.heap.push { cls:=.type "slice", data:=.fields #[vl,vu,.none] } } σ H3 x v vl vu l u s3.heap.objs.size Q I4 r1 (Heap.IsSliceOf.new ..) pl pu q3
 show kc (jY X.prog X.w) X.A (nt e (.Slice lo hi none p2) v (.ref s3.heap.objs.size)) (EP X ou σ Q) X.xe { s3 with heap:=s3.heap.push { cls:=.type "slice", data:=.fields #[vl,vu,.none] } }
 exact tail_any (ops:=[.ref s3.heap.objs.size,v]) ht hT hg (by with_unfolding_all rfl)
def HW(xs:List V) (lo hi:Option Int):List V:=(xs.drop (HT.DS xs.length 0 lo)).take (HT.DS xs.length xs.length hi-HT.DS xs.length 0 lo)
theorem FY(xs:List V) (lo hi:Option Int):(HW xs lo hi).length<=xs.length:=by
 unfold HW;rw[lTq,aR];lia
end
def GN(n:Nat) (i:Int):Option Nat:=if 0<=i then (if i<n then some i.toNat else none) else if -(n:Int)<=i then some (i+n).toNat else none
def atI{α:Type}(xs:List α) (i:Int):Option α:=(GN xs.length i).bind λj=>xs[j]?
theorem Js{n:Nat}{i:Int}{j:Nat}(h:GN n i=some j):nB i n=some j/\j<n/\-(n:Int)<=i/\i<n:=by
 unfold GN at h
 by_cases h0:0<=i
 .rw [pN h0]at h
  by_cases h1:i<n
  .rw [pN h1]at h;have e:i.toNat=j:=aD.inj h;exact⟨by rw[seqIndex_of h0 h1,e],by lia,by lia,h1⟩
  .rw [pJ h1]at h;cases h
 .rw [pJ h0]at h
  by_cases h1:-(n:Int)<=i
  .rw [pN h1]at h;have e:(i+n).toNat=j:=aD.inj h;exact⟨by rw[seqIndex_neg (by lia) h1,e],by lia,h1,by lia⟩
  .rw [pJ h1]at h;cases h
theorem QR{α:Type}{xs:List α}{i:Int}{v:α}(h:atI xs i=some v):∃j,nB i xs.length=some j/\xs[j]?=some v/\j<xs.length/\-(xs.length:Int)<=i/\i<xs.length:=by
 unfold atI at h;cases e:GN xs.length i with
 |none=>rw[e]at h;cases h
 |some j =>
  rw[e]at h;obtain⟨h1,h2,h3,h4⟩:=Js e;exact⟨j,h1,h,h2,h3,h4⟩
theorem xO{α:Type}{xs:List α}{j:Nat}{v:α}(h:xs[j]?=some v):atI xs (j:Int)=some v:=by
 have hj:j<xs.length:=(gSq.mp h).1;have e:GN xs.length (j:Int)=some j:=by
  unfold GN;rw[pN (by lia),pN (by lia)];simp
 unfold atI;rw[e];exact h
theorem Ov{α:Type}(xs:List α) (v:α):atI (xs++[v]) (-1)=some v:=by
 have hl:(xs++[v]).length=xs.length+1:=by simp
 have e:GN (xs++[v]).length (-1)=some xs.length:=by
  unfold GN;rw[hl,pJ (by decide),pN (by lia)]
  congr 1;lia
 unfold atI;rw[e];show (xs++[v])[xs.length]?=some v;simp
def Rm(b:Expr):Prop:=∀o i,mS b false o i=operate [o,i] (mY o i)
def YN(X:Cx) (r:R2):Prop :=
 ∀(value slice:Expr) (ou:List (Addr×Obj)) (s:Shared) (σ:St) (H:Hp) (x y:V) (v u:Value) (Q:VK),Inv X ou σ H s->qp x v->qp y u->r x y H Q ->
  mS slice false v u=operate [v,u] (mY v u)->kc (jY X.prog X.w) X.A (nt value slice v u) (EP X ou σ Q) X.xe s
def XC(X:Cx) (id:String) (r:V->List V->Hp->VK->Prop):Prop :=
 ∀(ou:List (Addr×Obj)) (s:Shared) (σ:St) (H:Hp) (x:V) (xs:List V) (v:Value) (us:List Value) (Q:VK),Inv X ou σ H s->qp x v->pY xs us->r x xs H Q ->
  kc (jY X.prog X.w) X.A (call (.builtin id) (v::us)) (EP X ou σ Q) X.xe s
section
variable {X:Cx}{a b:Expr}{ta tb:TE}{pos:Pos}
theorem vZ{r:R2}(hr:YN X r) (ha:PE X a ta) (hb:PE X b tb) (hs:Rm b):PE X (.Subscript a b pos) (Qs r ta tb):=by
 intro ou s σ H Q I h;exact Subscript_ (U6 ha hb I h λv u s2 x y H2 I2 rx ry q=>hr a b ou s2 σ H2 x y v u Q I2 rx ry q (hs _ _))
def RC(K:W.Frag):R2:=λx y H Q=>∃p xs i v,x = .ref p/\y = .int i/\sS K H p xs/\atI xs i=some v/\Q v H
theorem sv:YN X (RC X.K):=by
 intro value slice ou s σ H x y v u Q I rx ry h hs;obtain⟨p,xs,i,z,rfl,rfl,hq,he,q⟩:=h;cases rx;obtain⟨t,rfl⟩:=ry;obtain⟨its,r,pl,hz⟩:=I.list hq;obtain⟨j,h1,h2,h3,h4,h5⟩:=QR he;obtain⟨w,ew,rw'⟩:=r.get h2;have hl:=r.length;have hn:=Pd;have fin:EP X ou σ Q w s:=⟨z,H,I,rw',q⟩
 by_cases h0:0<=i
 .have hj:i.toNat=j:=by
   rw[seqIndex_of h0 h5]at h1;exact aD.inj h1
  exact item_listR pl.isList h0 (by lia) (by rw[hj];simpa using ew) fin hs
 .have hj:(i+(its.toArray.size:Int)).toNat=j:=by
   rw[seqIndex_neg (by lia) h4]at h1
   rw[aG,←hl];exact aD.inj h1
  exact subscriptTail_builtinR (x:=w) pl.isList.typeIs slot_list_getitem.lookup
   (wpAny_getItem_list_neg (Q:=λr s'=>r=w/\EP X ou σ Q r s') pl.isList (by lia) (by rw[aG] <;> lia) (by lia) (by rw[hj];simpa using ew) ⟨rfl,fin⟩) hs
theorem EV(lo hi:Option Int) (n:Nat):(lg lo hi none n).1=((HT.DS n 0 lo:Nat):Int)/\(lg lo hi none n).2.1=((HT.DS n n hi:Nat):Int)/\(lg lo hi none n).2.2=1:=by
 refine⟨?_,?_,rfl⟩
 .cases lo with
  |none=>simp[lg,HT.DS]
  |some i =>
   simp only[lg,HT.DS,jo,show (1:Int)>0 by decide,if_true]
   by_cases h:i<0
   .simp only [h,if_true] <;> lia
   .simp only [h,if_false] <;> lia
 .cases hi with
  |none=>simp[lg,HT.DS]
  |some i =>
   simp only[lg,HT.DS,jo,show (1:Int)>0 by decide,if_true]
   by_cases h:i<0
   .simp only [h,if_true] <;> lia
   .simp only [h,if_false] <;> lia
theorem DZ(its:List Value) (lo hi:Option Int):slicePick its.toArray lo hi none=((its.drop (HT.DS its.length 0 lo)).take (HT.DS its.length its.length hi-HT.DS its.length 0 lo)).toArray:=by
 obtain⟨h1,h2,h3⟩:=EV lo hi its.toArray.size;unfold slicePick;rw[h1,h2,h3];simp only[sliceRange_one,pick_run,aG] <;> rfl
def WG(K:W.Frag):V->Option Int->Option Int->Hp->VK->Prop:=λx lo hi H Q=>∃a xs,x = .ref a/\sS K H a xs/\∀p,H p=none->Q (.ref p) (qP H p (.lst (HW xs lo hi)))
theorem Cq:YK X (WG X.K):=by
 intro ou s σ H x v vl vu lo hi sl Q I rx hs pl pu h;obtain⟨a,xs,rfl,hx,q⟩:=h;cases rx;obtain⟨its,r,ht,hz⟩:=I.list hx;have hlen:=r.length;refine⟨"list", _,slot_list_getitem.lookup,ht.isList.typeIs,?_⟩;refine wpAny_getItem_list_slice ht.isList hs pl pu .none (by simp) ?_ (by rw[aG] <;> lia)
 rw[DZ,←hlen];refine⟨.ref s.heap.objs.size,_,I.laid (t':=s.toks) (o:=.lst (HW xs lo hi)) (λb ob q=>ak _ q) (af _) ?_,rfl,q _ (I.hok.fresh (af _))⟩
 exact⟨bY (FY xs lo hi) hz,_,0,(r.drop (HT.DS xs.length 0 lo)).take (HT.DS xs.length xs.length hi-HT.DS xs.length 0 lo),aX _ rfl⟩
def zB:V->Bool
 | .non=>true
 | .bl _=>true
 | .int _=>true
 | .str _=>true
 |_=>false
def S6:V->V->Bool
 | .non,.non=>true
 | .bl a,.bl b=>a == b
 | .bl a,.int b=>(if a then 1 else 0) == b
 | .int a,.bl b=>a == (if b then 1 else 0)
 | .int a,.int b=>a == b
 | .str a,.str b=>a == b
 |_,_=>false
theorem Ub{A:Around}{s:Shared}{y x:V}{u v:Value}(ry:qp y u) (rx:qp x v) (fy:zB y=true) (fx:zB x=true):SeqAt.EqAt A s u v (S6 y x):=by
 cases y with
 |non =>
  cases ry;cases x with
  |non=>cases rx;exact SeqAt.EqAt.same _
  |bl b=>cases rx;exact SeqAt.EqAt.none_bool b
  |int b=>obtain⟨t,rfl⟩:=rx;exact SeqAt.EqAt.none_int b t
  |str b=>obtain⟨t,rfl⟩:=rx;exact SeqAt.EqAt.none_str b t
  |_=>exact absurd (show false=true from fx) aK
 |bl a =>
  cases ry;cases x with
  |non=>cases rx;exact SeqAt.EqAt.bool_none a
  |bl b=>cases rx;exact SeqAt.EqAt.bool_bool a b
  |int b=>obtain⟨t,rfl⟩:=rx;exact SeqAt.EqAt.bool_int a b t
  |str b=>obtain⟨t,rfl⟩:=rx;exact SeqAt.EqAt.bool_str a b t
  |_=>exact absurd (show false=true from fx) aK
 |int a =>
  obtain⟨t',rfl⟩:=ry;cases x with
  |non=>cases rx;exact SeqAt.EqAt.int_none a t'
  |bl b=>cases rx;exact SeqAt.EqAt.int_bool a t' b
  |int b=>obtain⟨t,rfl⟩:=rx;exact SeqAt.EqAt.int_int a t' b t
  |str b=>obtain⟨t,rfl⟩:=rx;exact SeqAt.EqAt.int_str a t' b t
  |_=>exact absurd (show false=true from fx) aK
 |str a =>
  obtain⟨t',rfl⟩:=ry;cases x with
  |non=>cases rx;exact SeqAt.EqAt.str_none a t'
  |bl b=>cases rx;exact SeqAt.EqAt.str_bool a t' b
  |int b=>obtain⟨t,rfl⟩:=rx;exact SeqAt.EqAt.str_int a t' b t
  |str b=>obtain⟨t,rfl⟩:=rx;exact SeqAt.EqAt.str_str a t' b t
  |_=>exact absurd (show false=true from fx) aK
 |_=>exact absurd (show false=true from fy) aK
def Hz(x:V) (u:Value):Bool:=match u with
 | .none=>S6 .non x
 | .bool b=>S6 (.bl b) x
 | .int i _=>S6 (.int i) x
 | .str z _=>S6 (.str z) x
 |_=>false
theorem NB{x y:V}{u:Value}(r:qp y u) (f:zB y=true):Hz x u=S6 y x:=by
 cases y with
 |non=>cases r;rfl
 |bl b=>cases r;rfl
 |int i=>obtain⟨t,rfl⟩:=r;rfl
 |str z=>obtain⟨t,rfl⟩:=r;rfl
 |_=>exact absurd (show false=true from f) aK
theorem Af{x:V}:∀{xs:List V}{us:List Value},pY xs us->xs.all zB=true->us.any (Hz x)=xs.any λy=>S6 y x
 |_,_,.nil,_=>rfl
 |y::xs,u::us,.cons r t,f=>by
  rw[iV,fV]at f;rw[ee,ee,NB r f.1,Af t f.2]
theorem yN{A:Around}{s:Shared}{x:V}{v:Value}(rx:qp x v) (fx:zB x=true):∀{xs:List V}{us:List Value},pY xs us->xs.all zB=true->∀u∈us,SeqAt.EqAt A s u v (Hz x u)
 |_,_,.nil,_=>λu hu=>by cases hu
 |y::xs,u::us,.cons r t,f=>λu' hu=>by
  rw[iV,fV]at f;rcases ae.mp hu with rfl|hu
  .rw [NB r f.1];exact Ub r rx f.1 fx
  .exact yN rx fx t f.2 u' hu
def VJ(x:V) (xs:List V):Bool:=xs.any λy=>S6 y x
def Yh(K:W.Frag) (neg:Bool):R2:=λx y H Q=>∃p xs,y = .ref p/\(sS K H p xs∨Jo K H p xs)/\zB x=true/\xs.all zB=true/\Q (.bl (if neg then !VJ x xs else VJ x xs)) H
theorem LR:DU X (kJ .In) (Yh X.K false):=by
 intro ou s σ H x y v u Q I rx ry h;obtain⟨p,xs,rfl,hq,fx,fs,q⟩:=h;cases ry;rcases hq with hq|hq
 .obtain ⟨its,r,pl,hz⟩:=I.list hq;refine SeqAt.in_listAt (Hz x) pl.isList (λw hw=>yN rx fx r fs w (by simpa using hw)) ⟨.bl _,H,I,rfl,?_⟩
  rw[show its.toArray.any (Hz x)=its.any (Hz x) by simp,Af r fs]
  exact q
 .obtain ⟨its,r,pl,hz⟩:=I.tuple hq;refine SeqAt.in_tupleAt (Hz x) pl (λw hw=>yN rx fx r fs w (by simpa using hw)) ⟨.bl _,H,I,rfl,?_⟩
  rw[show its.toArray.any (Hz x)=its.any (Hz x) by simp,Af r fs]
  exact q
theorem E8:DU X (kJ .NotIn) (Yh X.K true):=by
 intro ou s σ H x y v u Q I rx ry h;obtain⟨p,xs,rfl,hq,fx,fs,q⟩:=h;cases ry;rcases hq with hq|hq
 .obtain ⟨its,r,pl,hz⟩:=I.list hq;refine SeqAt.notIn_listAt (Hz x) pl.isList (λw hw=>yN rx fx r fs w (by simpa using hw)) ⟨.bl _,H,I,rfl,?_⟩
  rw[show its.toArray.any (Hz x)=its.any (Hz x) by simp,Af r fs]
  exact q
 .obtain ⟨its,r,pl,hz⟩:=I.tuple hq;refine SeqAt.notIn_tupleAt (Hz x) pl (λw hw=>yN rx fx r fs w (by simpa using hw)) ⟨.bl _,H,I,rfl,?_⟩
  rw[show its.toArray.any (Hz x)=its.any (Hz x) by simp,Af r fs]
  exact q
theorem xU:yw X (.type "list") (λxs H Q=>∃p ys,xs=[.ref p]/\(sS X.K H p ys∨Jo X.K H p ys)/\∀l,H l=none->Q (.ref l) (qP H l (.lst ys))):=by
 intro ou s σ H xs us Q I r h;obtain⟨p,ys,rfl,hq,q⟩:=h;obtain⟨u,rfl,rx⟩:=yO r;cases rx;have fin:∀(its:List Value),pY ys its->ys.length<=ke->∀(h':Heap) (c':Nat),(∀b o',s.heap.get? b=some o'->h'.get? b=some o') ->
   h'.get? s.heap.objs.size=some { cls:=.type "list", dict:=none,data:=.seq its.toArray c',slots:=#[] }->EP X ou σ Q (.ref s.heap.objs.size) { s with heap:=h' }:=λits r' hz h' c' kp e =>
  ⟨.ref s.heap.objs.size,_,I.laid (t':=s.toks) kp (af _) (show qW X.prog X.w _ h' _ (.lst ys) from ⟨hz,its,c',r',e⟩),rfl,q _ (I.hok.fresh (af _))⟩
 rcases hq with hq|hq
 .obtain ⟨its,r',pl,hz⟩:=I.list hq;have hlen:=r'.length;obtain⟨o,ho,hc,n,hd⟩:=pl.isList;exact call_list_seq p (.inl rfl) ho hc hd (λh' c' kp e=>fin its r' hz h' c' kp e) (by simp only[aG] <;> lia)
 .obtain ⟨its,r',pl,hz⟩:=I.tuple hq;have hlen:=r'.length;obtain⟨o,ho,hc,n,hd⟩:=pl;exact call_list_seq p (.inr rfl) ho hc hd (λh' c' kp e=>fin its r' hz h' c' kp e) (by simp only[aG] <;> lia)
def V1(K:W.Frag) (T:String) (x:V) (H:Hp):Prop:=match x with
 | .str _=>T = "str"
 | .int _=>T = "int"
 | .ref p=>(T = "list" /\ ∃xs,sS K H p xs)∨(T = "tuple" /\ ∃o,K.lookup p=some o/\o.cls = .type "tuple" /\ o.dict=none) ∨
   (T = "dict" /\ ((∃kvs,H p=some (.dK kvs))∨∃kvs,H p=some (.dT kvs)))∨(T = "set" /\ ∃S n,H p=some (.set S n))
 |_=>False
theorem MN{ou:List (Addr×Obj)}{σ:St}{H:Hp}{s:Shared}{T:String}{x:V}{v:Value}(I:Inv X ou σ H s) (r:qp x v) (ty:V1 X.K T x H) :
  s.TypeIs v T/\∀a,v = .ref a->∃ob,s.heap.get? a=some ob/\ob.dict=none:=by
 cases x with
 |str z =>
  obtain⟨t,rfl⟩:=r;cases (show T = "str" from ty)
  exact⟨typeIs_str s z t,λ_ e=>nomatch e⟩
 |int i =>
  obtain⟨t,rfl⟩:=r;cases (show T = "int" from ty)
  exact⟨typeIs_int s i t,λ_ e=>nomatch e⟩
 |ref p =>
  cases r;rcases ty with ⟨rfl,xs,hq⟩|⟨rfl,o,hk,hc,hd⟩|⟨rfl,hk⟩|⟨rfl,S,n,hk⟩
  .obtain ⟨its,_,pl,_⟩:=I.list hq;refine⟨pl.isList.typeIs,λa e=>?_⟩
   cases e;obtain⟨o,n,e,c,hd,_⟩:=pl;exact⟨o,e,hd⟩
  .refine ⟨⟨o,I.kIn p o hk,hc⟩,λa e=>?_⟩
   cases e;exact⟨o,I.kIn _ o hk,hd⟩
  .have z:∃o,s.heap.get? p=some o/\o.ExactDict:=by
    rcases hk with ⟨kvs,hk⟩|⟨kvs,hk⟩
    .obtain ⟨_,_,_,_,o,_,_,e,ex,_⟩:=I.hok p _ hk;exact⟨o,e,ex⟩
    .obtain ⟨_,_,_,_,o,_,_,e,ex,_⟩:=I.hok p _ hk;exact⟨o,e,ex⟩
   obtain⟨o,e,ex⟩:=z;refine⟨⟨o,e,ex.1⟩,λa e2=>?_⟩
   cases e2;exact⟨o,e,ex.2.1⟩
  .obtain ⟨o,_,_,_,e,ex,_⟩:=I.hok p _ hk;refine⟨⟨o,e,ex.1⟩,λa e2=>?_⟩
   cases e2;exact⟨o,e,ex.2.1⟩
 |_=>exact False.elim ty
def WV(K:W.Frag) (T:String) (r:V->List V->Hp->VK->Prop) (to:TE):TE:=λσ H Q=>to σ H λx H1=>V1 K T x H1/\r x [] H1 Q
def Nk(K:W.Frag) (T:String) (r:V->List V->Hp->VK->Prop) (to:TE) (t:TA):TE:=λσ H Q=>to σ H λx H1=>V1 K T x H1/\t σ H1 λxs H2=>r x xs H2 Q
variable {o e:Expr}{es:List Expr}{to:TE}{t:TA}{name:Str}{apos cpos:Pos}{T id:String}{r:V->List V->Hp->VK->Prop}
theorem HQ(pa:PlainAttrs T) (slot:Slot T name id) (hty:typeOf (.builtin id)=pure (.type "method_descriptor")) (hm:XC X id r) (ho:PE X o to)
  (hbase:mC o name X.env (eval o X.env)=eval o X.env:=by rfl) (hline:(apos.endLine == cpos.line)=true:=by rfl):PE X (.Call (.Attribute o name apos) [] [] cpos) (WV X.K T r to):=by
 intro ou s σ H Q I h;refine mN hbase hline (thn (ho ou s σ H _ I h) λv s1 ⟨x,H1,I1,r1,ty,q1⟩=>?_)
 obtain⟨h1,h2⟩:=MN I1 r1 ty;exact⟨T,id,pa,slot,hty,h1,h2,Calls.callWith_builtin rfl (PySem.evalArgs_none (hm ou s1 σ H1 x [] v [] Q I1 r1 .nil q1))⟩
theorem tU(pa:PlainAttrs T) (slot:Slot T name id) (hty:typeOf (.builtin id)=pure (.type "method_descriptor")) (hm:XC X id r) (ho:PE X o to) (ha:PA X (e::es) t)
  (hbase:mC o name X.env (eval o X.env)=eval o X.env:=by rfl)
  (hfew:((kZ cpos (ko (e::es) X.env)).all (λx=>!x.1) && (backToKw cpos (keywordEach [] X.env)).all (λx=>x.1.isSome)
   && decide ((e::es).length+([]:List Keyword).length+(if ([]:List Keyword).isEmpty then 0 else 1)<30))=true:=by rfl)
  (hline:(apos.endLine == cpos.line)=true:=by rfl) (hs:ko (e::es) X.env=(false,eval e X.env)::ko es X.env:=by rfl) (hplain:(kZ cpos (ko es X.env)).any (·.1)=false:=by rfl) :
  PE X (.Call (.Attribute o name apos) (e::es) [] cpos) (Nk X.K T r to t):=by
 intro ou s σ H Q I h;refine wpAny_Call_method_late hbase hfew hline rfl (thn (ho ou s σ H _ I h) λv s1 ⟨x,H1,I1,r1,ty,q1⟩=>?_)
 obtain⟨h1,h2⟩:=MN I1 r1 ty;refine⟨T,id,pa,slot,hty,h1,h2,?_⟩;have hA:=ha cpos ou s1 σ H1 _ I1 q1;rw[hs]at hA ⊢;refine Calls.callWith_builtin (by show (false || (kZ cpos (ko es X.env)).any (·.1))=false;rw[hplain] <;> rfl) (Calls.evalArgs_plain ?_)
 exact thn hA λus s2 ⟨vs,H2,I2,r2,q2⟩=>hm ou s2 σ H2 x vs v us Q I2 r1 r2 q2
/- xs.append(e),list.index on a module's tuple .. are XC facts of 06m -/
end
def XI(X:Cx) (id:String) (r:V->List V->Hp->VK->Prop):Prop :=
 ∀(ou:List (Addr×Obj)) (s:Shared) (σ:St) (H:Hp) (x:V) (xs:List V) (v:Value) (us:List Value) (Q:VK),Inv X ou σ H s->qp x v->pY xs us->r x xs H Q ->
  kc (jY X.prog X.w) X.A (call (.builtin id) (v::us)) (EP X ou σ Q) X.xe s
theorem pY.one:∀{x:V}{us:List Value},pY [x] us->∃u,us=[u]/\qp x u
 |_,_,.cons r .nil=>⟨_,rfl,r⟩
theorem pY.zero:∀{us:List Value},pY [] us->us=[]
 |_,.nil=>rfl
theorem pY.dropLast{xs:List V}{us:List Value}(h:pY xs us):pY xs.dropLast us.dropLast:=by
 induction h with
 |nil=>exact .nil
 |cons r t ih =>
  cases t with
  |nil=>exact .nil
  |cons q t'=>exact .cons r ih
theorem pY.eraseIdx:∀{xs:List V}{us:List Value}(i:Nat),pY xs us->pY (xs.eraseIdx i) (us.eraseIdx i)
 |_,_,_,.nil=>.nil
 |_,_,0,.cons _ t=>t
 |_,_,i+1,.cons r t=>.cons r (pY.eraseIdx i t)
theorem zU{α:Type}(l:List α):l.eraseIdx (l.length-1)=l.dropLast:=by
 induction l with
 |nil=>rfl
 |cons a r ih =>
  cases r with
  |nil=>rfl
  |cons b r =>
   have e:(a::b::r).length-1=((b::r).length-1)+1:=by
    have h1:(a::b::r).length=r.length+2:=rfl;have h2:(b::r).length=r.length+1:=rfl;lia
   rw[e,bO,ih]
   all_goals rfl
theorem Ec{α:Type}:∀(l:List α) (i:Nat),(l.eraseIdx i).length<=l.length
 | [],_=>af _
 |_::_,0=>cO _
 |_::r,i+1=>Nat.succ_le_succ (Ec r i)
section
variable {X:Cx}{ou:List (Addr×Obj)}{σ:St}{H:Hp}{s:Shared}{l b:Addr}{xs ys zs:List V}
theorem Inv.lset{its its':List Value}{n:Nat}{f:Array Value->Array Value}{t':Nat}(I:Inv X ou σ H s) (hH:H l=some (.lst xs))
  (e:s.heap.get? l=some { cls:=.type "list", data:=.seq its.toArray n }) (hf:f its.toArray=its'.toArray) (hv:pY ys its') (hz:ys.length<=ke) :
  Inv X ou σ (qP H l (.lst ys)) { s with heap:=s.heap.update l (Obj.mapSeq f),toks:=t' }:=by
 have q:=PySem.IsL.update e f;rw[hf]at q;refine I.write (x:=l) (e:=l) (by rw[hH];exact trivial) (.inl rfl) (λb' u hb hu=>(Heap.get?_update_other s.heap (Obj.mapSeq f) (Ne.symm hb)).trans hu) ⟨_,q⟩ ?_
 exact⟨hz,its',_,hv,q⟩
theorem Inv.lnew{its:List Value}{t':Nat}(I:Inv X ou σ H s) (hv:pY ys its) (hz:ys.length<=ke) :
  Inv X ou σ (qP H s.heap.objs.size (.lst ys)) { s with heap:=s.heap.push { cls:=.type "list", data:=.seq its.toArray },toks:=t' } :=
 I.laid (λ_ _ q=>ak _ q) (af _) ⟨hz,its,0,hv,aX _ rfl⟩
theorem Inv.fresh(I:Inv X ou σ H s):H s.heap.objs.size=none:=I.hok.fresh (af _)
theorem Inv.lstM(I:Inv X ou σ H s) (hH:H l=some (.lst xs)):xs.length<=ke/\∃(its:List Value) (n:Nat),pY xs its/\xs.length=its.length/\s.heap.get? l=some { cls:=.type "list", data:=.seq its.toArray n }:=by
 obtain⟨z,its,n,r,e⟩:=I.hok l _ hH;exact⟨z,its,n,r,r.length,e⟩
theorem OZ{n:Nat}(h:n<=ke):Builtin.List.listTooLong n=false:=by
 unfold Builtin.List.listTooLong;exact decide_eq_false (by lia)
end
section
variable {X:Cx}
def wz:V->List V->Hp->VK->Prop:=λx vs H Q=>∃l xs y,x = .ref l/\vs=[y]/\H l=some (.lst xs)/\xs.length<ke/\Q .non (qP H l (.lst (xs++[y])))
theorem qw:XI X "list.append" wz:=by
 intro ou s σ H x vs v us Q I rx rv h;obtain⟨l,xs,y,rfl,rfl,hH,hz,q⟩:=h;cases rx;obtain⟨u,rfl,ru⟩:=rv.one;obtain⟨z,its,n,r,hl,e⟩:=I.lstM hH;refine lC F.slot_list_append ⟨_,e,rfl⟩ F.entry_list_append (F.args_list_append_2 _ _) (PySem.list_append l its.toArray n u (by rw[aG];lia)) ⟨e,?_⟩
 refine⟨.non,_,I.lset (its':=its++[u]) hH e (by simp) (r.append (.cons ru .nil)) ?_,rfl,q⟩
 rw[lAq,lSq];lia
def JU:V->List V->Hp->VK->Prop:=λx vs H Q=>∃l b xs zs,x = .ref l/\vs=[.ref b]/\H l=some (.lst xs)/\H b=some (.lst zs)/\xs.length+zs.length<=ke/\Q .non (qP H l (.lst (xs++zs)))
theorem Lj:XI X "list.extend" JU:=by
 intro ou s σ H x vs v us Q I rx rv h;obtain⟨l,b,xs,zs,rfl,rfl,hH,hB,hz,q⟩:=h;cases rx;obtain⟨u,rfl,ru⟩:=rv.one;cases ru;obtain⟨z,its,n,r,hl,e⟩:=I.lstM hH;obtain⟨z2,its2,n2,r2,hl2,e2⟩:=I.lstM hB;have hsz:its.toArray.size+its2.toArray.size<=ke:=by rw[aG,aG];lia
 have hlong:¬ (!its.toArray.isEmpty && Builtin.List.listTooLong (its.toArray.size+its2.toArray.size))=true:=by
  rw[OZ hsz,Bool.and_false];exact aK
 refine lC F.slot_list_extend ⟨_,e,rfl⟩ F.entry_list_extend (F.args_list_extend_2 _ _)
  (AutoSeq1.list_extend_list_list_0 l its.toArray n b its2.toArray n2 hlong (by rw[aG];lia) (by lia)) ⟨e,e2,?_⟩
 refine⟨.non,_,I.lset (its':=its++its2) hH e (by simp) (r.append r2) ?_,rfl,q⟩
 rw[lAq];lia
def Va:V->List V->Hp->VK->Prop:=λx vs H Q=>∃l xs y,x = .ref l/\vs=[]/\H l=some (.lst xs)/\xs[xs.length-1]?=some y/\Q y (qP H l (.lst xs.dropLast))
theorem Jd:XI X "list.pop" Va:=by
 intro ou s σ H x vs v us Q I rx rv h;obtain⟨l,xs,y,rfl,rfl,hH,hy,q⟩:=h;cases rx;have hus:=rv.zero;subst hus;obtain⟨z,its,n,r,hl,e⟩:=I.lstM hH;obtain⟨u,hu,ru⟩:=r.get hy;have hy':its.toArray[its.toArray.size-1]?=some u:=by
  show its.toArray[its.length-1]?=some u;rw[←az,←hl];exact hu
 refine lC F.slot_list_pop ⟨_,e,rfl⟩ F.entry_list_pop (F.args_list_pop_1 _) (MeetsSeq.list_pop_last l its.toArray n u hy' (by rw[aG];lia)) ⟨e,?_⟩
 refine⟨y,_,I.lset (its':=its.dropLast) hH e ?_ r.dropLast ?_,ru,q⟩
 .show its.toArray.eraseIdxIfInBounds (its.toArray.size-1)=its.dropLast.toArray;rw[aG,fX,zU]
 .rw [List.length_dropLast];lia
def NJ:V->List V->Hp->VK->Prop:=λx vs H Q=>∃l xs i k y,x = .ref l/\vs=[.int i]/\H l=some (.lst xs)/\-(2 ^ 63)<=i/\i<2 ^ 63/\nB i xs.length=some k/\xs[k]?=some y/\Q y (qP H l (.lst (xs.eraseIdx k)))
theorem Cw:XI X "list.pop" NJ:=by
 intro ou s σ H x vs v us Q I rx rv h;obtain⟨l,xs,i,k,y,rfl,rfl,hH,h1,h2,hk,hy,q⟩:=h;cases rx;obtain⟨u,rfl,ru⟩:=rv.one;obtain⟨t,rfl⟩:=ru;obtain⟨z,its,n,r,hl,e⟩:=I.lstM hH;obtain⟨w,hw,rw'⟩:=r.get hy;refine lC F.slot_list_pop ⟨_,e,rfl⟩ F.entry_list_pop (F.args_list_pop_2 _ _)
  (MeetsSeq.list_pop_at l its.toArray n i t k w (fitsIndex_both h1 h2) (by rw[aG,←hl];exact hk) (by rw[←az];exact hw) (by rw[aG];lia)) ⟨e,?_⟩
 refine⟨y,_,I.lset (its':=its.eraseIdx k) hH e ?_ (r.eraseIdx k) ?_,rw',q⟩
 .show its.toArray.eraseIdxIfInBounds k=(its.eraseIdx k).toArray;rw[fX]
 .have:=Ec xs k;lia
def Vu:R2:=λx y H Q=>∃l b xs zs,x = .ref l/\y = .ref b/\H l=some (.lst xs)/\H b=some (.lst zs)/\xs.length+zs.length<=ke/\∀p,H p=none->Q (.ref p) (qP H p (.lst (xs++zs)))
theorem C2:DU X (lz .Add) Vu:=by
 intro ou s σ H x y v u Q I rx ry h;obtain⟨l,b,xs,zs,rfl,rfl,hH,hB,hz,q⟩:=h;cases rx;cases ry;obtain⟨z,its,n,r,hl,e⟩:=I.lstM hH;obtain⟨z2,its2,n2,r2,hl2,e2⟩:=I.lstM hB;refine PySem.P.add_list e e2 ?_ (by rw[aG,aG];lia)
 have ea:its.toArray++its2.toArray=(its++its2).toArray:=by simp
 rw[ea];exact⟨.ref _,_,I.lnew (t':=s.toks) (r.append r2) (by rw[lAq];lia),rfl,q _ I.fresh⟩
end
section
variable {κ:Type} [DecidableEq κ]
def uy(kvs:List (κ×V)) (k:κ):Option V:=(kvs.find? λkv=>decide (kv.1=k)).map (·.2)
def wq(kvs:List (κ×V)) (k:κ) (v:V):List (κ×V) :=
 if (kvs.any λkv=>decide (kv.1=k))=true then kvs.map (λkv=>if kv.1=k then (kv.1,v) else kv) else kvs++[(k,v)]
theorem Dg{p:κ×V}{r:List (κ×V)}{k:κ}(e:p.1=k):uy (p::r) k=some p.2:=by simp[uy,du,e]
theorem C0{p:κ×V}{r:List (κ×V)}{k:κ}(e:¬ p.1=k):uy (p::r) k=uy r k:=by simp[uy,du,e]
theorem Gv(k:κ):∀kvs:List (κ×V),(kvs.any λkv=>decide (kv.1=k))=(uy kvs k).isSome
 | []=>rfl
 |p::r=>by
  rw[ee]
  by_cases e:p.1=k
  .simp only [Dg e,decide_eq_true e,Bool.true_or,Option.isSome_some]
  .rw [C0 e,decide_eq_false e,jK];exact Gv k r
theorem wJ(kvs:List (κ×V)) (k:κ) (v:V):(wq kvs k v).length<=kvs.length+1:=by
 unfold wq;split
 .rw [lMq];lia
 .rw [lAq,lCq,dX];lia
theorem An.isSome_eq{o:Option V}{u:Option Value}(r:An o u):o.isSome=u.isSome:=by
 cases o with
 |none=>cases u with
  |none=>rfl
  |some _=>exact(show False from r).elim
 |some _=>cases u with
  |none=>exact(show False from r).elim
  |some _=>rfl
theorem KV.val{kvs:List (κ×V)}{vs:List (κ×Value)}(r:KV kvs vs) (k:κ):An (uy kvs k) (kP vs k):=by
 unfold KV at r
 induction r with
 |nil=>exact True.intro
 | @cons p q ps qs h t ih =>
  obtain⟨h1,h2⟩:=h
  by_cases e:p.1=k
  .have e':q.1=k:=h1.symm.trans e;have b:kP (q::qs) k=some q.2:=by simp[kP,du,e']
   rw[Dg e,b];exact h2
  .have e':¬ q.1=k:=λz=>e (h1.trans z)
   have b:kP (q::qs) k=kP qs k:=by simp[kP,du,e']
   rw[C0 e,b];exact ih
theorem KV.any{kvs:List (κ×V)}{vs:List (κ×Value)}(r:KV kvs vs) (k:κ):(kvs.any λkv=>decide (kv.1=k))=vs.any λkv=>decide (kv.1=k):=by
 unfold KV at r
 induction r with
 |nil=>rfl
 |cons h t ih=>rw[ee,ee,ih,h.1]
theorem KV.repl{kvs:List (κ×V)}{vs:List (κ×Value)}(r:KV kvs vs) (k:κ) {y:V}{u:Value}(ry:qp y u) :
  KV (kvs.map λkv=>if kv.1=k then (kv.1,y) else kv) (vs.map λkv=>if kv.1=k then (kv.1,u) else kv):=by
 unfold KV at r ⊢
 induction r with
 |nil=>exact .nil
 | @cons p q ps qs h t ih =>
  rw[au,au];refine .cons ?_ ih;obtain⟨h1,h2⟩:=h
  by_cases e:p.1=k
  .rw [pN e,pN (h1.symm.trans e)];exact⟨h1,ry⟩
  .rw [pJ e,pJ (λz=>e (h1.trans z))];exact⟨h1,h2⟩
theorem KV.put{kvs:List (κ×V)}{vs:List (κ×Value)}(r:KV kvs vs) (k:κ) {y:V}{u:Value}(ry:qp y u):KV (wq kvs k y) (mn vs k u):=by
 unfold wq mn;rw[r.any k]
 by_cases e:(vs.any λkv=>decide (kv.1=k))=true
 .rw [pN e,pN e];exact r.repl k ry
 .rw [pJ e,pJ e];exact Paired.snoc r ⟨rfl,ry⟩
theorem KV.length{kvs:List (κ×V)}{vs:List (κ×Value)}(r:KV kvs vs):kvs.length=vs.length:=Paired.length r
end
theorem D7{P:kf}{w:ki}{k:oU}{u:Value}(r:qp (kV k) u):(qv P w).is k u=true:=by
 cases k with
 |inl i=>obtain⟨t,e⟩:=(show ∃t,u=gV i t from r);subst e;exact Ha P w i t
 |inr x=>obtain⟨t,e⟩:=(show ∃t,u=jJ x t from r);subst e;exact G8 P w x t
theorem Ez{P:kf}{w:ki}:∀{ks:List oU}{us:List Value},pY (ks.map kV) us->ItemsAre (qv P w) ks us
 | [],_,r=>by rw[fB]at r;cases r;exact .nil
 |k::ks,_,r=>by
  rw[au]at r;cases r with
  |cons h t=>exact .cons (D7 h) (Ez t)
abbrev KT(H:Hp):List (List oU×V)->List (List oU×Addr×Value)->Prop:=Paired λp q=>p.1=q.1/\H q.2.1=some (.tup (p.1.map kV))/\qp p.2 q.2.2
theorem KT.val{H:Hp}{kvs:List (List oU×V)}{xs:List (List oU×Addr×Value)}(r:KT H kvs xs) (k:List oU):An (uy kvs k) ((mQ xs k).map (·.2)):=by
 induction r with
 |nil=>exact True.intro
 | @cons p q ps qs h t ih =>
  obtain⟨h1,_,h2⟩:=h
  by_cases e:p.1=k
  .have e':q.1=k:=h1.symm.trans e;have b:mQ (q::qs) k=some q.2:=by simp[mQ,du,e']
   rw[Dg e,b];exact h2
  .have e':¬ q.1=k:=λz=>e (h1.trans z)
   have b:mQ (q::qs) k=mQ qs k:=by simp[mQ,du,e']
   rw[C0 e,b];exact ih
theorem KT.repl{H:Hp}{kvs:List (List oU×V)}{xs:List (List oU×Addr×Value)}(r:KT H kvs xs) (k:List oU) {y:V}{u:Value}(ry:qp y u) :
  KT H (kvs.map λkv=>if kv.1=k then (kv.1,y) else kv) (xs.map (putAt k u)):=by
 induction r with
 |nil=>exact .nil
 | @cons p q ps qs h t ih =>
  rw[au,au];refine .cons ?_ ih;obtain⟨h1,h2,h3⟩:=h;unfold putAt
  by_cases e:p.1=k
  .rw [pN e,pN (h1.symm.trans e)];exact⟨h1,h2,ry⟩
  .rw [pJ e,pJ (λz=>e (h1.trans z))];exact⟨h1,h2,h3⟩
theorem KT.put{H:Hp}{kvs:List (List oU×V)}{xs:List (List oU×Addr×Value)}(r:KT H kvs xs) (k:List oU) {b:Addr}{y:V}{u:Value}(hb:H b=some (.tup (k.map kV))) (ry:qp y u) :
  KT H (wq kvs k y) (storedH xs k b u):=by
 have e:(kvs.any λkv=>decide (kv.1=k))=(mQ xs k).isSome:=by
  rw[Gv,(r.val k).isSome_eq,eW]
 unfold wq storedH;rw[e]
 by_cases q:(mQ xs k).isSome=true
 .rw [pN q,pN q];exact r.repl k ry
 .rw [pJ q,pJ q];exact Paired.snoc r ⟨rfl,hb,ry⟩
theorem KT.keeps{H H':Hp}{kvs:List (List oU×V)}{xs:List (List oU×Addr×Value)}(r:KT H kvs xs) (ht:∀b ys,H b=some (.tup ys)->H' b=some (.tup ys)):KT H' kvs xs :=
 Paired.mapP r λ_ _ z=>⟨z.1,ht _ _ z.2.1,z.2.2⟩
section
variable {P:kf}{w:ki}{H:Hp}{h:Heap}{a:Addr}
theorem Tf{u:HO}(ok:Ac P w H h) (e:Rd H a u):qW P w H h a u:=e.ok ok
theorem FS{kvs:List (oU×V)}(ok:Ac P w H h) (e:Rd H a (.dK kvs)):kvs.length<=ke/\(a == kL)=false/\∃vs,KV kvs vs/\h.DictOf (qv P w) a vs :=
 show qW P w H h a (.dK kvs) from Tf ok e
theorem M5{kvs:List (oU×V)}(ok:Ac P w H h) (e:H a=some (.dK kvs)):kvs.length<=ke/\(a == kL)=false/\∃vs,KV kvs vs/\h.DictOf (qv P w) a vs:=FS ok (.inl e)
theorem Fh{ks:List oU}(ok:Ac P w H h) (e:H a=some (.tup (ks.map kV))):(mP (qv P w)).is h ks a:=by
 obtain⟨_,its,r,o,h1,h2,n,h3⟩:=(show qW P w H h a (.tup (ks.map kV)) from ok a _ e)
 exact⟨o,its.toArray,n,h1,h2,h3,by simpa using Ez r⟩
theorem FM{kvs:List (List oU×V)}(ok:Ac P w H h) (e:Rd H a (.dT kvs)):kvs.length<=ke/\(a == kL)=false /\
  ∃xs,KT H kvs xs/\h.DictOfH (mP (qv P w)) a xs:=by
 obtain⟨z,y,xs,r,o,es,ep,h1,h2,h3,h4,h5⟩:=(show qW P w H h a (.dT kvs) from Tf ok e)
 refine⟨z,y,xs,r,o,es,ep,h1,h2,h3,h4,λx hx=>?_,h5⟩
 have all:∀{l:List (List oU×V)}{m:List (List oU×Addr×Value)},KT H l m->∀x∈m,(mP (qv P w)).is h x.1 x.2.1:=by
  intro l m q
  induction q with
  |nil=>intro x hx;exact nomatch hx
  | @cons p q ps qs hq t ih =>
   intro x hx;rcases ae.mp hx with e|hx
   .subst e;exact Fh ok (by rw[←hq.1];exact hq.2.1)
   .exact ih x hx
 exact all r x hx
theorem VN{kvs:List (List oU×V)}(ok:Ac P w H h) (e:H a=some (.dT kvs)):kvs.length<=ke/\(a == kL)=false /\
  ∃xs,KT H kvs xs/\h.DictOfH (mP (qv P w)) a xs:=FM ok (.inl e)
end
def Dl(H:Hp) (a:Addr) (y:V) (r:Option V):Prop :=
 (∃kvs k,Rd H a (.dK kvs)/\y=kV k/\r=uy kvs k)∨∃kvs k b,Rd H a (.dT kvs)/\y = .ref b/\H b=some (.tup (k.map kV))/\r=uy kvs k
def PJ(H:Hp) (a:Addr) (y v:V) (H':Hp):Prop :=
 (∃kvs k,H a=some (.dK kvs)/\y=kV k/\kvs.length<ke/\H'=qP H a (.dK (wq kvs k v))) ∨
 ∃kvs k b,H a=some (.dT kvs)/\y = .ref b/\H b=some (.tup (k.map kV))/\kvs.length<ke/\H'=qP H a (.dT (wq kvs k v))
theorem Dl.k{H:Hp}{a:Addr}{kvs:List (oU×V)}{k:oU}(e:H a=some (.dK kvs)):Dl H a (kV k) (uy kvs k):=.inl ⟨kvs,k,.inl e,rfl,rfl⟩
theorem PJ.k{H:Hp}{a:Addr}{kvs:List (oU×V)}{k:oU}{v:V}(e:H a=some (.dK kvs)) (hl:kvs.length<ke):PJ H a (kV k) v (qP H a (.dK (wq kvs k v))):=.inl ⟨kvs,k,e,rfl,hl,rfl⟩
section
variable {X:Cx}{ou:List (Addr×Obj)}{σ:St}{H:Hp}{s:Shared}{a:Addr}{y v:V}{u r:Value}{o:Option V}{A:Around}{E:Value->Shared->Prop}
theorem Inv.big(I:Inv X ou σ H s):kL<s.heap.objs.size:=by
 have h:kg<s.heap.objs.size:=(I.mod.glob.keeps I.bk).lt;exact jg (by decide) h
theorem K4{Q:Value->Shared->Prop}(hu:A.units+1<lF) (I:Inv X ou σ H s) (g:Dl H a y (some v)) (ry:qp y u) (h:∀w' s',Inv X ou σ H s'->qp v w'->Q w' s') :
  kc (jY X.prog X.w) A (mY (.ref a) u) Q E s:=by
 rcases g with ⟨kvs,k,e,ey,l⟩|⟨kvs,k,b,e,ey,eb,l⟩
 .subst ey;obtain⟨z,hd,vs,rel,dd⟩:=FS I.hok e;obtain⟨w',hw,rw'⟩:=An.some_of (v:=v) (o:=kP vs k) (by rw[l];exact rel.val k)
  exact wpAny_getItem_of (D7 ry) dd.mapOf hw (h w' _ (I.tok _) rw')
 .subst ey;cases (show u=cj b from ry)
  obtain⟨z,hd,xs,rel,dd⟩:=FM I.hok e;obtain⟨w',hw,rw'⟩:=An.some_of (v:=v) (o:=(mQ xs k).map (·.2)) (by rw[l];exact rel.val k)
  obtain⟨p,hp,hp2⟩:=oMq.mp hw;refine wpAny_getItem_heap (mw hu) (Fh I.hok eb) dd hp ?_;rw[hp2];exact h w' _ (I.tok _) rw'
theorem Rj{Q:Value->Shared->Prop}(hu:A.units+1<lF) (I:Inv X ou σ H s) (g:Dl H a y o) (ry:qp y u) (h:∀s',Inv X ou σ H s'->Q (.bool (!o.isSome)) s') :
  kc (jY X.prog X.w) A (kJ .NotIn u (.ref a)) Q E s:=by
 rcases g with ⟨kvs,k,e,ey,l⟩|⟨kvs,k,b,e,ey,eb,l⟩
 .subst ey;obtain⟨z,hd,vs,rel,dd⟩:=FS I.hok e;refine wpAny_notIn_of (D7 ry) hd dd.mapOf ?_;rw[← (rel.val k).isSome_eq,←l];exact h _ (I.tok _)
 .subst ey;cases (show u=cj b from ry)
  obtain⟨z,hd,xs,rel,dd⟩:=FM I.hok e;refine wpAny_notIn_heap (mw hu) (Fh I.hok eb) hd dd ?_;have q:=(rel.val k).isSome_eq;rw[eW]at q;rw[←q,←l];exact h _ (I.tok _)
theorem Cb{h':Heap}{t':Nat}{ob:HO}(I:Inv X ou σ H s) (mu:Wn (H a)) (hs:cC a s.heap h') (he:∃q,h'.get? a=some q) (new:qW X.prog X.w (qP H a ob) h' a ob) :
  Inv X ou σ (qP H a ob) { s with heap:=h',toks:=t' } :=
 I.write (x:=a) (e:=a) mu (.inl rfl) (λb q hb z=>(hs.2 b hb).trans z) he new
theorem EO{P:kf}{w:ki}{H':Hp}{h':Heap}{kvs:List (oU×V)}{vs:List (oU×Value)}(z:kvs.length<=ke) (hd:(a == kL)=false) (rel:KV kvs vs) (dd:h'.DictOf (qv P w) a vs) :
  qW P w H' h' a (.dK kvs):=⟨z,hd,vs,rel,dd⟩
theorem KY{H':Hp}{Q:Unit->Shared->Prop}(hu:A.units+1<lF) (I:Inv X ou σ H s) (g:PJ H a y v H') (ry:qp y u) (rv:qp v r) (h:∀s',Inv X ou σ H' s'->Q () s') :
  kc (jY X.prog X.w) A (setItem (.ref a) u r) Q E s:=by
 rcases g with ⟨kvs,k,e,ey,l,eH⟩|⟨kvs,k,b,e,ey,eb,l,eH⟩
 .subst ey eH;obtain⟨z,hd,vs,rel,dd⟩:=M5 I.hok e;have hz:vs.length<=ke:=by rw[←rel.length];exact z
  have hl:(wq kvs k v).length<=ke:=by have:=wJ kvs k v;lia
  refine wpAny_setItem_pairs (hsz:=hz) (D7 ry) dd λh' dd' hs=>h _ ?_
  have he:∃q,h'.get? a=some q:=let ⟨q,_,_,hq,_⟩:=dd';⟨q,hq⟩
  exact Cb I (by rw[e];exact True.intro) hs he (EO hl hd (rel.put k rv) dd')
 .subst ey eH;cases (show u=cj b from ry)
  obtain⟨z,hd,xs,rel,dd⟩:=VN I.hok e;have hz:xs.length<=ke:=by rw[←Paired.length rel];exact z
  have hl:(wq kvs k v).length<=ke:=by have:=wJ kvs k v;lia
  refine wpAny_setItem_heap (hsz:=hz) (mw hu) (Fh I.hok eb) dd λh' dd' hs=>h _ ?_
  obtain⟨q,es,ep,hq,h2,h3,h4,_,h5⟩:=dd';refine Cb I (by rw[e];exact True.intro) hs ⟨q,hq⟩ ⟨hl,hd,_,(rel.put k eb rv).keeps λc ys ec=>?_,q,es,ep,hq,h2,h3,h4,h5⟩
  rw[oV (V4 ec e (λz=>nomatch z))]
  exact ec
end
def WT(i:Expr):Prop:=∀ov iv,mS i false ov iv=operate [ov,iv] (mY ov iv)
theorem Re{prog:kf}{w:ki}{A:Around}{E:Value->Shared->Prop}{s:Shared}{env:Env}{value slice:Expr}{pos:Pos}{T id:String}{Q:Value->Shared->Prop}
  (hl:ni (.type T) "__getitem__" = pure (some (.builtin id))) (hs:WT slice)
  (h:kc (jY prog w) A (eval value env) (λo s₁=>kc (jY prog w) A (eval slice env) (λi s₂=>s₂.TypeIs o T/\kc (jY prog w) A (mY o i) Q E s₂) E s₁) E s) :
  kc (jY prog w) A (eval (.Subscript value slice pos) env) Q E s:=by
 refine Subscript_ (kx h (λo s₁ h₁=>kx h₁ (λi s₂ h₂=>?_) λ_ _ x=>x) λ_ _ x=>x)
 obtain⟨hT,h₂⟩:=h₂;unfold nt;refine jU ?_;rw[getitemInPython_of_ne hT.not_modules];refine jU (wpAny_specialOf hT hl ?_);have fin:kc (jY prog w) A (mS slice false o i) (λr s₃=>kc (jY prog w) A (letTemporaryGo value o r >>= λ_=>pure r) Q E s₃) E s₂:=by
  rw[hs o i];exact wpAny_operating (kx h₂ (λr s₃ h₃=>jU (wpAny_letTemporaryGo (jX h₃))) λ_ _ x=>x)
 first
  |exact jX (jU fin)
  |exact jU (jX (jU fin))
  |exact jU fin
theorem Hk{X:Cx}{ou:List (Addr×Obj)}{σ:St}{H:Hp}{s:Shared}{a:Addr}{y:V}{o:Option V}(I:Inv X ou σ H s) (g:Dl H a y o):s.TypeIs (.ref a) "dict" := by
 rcases g with ⟨kvs,k,e,_,_⟩|⟨kvs,k,b,e,_,_,_⟩
 .obtain ⟨_,_,vs,_,dd⟩:=FS I.hok e;exact dd.typeIs
 .obtain ⟨_,_,xs,_,dd⟩:=FM I.hok e;exact dd.typeIs
def OX(td ty:TE):TE:=λσ H Q=>td σ H λx H1=>ty σ H1 λy H2=>∃a v,x = .ref a/\Dl H2 a y (some v)/\Q v H2
def JC(ty td:TE):TE:=λσ H Q=>ty σ H λy H1=>td σ H1 λx H2=>∃a o,x = .ref a/\Dl H2 a y o/\Q (.bl (!o.isSome)) H2
def Tw(td ty tv:TE):TS:=λD σ H=>tv σ H λv H1=>td σ H1 λx H2=>ty σ H2 λy H3=>∃a H4,x = .ref a/\PJ H3 a y v H4/\D.nx σ H4
section
variable {X:Cx}{o i e value:Expr}{pos pos' tpos:Pos}{td ty tv:TE}
theorem yZ(hu:X.A.units+1<lF) (ho:PE X o td) (hi:PE X i ty) (hs:WT i):PE X (.Subscript o i pos) (OX td ty):=by
 intro ou s σ H Q I h;refine Re PySem.F.slot_dict_getitem.lookup hs (thn (ho ou s σ H _ I h) λu s1 ⟨x,H1,I1,rx,q1⟩=>thn (hi ou s1 σ H1 _ I1 q1) λiv s2 ⟨y,H2,I2,ry,a,v,ex,g,q2⟩=>?_)
 subst ex;obtain rfl:u=cj a:=rx;exact⟨Hk I2 g,K4 hu I2 g ry λw' s3 I3 rw'=>⟨v,H2,I3,rw',q2⟩⟩
theorem Bm(hu:X.A.units+1<lF) (hi:PE X i ty) (ho:PE X o td):PC X .NotIn i o (JC ty td):=by
 intro ou s σ H Q I h;refine thn (hi ou s σ H _ I h) λiv s1 ⟨y,H1,I1,ry,q1⟩=>thn (ho ou s1 σ H1 _ I1 q1) λu s2 ⟨x,H2,I2,rx,a,ov,ex,g,q2⟩=>?_
 subst ex;obtain rfl:u=cj a:=rx;exact Rj hu I2 g ry λs3 I3=>⟨.bl (!ov.isSome),H2,I3,rfl,q2⟩
theorem AG(hu:X.A.units+1<lF) (ho:PE X o td) (hi:PE X i ty) (hv:PE X value tv) (hs:nA value (some (.Subscript o i pos')) pos.line X.env=pure false) :
  PS X (.Assign [.Subscript o i pos'] value pos) (Tw td ty tv):=by
 intro ou s σ H D I h;refine wpAny_Assign_Subscript (thn (hv ou s σ H _ I h) λr s1 ⟨v,H1,I1,rv,q1⟩=>thn (ho ou s1 σ H1 _ I1 q1) λu s2 ⟨x,H2,I2,rx,q2⟩=>thn (hi ou s2 σ H2 _ I2 q2) λiv s3 ⟨y,H3,I3,ry,a,H4,ex,g,q3⟩=>?_) hs
 subst ex;obtain rfl:u=cj a:=rx;exact KY hu I3 g ry rv λs4 I4=>⟨σ,H4,I4,q3⟩
end
theorem G6{P:kf}{w:ki}{H:Hp}(h:Heap) (hb:kL<h.objs.size):qW P w H (h.push { cls:=.type "dict", data:=.dict #[] }) h.objs.size (.dK []) :=
 ⟨bp _,beq_eq_false_iff_ne.mpr (Ne.symm (aE hb)),[],.nil,fY.new h⟩
def NW:TE:=λ_ H Q=>∀p,H p=none->Q (.ref p) (qP H p (.dK []))
section
variable {X:Cx}{pos:Pos}
theorem yG:PE X (.Dict [] [] pos) NW:=λou s σ H Q I h =>
 wpAny_Dict_empty ⟨.ref s.heap.objs.size,_,I.laid (a:=s.heap.objs.size) (o:=.dK []) (t':=s.toks) (λ_ _ q=>ak _ q) (af _) (G6 s.heap I.big),rfl,h _ (I.hok.fresh (af _))⟩
end
def HJ:List (TE×TE)->St->Hp->(List (V×V)->Hp->Prop)->Prop
 | [],_,H,Q=>Q [] H
 | (tk,tv)::r,σ,H,Q=>tk σ H λx H1=>tv σ H1 λy H2=>HJ r σ H2 λps H3=>Q ((x,y)::ps) H3
abbrev VV:List (V×V)->List (Value×Value)->Prop:=Paired λp q=>qp p.1 q.1/\qp p.2 q.2
def XN(X:Cx) (pos:Pos) (keys:List (Option Expr)) (values:List Expr) (trs:List (TE×TE)):Prop :=
 ∀(ou:List (Addr×Obj)) (s:Shared) (σ:St) (H:Hp) (Q:List (V×V)->Hp->Prop),Inv X ou σ H s->HJ trs σ H Q ->
  kc (jY X.prog X.w) X.A (evalPairs (pairTrees keys values X.env pos)) (λvs s'=>∃ps H',Inv X ou σ H' s'/\VV ps vs/\Q ps H') X.xe s
theorem RJ{X:Cx}{pos:Pos}:XN X pos [] [] []:=λou s σ H Q I h=>pairTrees_nil_walk ⟨[],H,I,.nil,h⟩
theorem Qm{X:Cx}{pos:Pos}{k v:Expr}{ks:List (Option Expr)}{vs:List Expr}{tk tv:TE}{trs:List (TE×TE)}(hk:PE X k tk) (hv:PE X v tv) (hr:XN X pos ks vs trs) :
  XN X pos (some k::ks) (v::vs) ((tk,tv)::trs):=λou s σ H Q I h =>
 pairTrees_cons_walk (thn (hk ou s σ H _ I h) λu s1 ⟨x,H1,I1,rx,q1⟩=>thn (hv ou s1 σ H1 _ I1 q1) λw2 s2 ⟨y,H2,I2,ry,q2⟩ =>
  thn (hr ou s2 σ H2 _ I2 q2) λws s3 ⟨ps,H3,I3,rel,q3⟩=>⟨(x,y)::ps,H3,I3,.cons ⟨rx,ry⟩ rel,q3⟩)
def Bf(kvs more:List (oU×V)):List (oU×V):=more.foldl (λacc kv=>wq acc kv.1 kv.2) kvs
theorem KV.merge:∀{more:List (oU×V)}{rs:List (oU×Value)}{kvs:List (oU×V)}{vs:List (oU×Value)},KV more rs->KV kvs vs->KV (Bf kvs more) (merged vs rs):=by
 intro more rs kvs vs r;unfold KV at r
 induction r generalizing kvs vs with
 |nil=>intro q;exact q
 | @cons p q ps qs h t ih =>
  intro r0;have e:KV (wq kvs p.1 p.2) (mn vs q.1 q.2):=by
   have:=r0.put p.1 h.2;rw[←h.1];exact this
  exact ih e
theorem zu:∀(more kvs:List (oU×V)),(Bf kvs more).length<=kvs.length+more.length
 | [],kvs=>by show kvs.length<=kvs.length+0;lia
 |p::r,kvs=>by
  have h1:=zu r (wq kvs p.1 p.2);have h2:=wJ kvs p.1 p.2;show (Bf (wq kvs p.1 p.2) r).length<=_;rw[lCq];lia
theorem CU{P:kf}{w:ki}:∀{kvs:List (oU×V)}{ws:List (Value×Value)},VV (kvs.map λkv=>(kV kv.1,kv.2)) ws->∃rs,Carries (qv P w) ws rs/\KV kvs rs
 | [],_,r=>by rw[fB]at r;cases r;exact⟨[],True.intro,.nil⟩
 |p::kvs,_,r=>by
  rw[au]at r;cases r with
  | @cons a b as bs h t =>
   obtain⟨rs,c,q⟩:=CU (P:=P) (w:=w) t;obtain⟨b1,b2⟩:=b;exact⟨(p.1,b2)::rs,⟨D7 h.1,rfl,c⟩,.cons ⟨rfl,h.2⟩ q⟩
def Ts(trs:List (TE×TE)):TE:=λσ H Q=>∀p,H p=none->HJ trs σ (qP H p (.dK [])) λps H2=>H2 p=some (.dK [])/\∃kvs:List (oU×V),ps=kvs.map (λkv=>(kV kv.1,kv.2))/\kvs.length<=15/\Q (.ref p) (qP H2 p (.dK (Bf [] kvs)))
theorem Rg{X:Cx}{pos:Pos}{keys:List (Option Expr)}{values:List Expr}{trs:List (TE×TE)}(h:XN X pos keys values trs) (hall:keys.all (·.isSome)=true) (hl:keys.length=values.length) (h0:keys≠[])
  (h15:keys.length<=15):PE X (.Dict keys values pos) (Ts trs):=by
 intro ou s σ H Q I q;have hn:=I.hok.fresh (af s.heap.objs.size);have I1:=I.laid (a:=s.heap.objs.size) (o:=.dK []) (h':=s.heap.push { cls:=.type "dict", data:=.dict #[] }) (t':=s.toks) (λ_ _ q=>ak _ q) (af _) (G6 s.heap I.big)
 refine wpAny_Dict_walk (knd:=qv X.prog X.w) hall hl h0 h15 (thn (h ou _ σ _ _ I1 (q _ hn)) λws s2 ⟨ps,H2,I2,rel,e,kvs,ep,lk,q2⟩=>?_)
 subst ep;obtain⟨rs,c,rk⟩:=CU (P:=X.prog) (w:=X.w) rel;obtain⟨z,hd,vs0,r0,dd⟩:=M5 I2.hok e;cases r0;refine⟨rs,c,dd,λh' dd' hs=>⟨.ref s.heap.objs.size,_,?_,rfl,q2⟩⟩
 have hz:(Bf [] kvs).length<=ke:=by
  have h1:=zu kvs [];rw[dX]at h1;rw[kO];lia
 have he:∃q,h'.get? s.heap.objs.size=some q:=let ⟨q,_,_,hq,_⟩:=dd';⟨q,hq⟩
 exact Cb I2 (by rw[e];exact True.intro) hs he (EO hz hd (rk.merge .nil) dd')
structure M2 (X:Cx) (o:Expr) (m:Str) (apos:Pos) (e f:Expr) (cpos:Pos):Prop where
 base:mC o m X.env (eval o X.env)=eval o X.env
 few:((kZ cpos (ko [e,f] X.env)).all (λx=>!x.1) && (backToKw cpos (keywordEach [] X.env)).all (λx=>x.1.isSome)
  && decide (([e,f]:List Expr).length+([]:List Keyword).length+(if ([]:List Keyword).isEmpty then 0 else 1)<30))=true
 line:(apos.endLine == cpos.line)=true
 trees:kZ cpos (ko [e,f] X.env)=[(false,eval e X.env),(false,eval f X.env)]
def Y7(H:Hp) (a:Addr):Prop:=(∃kvs,Rd H a (.dK kvs))∨∃kvs,Rd H a (.dT kvs)
theorem NS{X:Cx}{ou:List (Addr×Obj)}{σ:St}{H:Hp}{s:Shared}{a:Addr}(I:Inv X ou σ H s) (d:Y7 H a) :
  s.TypeIs (.ref a) "dict" /\ (∀b,cj a = .ref b->∃ob,s.heap.get? b=some ob/\ob.dict=none)/\(a == kL)=false:=by
 rcases d with ⟨kvs,e⟩|⟨kvs,e⟩
 .obtain ⟨_,hd,vs,_,dd⟩:=FS I.hok e;refine⟨dd.typeIs,λb q=>?_,hd⟩
  cases q;obtain⟨ob,_,_,h1,h2,_⟩:=dd;exact⟨ob,h1,h2.2.1⟩
 .obtain ⟨_,hd,xs,_,dd⟩:=FM I.hok e;refine⟨dd.typeIs,λb q=>?_,hd⟩
  cases q;obtain⟨ob,_,_,h1,h2,_⟩:=dd;exact⟨ob,h1,h2.2.1⟩
end L2
namespace Att
open PySem PySem.W PySem.Calls PyProof.Rows
theorem B0{P:Params}{h:Heap}:∀(ns:List Int) (vs:List Value),WellAll P h vs (ns.map WData.int)->kz vs ns:=by
 intro ns
 induction ns with
 |nil =>
  intro vs w;rw[fB]at w;cases w;exact .nil
 |cons n ns ih =>
  intro vs w;rw[au]at w;cases w with
  |cons a b =>
   cases a;exact .cons _ _ (ih _ b)
theorem Ly{l:OpenLaw}{n:Nat}(hn:l.most=some n) {P:Params}{h:Heap}{args:List WData}{vals:List Value}
  (hpre:l.row.toRowW.claim.pre args=true) (hwl:WellAll P h vals args) :
  ∃a vs ns,vals=[cj a]/\args=[WData.list (ns.map WData.int)]/\h.get? a=some { cls:=.type "list", data:=.seq vs.toArray }/\kz vs ns/\ns.length<=n:=by
 have hsh:WShape.hasAll [] args [.list .int]=true:=(pre_splitW hpre).1;have hc:l.pre.holds [] { args:=args }=true:=(pre_splitW hpre).2;obtain⟨d,r,rfl,h1,h2⟩:=hasAllW_cons hsh;obtain rfl:=hasAllW_nil h2;obtain⟨xs,rfl,h3⟩:=hasW_list h1;obtain⟨ns,rfl⟩:=items_int h3;have hlen:ns.length<=n:=by
  unfold OpenLaw.pre at hc;have h4:(WTm.not (.lt (.lit (.int (n:Int))) (.len (.arg 0)))).holds [] { args:=[.list (ns.map .int)] }=true:=by
   have h4:=(holds_andW hc).1;rw[hn]at h4;exact h4
  have h5:=condW_of h4 (w_not (w_lt w_lit (w_len_list (w_arg rfl))));rw[lMq]at h5;refine jq λq=>?_
  have q':(n:Int)<((ns.length:Nat):Int):=by lia
  first
   | (rw[decide_eq_true q']at h5;exact absurd h5 (by decide))
   | (simp at h5;lia)
 cases hwl with
 |cons w1 w2 =>
  cases w2;cases w1 with
  |list ho hall=>exact⟨_,_,ns,rfl,rfl,ho,B0 ns _ hall,hlen⟩
theorem K5(l:OpenLaw) (args:List WData):l.row.toRowW.claim.post args (.bool true) args=true :=
 postW_of (r:=l.row.toRowW) (X:=(true == true))
  (show WShape.has [] (.bool true) .bool=true by first|rfl|decide|simp[WShape.has,WShape.arms,WShape.armsAll])
  (show (WTm.eq .res (.lit (.bool true))).value [] { args:=args,res:=some (.bool true),after:=args }=some (.bool (true == true)) from w_eq_bool (w_res rfl) w_lit) rfl
theorem GU{l:OpenLaw}{n:Nat}{q:kf}{loose:List Str}{XP:(Str->Option Value)->Heap->Prop}{YP:ki->Heap->Prop}{d:DefRec}
  (hn:l.most=some n) (hdf:d.params.defaults=[])
  (call:∀(w:ki) (s₀ s₁:Shared) (mg mb:Str->Option Value) (fa:Addr) (o:Obj) (pm cd doc:Value) (a:Addr) (vs:List Value) (ns:List Int),
   Ground q loose [] XP w s₀ mg mb s₁.heap->YP w s₁.heap ->
   s₁.heap.get? fa=some o->o.data = .func (docDef d.name d.params d.body d.scope pm cd doc)->s₁.heap.CodeRec cd d.name->mg d.name=some (.ref fa) ->
   s₁.heap.get? a=some { cls:=.type "list", data:=.seq vs.toArray }->kz vs ns->ns.length<=n->s₁.gens=#[] ->
   lD (jY l.prog w) mI (.call (.ref fa) ⟨[.ref a],[]⟩) (λr s'=>r = .ok (.ret (.bool true))/\OldK s₁.heap s'.heap/\s'.os=s₁.os/\lW s'.gens) s₁) :
  WalkO q loose XP YP l.row.toRowW d [] (λf vs=>PySem.call f vs):=by
 intro w s₀ s₁ mg mb G Y fa o pm cd doc dV kV ho hd hcd hD hmg hg args vals as hpre hlay hrd hwl hlo;obtain rfl:dV = .none:=Dflts.none hD hdf;obtain rfl:kV = .none:=Dflts.noKw hD;obtain⟨a,vs,ns,rfl,rfl,hobj,hints,hlen⟩:=Ly hn hpre hwl;refine enter_call (mi (call w s₀ s₁ mg mb fa o pm cd doc a vs ns G Y ho (fd_plain hd) hcd hmg hobj hints hlen hg) λr s' hq=>?_)
 obtain⟨rfl,h2,h3,h4⟩:=hq;exact⟨.inl ⟨.bool true,.bool true,[],rfl,λ_=>rfl,.bool true,K5 l _,λ_=>⟨aY.nil,λ_ hm=>(nomatch hm)⟩⟩,h2,h3,h4⟩
end Att
namespace L2
open PySem PySem.Spec PyProof.Rows
theorem vals_ints:∀{vs:List Value}{ns:List Int},kz vs ns->pY (ns.map V.int) vs
 |_,_,.nil=>.nil
 |_,_,.cons n t h=>.cons ⟨t,rfl⟩ (vals_ints h)
def Vk(H:Hp):Prop:=∀b,H b=none∨∃o xs,H b=some (.frz o (.lst xs))
theorem Nu{P:kf}{w:ki}{K:W.Frag}{mg mb:Str->Option Value}{CX:N6}{k:Nat}{fa a:Addr}{fd:kA}{x:Str}{sp:Sp}{s₁:Shared}{vs:List Value}{ns:List Int}
  (KX:K.In s₁.heap) (hns:s₁.heap.Ns kg mg) (hb:s₁.heap.Ns builtinsNs mb) (hbb:∀x:Str,x ≠ "__name__" -> mb x=ly x) (hlim:s₁.heap.NoLimit) (hg:s₁.gens=#[])
  (ha:s₁.heap.get? a=some { cls:=.type "list", data:=.seq vs.toArray }) (hi:kz vs ns) (hl:ns.length<=ke) (hr:xj k mI)
  (F:∀base:Heap,K.In base->base.Ns kg mg->BS P w K mg base CX k fa fd [x] sp) (hbind:∀(s:Shared) (u:Value),mZ s fd ⟨[u],[]⟩ [(x,u)])
  (hsp:∀H:Hp,Vk H->sS K H a (ns.map V.int)->sp [.ref a] H (λv _=>v = .bl true) λ_ _ _=>False)
  (hCX:∀H e s',CX [] H s₁ (λ_ _ _=>False) e s'->False) :
  lD (jY P w) mI (.call (.ref fa) ⟨[.ref a],[]⟩) (λr s'=>r = .ok (.ret (.bool true))/\OldK s₁.heap s'.heap/\s'.os=s₁.os/\lW s'.gens) s₁:=by
 have rv:=vals_ints hi;have lenV:=hi.length;have core:∀H:Hp,Vk H->sS K H a (ns.map V.int)->Ac P w H s₁.heap->(∀b,H b≠none->b=a)->(H a≠none->K.lookup a=none) ->
   lD (jY P w) mI (.call (.ref fa) ⟨[.ref a],[]⟩) (λr s'=>r = .ok (.ret (.bool true))/\OldK s₁.heap s'.heap/\s'.os=s₁.os/\lW s'.gens) s₁:=by
  intro H hO hS hok hA hK;have base_of:∀{b:Addr}{o:Obj},s₁.heap.get? b=some o->H b=none->(FD s₁.heap H).get? b=some o:=λe n=>M8 e n
  have noA:∀{b:Addr}{o:Obj}{es:Array DictEntry}{ep:Nat},s₁.heap.get? b=some o->o.data = .dict es ep->H b=none:=λ{b o es ep} e d=>by
   cases q:H b with
   |none=>rfl
   |some u =>
    have e':b=a:=hA b (by rw[q];simp)
    subst e';rw[ha]at e;cases e;have d':Data.seq vs.toArray _=Data.dict es ep:=d;cases d'
  have nsK:∀{b:Addr}{m:Str->Option Value},s₁.heap.Ns b m->(FD s₁.heap H).Ns b m:=λ{b m} ⟨o,es,ep,e,d,r⟩=>⟨o,es,ep,base_of e (noA e d),d,r⟩
  have hKb:K.In (FD s₁.heap H):=λb o e=>base_of (KX b o e) (by
   cases q:H b with
   |none=>rfl
   |some u =>
    have e':b=a:=hA b (by rw[q];simp)
    subst e';rw[hK (by rw[q];simp)]at e;cases e)
  have hM:Mod K mg (FD s₁.heap H):=⟨hKb,nsK hns,⟨mb,nsK hb,hbb⟩,let ⟨mc,h1,h2⟩:=hlim;⟨mc,nsK h1,h2⟩⟩
  have e0:Sr P w K mg (FD s₁.heap H) mI [] s₁ H:=⟨rfl,hM,λb o e=>QZ e,gG (K9 _ _),trivial,λb hb=>absurd (show b∈([]:List Addr) from hb) (by simp),hok,.of_eq hg⟩
  refine mi ((F _ hKb (nsK hns)).run mI [] s₁ H ⟨[.ref a],[]⟩ [.ref a] [.ref a] _ _ hr e0 (hbind s₁ (.ref a)) (.cons rfl .nil) (hsp H hO hS)) λr s' h=>?_
  cases r with
  |error e=>exact(hCX H e s' h).elim
  |ok fl =>
   cases fl with
   |next=>exact False.elim h
   |brk=>exact False.elim h
   |cont=>exact False.elim h
   |ret u =>
    obtain⟨v,H',os,bare,un,hok',r',q⟩:=h;have q':v = .bl true:=q;subst q';obtain rfl:u=gJ true:=r';refine⟨rfl,OldK.of_keep λb o e=>?_,os,bare⟩
    cases q:H b with
    |none=>exact un.keep b o e q (by intro z;exact absurd (show b∈([]:List Addr) from z) (by simp)) (by simp)
    |some u =>
     rcases hO b with z|⟨ob,xs,z⟩
     .rw [q]at z;cases z
     .have z2:=un.frzs b ob _ z;obtain⟨e1,_⟩:=hok b _ z;obtain⟨e2,_⟩:=hok' b _ z2;rw[e]at e1;cases e1;exact e2
 cases hk:K.lookup a with
 |some o =>
  have e:=KX a o hk;rw[ha]at e;cases e;refine core (λ_=>none) (λ_=>.inl rfl) (.inr ⟨_,vs.toArray,_,hk,rfl,rfl,rfl,by rw[aG,lenV];exact hl,by simpa using rv⟩) (λb u z=>by have z':(none:Option HO)=some u:=z;cases z') (λb z=>absurd rfl z) λz=>absurd rfl z
 |none =>
  refine core (λb=>if b=a then some (.frz { cls:=.type "list", data:=.seq vs.toArray } (.lst (ns.map V.int))) else none) (λb=>?_) (.inl (.inr ⟨{ cls:=.type "list", data:=.seq vs.toArray },pN rfl⟩)) (λb u z=>?_) (λb z=>?_) λ_=>hk
  .by_cases hb:b=a
   .exact .inr ⟨_,_,pN hb⟩
   .exact .inl (pJ hb)
  .by_cases hb:b=a
   .have z':=(pN hb).symm.trans z;cases z';subst hb;exact⟨ha,by rw[lMq];exact hl,vs,_,rv,ha⟩
   .have z':=(pJ hb).symm.trans z;cases z'
  .by_cases hb:b=a
   .exact hb
   .exact absurd (pJ hb) z
theorem Ru{l:W.OpenLaw}{n k:Nat}{q:kf}{loose:List Str}{XP:(Str->Option Value)->Heap->Prop}{YP:ki->Heap->Prop}{d:DefRec}{K:Params->W.Frag}{CX:ki->N6}{sp:ki->Sp}{x:Str}
  (hn:l.most=some n) (hn2:n<=ke) (hdf:d.params.defaults=[]) (hr:xj k mI)
  (hY:∀(w:ki) (h:Heap),YP w h->(K w.params).In h)
  (F:∀(w:ki) (mg:Str->Option Value) (fa:Addr) (h:Heap),(K w.params).In h->h.Ns kg mg->mg d.name=some (.ref fa) ->
   ∃fd:kA,(∀(s:Shared) (u:Value),mZ s fd ⟨[u],[]⟩ [(x,u)]) /\
    ∀base:Heap,(K w.params).In base->base.Ns kg mg->BS l.prog w (K w.params) mg base (CX w) k fa fd [x] (sp w))
  (hsp:∀(w:ki) (H:Hp) (a:Addr) (ns:List Int),ns.length<=n->Vk H->sS (K w.params) H a (ns.map V.int)->sp w [.ref a] H (λv _=>v = .bl true) λ_ _ _=>False)
  (hCX:∀(w:ki) (H:Hp) (s:Shared) (e:Value) (s':Shared),CX w [] H s (λ_ _ _=>False) e s'->False) :
  W.WalkO q loose XP YP l.row.toRowW d [] (λf vs=>PySem.call f vs):=by
 refine Att.GU hn hdf λw s₀ s₁ mg mb fa o pm cd doc a vs ns G Y ho hd hcd hmg hobj hints hlen hg=>?_
 have KX:=hY w _ Y;obtain⟨fd,hb,hF⟩:=F w mg fa _ KX G.T.g hmg;exact Nu KX G.T.g G.T.b G.T.builtins G.T.nolimit hg hobj hints (bY hlen hn2) hr hF hb (λH hO hS=>hsp w H a ns hlen hO hS) λH e s'=>hCX w H s₁ e s'
def vx(s:Stmt):Arguments:=match s with
 | .FunctionDef _ a _ _ _ _ _ _ _ _=>a
 |_=>{ posonlyargs:=[],args:=[],vararg:=none,kwonlyargs:=[],kw_defaults:=[],kwarg:=none,defaults:=[] }
def uS(s:Stmt):List Stmt:=match s with
 | .FunctionDef _ _ b _ _ _ _ _ _ _=>b
 |_=>[]
def pB(s:Stmt):lH:=match s with
 | .FunctionDef _ _ _ _ _ _ sc _ _ _=>sc
 |_=>{ kind:=.function,names:=[],isGenerator:=false,isCoroutine:=false }
abbrev Vi:N6:=λ_ _ _ _ _ _=>False
abbrev E0:XK:=λ_ _ _=>False
theorem Xi{X:Cx}:Jb Vi X E0:=λ_ _ _ _ _ _ _ h=>h.elim
structure S5 (K:W.Frag) (x qual:Str) (st:Stmt) (f:Addr) (fd:kA):Prop where
 ex:∃(oc:Value) (od:Option Addr) (kV doc pm:Value) (an:Option Addr) (ve ct:Value) (osl:Array (Option Value)),
  fd=W.fnOf x qual (vx st) (uS st) (pB st) .none kV doc pm an ve ct/\K.lookup f=some ⟨oc,od,.func fd,osl⟩/\W.codeIn K ve qual=true
 kp:W.keepIn K (.ref f)=true
section
variable {P:kf}{w:ki}{K:W.Frag}{mg:Str->Option Value}{base:Heap}
theorem S5.ok{x qual:Str}{st:Stmt}{f:Addr}{fd:kA}{N ps:List Str}{k:Nat}{sp:Sp}(F:S5 K x qual st f fd) (S:qm N ps (pB st)) (len:∀vs H Q E,sp vs H Q E->vs.length=ps.length)
  (hbody:∀(ve:Value) (A:Around) (outer:List Env) (s:Shared) (H:Hp) (vs:List V) (Q:VK) (E:XK),xj k (A.deeper (mz qual (pB st) s.heap.objs.size f ve))->sp vs H Q E ->
   ∃t,Lf (Mc Vi P w K mg base N qual (pB st) f ve A outer s H E).nox (uS st) t/\t { nx:=λ_ H'=>Q .non H',rt:=Q } (yn N vs) H):BS P w K mg base Vi (k+1) f fd ps sp:=by
 obtain⟨oc,od,kV,doc,pm,an,ve,ct,osl,rfl,lk,hcd⟩:=F.ex;refine WJ lk hcd S len λA outer s H vs Q E hr hsp=>?_
 obtain⟨t,h,q⟩:=hbody ve A outer s H vs Q E hr hsp;exact⟨t,h.nox,q⟩
theorem S5.binds{x qual:Str}{st:Stmt}{f:Addr}{fd:kA}{ps:List Str}(F:S5 K x qual st f fd)
  (h:∀(kV doc pm:Value) (an:Option Addr) (ve ct:Value) (us:List Value),us.length=ps.length->bindArgs (W.fnOf x qual (vx st) (uS st) (pB st) .none kV doc pm an ve ct) ⟨us,[]⟩=pure (ps.zip us)):zp K fd ps []:=by
 obtain⟨oc,od,kV,doc,pm,an,ve,ct,osl,rfl,lk,hcd⟩:=F.ex;exact .all (h kV doc pm an ve ct)
theorem IJ{x qual:Str}{st:Stmt}{f:Addr}{oc:Value}{od an:Option Addr}{osl:Array (Option Value)}{kV doc pm ve ct:Value}(l:K.lookup f=some ⟨oc,od,.func (W.fnOf x qual (vx st) (uS st) (pB st) .none kV doc pm an ve ct),osl⟩)
  (c:W.codeIn K ve qual=true) (k:W.keepIn K (.ref f)=true):S5 K x qual st f (W.fnOf x qual (vx st) (uS st) (pB st) .none kV doc pm an ve ct):=⟨⟨oc,od,kV,doc,pm,an,ve,ct,osl,rfl,l,c⟩,k⟩
end
theorem wO{A:Around}{k:Nat}(hr:xj k A):A.units+1<lF:=Nat.lt_of_le_of_lt (Nat.add_le_add_left (by decide:1<=64) _) hr.units
section
variable {X:Cx}
theorem pv(i:Nat) {x:Str}{pos:Pos}(hN:X.N[i]?=some x:=by rfl) (hv:Ys X.env.scope x:=by trivial) (hd:(x == ("__debug__" : Str))=false:=by decide)
  (hcd:(x == ("__classdict__" : Str))=false:=by decide):PE X (.Name x pos) (wR i):=Vw hN hv hd hcd
end
theorem Jn{A B:Prop}(h:B):if false=true then A else B:=by
 rw[pJ aK];exact h
theorem IR{A B:Prop}(h:A):if true=true then A else B:=by
 rw[pN rfl];exact h
def qh(H H':Hp):Prop:=∀b o,H b=some o->H' b=some o
theorem qh.refl(H:Hp):qh H H:=λ_ _ h=>h
theorem qh.trans{H H1 H2:Hp}(a:qh H H1) (b:qh H1 H2):qh H H2:=λc o h=>b c o (a c o h)
theorem qh.free{H H':Hp}(e:qh H H') {l:Addr}(h:H' l=jQ):H l=jQ:=by
 cases q:H l with
 |none=>rfl
 |some o =>
  rw[e l o q]at h;cases h
theorem qh.seq{K:W.Frag}{H H':Hp}{a:Addr}{xs:List V}(e:qh H H') (h:sS K H a xs):sS K H' a xs:=by
 rcases h with (h|⟨o,h⟩)|h
 .exact .inl (.inl (e _ _ h))
 .exact .inl (.inr ⟨o,e _ _ h⟩)
 .exact .inr h
end L2
namespace Mr
def cell(ns:List Int) (k:Nat):Int:=ns.getD k 0
def qo(ns:List Int):Nat->Nat
 |0=>0
 |k+1=>if ns.getD k 0<ns.getD (qo ns k) 0 then k else qo ns k
def rot(ns:List Int) (i:Nat):List Int:=ns.drop i++ns.take i
def good(ns:List Int):List Int:=rot ns (qo ns ns.length)
theorem vy(ns:List Int):∀n,(0<n->qo ns n<n)/\(∀j,j<n->ns.getD (qo ns n) 0<=ns.getD j 0)/\(∀j,j<qo ns n->ns.getD (qo ns n) 0<ns.getD j 0)
 |0=>⟨λh=>absurd h (dZ _),λj h=>absurd h (cQ _),λj h=>absurd h (cQ _)⟩
 |n+1=>by
  obtain⟨h1,h2,h3⟩:=vy ns n;simp only[qo]
  by_cases c:ns.getD n 0<ns.getD (qo ns n) 0
  .rw [pN c];refine⟨λ_=>fg n,λj hj=>?_,λj hj=>?_⟩
   .rcases fu (ji hj) with q|q
    .have:=h2 j q;lia
    .subst q;exact fZ _
   .have:=h2 j hj;lia
  .rw [pJ c];refine⟨λ_=>?_,λj hj=>?_,h3⟩
   .by_cases hn:0<n
    .exact bU (h1 hn)
    .have:n=0:=by lia
     subst this;exact fg 0
   .rcases fu (ji hj) with q|q
    .exact h2 j q
    .subst q;lia
theorem HK(ns:List Int):qo ns ns.length<=ns.length:=by
 by_cases h:0<ns.length
 .exact cS ((vy ns ns.length).1 h)
 .have:ns.length=0:=by lia
  rw[this];exact af 0
theorem wI{ns:List Int}{j:Nat}(h:j<ns.length):ns.getD j 0=ns[j]:=by
 rw[gDq,gEg h];rfl
theorem BE{ns:List Int}{M:Int}(hm:M∈ns) (hl:∀a,a∈ns->M<=a):ns.idxOf M=qo ns ns.length:=by
 have h0:0<ns.length:=fQ hm;obtain⟨h1,h2,h3⟩:=vy ns ns.length;have h1:=h1 h0;have hi:ns.idxOf M<ns.length:=hZ.mpr hm;have e:ns.getD (ns.idxOf M) 0=M:=by rw[wI hi];exact jc hi
 have eL:ns.getD (qo ns ns.length) 0=M:=by
  have q1:=h2 _ hi;rw[e]at q1;have q2:=hl _ (by rw[wI h1];exact gRq h1:ns.getD (qo ns ns.length) 0∈ns)
  lia
 rcases gX (ns.idxOf M) (qo ns ns.length) with q|q|q
 .have:=h3 _ q;lia
 .exact q
 .exfalso;have:=List.not_of_lt_findIdx (p:=(· == M)) (xs:=ns) (i:=qo ns ns.length) (by simpa [List.idxOf] using q)
  rw[wI h1]at eL;simp[eL]at this
theorem PK:good []=[]:=rfl
theorem Ig(ns:List Int) (i:Nat):(rot ns i).length=ns.length:=by
 unfold rot;rw[lAq,aR,lTq];lia
theorem GA(ns:List Int):(good ns).length=ns.length:=Ig _ _
def step(ns:List Int):Int:=if 0<cell ns 0 % 3 then cell ns 0 % 10 ^ 40+1 else 1
def VR(ns:List Int):Int:=if 0<cell ns 1 % 3 then cell ns 1 % 10 ^ 40 else 0
def To(ns:List Int) (k:Int):Int:=step ns*(((1+cell ns 1 / 3 % 66)*k+cell ns 0 / 3 % 67) % 67+1)+VR ns
def Wq(ns:List Int) (k:Int):Int:=if cell ns 1 % 5=4 then 10 ^ 60-To ns k else To ns k
theorem zZ{A B:List Int}{m:Int}(h:∀x,x∈A->m<x) (h2:∀x,x∈B->m<=x):good (A++m::B)=m::B++A:=by
 have hm:m∈A++m::B:=by simp
 have hl:∀a,a∈A++m::B->m<=a:=λa ha=>by
  rcases mAq.mp ha with q|q
  .exact gH (h a q)
  .rcases ae.mp q with rfl|q
   .exact fZ _
   .exact h2 a q
 have e:=BE hm hl;have ei:(A++m::B).idxOf m=A.length:=by
  rw[List.idxOf_append,pJ (λq=>absurd (h m q) (Int.lt_irrefl m)),List.idxOf_cons_self,bZ]
 unfold good rot;rw[←e,ei,List.drop_left,List.take_left]
theorem Hc{t:List Int}(h0:t≠[]) (hn:t.Nodup):∃A m B,t=A++m::B/\(∀x,x∈A->m<x)/\∀x,x∈B->m<x:=by
 have hl:0<t.length:=fj.mpr h0;obtain⟨h1,h2,h3⟩:=vy t t.length;have h1:=h1 hl;refine⟨t.take (qo t t.length),t[qo t t.length],t.drop (qo t t.length+1),?_,?_,?_⟩
 .rw [←aZ h1,bb]
 .intro x hx;obtain⟨j,hj,rfl⟩:=List.mem_take_iff_getElem.mp hx;have:=h3 j (by lia)
  rw[wI h1,wI (by lia)]at this
  exact this
 .intro x hx;obtain⟨j,hj,rfl⟩:=List.mem_drop_iff_getElem.mp hx;have a:=h2 (qo t t.length+1+j) (by lia)
  rw[wI h1,wI (by lia)]at a
  have ne:t[qo t t.length]≠t[qo t t.length+1+j]:=bR.mp hn _ _ h1 (by lia) (by lia)
  lia
theorem Of{t:List Int}(hn:t.Nodup) (i:Nat):good (rot t i)=good t:=by
 by_cases h0:t=[]
 .subst h0;simp[rot]
 .obtain ⟨A,m,B,rfl,h1,h2⟩:=Hc h0 hn;rw[zZ h1 (λx q=>gH (h2 x q))]
  by_cases c:i<=A.length
  .have e:rot (A++m::B) i=A.drop i++m::(B++A.take i):=by
    unfold rot;rw[List.drop_append_of_le_length c,List.take_append_of_le_length c];simp
   rw[e,zZ (λx q=>h1 x (bF q)) (λx q=>?_)]
   .simp
   .rcases mAq.mp q with q|q
    .exact gH (h2 x q)
    .exact gH (h1 x (bK q))
  .have hi:A.length<i:=by lia
   obtain⟨j,rfl⟩:∃j,i=A.length+(j+1):=⟨i-A.length-1,by lia⟩
   have e:rot (A++m::B) (A.length+(j+1))=(B.drop j++A)++m::B.take j:=by
    unfold rot;rw[jr,List.take_append];simp[dF,cA]
   rw[e,zZ (λx q=>?_) (λx q=>gH (h2 x (bK q)))]
   .rw [cJ,cJ,←ah,bb]
   .rcases mAq.mp q with q|q
    .exact h2 x (bF q)
    .exact h1 x q
theorem rot_perm(t:List Int) (i:Nat):(rot t i).Perm t:=by
 unfold rot;exact aL.trans (by rw[bb])
theorem qV(t:List Int):(good t).Perm t:=rot_perm t _
theorem rF{rs ts:List (List Int)}(h:rs.Perm ts):rs.flatten.Perm ts.flatten:=by
 induction h with
 |nil=>exact .refl _
 |cons x _ ih=>rw[fCq,fCq];exact bj.append (.refl x) ih
 |swap x y l =>
  rw[fCq,fCq,fCq,fCq,←ah,←ah];exact bj.append aL (.refl _)
 |trans _ _ a b=>exact a.trans b
theorem tH{f:List Int->List Int}(hf:∀r,(f r).Perm r):∀rs:List (List Int),(rs.map f).flatten.Perm rs.flatten
 | []=>.refl _
 |r::rs=>by
  rw[au,fCq,fCq];exact bj.append (hf r) (tH hf rs)
theorem PD{rs:List (List Int)}{r:List Int}(hr:r∈rs):r.length<=rs.flatten.length:=(aF hr).length_le
def WA(r:List Int) (i:Nat) (e:Int):List Int:=r.take i++[e]++r.drop i
def ZC(ts:List (List Int)) (a:Nat) (f:Nat->Nat) (e:Int):List (List Int):=ts.set a (WA (ts.getD a []) (f (ts.getD a []).length) e)
theorem Ke:∀t:Fin 66,∀d:Fin 67,0<d.val->(t.val+1)*d.val % 67≠0:=by decide +kernel
end Mr
namespace MrS
open PySem PyProof.Rows
def wN:Bool->jV->Array jV->Nat->Nat->Nat->StateT SortSt Sem (Option Nat):=sortPriv% PySem.Builtin.gallop
structure zg (prog:kf) (w:ki) (A:Around) (s:Shared) (κ:kG) (P:jV->Prop) (lt:jV->jV->Bool):Prop where
 ask:∀x y,P x->P y->∀(E:Value->Shared->Prop) (Q:Bool->Shared->Prop),Q (lt x y) s->kc (jY prog w) A (keyLt' κ x.1 y.1) Q E s
 asym:∀x y,P x->P y->lt x y=true->lt y x=false
 trans:∀x y z,P x->P y->P z->lt y x=false->lt z y=false->lt z x=false
section
variable {prog:kf}{w:ki}{A:Around}{E:Value->Shared->Prop}{s:Shared}{κ:kG}{P:jV->Prop}{lt:jV->jV->Bool}
theorem zg.refl(C:zg prog w A s κ P lt) {x:jV}(hx:P x):lt x x=false:=by
 cases e:lt x x with
 |false=>rfl
 |true=>rw[←C.asym x x hx hx e,e]
theorem zg.cmp(C:zg prog w A s κ P lt) {x y:jV}{st:SortSt}{Q:Option Bool->SortSt->Prop}(hx:P x) (hy:P y) (hk:kindOf st=κ) (h:Q (some (lt x y)) st) :
  wpS (jY prog w) A E s (lt' x y) Q st:=by
 rw[lt'_eq];refine jW (lj ?_);rw[hk];refine jW (wpS_lift (nq (C.ask x y hx hy _ _ ⟨rfl,?_⟩)));exact jZ h
theorem pX{arr:Array jV}{i:Nat}{x:jV}{st:SortSt}{Q:jV->SortSt->Prop}(hx:arr[i]?=some x) (h:Q x st):wpS (jY prog w) A E s (kK arr i) Q st:=by
 rw[elem'_eq,hx];exact jZ h
theorem zg.at(C:zg prog w A s κ P lt) {i j:Nat}{x y:jV}{st:SortSt}{Q:Option Bool->SortSt->Prop}(hi:(kj st)[i]?=some x) (hj:(kj st)[j]?=some y) (hx:P x) (hy:P y) (hk:kindOf st=κ) (h:Q (some (lt x y)) st) :
  wpS (jY prog w) A E s (ltAt' i j) Q st:=by
 rw[ltAt'_eq];refine jW (lj ?_);exact jW (pX hi (jW (pX hj (C.cmp hx hy hk h))))
def yc(lt:jV->jV->Bool) (left:Bool) (key:jV) (arr:Array jV) (base i:Nat):Bool :=
 if left then lt (arr.getD (base+i) key) key else !lt key (arr.getD (base+i) key)
theorem HN(left:Bool) (key:jV) (arr:Array jV) (base n hint:Nat):wN left key arr base n hint=(do
 let beyond (i:Nat):StateT SortSt Sem (Option Bool):=do
  let x ←kK arr (base+i)
  if left then lt' x key else return (←lt' key x).map (!·)
 let mut lastofs:=0
 let mut ofs:=1
 let mut lo:=0
 let mut hi:=0
 let some right ←beyond hint|return none
 if right then
  let maxofs:=n-hint
  for _ in [0:n] do
   if ofs ≥ maxofs then break
   let some more ←beyond (hint+ofs)|return none
   if !more then break
   lastofs:=ofs
   ofs:=2*ofs+1
  lo:=hint+lastofs+1
  hi:=hint+min ofs maxofs
 else
  let maxofs:=hint+1
  for _ in [0:n] do
   if ofs ≥ maxofs then break
   let some found ←beyond (hint-ofs)|return none
   if found then break
   lastofs:=ofs
   ofs:=2*ofs+1
  lo:=hint+1-min ofs maxofs
  hi:=hint-lastofs
 for _ in [0:n] do
  if lo ≥ hi then break
  let m:=lo+(hi-lo) / 2
  let some more ←beyond m|return none
  if more then lo:=m+1 else hi:=m
 return some hi):=rfl
theorem vT(C:zg prog w A s κ P lt) {left:Bool}{key:jV}{arr:Array jV}{base i:Nat}{st:SortSt}{Q:Option Bool->SortSt->Prop}(hi:base+i<arr.size) (ha:∀x,x∈arr->P x) (hkey:P key) (hk:kindOf st=κ)
  (h:Q (some (yc lt left key arr base i)) st):wpS (jY prog w) A E s (do
   let x ←kK arr (base+i)
   if left=true then lt' x key else do
    let __x ←lt' key x
    pure (__x.map (!·))) Q st:=by
 have e:arr[base+i]?=some arr[base+i]:=ai hi;have e2:arr.getD (base+i) key=arr[base+i]:=by simp[il,hi]
 refine jW (pX e ?_);have hp:P arr[base+i]:=ha _ (bu hi);unfold yc at h;rw[e2]at h;cases left with
 |true =>
  rw[pN rfl]at h ⊢;exact C.cmp hp hkey hk h
 |false =>
  rw[pJ (by decide)]at h ⊢
  exact jW (C.cmp hkey hp hk (jZ h))
theorem BL{left:Bool}{key:jV}{arr:Array jV}{base n lo hi:Nat}{st:SortSt}{f:Nat->Option (Option Nat)×Nat×Nat->StateT SortSt Sem (ForInStep (Option (Option Nat)×Nat×Nat))}
  (mono:∀i j,i<=j->j<n->yc lt left key arr base j=true->yc lt left key arr base i=true)
  (down:∀i j,i<=j->j<n->yc lt left key arr base i=false->yc lt left key arr base j=false)
  (hf:∀(i l u:Nat) (Q':ForInStep (Option (Option Nat)×Nat×Nat)->SortSt->Prop),u<=n->(u<=l->Q' (.done (none,l,u)) st)->(l<u->yc lt left key arr base (l+(u-l) / 2)=true->Q' (.yield (none,l+(u-l) / 2+1,u)) st) ->
   (l<u->yc lt left key arr base (l+(u-l) / 2)=false->Q' (.yield (none,l,l+(u-l) / 2)) st)->wpS (jY prog w) A E s (f i (none,l,u)) Q' st)
  (h1:lo<=hi) (h2:hi<=n) (h3:∀j,j<lo->yc lt left key arr base j=true) (h4:∀j,hi<=j->j<n->yc lt left key arr base j=false) :
  wpS (jY prog w) A E s (forIn [:n] ((none,lo,hi):Option (Option Nat)×Nat×Nat) f)
   (λc st'=>∃k,c=(none,k,k)/\st'=st/\k<=n/\(∀j,j<k->yc lt left key arr base j=true)/\(∀j,k<=j->j<n->yc lt left key arr base j=false)) st:=by
 refine kB
  (I:=λi c st'=>∃l u,c=(none,l,u)/\st'=st/\l<=u/\u<=n/\(∀j,j<l->yc lt left key arr base j=true)/\(∀j,u<=j->j<n->yc lt left key arr base j=false)/\(u-l)+i<=n)
  ?step ?fin ⟨lo,hi,rfl,rfl,h1,h2,h3,h4,by lia⟩
 case step =>
  rintro i c st' _ hi' ⟨l,u,rfl,rfl,a1,a2,a3,a4,a5⟩;refine hf i l u _ a2 (λc1=>?_) (λc1 e=>?_) (λc1 e=>?_)
  .have e:l=u:=by lia
   subst e;exact⟨l,rfl,rfl,a2,a3,a4⟩
  .exact ⟨_,u,rfl,rfl,by lia,a2,λj hj=>mono j _ (by lia) (by lia) e,a4,by lia⟩
  .exact ⟨l,_,rfl,rfl,by lia,by lia,a3,λj hj hn=>down _ j hj hn e,by lia⟩
 case fin =>
  rintro c st' ⟨l,u,rfl,rfl,a1,a2,a3,a4,a5⟩;have e:l=u:=by lia
  subst e;exact⟨l,rfl,rfl,a2,a3,a4⟩
theorem uE(C:zg prog w A s κ P lt) {left:Bool}{key:jV}{arr:Array jV}{base n hint:Nat}{st:SortSt}{Q:Option Nat->SortSt->Prop}(hh:hint<n) (hb:base+n<=arr.size) (ha:∀x,x∈arr->P x) (hkey:P key) (hk:kindOf st=κ)
  (mono:∀i j,i<=j->j<n->yc lt left key arr base j=true->yc lt left key arr base i=true)
  (h:∀k,k<=n->(∀j,j<k->yc lt left key arr base j=true)->(∀j,k<=j->j<n->yc lt left key arr base j=false)->Q (some k) st) :
  wpS (jY prog w) A E s (wN left key arr base n hint) Q st:=by
 have down:∀i j,i<=j->j<n->yc lt left key arr base i=false->yc lt left key arr base j=false:=λi j hij hj e=>by
  cases q:yc lt left key arr base j with
  |false=>rfl
  |true=>rw[mono i j hij hj q]at e;cases e
 rw[HN];dsimp only;refine jW (vT C (base:=base) (i:=hint) (by lia) ha hkey hk ?_)
 cases er:yc lt left key arr base hint with
 |true =>
  dsimp only;rw[pN rfl];refine jW (kF (kB
   (I:=λi c st'=>∃l o,c=(none,l,o)/\st'=st/\l<o/\i+1<=o/\hint+l<n/\yc lt left key arr base (hint+l)=true)
   (Q:=λc st'=>∃l o,c=(none,l,o)/\st'=st/\l<o/\hint+l<n/\yc lt left key arr base (hint+l)=true/\(n-hint<=o∨(hint+o<n/\yc lt left key arr base (hint+o)=false)))
   ?step ?fin ⟨0,1,rfl,rfl,by lia,by lia,by lia,er⟩) ?post)
  case step =>
   rintro i c st' _ hi' ⟨l,o,rfl,rfl,a1,a2,a3,a4⟩;dsimp only
   by_cases c1:o ≥ n-hint
   .rw [pN c1];exact jZ ⟨l,o,rfl,rfl,a1,a3,a4,.inl c1⟩
   .rw [pJ c1];refine jW (vT C (base:=base) (i:=hint+o) (by lia) ha hkey hk ?_)
    cases e:yc lt left key arr base (hint+o) with
    |true =>
     dsimp only;rw[pJ (by decide)]
     exact jZ ⟨o,_,rfl,rfl,by lia,by lia,by lia,e⟩
    |false =>
     dsimp only;rw[pN (by decide)]
     exact jZ ⟨l,o,rfl,rfl,a1,a3,a4,.inr ⟨by lia,e⟩⟩
  case fin =>
   rintro c st' ⟨l,o,rfl,rfl,a1,a2,a3,a4⟩;exact⟨l,o,rfl,rfl,a1,a3,a4,.inl (by lia)⟩
  case post =>
   rintro c st' ⟨l,o,rfl,rfl,a1,a3,a4,a5⟩;dsimp only;refine jW (kF (BL (lt:=lt) (left:=left) (key:=key) (arr:=arr) (base:=base) mono down (λi l' u' Q' hu q1 q2 q3=>?_) (by lia) (by lia) (λj hj=>mono j _ (by lia) a3 a4) ?_) ?_)
   .dsimp only
    by_cases c1:l' ≥ u'
    .rw [pN c1];exact jZ (q1 c1)
    .rw [pJ c1];refine jW (vT C (base:=base) (i:=l'+(u'-l') / 2) (by lia) ha hkey hk ?_)
     cases e:yc lt left key arr base (l'+(u'-l') / 2) with
     |true =>
      dsimp only;rw[pN rfl];exact jZ (q2 (by lia) e)
     |false =>
      dsimp only;rw[pJ (by decide)]
      exact jZ (q3 (by lia) e)
   .intro j hj hn;rcases a5 with a5|⟨a5,a6⟩
    .lia
    .exact down (hint+o) j (by lia) hn a6
   .rintro c st' ⟨k,rfl,rfl,k1,k2,k3⟩;exact jZ (h k k1 k2 k3)
 |false =>
  dsimp only;rw[pJ (by decide)]
  refine jW (kF (kB
   (I:=λi c st'=>∃l o,c=(none,l,o)/\st'=st/\l<o/\i+1<=o/\l<=hint/\yc lt left key arr base (hint-l)=false)
   (Q:=λc st'=>∃l o,c=(none,l,o)/\st'=st/\l<o/\l<=hint/\yc lt left key arr base (hint-l)=false/\(hint+1<=o∨(o<=hint/\yc lt left key arr base (hint-o)=true)))
   ?step ?fin ⟨0,1,rfl,rfl,by lia,by lia,by lia,er⟩) ?post)
  case step =>
   rintro i c st' _ hi' ⟨l,o,rfl,rfl,a1,a2,a3,a4⟩;dsimp only
   by_cases c1:o ≥ hint+1
   .rw [pN c1];exact jZ ⟨l,o,rfl,rfl,a1,a3,a4,.inl c1⟩
   .rw [pJ c1];refine jW (vT C (base:=base) (i:=hint-o) (by lia) ha hkey hk ?_)
    cases e:yc lt left key arr base (hint-o) with
    |true =>
     dsimp only;rw[pN rfl];exact jZ ⟨l,o,rfl,rfl,a1,a3,a4,.inr ⟨by lia,e⟩⟩
    |false =>
     dsimp only;rw[pJ (by decide)]
     exact jZ ⟨o,_,rfl,rfl,by lia,by lia,by lia,e⟩
  case fin =>
   rintro c st' ⟨l,o,rfl,rfl,a1,a2,a3,a4⟩;exact⟨l,o,rfl,rfl,a1,a3,a4,.inl (by lia)⟩
  case post =>
   rintro c st' ⟨l,o,rfl,rfl,a1,a3,a4,a5⟩;dsimp only;refine jW (kF (BL (lt:=lt) (left:=left) (key:=key) (arr:=arr) (base:=base) mono down (λi l' u' Q' hu q1 q2 q3=>?_) (by lia) (by lia) ?_ (λj hj hn=>down _ j hj hn a4)) ?_)
   .dsimp only
    by_cases c1:l' ≥ u'
    .rw [pN c1];exact jZ (q1 c1)
    .rw [pJ c1];refine jW (vT C (base:=base) (i:=l'+(u'-l') / 2) (by lia) ha hkey hk ?_)
     cases e:yc lt left key arr base (l'+(u'-l') / 2) with
     |true =>
      dsimp only;rw[pN rfl];exact jZ (q2 (by lia) e)
     |false =>
      dsimp only;rw[pJ (by decide)]
      exact jZ (q3 (by lia) e)
   .intro j hj;rcases a5 with a5|⟨a5,a6⟩
    .lia
    .exact mono j (hint-o) (by lia) (by lia) a6
   .rintro c st' ⟨k,rfl,rfl,k1,k2,k3⟩;exact jZ (h k k1 k2 k3)
end
abbrev xT(lt:jV->jV->Bool) (l:List jV):Prop:=l.Pairwise λx y=>lt y x=false
structure MI (lt:jV->jV->Bool) (a b out:Array jV) (ia ib:Nat):Prop where
 la:ia<=a.size
 lb:ib<=b.size
 pm:(out.toList++(a.toList.drop ia++b.toList.drop ib)).Perm (a.toList++b.toList)
 so:xT lt out.toList
 ua:∀x∈out.toList,∀y∈a.toList.drop ia,lt y x=false
 ub:∀x∈out.toList,∀y∈b.toList.drop ib,lt y x=false
section
variable {lt:jV->jV->Bool}{a b out out':Array jV}{ia ib k:Nat}
theorem MI.congr(m:MI lt a b out ia ib) (e:out'.toList=out.toList):MI lt a b out' ia ib:=⟨m.la,m.lb,by rw[e];exact m.pm,by rw[e];exact m.so,by rw[e];exact m.ua,by rw[e];exact m.ub⟩
theorem Gm(l:List jV) (i k:Nat):l.drop i=(l.drop i).take k++l.drop (i+k):=by
 rw[←List.drop_drop,bb]
theorem xG(a:Array jV) (i k:Nat):(a.extract i (i+k)).toList=(a.toList.drop i).take k:=by
 rw[gA,fk,fE]
theorem MI.moreA(m:MI lt a b out ia ib) (sa:xT lt a.toList) (hk:ia+k<=a.size) (h:∀x∈(a.toList.drop ia).take k,∀y∈b.toList.drop ib,lt y x=false):MI lt a b (out++a.extract ia (ia+k)) (ia+k) ib:=by
 have e:(out++a.extract ia (ia+k)).toList=out.toList++(a.toList.drop ia).take k:=by rw[aS,xG]
 have sd:xT lt (a.toList.drop ia):=sa.sublist (bV _ _);have c:=Gm a.toList ia k;have sd2:=sd;rw[c]at sd2;obtain⟨q1,q2,q3⟩:=aO.mp sd2;refine⟨hk,m.lb,?_,?_,?_,?_⟩
 .rw [e,ah];refine(bj.append_left _ ?_).trans m.pm;rw[←ah,←c]
 .rw [e];exact aO.mpr ⟨m.so,q1,λx hx y hy=>m.ua x hx y (bK hy)⟩
 .rw [e];intro x hx y hy;rcases mAq.mp hx with hx|hx
  .exact m.ua x hx y (by rw[c];exact aj _ hy)
  .exact q3 x hx y hy
 .rw [e];intro x hx y hy;rcases mAq.mp hx with hx|hx
  .exact m.ub x hx y hy
  .exact h x hx y hy
theorem MI.moreB(m:MI lt a b out ia ib) (sb:xT lt b.toList) (hk:ib+k<=b.size) (h:∀x∈(b.toList.drop ib).take k,∀y∈a.toList.drop ia,lt y x=false):MI lt a b (out++b.extract ib (ib+k)) ia (ib+k):=by
 have e:(out++b.extract ib (ib+k)).toList=out.toList++(b.toList.drop ib).take k:=by rw[aS,xG]
 have sd:xT lt (b.toList.drop ib):=sb.sublist (bV _ _);have c:=Gm b.toList ib k;have sd2:=sd;rw[c]at sd2;obtain⟨q1,q2,q3⟩:=aO.mp sd2;refine⟨m.la,hk,?_,?_,?_,?_⟩
 .rw [e,ah];refine(bj.append_left _ ?_).trans m.pm;refine((List.perm_append_comm_assoc _ _ _).trans ?_);rw[←c]
 .rw [e];exact aO.mpr ⟨m.so,q1,λx hx y hy=>m.ub x hx y (bK hy)⟩
 .rw [e];intro x hx y hy;rcases mAq.mp hx with hx|hx
  .exact m.ua x hx y hy
  .exact h x hx y hy
 .rw [e];intro x hx y hy;rcases mAq.mp hx with hx|hx
  .exact m.ub x hx y (by rw[c];exact aj _ hy)
  .exact q3 x hx y hy
theorem xV{l:List jV}{i:Nat}{x:jV}(h:l[i]?=some x):(l.drop i).take 1=[x]:=by
 obtain⟨hi,e⟩:=gSq.mp h;rw[aZ hi,e];rfl
theorem MI.pushA{x:jV}(m:MI lt a b out ia ib) (sa:xT lt a.toList) (hx:a[ia]?=some x) (h:∀y∈b.toList.drop ib,lt y x=false):MI lt a b (out.push x) (ia+1) ib:=by
 have hi:ia<a.size:=(bf.mp hx).1;have hx':a.toList[ia]?=some x:=by rw[az];exact hx
 refine(m.moreA sa (k:=1) hi λz hz y hy=>?_).congr ?_
 .rw [xV hx',mSq]at hz;rw[hz];exact h y hy
 .rw [dv,aS,xG,xV hx']
theorem MI.pushB{x:jV}(m:MI lt a b out ia ib) (sb:xT lt b.toList) (hx:b[ib]?=some x) (h:∀y∈a.toList.drop ia,lt y x=false):MI lt a b (out.push x) ia (ib+1):=by
 have hi:ib<b.size:=(bf.mp hx).1;have hx':b.toList[ib]?=some x:=by rw[az];exact hx
 refine(m.moreB sb (k:=1) hi λz hz y hy=>?_).congr ?_
 .rw [xV hx',mSq]at hz;rw[hz];exact h y hy
 .rw [dv,aS,xG,xV hx']
structure Qy (lt:jV->jV->Bool) (a b r:Array jV):Prop where
 pm:r.toList.Perm (a.toList++b.toList)
 so:xT lt r.toList
theorem xl(a:Array jV) (i:Nat):(a.extract i a.size).toList=a.toList.drop i:=by
 rw[gA,fk];exact cA (by rw[aR,ax];exact af _)
theorem MI.endB(m:MI lt a b out ia ib) (sa:xT lt a.toList) (e:ib=b.size):Qy lt a b (out++a.extract ia a.size++b.extract ib b.size):=by
 have eb:b.toList.drop ib=[]:=by rw[e,←ax,eJ]
 have et:(out++a.extract ia a.size++b.extract ib b.size).toList=out.toList++a.toList.drop ia:=by
  rw[aS,aS,xl,xl,eb,aNq]
 have pm:=m.pm;rw[eb,aNq]at pm;exact⟨by rw[et];exact pm,by rw[et];exact aO.mpr ⟨m.so,sa.sublist (bV _ _),m.ua⟩⟩
theorem MI.endA(m:MI lt a b out ia ib) (sb:xT lt b.toList) (e:ia=a.size):Qy lt a b (out++a.extract ia a.size++b.extract ib b.size):=by
 have ea:a.toList.drop ia=[]:=by rw[e,←ax,eJ]
 have et:(out++a.extract ia a.size++b.extract ib b.size).toList=out.toList++b.toList.drop ib:=by
  rw[aS,aS,xl,xl,ea,aNq]
 have pm:=m.pm;rw[ea,dY]at pm;exact⟨by rw[et];exact pm,by rw[et];exact aO.mpr ⟨m.so,sb.sublist (bV _ _),m.ub⟩⟩
theorem MI.lastA(m:MI lt a b out ia ib) (sa:xT lt a.toList) (sb:xT lt b.toList) (h:∀x∈b.toList.drop ib,∀y∈a.toList.drop ia,lt y x=false):Qy lt a b (out++b.extract ib b.size++a.extract ia a.size):=by
 have et:(out++b.extract ib b.size++a.extract ia a.size).toList=out.toList++(b.toList.drop ib++a.toList.drop ia):=by
  rw[aS,aS,xl,xl,ah]
 refine⟨?_,?_⟩
 .rw [et];exact(bj.append_left _ aL).trans m.pm
 .rw [et];refine aO.mpr ⟨m.so,aO.mpr ⟨sb.sublist (bV _ _),sa.sublist (bV _ _),h⟩,λx hx y hy=>?_⟩
  rcases mAq.mp hy with hy|hy
  .exact m.ub x hx y hy
  .exact m.ua x hx y hy
end
def Dh:Array jV->Array jV->StateT SortSt Sem (Array jV):=sortPriv% PySem.Builtin.mergeLo
def sQ:Nat->StateT SortSt Sem Unit:=sortPriv% PySem.Builtin.setMinGallop
abbrev sg(st:SortSt) (g:Nat):SortSt:=SortSt.mk' (kindOf st) (kj st) (kT st) g (failedOf st)
theorem A5(g:Nat):sQ g=modify λst=>sg st g:=rfl
section
variable (a b:Array jV)
abbrev dn(o:Array jV) (i j:Nat):=o++a.extract i a.size++b.extract j b.size
abbrev lA(o:Array jV) (i j:Nat):=o++b.extract j b.size++a.extract i a.size
abbrev SF(α:Type):=ForInStep (Option (Array jV)×Array jV×Nat×Nat×α)
def Yn(o:Array jV) (i j m k l:Nat):StateT SortSt Sem (SF (Nat×Nat×Nat)):=do
 let x ←kK a i
 if i+1+1 == a.size then pure (.done (some (lA a b (o.push x) (i+1) j),o.push x,i+1,j,m,k,l))
 else if decide (k<7) && decide (l<7) then pure (.done (none,o.push x,i+1,j,m,k,l))
 else pure (.yield (none,o.push x,i+1,j,m,k,l))
def Yq(o:Array jV) (i j m k q:Nat):StateT SortSt Sem (SF (Nat×Nat×Nat)):=do
 let x ←kK b j
 if j+1 == b.size then pure (.done (some (dn a b (o.push x) i (j+1)),o.push x,i,j+1,m,k,q))
 else do
  let y ←kK a i
  match ←wN true y b (j+1) (b.size-(j+1)) 0 with
  |some l =>
   if l>0 then
    if j+1+l == b.size then pure (.done (some (dn a b (o.push x++b.extract (j+1) (j+1+l)) i (j+1+l)),o.push x++b.extract (j+1) (j+1+l),i,j+1+l,m,k,l))
    else Yn a b (o.push x++b.extract (j+1) (j+1+l)) i (j+1+l) m k l
   else Yn a b (o.push x) i (j+1) m k l
  |_=>pure (.done (some (dn a b (o.push x) i (j+1)),o.push x,i,j+1,m,k,q))
def X1(o:Array jV) (i j m p q:Nat):StateT SortSt Sem (SF (Nat×Nat×Nat)):=do
 sQ m
 let x ←kK b j
 match ←wN false x a i (a.size-i) 0 with
 |some k =>
  if k>0 then
   if i+k+1 == a.size then pure (.done (some (lA a b (o++a.extract i (i+k)) (i+k) j),o++a.extract i (i+k),i+k,j,m,k,q))
   else if i+k == a.size then pure (.done (some (dn a b (o++a.extract i (i+k)) (i+k) j),o++a.extract i (i+k),i+k,j,m,k,q))
   else Yq a b (o++a.extract i (i+k)) (i+k) j m k q
  else Yq a b o i j m k q
 |_=>pure (.done (some (dn a b o i j),o,i,j,m,p,q))
def Y2(m:Nat) (o:Array jV) (i j p q:Nat):StateT SortSt Sem (SF (Nat×Nat)):=do
 let y ←kK b j
 let x ←kK a i
 match ←lt' y x with
 |some c =>
  if c then do
   let z ←kK b j
   if j+1 == b.size then pure (.done (some (dn a b (o.push z) i (j+1)),o.push z,i,j+1,0,q+1))
   else if q+1 ≥ m then pure (.done (none,o.push z,i,j+1,0,q+1))
   else pure (.yield (none,o.push z,i,j+1,0,q+1))
  else do
   let z ←kK a i
   if i+1+1 == a.size then pure (.done (some (lA a b (o.push z) (i+1) j),o.push z,i+1,j,p+1,0))
   else if p+1 ≥ m then pure (.done (none,o.push z,i+1,j,p+1,0))
   else pure (.yield (none,o.push z,i+1,j,p+1,0))
 |_=>pure (.done (some (dn a b o i j),o,i,j,p,q))
def YJ(o:Array jV) (i j m:Nat):StateT SortSt Sem (SF Nat):=do
 let r ←forIn [0:a.size+b.size] (none,o,i,j,0,0) λ_ s=>Y2 a b m s.2.1 s.2.2.1 s.2.2.2.1 s.2.2.2.2.1 s.2.2.2.2.2
 Break.runK.match_1 (λ_=>StateT SortSt Sem (SF Nat)) r.1 (λv=>pure (.done (some v,r.2.1,r.2.2.1,r.2.2.2.1,m))) λ_=>do
  rule "list.sort.gallop"
  let r ←forIn [0:a.size+b.size] (none,r.2.1,r.2.2.1,r.2.2.2.1,m+1,r.2.2.2.2.1,r.2.2.2.2.2) λ_ s=>if s.2.2.2.2.1>1 then X1 a b s.2.1 s.2.2.1 s.2.2.2.1 (s.2.2.2.2.1-1) s.2.2.2.2.2.1 s.2.2.2.2.2.2 else X1 a b s.2.1 s.2.2.1 s.2.2.2.1 s.2.2.2.2.1 s.2.2.2.2.2.1 s.2.2.2.2.2.2
  Break.runK.match_1 (λ_=>StateT SortSt Sem (SF Nat)) r.1 (λv=>pure (.done (some v,r.2.1,r.2.2.1,r.2.2.2.1,r.2.2.2.2.1))) λ_=>do
   sQ (r.2.2.2.2.1+1)
   pure (.yield (none,r.2.1,r.2.2.1,r.2.2.2.1,r.2.2.2.2.1+1))
theorem GE:Dh a b=(do
 rule "list.sort.merge-lo"
 let x ←kK b 0
 if 1 == b.size then pure (dn a b #[x] 0 1)
 else if 0+1 == a.size then pure (lA a b #[x] 0 1)
 else do
  let st ←get
  let r ←forIn [0:a.size+b.size] (none,#[x],0,1,lV st) λ_ s=>YJ a b s.2.1 s.2.2.1 s.2.2.2.1 s.2.2.2.2
  Break.runK.match_1 (λ_=>StateT SortSt Sem (Array jV)) r.1 (λv=>pure v) λ_=>lK "internal:list.sort.merge-bound"):=rfl
end
section
variable {prog:kf}{w:ki}{A:Around}{E:Value->Shared->Prop}{s:Shared}{κ:kG}{P:jV->Prop}{lt:jV->jV->Bool}
theorem xI{g:Nat}{st:SortSt}{Q:Unit->SortSt->Prop}(h:Q () (sg st g)):wpS (jY prog w) A E s (sQ g) Q st:=by
 rw[A5];exact kU h
theorem xt{x:String}{st:SortSt}{Q:Unit->SortSt->Prop}(h:Q () st):wpS (jY prog w) A E s (liftM (rule x):StateT SortSt Sem Unit) Q st:=wpS_lift (mj ⟨rfl,h⟩)
theorem Cf(C:zg prog w A s κ P lt) {a:Array jV}{i:Nat}{x:jV}(ha:∀x,x∈a->P x) (sa:xT lt a.toList) (hx:a[i]?=some x):∀y∈a.toList.drop i,lt y x=false:=by
 obtain⟨hi,e⟩:=bf.mp hx;have hi':i<a.toList.length:=by simpa using hi
 have e':a.toList[i]=x:=by simpa using e
 have sd:xT lt (a.toList.drop i):=sa.sublist (bV _ _);rw[aZ hi',e']at sd ⊢;intro y hy;rcases ae.mp hy with rfl|hy
 .exact C.refl (ha _ (by rw[←e];exact bu hi))
 .exact (cg.mp sd).1 y hy
theorem wj{a:Array jV}{i:Nat}{y:jV}(h:y∈a.toList.drop i):y∈a:=by simpa using bF h
theorem AE(C:zg prog w A s κ P lt) {left:Bool}{key:jV}{arr:Array jV}{base n:Nat}(hb:base+n<=arr.size) (ha:∀x,x∈arr->P x) (hkey:P key) (so:xT lt (arr.toList.drop base)) :
  ∀i j,i<=j->j<n->yc lt left key arr base j=true->yc lt left key arr base i=true:=by
 intro i j hij hj h;have hi':base+i<arr.size:=by lia
 have hj':base+j<arr.size:=by lia
 have ei:arr.getD (base+i) key=arr[base+i]:=by simp[il,hi']
 have ej:arr.getD (base+j) key=arr[base+j]:=by simp[il,hj']
 have pi:=ha _ (bu hi');have pj:=ha _ (bu hj');have le:lt arr[base+j] arr[base+i]=false:=by
  rcases fu hij with q|q
  .have:=bR.mp so i j (by simp;lia) (by simp;lia) q
   simpa using this
  .subst q;exact C.refl pi
 unfold yc at h ⊢;rw[ei];rw[ej]at h;cases left with
 |true =>
  rw[pN rfl]at h ⊢;cases q:lt arr[base+i] key with
  |true=>rfl
  |false =>
   have:=C.trans key arr[base+i] arr[base+j] hkey pi pj q le;rw[h]at this;cases this
 |false =>
  rw[pJ (by decide)]at h ⊢
  have h':lt key arr[base+j]=false:=by simpa using h
  have:=C.trans arr[base+i] arr[base+j] key pi pj hkey le h';simp[this]
theorem ur{left:Bool}{key x:jV}{arr:Array jV}{base i:Nat}(hx:arr[base+i]?=some x):yc lt left key arr base i=if left then lt x key else !lt key x:=by
 obtain⟨hi,e⟩:=bf.mp hx;unfold yc;have ei:arr.getD (base+i) key=x:=by simp[il,hi,e]
 rw[ei]
theorem wZ{a:Array jV}{i k:Nat}{x:jV}(h:x∈(a.toList.drop i).take k):∃j,j<k/\a[i+j]?=some x:=by
 obtain⟨j,hj,e⟩:=dg.mp h;rw[lTq]at hj;refine⟨j,by lia,?_⟩
 rw[gY,fJ]at e;rw[bf];have hs:i+j<a.size:=by
  rw[aR,ax]at hj;lia
 exact⟨hs,by simpa using e⟩
theorem yE{a:Array jV}{i:Nat}{x:jV}(h:x∈a.toList.drop i):∃j,i+j<a.size/\a[i+j]?=some x:=by
 obtain⟨j,hj,e⟩:=dg.mp h;rw[aR,ax]at hj;have hs:i+j<a.size:=by lia
 refine⟨j,hs,?_⟩;rw[fJ]at e;rw[bf];exact⟨hs,by simpa using e⟩
inductive Lp {ρ τ ι σ:Type}(t:ι->τ) (v:ι->σ) (J K:ι->Prop) (R:ρ->σ->Prop):ForInStep (Option ρ×τ)->σ->Prop
 |y (x):J x->Lp t v J K R (.yield (none,t x)) (v x)
 |d (x):K x->Lp t v J K R (.done (none,t x)) (v x)
 |r (a y st):R a st->Lp t v J K R (.done (some a,y)) st
theorem xu{M:Model}{ρ τ ι σ β:Type}{n:Nat}(t:ι->τ) (v:ι->σ) (J:Nat->ι->Prop) (K:ι->Prop) (R:ρ->σ->Prop) {f:Nat->Option ρ×τ->StateT σ Sem (ForInStep (Option ρ×τ))}{k:Option ρ×τ->StateT σ Sem β}{Q:β->σ->Prop}
  (x:ι) (h:J 0 x) (step:∀i x,J i x->wpS M A E s (f i (none,t x)) (Lp t v (J (i+1)) K R) (v x)) (fin:∀x,J n x->K x) (pn:∀x,K x->wpS M A E s (k (none,t x)) Q (v x)) (ps:∀r y st,R r st->wpS M A E s (k (some r,y)) Q st) :
  wpS M A E s (forIn [0:n] (none,t x) f >>= k) Q (v x):=by
 refine jW (kF (kB (I:=λi c st=>∃x,c=(none,t x)/\st=v x/\J i x) (Q:=λc st=>Lp t v K K R (.done c) st) ?_ ?_ ⟨x,rfl,rfl,h⟩) ?_)
 .rintro i c st _ _ ⟨x,rfl,rfl,h⟩;refine kF (step i x h) λr st' hr=>?_
  cases hr with
  |y x h=>exact⟨x,rfl,rfl,h⟩
  |d x h=>exact .d x h
  |r a y st h=>exact .r a y _ h
 .rintro c st ⟨x,rfl,rfl,h⟩;rw[jt (bp n)]at h;exact .d x (fin x h)
 .rintro c st h;cases h with
  |d x h=>exact pn x h
  |r a y st h=>exact ps a y _ h
structure Ls where
 o:Array jV
 (i j m p q g:Nat)
structure ML (lt:jV->jV->Bool) (a b:Array jV) (n:Nat) (x:Ls):Prop where
 m:MI lt a b x.o x.i x.j
 p:x.i+1<a.size
 q:x.j<b.size
 r:n<=x.i+x.j
structure Lo (prog:kf) (w:ki) (A:Around) (s:Shared) (κ:kG) (P:jV->Prop) (lt:jV->jV->Bool) (a b:Array jV) (st:SortSt) (Q:Array jV->SortSt->Prop):Prop where
 C:zg prog w A s κ P lt
 ha:∀x,x∈a->P x
 hb:∀x,x∈b->P x
 hk:kindOf st=κ
 sa:xT lt a.toList
 sb:xT lt b.toList
 h:∀r g,Qy lt a b r->Q r (sg st g)
abbrev L6(x:Ls):=(x.o,x.i,x.j,x.m,x.p,x.q)
abbrev L5(x:Ls):=(x.o,x.i,x.j,x.p,x.q)
abbrev L4(x:Ls):=(x.o,x.i,x.j,x.m)
variable {a b:Array jV}{st:SortSt}{Q:Array jV->SortSt->Prop}{n:Nat}{x:Ls}
abbrev Hl(lt:jV->jV->Bool) (a b:Array jV):=∀i,i+1=a.size->∀x∈b.toList,∀y∈a.toList.drop i,lt y x=false
theorem Qi(H:Lo prog w A s κ P lt a b st Q) (hl:Hl lt a b) (q:ML lt a b n x) (hi:∀z,a[x.i]?=some z->∀y∈b.toList.drop x.j,lt y z=false) :
  wpS (jY prog w) A E s (Yn a b x.o x.i x.j x.m x.p x.q) (Lp L6 (λx=>sg st x.g) (ML lt a b n) (ML lt a b n) Q) (sg st x.g):=by
 have p1:=q.p;have ea:a[x.i]?=some a[x.i]:=ai (by lia)
 refine jW (pX ea ?_);have m6:=q.m.pushA H.sa ea (hi _ ea)
 by_cases d6:x.i+1+1=a.size
 .rw [pN (by simp[d6])]
  exact jZ (.r _ _ _ (H.h _ _ (m6.lastA H.sa H.sb λy hy=>hl _ d6 y (bF hy))))
 rw[pJ (by simpa using d6)]
 have R:ML lt a b n ⟨_,_,_,x.m,x.p,x.q,x.g⟩:=⟨m6,by dsimp only;lia,q.q,by have:=q.r;dsimp only;lia⟩
 split
 .exact jZ (.d _ R)
 .exact jZ (.y _ R)
theorem Nw(H:Lo prog w A s κ P lt a b st Q) (hl:Hl lt a b) (q:ML lt a b n x) (hi:∀z,b[x.j]?=some z->∀y∈a.toList.drop x.i,lt y z=false) :
  wpS (jY prog w) A E s (Yq a b x.o x.i x.j x.m x.p x.q) (Lp L6 (λx=>sg st x.g) (ML lt a b n) (ML lt a b n) Q) (sg st x.g):=by
 have p1:=q.p;have p2:=q.q;have p3:=q.r;have eb:b[x.j]?=some b[x.j]:=ai p2;refine jW (pX eb ?_);have m4:=q.m.pushB H.sb eb (hi _ eb)
 by_cases d3:x.j+1=b.size
 .rw [pN (by simp[d3])]
  exact jZ (.r _ _ _ (H.h _ _ (m4.endB H.sa d3)))
 rw[pJ (by simpa using d3)]
 have ea:a[x.i]?=some a[x.i]:=ai (by lia)
 have pa:=H.ha _ (bu (show x.i<a.size by lia))
 refine jW (pX ea (jW (uE H.C (base:=x.j+1) (n:=b.size-(x.j+1)) (by lia) (by lia) H.hb pa H.hk (AE H.C (by lia) H.hb pa (H.sb.sublist (bV _ _))) λl l1 l2 l3=>?_)))
 have hB:∀z,a[x.i]?=some z->∀y∈b.toList.drop (x.j+1+l),lt y z=false:=λz hz y hy=>by
  obtain⟨j',hj',ey⟩:=yE hy;have q:=l3 (l+j') (by lia) (by lia)
  rw[ur (by rw[←gc];exact ey),pN rfl]at q
  rw[ea]at hz;cases hz;exact q
 dsimp only
 by_cases cl:l>0
 .rw [pN cl];have m5:=m4.moreB H.sb (k:=l) (by lia) λx hx y hy=>by
   obtain⟨j',hj',ex⟩:=wZ hx;have q:=l2 j' hj';rw[ur ex,pN rfl]at q;have px:=H.hb x (bK hx |> wj);exact H.C.trans _ _ _ px pa (H.ha _ (wj hy)) (H.C.asym _ _ px pa q) (Cf H.C H.ha H.sa ea y hy)
  by_cases d5:x.j+1+l=b.size
  .rw [pN (by simp[d5])]
   exact jZ (.r _ _ _ (H.h _ _ (m5.endB H.sa d5)))
  rw[pJ (by simpa using d5)]
  exact Qi H hl (x:=⟨_,_,_,_,_,_,x.g⟩) ⟨m5,p1,by dsimp only;lia,by dsimp only;lia⟩ hB
 .rw [pJ cl];exact Qi H hl (x:=⟨_,_,_,_,_,_,x.g⟩) ⟨m4,p1,by dsimp only;lia,by dsimp only;lia⟩ (by rw[show x.j+1=x.j+1+l by lia];exact hB)
theorem Nl(H:Lo prog w A s κ P lt a b st Q) (hl:Hl lt a b) (q:ML lt a b n x) :
  wpS (jY prog w) A E s (X1 a b x.o x.i x.j x.m x.p x.q) (Lp L6 (λx=>sg st x.g) (ML lt a b n) (ML lt a b n) Q) (sg st x.g):=by
 have p1:=q.p;have p2:=q.q;have p3:=q.r;have eb:b[x.j]?=some b[x.j]:=ai p2;have pb:=H.hb _ (bu p2);refine jW (xI (jW (pX eb (jW (uE H.C (base:=x.i) (n:=a.size-x.i) (by lia) (by lia) H.ha pb H.hk (AE H.C (by lia) H.ha pb (H.sa.sublist (bV _ _))) λk k1 k2 k3=>?_)))))
 have hA:∀z,b[x.j]?=some z->∀y∈a.toList.drop (x.i+k),lt y z=false:=λz hz y hy=>by
  obtain⟨j',hj',ey⟩:=yE hy;have q:=k3 (k+j') (by lia) (by lia)
  rw[ur (by rw[←gc];exact ey),pJ (by decide)]at q
  rw[eb]at hz;cases hz;exact H.C.asym _ _ pb (H.ha _ (wj hy)) (by simpa using q)
 dsimp only
 by_cases ck:k>0
 .rw [pN ck];have m3:=q.m.moreA H.sa (k:=k) (by lia) λx hx y hy=>by
   obtain⟨j',hj',ex⟩:=wZ hx;have q:=k2 j' hj';rw[ur ex,pJ (by decide)]at q
   exact H.C.trans _ _ _ (H.ha x (bK hx |> wj)) pb (H.hb _ (wj hy)) (by simpa using q) (Cf H.C H.hb H.sb eb y hy)
  by_cases d1:x.i+k+1=a.size
  .rw [pN (by simp[d1])]
   exact jZ (.r _ _ _ (H.h _ x.m (m3.lastA H.sa H.sb λx hx=>hl _ d1 x (bF hx))))
  rw[pJ (by simpa using d1)]
  by_cases d2:x.i+k=a.size
  .rw [pN (by simp[d2])]
   exact jZ (.r _ _ _ (H.h _ x.m (m3.endA H.sb d2)))
  rw[pJ (by simpa using d2)]
  exact Nw H hl (x:=⟨_,_,_,_,_,_,x.m⟩) ⟨m3,by dsimp only;lia,p2,by dsimp only;lia⟩ hA
 .rw [pJ ck];exact Nw H hl (x:=⟨_,_,_,_,_,_,x.m⟩) ⟨q.m,p1,p2,p3⟩ (by rw[show x.i=x.i+k by lia];exact hA)
theorem U2(H:Lo prog w A s κ P lt a b st Q) (hl:Hl lt a b) {m j:Nat}(q:ML lt a b (n+j) x) :
  wpS (jY prog w) A E s (Y2 a b m x.o x.i x.j x.p x.q) (Lp L5 (λx=>sg st x.g) (ML lt a b (n+(j+1))) (ML lt a b (n+1)) Q) (sg st x.g):=by
 have p1:=q.p;have p2:=q.q;have p3:=q.r;have ea:a[x.i]?=some a[x.i]:=ai (by lia)
 have eb:b[x.j]?=some b[x.j]:=ai p2;have pa:=H.ha _ (bu (show x.i<a.size by lia))
 have pb:=H.hb _ (bu p2);refine jW (pX eb (jW (pX ea (jW (H.C.cmp pb pa H.hk ?_)))));cases e:lt b[x.j] a[x.i] with
 |true =>
  dsimp only;rw[pN rfl];refine jW (pX eb ?_);have m2:=q.m.pushB H.sb eb λz hz=>H.C.trans _ _ _ pb pa (H.ha _ (wj hz)) (H.C.asym _ _ pb pa e) (Cf H.C H.ha H.sa ea z hz)
  by_cases d1:x.j+1=b.size
  .rw [pN (by simp[d1])]
   exact jZ (.r _ _ _ (H.h _ _ (m2.endB H.sa d1)))
  rw[pJ (by simpa using d1)]
  have R:∀n,n<=x.i+(x.j+1)->ML lt a b n ⟨_,_,_,0,0,x.q+1,x.g⟩:=λn hn=>⟨m2,p1,by dsimp only;lia,hn⟩
  split
  .exact jZ (.d _ (R _ (by lia)))
  .exact jZ (.y _ (R _ (by lia)))
 |false =>
  dsimp only;rw[pJ (by decide)]
  refine jW (pX ea ?_);have m2:=q.m.pushA H.sa ea λz hz=>H.C.trans _ _ _ pa pb (H.hb _ (wj hz)) e (Cf H.C H.hb H.sb eb z hz)
  by_cases d1:x.i+1+1=a.size
  .rw [pN (by simp[d1])]
   exact jZ (.r _ _ _ (H.h _ _ (m2.lastA H.sa H.sb λx hx=>hl _ d1 x (bF hx))))
  rw[pJ (by simpa using d1)]
  have R:∀n,n<=x.i+1+x.j->ML lt a b n ⟨_,_,_,0,x.p+1,0,x.g⟩:=λn hn=>⟨m2,by dsimp only;lia,p2,hn⟩
  split
  .exact jZ (.d _ (R _ (by lia)))
  .exact jZ (.y _ (R _ (by lia)))
theorem TK(H:Lo prog w A s κ P lt a b st Q) (hl:Hl lt a b) (q:ML lt a b n x) :
  wpS (jY prog w) A E s (YJ a b x.o x.i x.j x.m) (Lp L4 (λx=>sg st x.g) (ML lt a b (n+1)) (λ_=>False) Q) (sg st x.g):=by
 refine xu L5 (λx=>sg st x.g) (λj=>ML lt a b (n+j)) (ML lt a b (n+1)) Q ⟨x.o,x.i,x.j,0,0,0,x.g⟩ ⟨q.m,q.p,q.q,q.r⟩ (λj x q=>U2 H hl q) (λy h=>⟨h.m,h.p,h.q,by have:=h.r;have:=h.p;have:=h.q;lia⟩) (λy q=>?_) λr y st' hr=>jZ (.r _ _ _ hr)
 refine jW (xt ?_);refine xu L6 (λx=>sg st x.g) (λ_=>ML lt a b (n+1)) (ML lt a b (n+1)) Q ⟨y.o,y.i,y.j,x.m+1,y.p,y.q,y.g⟩ ⟨q.m,q.p,q.q,q.r⟩ (λj z q=>?_) (λ_ h=>h) (λz q=>?_) λr y st' hr=>jZ (.r _ _ _ hr)
 .dsimp only;split
  .exact Nl H hl (x:=⟨_,_,_,z.m-1,_,_,z.g⟩) ⟨q.m,q.p,q.q,q.r⟩
  .exact Nl H hl q
 .refine jW (xI (jZ ?_));exact Lp.y (t:=L4) (v:=λx=>sg st x.g) ⟨_,_,_,z.m+1,0,0,z.m+1⟩ ⟨q.m,q.p,q.q,q.r⟩
theorem FL(C:zg prog w A s κ P lt) (ha:∀x,x∈a->P x) (hb:∀x,x∈b->P x) (hk:kindOf st=κ) (sa:xT lt a.toList) (sb:xT lt b.toList)
  (na:0<a.size) (nb:0<b.size) (h0:∀x,b[0]?=some x->∀y∈a.toList,lt y x=false) (hl:∀i,i+1=a.size->∀x∈b.toList,∀y∈a.toList.drop i,lt y x=false)
  (h:∀r g,Qy lt a b r->Q r (sg st g)):wpS (jY prog w) A E s (Dh a b) Q st:=by
 rw[GE];refine jW (xt ?_);have eb0:b[0]?=some b[0]:=ai nb;refine jW (pX eb0 ?_);have m0:MI lt a b #[] 0 0:=⟨bp _,bp _,by simp,by simp[xT],by simp,by simp⟩
 have m1:MI lt a b #[b[0]] 0 1:=m0.pushB sb eb0 λy hy=>h0 _ eb0 y (by simpa using hy)
 by_cases c1:1=b.size
 .rw [pN (by simp[←c1])]
  exact jZ (h _ (lV st) (m1.endB sa c1))
 rw[pJ (by simpa using c1)]
 by_cases c2:0+1=a.size
 .rw [pN (by simp[←c2])]
  exact jZ (h _ (lV st) (m1.lastA sa sb λx hx=>hl 0 c2 x (bF hx)))
 rw[pJ (by simpa using c2)]
 refine jW (lj ?_);exact xu L4 (λx=>sg st x.g) (λi=>ML lt a b (i+1)) (λ_=>False) Q ⟨_,0,1,_,0,0,lV st⟩ ⟨m1,by dsimp only;lia,by dsimp only;lia,by dsimp only;lia⟩ (λi x q=>TK ⟨C,ha,hb,hk,sa,sb,h⟩ hl q) (λx h=>by have:=h.p;have:=h.q;have:=h.r;lia) (λx h=>h.elim) λr y st' hr=>jZ hr
end
structure MH (lt:jV->jV->Bool) (a b out:Array jV) (na nb:Nat):Prop where
 la:na<=a.size
 lb:nb<=b.size
 pm:((a.toList.take na++b.toList.take nb)++out.toList.reverse).Perm (a.toList++b.toList)
 so:xT lt out.toList.reverse
 ua:∀x∈a.toList.take na,∀y∈out.toList,lt y x=false
 ub:∀x∈b.toList.take nb,∀y∈out.toList,lt y x=false
section
variable {lt:jV->jV->Bool}{a b out out':Array jV}{na nb k:Nat}
theorem MH.congr(m:MH lt a b out na nb) (e:out'.toList=out.toList):MH lt a b out' na nb:=⟨m.la,m.lb,by rw[e];exact m.pm,by rw[e];exact m.so,by rw[e];exact m.ua,by rw[e];exact m.ub⟩
theorem Ax(l:List jV) (k n:Nat) (h:k<=n):l.take n=l.take k++(l.take n).drop k:=by
 have e:(l.take n).take k=l.take k:=by rw[List.take_take,eQ h]
 rw[←e,bb]
theorem rD(a:Array jV) (k n:Nat):(a.extract k n).toList=(a.toList.take n).drop k:=by
 rw[gA,fk,List.drop_take]
theorem Aw(a:Array jV) (n:Nat):(a.extract 0 n).toList=a.toList.take n:=by
 rw[rD,fI]
theorem MH.moreA(m:MH lt a b out na nb) (sa:xT lt a.toList) (hk:k<=na) (h:∀x∈b.toList.take nb,∀y∈(a.toList.take na).drop k,lt y x=false):MH lt a b (out++(a.extract k na).reverse) k nb:=by
 have e:(out++(a.extract k na).reverse).toList=out.toList++((a.toList.take na).drop k).reverse:=by rw[aS,dh,rD]
 have er:(out++(a.extract k na).reverse).toList.reverse=(a.toList.take na).drop k++out.toList.reverse:=by rw[e,dE,gB]
 have c:=Ax a.toList k na hk;have sd:xT lt (a.toList.take na):=sa.sublist (bC _ _);have sd2:=sd;rw[c]at sd2;obtain⟨q1,q2,q3⟩:=aO.mp sd2;have sub:∀y,y∈(a.toList.take na).drop k->y∈a.toList.take na:=λy hy=>bF hy
 refine⟨bY hk m.la,m.lb,?_,?_,?_,?_⟩
 .rw [er];refine bj.trans ?_ m.pm;rw[←ah];refine bj.append_right _ ?_
  conv=>rhs;rw[c]
  rw[ah,ah];exact bj.append_left _ aL
 .rw [er];exact aO.mpr ⟨q2,m.so,λx hx y hy=>m.ua x (sub x hx) y (cu.mp hy)⟩
 .rw [e];intro x hx y hy;rcases mAq.mp hy with hy|hy
  .exact m.ua x (by rw[c];exact aw _ hx) y hy
  .exact q3 x hx y (cu.mp hy)
 .rw [e];intro x hx y hy;rcases mAq.mp hy with hy|hy
  .exact m.ub x hx y hy
  .exact h x hx y (cu.mp hy)
theorem MH.moreB(m:MH lt a b out na nb) (sb:xT lt b.toList) (hk:k<=nb) (h:∀x∈a.toList.take na,∀y∈(b.toList.take nb).drop k,lt y x=false):MH lt a b (out++(b.extract k nb).reverse) na k:=by
 have e:(out++(b.extract k nb).reverse).toList=out.toList++((b.toList.take nb).drop k).reverse:=by rw[aS,dh,rD]
 have er:(out++(b.extract k nb).reverse).toList.reverse=(b.toList.take nb).drop k++out.toList.reverse:=by rw[e,dE,gB]
 have c:=Ax b.toList k nb hk;have sd:xT lt (b.toList.take nb):=sb.sublist (bC _ _);have sd2:=sd;rw[c]at sd2;obtain⟨q1,q2,q3⟩:=aO.mp sd2;have sub:∀y,y∈(b.toList.take nb).drop k->y∈b.toList.take nb:=λy hy=>bF hy
 refine⟨m.la,bY hk m.lb,?_,?_,?_,?_⟩
 .rw [er];refine bj.trans ?_ m.pm;rw[←ah];refine bj.append_right _ ?_
  conv=>rhs;rw[c]
  rw[ah]
 .rw [er];exact aO.mpr ⟨q2,m.so,λx hx y hy=>m.ub x (sub x hx) y (cu.mp hy)⟩
 .rw [e];intro x hx y hy;rcases mAq.mp hy with hy|hy
  .exact m.ua x hx y hy
  .exact h x hx y (cu.mp hy)
 .rw [e];intro x hx y hy;rcases mAq.mp hy with hy|hy
  .exact m.ub x (by rw[c];exact aw _ hx) y hy
  .exact q3 x hx y (cu.mp hy)
theorem xN{l:List jV}{i:Nat}{x:jV}(h:l[i]?=some x):(l.take (i+1)).drop i=[x]:=by
 rw[cB,h,jr];have hl:(l.take i).length=i:=by
  have:=(gSq.mp h).1;rw[lTq];lia
 rw[fS (by lia),hl,dB]
 rfl
theorem MH.pushA{x:jV}(m:MH lt a b out (na+1) nb) (sa:xT lt a.toList) (hx:a[na]?=some x) (h:∀y∈b.toList.take nb,lt x y=false):MH lt a b (out.push x) na nb:=by
 have hx':a.toList[na]?=some x:=by rw[az];exact hx
 refine(m.moreA sa (k:=na) (cO _) λz hz y hy=>?_).congr ?_
 .rw [xN hx',mSq]at hy;rw[hy];exact h z hz
 .rw [dv,aS,dh,rD,xN hx'];rfl
theorem MH.pushB{x:jV}(m:MH lt a b out na (nb+1)) (sb:xT lt b.toList) (hx:b[nb]?=some x) (h:∀y∈a.toList.take na,lt x y=false):MH lt a b (out.push x) na nb:=by
 have hx':b.toList[nb]?=some x:=by rw[az];exact hx
 refine(m.moreB sb (k:=nb) (cO _) λz hz y hy=>?_).congr ?_
 .rw [xN hx',mSq]at hy;rw[hy];exact h z hz
 .rw [dv,aS,dh,rD,xN hx'];rfl
theorem MH.end(m:MH lt a b out na nb) (sa:xT lt a.toList) (sb:xT lt b.toList) (e:na=0∨nb=0):Qy lt a b (a.extract 0 na++b.extract 0 nb++out.reverse):=by
 have et:(a.extract 0 na++b.extract 0 nb++out.reverse).toList=(a.toList.take na++b.toList.take nb)++out.toList.reverse:=by
  rw[aS,aS,Aw,Aw,dh]
 refine⟨by rw[et];exact m.pm,?_⟩
 rw[et];refine aO.mpr ⟨?_,m.so,λx hx y hy=>?_⟩
 .rcases e with rfl|rfl
  .rw [iO,dY];exact sb.sublist (bC _ _)
  .rw [iO,aNq];exact sa.sublist (bC _ _)
 .rcases mAq.mp hx with hx|hx
  .exact m.ua x hx y (cu.mp hy)
  .exact m.ub x hx y (cu.mp hy)
theorem MH.firstB(m:MH lt a b out na nb) (sa:xT lt a.toList) (sb:xT lt b.toList) (h:∀x∈b.toList.take nb,∀y∈a.toList.take na,lt y x=false):Qy lt a b (b.extract 0 nb++a.extract 0 na++out.reverse):=by
 have et:(b.extract 0 nb++a.extract 0 na++out.reverse).toList=(b.toList.take nb++a.toList.take na)++out.toList.reverse:=by
  rw[aS,aS,Aw,Aw,dh]
 refine⟨?_,?_⟩
 .rw [et];exact(bj.append_right _ aL).trans m.pm
 .rw [et];refine aO.mpr ⟨aO.mpr ⟨sb.sublist (bC _ _),sa.sublist (bC _ _),h⟩,m.so,λx hx y hy=>?_⟩
  rcases mAq.mp hx with hx|hx
  .exact m.ub x hx y (cu.mp hy)
  .exact m.ua x hx y (cu.mp hy)
end
def C5:Array jV->Array jV->StateT SortSt Sem (Array jV):=sortPriv% PySem.Builtin.mergeHi
section
variable (a b:Array jV)
abbrev dH(o:Array jV) (i j:Nat):=a.extract 0 i++b.extract 0 j++o.reverse
abbrev fH(o:Array jV) (i j:Nat):=b.extract 0 j++a.extract 0 i++o.reverse
abbrev SH(α:Type):=ForInStep (Option (Array jV)×Nat×Nat×Array jV×α)
def XS(o:Array jV) (i j m k l:Nat):StateT SortSt Sem (SH (Nat×Nat×Nat)):=do
 let x ←kK a (i-1)
 if i-1 == 0 then pure (.done (some (dH a b (o.push x) (i-1) j),i-1,j,o.push x,m,k,l))
 else if decide (k<7) && decide (l<7) then pure (.done (none,i-1,j,o.push x,m,k,l))
 else pure (.yield (none,i-1,j,o.push x,m,k,l))
def XB(o:Array jV) (i j m k q:Nat):StateT SortSt Sem (SH (Nat×Nat×Nat)):=do
 let x ←kK b (j-1)
 if j-1 == 1 then pure (.done (some (fH a b (o.push x) i (j-1)),i,j-1,o.push x,m,k,q))
 else do
  let y ←kK a (i-1)
  match ←wN true y b 0 (j-1) (j-1-1) with
  |some l =>
   if j-1-l>0 then
    if l == 1 then pure (.done (some (fH a b (o.push x++(b.extract l (j-1)).reverse) i l),i,l,o.push x++(b.extract l (j-1)).reverse,m,k,j-1-l))
    else if l == 0 then pure (.done (some (dH a b (o.push x++(b.extract l (j-1)).reverse) i l),i,l,o.push x++(b.extract l (j-1)).reverse,m,k,j-1-l))
    else XS a b (o.push x++(b.extract l (j-1)).reverse) i l m k (j-1-l)
   else XS a b (o.push x) i (j-1) m k (j-1-l)
  |_=>pure (.done (some (dH a b (o.push x) i (j-1)),i,j-1,o.push x,m,k,q))
def XE(o:Array jV) (i j m p q:Nat):StateT SortSt Sem (SH (Nat×Nat×Nat)):=do
 sQ m
 let x ←kK b (j-1)
 match ←wN false x a 0 i (i-1) with
 |some k =>
  if i-k>0 then
   if k == 0 then pure (.done (some (dH a b (o++(a.extract k i).reverse) k j),k,j,o++(a.extract k i).reverse,m,i-k,q))
   else XB a b (o++(a.extract k i).reverse) k j m (i-k) q
  else XB a b o i j m (i-k) q
 |_=>pure (.done (some (dH a b o i j),i,j,o,m,p,q))
def Qu(m:Nat) (o:Array jV) (i j p q:Nat):StateT SortSt Sem (SH (Nat×Nat)):=do
 let y ←kK b (j-1)
 let x ←kK a (i-1)
 match ←lt' y x with
 |some c =>
  if c then do
   let z ←kK a (i-1)
   if i-1 == 0 then pure (.done (some (dH a b (o.push z) (i-1) j),i-1,j,o.push z,p+1,0))
   else if p+1 ≥ m then pure (.done (none,i-1,j,o.push z,p+1,0))
   else pure (.yield (none,i-1,j,o.push z,p+1,0))
  else do
   let z ←kK b (j-1)
   if j-1 == 1 then pure (.done (some (fH a b (o.push z) i (j-1)),i,j-1,o.push z,0,q+1))
   else if q+1 ≥ m then pure (.done (none,i,j-1,o.push z,0,q+1))
   else pure (.yield (none,i,j-1,o.push z,0,q+1))
 |_=>pure (.done (some (dH a b o i j),i,j,o,p,q))
def Xy(o:Array jV) (i j m:Nat):StateT SortSt Sem (SH Nat):=do
 let r ←forIn [0:a.size+b.size] (none,i,j,o,0,0) λ_ s=>Qu a b m s.2.2.2.1 s.2.1 s.2.2.1 s.2.2.2.2.1 s.2.2.2.2.2
 Break.runK.match_1 (λ_=>StateT SortSt Sem (SH Nat)) r.1 (λv=>pure (.done (some v,r.2.1,r.2.2.1,r.2.2.2.1,m))) λ_=>do
  rule "list.sort.gallop"
  let r ←forIn [0:a.size+b.size] (none,r.2.1,r.2.2.1,r.2.2.2.1,m+1,r.2.2.2.2.1,r.2.2.2.2.2) λ_ s=>if s.2.2.2.2.1>1 then XE a b s.2.2.2.1 s.2.1 s.2.2.1 (s.2.2.2.2.1-1) s.2.2.2.2.2.1 s.2.2.2.2.2.2 else XE a b s.2.2.2.1 s.2.1 s.2.2.1 s.2.2.2.2.1 s.2.2.2.2.2.1 s.2.2.2.2.2.2
  Break.runK.match_1 (λ_=>StateT SortSt Sem (SH Nat)) r.1 (λv=>pure (.done (some v,r.2.1,r.2.2.1,r.2.2.2.1,r.2.2.2.2.1))) λ_=>do
   sQ (r.2.2.2.2.1+1)
   pure (.yield (none,r.2.1,r.2.2.1,r.2.2.2.1,r.2.2.2.2.1+1))
theorem GZ:C5 a b=(do
 rule "list.sort.merge-hi"
 let x ←kK a (a.size-1)
 if a.size-1 == 0 then pure (dH a b #[x] (a.size-1) b.size)
 else if b.size == 1 then pure (fH a b #[x] (a.size-1) b.size)
 else do
  let st ←get
  let r ←forIn [0:a.size+b.size] (none,a.size-1,b.size,#[x],lV st) λ_ s=>Xy a b s.2.2.2.1 s.2.1 s.2.2.1 s.2.2.2.2
  Break.runK.match_1 (λ_=>StateT SortSt Sem (Array jV)) r.1 (λv=>pure v) λ_=>lK "internal:list.sort.merge-bound"):=rfl
end
section
variable {prog:kf}{w:ki}{A:Around}{E:Value->Shared->Prop}{s:Shared}{κ:kG}{P:jV->Prop}{lt:jV->jV->Bool}
theorem Cc(C:zg prog w A s κ P lt) {a:Array jV}{i:Nat}{x:jV}(ha:∀x,x∈a->P x) (sa:xT lt a.toList) (hx:a[i]?=some x):∀y∈a.toList.take (i+1),lt x y=false:=by
 obtain⟨hi,e⟩:=bf.mp hx;have hx':a.toList[i]?=some x:=by rw[az];exact hx
 have sd:xT lt (a.toList.take (i+1)):=sa.sublist (bC _ _);rw[cB,hx']at sd ⊢;intro y hy;rcases mAq.mp hy with hy|hy
 .exact (aO.mp sd).2.2 y hy x (by simp)
 .have:y=x:=by simpa using hy
  rw[this];exact C.refl (ha _ (by rw[←e];exact bu hi))
theorem vV{a:Array jV}{i:Nat}{y:jV}(h:y∈a.toList.take i):y∈a:=by simpa using bK h
theorem yC{a:Array jV}{n:Nat}{x:jV}(h:x∈a.toList.take n):∃j,j<n/\a[0+j]?=some x:=by
 have h':x∈(a.toList.drop 0).take n:=by rw[fI];exact h
 exact wZ h'
theorem vN{a:Array jV}{k n:Nat}{x:jV}(h:x∈(a.toList.take n).drop k):∃j,k<=j/\j<n/\a[0+j]?=some x:=by
 obtain⟨j,hj,e⟩:=dg.mp h;rw[aR,lTq,ax]at hj;refine⟨k+j,by lia,by lia,?_⟩
 rw[fJ,gY]at e;rw[bf];exact⟨by lia,by simpa using e⟩
structure MG (lt:jV->jV->Bool) (a b:Array jV) (n:Nat) (x:Ls):Prop where
 m:MH lt a b x.o x.i x.j
 p:0<x.i
 q:1<x.j
 r:x.i+x.j+n<=a.size+b.size
abbrev H6(x:Ls):=(x.i,x.j,x.o,x.m,x.p,x.q)
abbrev H5(x:Ls):=(x.i,x.j,x.o,x.p,x.q)
abbrev H4(x:Ls):=(x.i,x.j,x.o,x.m)
variable {a b:Array jV}{st:SortSt}{Q:Array jV->SortSt->Prop}{n:Nat}{x:Ls}{o:Array jV}{u v i j m k l g:Nat}
abbrev Hf(lt:jV->jV->Bool) (a b:Array jV):=∀x∈b.toList.take 1,∀y∈a.toList,lt y x=false
theorem XO(H:Lo prog w A s κ P lt a b st Q) (hf:Hf lt a b) (m:MH lt a b o i 1):Q (b.extract 0 1++a.extract 0 i++o.reverse) (sg st g):=H.h _ _ (m.firstB H.sa H.sb λx hx y hy=>hf x hx y (bK hy))
theorem P5(H:Lo prog w A s κ P lt a b st Q) (q:MG lt a b n ⟨o,u+1,j,m,k,l,g⟩) (hi:∀z,a[u]?=some z->∀y∈b.toList.take j,lt z y=false) :
  wpS (jY prog w) A E s (XS a b o (u+1) j m k l) (Lp H6 (λx=>sg st x.g) (MG lt a b n) (MG lt a b n) Q) (sg st g):=by
 dsimp only [XS,fq];have ea:a[u]?=some (a[u]'q.m.la):=ai q.m.la;refine jW (pX ea ?_);have m6:=q.m.pushA H.sa ea (hi _ ea)
 by_cases d6:u=0
 .rw [pN (by simp[d6])]
  exact jZ (.r _ _ _ (H.h _ _ (m6.end H.sa H.sb (.inl d6))))
 rw[pJ (by simpa using d6)]
 have R:MG lt a b n ⟨_,_,_,m,k,l,g⟩:=⟨m6,gQ d6,q.q,by have:=q.r;dsimp only at *;lia⟩
 split
 .exact jZ (.d _ R)
 .exact jZ (.y _ R)
theorem Pj(H:Lo prog w A s κ P lt a b st Q) (hf:Hf lt a b) (q:MG lt a b n ⟨o,u+1,v+1,m,k,l,g⟩) (hi:∀z,b[v]?=some z->∀y∈a.toList.take (u+1),lt z y=false) :
  wpS (jY prog w) A E s (XB a b o (u+1) (v+1) m k l) (Lp H6 (λx=>sg st x.g) (MG lt a b n) (MG lt a b n) Q) (sg st g):=by
 dsimp only [XB,fq];have la:u<a.size:=q.m.la;have lb:v<b.size:=q.m.lb;have p2:1<v+1:=q.q;have p3:u+1+(v+1)+n<=a.size+b.size:=q.r;have eb:b[v]?=some b[v]:=ai lb;refine jW (pX eb ?_);have m4:=q.m.pushB H.sb eb (hi _ eb)
 by_cases d3:v=1
 .rw [pN (by simp[d3])]
  subst d3;exact jZ (.r _ _ _ (XO H hf m4))
 rw[pJ (by simpa using d3)]
 have ea:a[u]?=some a[u]:=ai la;have pa:=H.ha _ (bu la);refine jW (pX ea (jW (uE H.C (base:=0) (n:=v) (by lia) (by lia) H.hb pa H.hk (AE H.C (by lia) H.hb pa (by rw[fI];exact H.sb)) λl l1 l2 l3=>?_)))
 have hB:∀z,a[u]?=some z->∀y∈b.toList.take l,lt z y=false:=λz hz y hy=>by
  obtain⟨j',hj',ey⟩:=yC hy;have q:=l2 j' hj';rw[ur ey,pN rfl]at q;rw[ea]at hz;cases hz;exact H.C.asym _ _ (H.hb _ (vV hy)) pa q
 dsimp only
 by_cases cl:v-l>0
 .rw [pN cl];have m5:=m4.moreB H.sb (k:=l) l1 λx hx y hy=>by
   obtain⟨j',hj1,hj',ey⟩:=vN hy;have q:=l3 j' hj1 hj';rw[ur ey,pN rfl]at q;exact H.C.trans _ _ _ (H.ha _ (vV hx)) pa (H.hb y (bF hy |> vV)) (Cc H.C H.ha H.sa ea x hx) q
  by_cases d5:l=1
  .rw [pN (by simp[d5])]
   subst d5;exact jZ (.r _ _ _ (XO H hf m5))
  rw[pJ (by simpa using d5)]
  by_cases d6:l=0
  .rw [pN (by simp[d6])]
   exact jZ (.r _ _ _ (H.h _ _ (m5.end H.sa H.sb (.inr d6))))
  rw[pJ (by simpa using d6)]
  exact P5 H ⟨m5,q.p,by dsimp only;lia,by dsimp only;lia⟩ hB
 .rw [pJ cl];have:l=v:=by lia
  subst this;exact P5 H ⟨m4,q.p,by dsimp only;lia,by dsimp only;lia⟩ hB
theorem NO(H:Lo prog w A s κ P lt a b st Q) (hf:Hf lt a b) (q:MG lt a b n x) :
  wpS (jY prog w) A E s (XE a b x.o x.i x.j x.m x.p x.q) (Lp H6 (λx=>sg st x.g) (MG lt a b n) (MG lt a b n) Q) (sg st x.g):=by
 obtain⟨o,i,j,m,p,q',g⟩:=x;have la:i<=a.size:=q.m.la;have p1:0<i:=q.p;have p2:1<j:=q.q;have p3:i+j+n<=a.size+b.size:=q.r;obtain⟨v,rfl⟩:∃v,j=v+1:=⟨j-1,by lia⟩
 have lb:v<b.size:=q.m.lb;dsimp only [XE,fq];have eb:b[v]?=some b[v]:=ai lb;have pb:=H.hb _ (bu lb);refine jW (xI (jW (pX eb (jW (uE H.C (base:=0) (n:=i) (by lia) (by lia) H.ha pb H.hk (AE H.C (by lia) H.ha pb (by rw[fI];exact H.sa)) λk k1 k2 k3=>?_)))))
 have hA:∀z,b[v]?=some z->∀y∈a.toList.take k,lt z y=false:=λz hz y hy=>by
  obtain⟨j',hj',ey⟩:=yC hy;have q:=k2 j' hj';rw[ur ey,pJ (by decide)]at q
  rw[eb]at hz;cases hz;simpa using q
 dsimp only
 by_cases ck:i-k>0
 .rw [pN ck];have m3:=q.m.moreA H.sa (k:=k) k1 λx hx y hy=>by
   obtain⟨j',hj1,hj',ey⟩:=vN hy;have q:=k3 j' hj1 hj';rw[ur ey,pJ (by decide)]at q
   have py:=H.ha y (bF hy |> vV);exact H.C.trans _ _ _ (H.hb _ (vV hx)) pb py (Cc H.C H.hb H.sb eb x hx) (H.C.asym _ _ pb py (by simpa using q))
  by_cases d2:k=0
  .rw [pN (by simp[d2])]
   exact jZ (.r _ _ _ (H.h _ m (m3.end H.sa H.sb (.inl d2))))
  rw[pJ (by simpa using d2)]
  obtain⟨u,rfl⟩:∃u,k=u+1:=⟨k-1,by lia⟩
  exact Pj H hf (g:=m) ⟨m3,Nat.succ_pos _,p2,by dsimp only;lia⟩ hA
 .rw [pJ ck];have:k=i:=by lia
  subst this;obtain⟨u,rfl⟩:∃u,k=u+1:=⟨k-1,by lia⟩
  exact Pj H hf (g:=m) ⟨q.m,p1,p2,p3⟩ hA
theorem UA(H:Lo prog w A s κ P lt a b st Q) (hf:Hf lt a b) (q:MG lt a b (n+j) x) :
  wpS (jY prog w) A E s (Qu a b m x.o x.i x.j x.p x.q) (Lp H5 (λx=>sg st x.g) (MG lt a b (n+(j+1))) (MG lt a b (n+1)) Q) (sg st x.g):=by
 obtain⟨o,i,k,m',p,q',g⟩:=x;have p1:0<i:=q.p;have p2:1<k:=q.q;have p3:i+k+(n+j)<=a.size+b.size:=q.r;obtain⟨u,rfl⟩:∃u,i=u+1:=⟨i-1,by lia⟩
 obtain⟨v,rfl⟩:∃v,k=v+1:=⟨k-1,by lia⟩
 have la:u<a.size:=q.m.la;have lb:v<b.size:=q.m.lb;dsimp only [Qu,fq];have ea:a[u]?=some a[u]:=ai la;have eb:b[v]?=some b[v]:=ai lb;have pa:=H.ha _ (bu la);have pb:=H.hb _ (bu lb);refine jW (pX eb (jW (pX ea (jW (H.C.cmp pb pa H.hk ?_)))));cases e:lt b[v] a[u] with
 |true =>
  dsimp only;rw[pN rfl];refine jW (pX ea ?_);have m2:=q.m.pushA H.sa ea λy hy=>H.C.trans _ _ _ (H.hb _ (vV hy)) pb pa (Cc H.C H.hb H.sb eb y hy) (H.C.asym _ _ pb pa e)
  by_cases d1:u=0
  .rw [pN (by simp[d1])]
   exact jZ (.r _ _ _ (H.h _ _ (m2.end H.sa H.sb (.inl d1))))
  rw[pJ (by simpa using d1)]
  have R:∀n,u+(v+1)+n<=a.size+b.size->MG lt a b n ⟨_,_,_,0,p+1,0,g⟩:=λn hn=>⟨m2,gQ d1,p2,hn⟩
  split
  .exact jZ (.d _ (R _ (by lia)))
  .exact jZ (.y _ (R _ (by lia)))
 |false =>
  dsimp only;rw[pJ (by decide)]
  refine jW (pX eb ?_);have m2:=q.m.pushB H.sb eb λy hy=>H.C.trans _ _ _ (H.ha _ (vV hy)) pa pb (Cc H.C H.ha H.sa ea y hy) e
  by_cases d1:v=1
  .rw [pN (by simp[d1])]
   subst d1;exact jZ (.r _ _ _ (XO H hf m2))
  rw[pJ (by simpa using d1)]
  have R:∀n,u+1+v+n<=a.size+b.size->MG lt a b n ⟨_,_,_,0,0,q'+1,g⟩:=λn hn=>⟨m2,p1,by dsimp only;lia,hn⟩
  split
  .exact jZ (.d _ (R _ (by lia)))
  .exact jZ (.y _ (R _ (by lia)))
theorem Vq(H:Lo prog w A s κ P lt a b st Q) (hf:Hf lt a b) (q:MG lt a b n x) :
  wpS (jY prog w) A E s (Xy a b x.o x.i x.j x.m) (Lp H4 (λx=>sg st x.g) (MG lt a b (n+1)) (λ_=>False) Q) (sg st x.g):=by
 refine xu H5 (λx=>sg st x.g) (λj=>MG lt a b (n+j)) (MG lt a b (n+1)) Q ⟨x.o,x.i,x.j,0,0,0,x.g⟩ ⟨q.m,q.p,q.q,q.r⟩ (λj x q=>UA H hf q) (λy h=>⟨h.m,h.p,h.q,by have:=h.r;have:=h.p;have:=h.q;lia⟩) (λy q=>?_) λr y st' hr=>jZ (.r _ _ _ hr)
 refine jW (xt ?_);refine xu H6 (λx=>sg st x.g) (λ_=>MG lt a b (n+1)) (MG lt a b (n+1)) Q ⟨y.o,y.i,y.j,x.m+1,y.p,y.q,y.g⟩ ⟨q.m,q.p,q.q,q.r⟩ (λj z q=>?_) (λ_ h=>h) (λz q=>?_) λr y st' hr=>jZ (.r _ _ _ hr)
 .dsimp only;split
  .exact NO H hf (x:=⟨_,_,_,z.m-1,_,_,z.g⟩) ⟨q.m,q.p,q.q,q.r⟩
  .exact NO H hf q
 .refine jW (xI (jZ ?_));exact Lp.y (t:=H4) (v:=λx=>sg st x.g) ⟨_,_,_,z.m+1,0,0,z.m+1⟩ ⟨q.m,q.p,q.q,q.r⟩
theorem Gh(C:zg prog w A s κ P lt) (ha:∀x,x∈a->P x) (hb:∀x,x∈b->P x) (hk:kindOf st=κ) (sa:xT lt a.toList) (sb:xT lt b.toList)
  (na0:0<a.size) (nb0:0<b.size) (h0:∀x∈b.toList.take 1,∀y∈a.toList,lt y x=false) (hl:∀x,a[a.size-1]?=some x->∀y∈b.toList,lt x y=false)
  (h:∀r g,Qy lt a b r->Q r (sg st g)):wpS (jY prog w) A E s (C5 a b) Q st:=by
 have H:Lo prog w A s κ P lt a b st Q:=⟨C,ha,hb,hk,sa,sb,h⟩;rw[GZ];refine jW (xt ?_);have ea0:a[a.size-1]?=some (a[a.size-1]'(by lia)):=ai (by lia)
 refine jW (pX ea0 ?_);have m0:MH lt a b #[] (a.size-1+1) b.size:=⟨by lia,af _,by
  rw[show a.size-1+1=a.toList.length by simp;lia,bA,←ax,bA];simp,by simp[xT],by simp,by simp⟩
 have m1:MH lt a b #[a[a.size-1]'(by lia)] (a.size-1) b.size:=m0.pushA sa ea0 λy hy=>hl _ ea0 y (bK hy)
 by_cases c1:a.size-1=0
 .rw [pN (by simp[c1])]
  exact jZ (h _ (lV st) (m1.end sa sb (.inl c1)))
 rw[pJ (by simpa using c1)]
 by_cases c2:b.size=1
 .rw [pN (by simp[c2])]
  have m1':=m1;rw[c2]at m1' ⊢;exact jZ (XO H h0 (g:=lV st) m1')
 rw[pJ (by simpa using c2)]
 refine jW (lj ?_);exact xu H4 (λx=>sg st x.g) (λi=>MG lt a b (i+1)) (λ_=>False) Q ⟨_,a.size-1,b.size,_,0,0,lV st⟩ ⟨m1,gQ c1,show 1<b.size by lia,show a.size-1+b.size+1<=a.size+b.size by lia⟩ (λi x q=>Vq H h0 q) (λx h=>by have:=h.p;have:=h.q;have:=h.r;lia) (λx h=>h.elim) λr y st' hr=>jZ hr
end
def zQ(lt:jV->jV->Bool) (xs:Array jV) (i j:Nat):Prop:=∀p q x y,i<=p->p<=q->q<j->xs[p]?=some x->xs[q]?=some y->lt y x=false
def Qv(lt:jV->jV->Bool) (xs:Array jV) (i j:Nat):Prop:=∀p q x y,i<=p->p<=q->q<j->xs[p]?=some x->xs[q]?=some y->lt x y=false
def Xf(lt:jV->jV->Bool) (xs:Array jV) (i j:Nat):Prop:=∀p q x y,i<=p->p<j->i<=q->q<j->xs[p]?=some x->xs[q]?=some y->lt x y=false
section
variable {lt:jV->jV->Bool}{xs:Array jV}{i j lo n:Nat}
theorem II(hj:j<=xs.size) (h:Qv lt xs i j):zQ lt (mirror xs i j ((j-i) / 2)) i j:=by
 intro p q x y h1 h2 h3 ex ey;rw[lu hj,pN ⟨h1,by lia⟩]at ex
 rw[lu hj,pN ⟨by lia,h3⟩]at ey
 exact h _ _ _ _ (by lia) (by lia) (by lia) ey ex
theorem zS(hj:j<=xs.size) (hi:lo<=i) (hn:j<=n) (e:Xf lt xs i j) (h:Qv lt xs lo n):Qv lt (mirror xs i j ((j-i) / 2)) lo n:=by
 intro p q x y h1 h2 h3 ex ey;rw[lu hj]at ex ey
 by_cases cp:i<=p/\p<j
 .rw [pN cp]at ex
  by_cases cq:i<=q/\q<j
  .rw [pN cq]at ey;exact e _ _ _ _ (by lia) (by lia) (by lia) (by lia) ex ey
  .rw [pJ cq]at ey;exact h _ _ _ _ (by lia) (by lia) h3 ex ey
 .rw [pJ cp]at ex
  by_cases cq:i<=q/\q<j
  .rw [pN cq]at ey;exact h _ _ _ _ h1 (by lia) (by lia) ex ey
  .rw [pJ cq]at ey;exact h _ _ _ _ h1 h2 h3 ex ey
end
section
variable (lo:Nat)
def XW(n:Nat):StateT SortSt Sem (ForInStep (Option (Option Nat)×Nat)):=do
 match ←ltAt' (lo+n) (lo+n-1) with
 |some c=>if c then pure (.done (none,n)) else pure (.yield (none,n+1))
 |_=>pure (.done (some none,n))
def YZ(n q:Nat):StateT SortSt Sem (ForInStep (Option (Option Nat)×Nat×Nat)):=do
 match ←ltAt' (lo+n) (lo+n-1) with
 |some c =>
  if c then
   if q>0 then do
    let _ ←lQ (lo+n-(q+1)) (lo+n)
    pure (.yield (none,n+1,0))
   else pure (.yield (none,n+1,0))
  else do
   match ←ltAt' (lo+n-1) (lo+n) with
   |some c=>if c then pure (.done (none,n,q)) else pure (.yield (none,n+1,q+1))
   |_=>pure (.done (some none,n,q))
 |_=>pure (.done (some none,n,q))
def YF(nrem n:Nat):StateT SortSt Sem (Option Nat):=do
 lQ lo (lo+n)
 let r ←forIn [n:nrem] (none,n) λ_ s=>XW lo s.2
 Break.runK.match_1 (λ_=>StateT SortSt Sem (Option Nat)) r.1 (λv=>pure v) λ_=>pure (some r.2)
def YE(nrem n:Nat):StateT SortSt Sem (Option Nat):=do
 rule "list.sort.descending-run"
 let r ←forIn [n+1:nrem] (none,n+1,0) λ_ s=>YZ lo s.2.1 s.2.2
 Break.runK.match_1 (λ_=>StateT SortSt Sem (Option Nat)) r.1 (λv=>pure v) λ_ =>
  if r.2.2>0 then do
   let _ ←lQ (lo+r.2.1-(r.2.2+1)) (lo+r.2.1)
   YF lo nrem r.2.1
  else YF lo nrem r.2.1
theorem Xw(nrem:Nat):countRun' lo nrem=(do
 let r ←forIn [1:nrem] (none,1) λ_ s=>XW lo s.2
 Break.runK.match_1 (λ_=>StateT SortSt Sem (Option Nat)) r.1 (λv=>pure v) λ_ =>
  if r.2 == nrem then pure (some r.2)
  else if r.2>1 then do
   match ←ltAt' lo (lo+r.2-1) with
   |some c =>
    if c then pure (some r.2)
    else do
     let _ ←lQ lo (lo+r.2)
     YE lo nrem r.2
   |_=>pure none
  else YE lo nrem r.2):=countRun'_eq lo nrem
end
section
variable {prog:kf}{w:ki}{A:Around}{E:Value->Shared->Prop}{s:Shared}{κ:kG}{P:jV->Prop}{lt:jV->jV->Bool}
theorem SB(C:zg prog w A s κ P lt) {xs:Array jV}(hp:∀x,x∈xs->P x) (lo:Nat):zQ lt xs lo (lo+1):=by
 intro p q x y h1 h2 h3 ex ey;have e:p=q:=by lia
 subst e;rw[ex]at ey;cases ey;exact C.refl (hp _ (aQq ex))
theorem OM(C:zg prog w A s κ P lt) {xs:Array jV}(hp:∀x,x∈xs->P x) {lo n:Nat}(h:zQ lt xs lo (lo+(n+1))) (hx:∀x y,xs[lo+(n+1)]?=some x->xs[lo+n]?=some y->lt x y=false) (hz:lo+(n+1)<xs.size):zQ lt xs lo (lo+(n+2)):=by
 intro p q x y h1 h2 h3 ex ey
 by_cases c:q<lo+(n+1)
 .exact h p q x y h1 h2 c ex ey
 .have eq:q=lo+(n+1):=by lia
  subst eq
  by_cases c2:p=lo+(n+1)
  .subst c2;rw[ex]at ey;cases ey;exact C.refl (hp _ (aQq ex))
  .have em:xs[lo+n]?=some (xs[lo+n]'(by lia)):=ai (by lia)
   exact C.trans _ _ _ (hp _ (aQq ex)) (hp _ (aQq em)) (hp _ (aQq ey)) (h p (lo+n) _ _ h1 (by lia) (by lia) ex em) (hx _ _ ey em)
theorem GG(C:zg prog w A s κ P lt) {xs:Array jV}(hp:∀x,x∈xs->P x) {lo n:Nat}(h:Qv lt xs lo (lo+(n+1))) (hx:∀x y,xs[lo+(n+1)]?=some x->xs[lo+n]?=some y->lt y x=false) (hz:lo+(n+1)<xs.size):Qv lt xs lo (lo+(n+2)):=by
 intro p q x y h1 h2 h3 ex ey
 by_cases c:q<lo+(n+1)
 .exact h p q x y h1 h2 c ex ey
 .have eq:q=lo+(n+1):=by lia
  subst eq
  by_cases c2:p=lo+(n+1)
  .subst c2;rw[ex]at ey;cases ey;exact C.refl (hp _ (aQq ex))
  .have em:xs[lo+n]?=some (xs[lo+n]'(by lia)):=ai (by lia)
   exact C.trans _ _ _ (hp _ (aQq ey)) (hp _ (aQq em)) (hp _ (aQq ex)) (hx _ _ ey em) (h p (lo+n) _ _ h1 (by lia) (by lia) ex em)
theorem GW(C:zg prog w A s κ P lt) {lo nrem a:Nat}{st:SortSt}(hp:∀x,x∈kj st->P x) (hk:kindOf st=κ) (ha:1<=a) (han:a<=nrem) (hz:lo+nrem<=(kj st).size) (hs:zQ lt (kj st) lo (lo+a)) :
  wpS (jY prog w) A E s (forIn [a:nrem] ((none,a):Option (Option Nat)×Nat) λ_ s=>XW lo s.2)
   (λc st'=>∃n,c=(none,n)/\st'=st/\a<=n/\n<=nrem/\zQ lt (kj st) lo (lo+n)/\(n=nrem∨∃x y,(kj st)[lo+n]?=some x/\(kj st)[lo+n-1]?=some y/\lt x y=true)) st:=by
 refine kB (I:=λi c st'=>c=(none,i)/\st'=st/\a<=i/\i<=nrem/\zQ lt (kj st) lo (lo+i)) ?step ?fin ⟨rfl,rfl,af _,han,hs⟩
 case step =>
  rintro i c st' h1 h2 ⟨rfl,rfl,h3,h4,h5⟩;obtain⟨k,rfl⟩:∃k,i=k+1:=⟨i-1,by lia⟩
  have ex:(kj st')[lo+(k+1)]?=some ((kj st')[lo+(k+1)]'(by lia)):=ai (by lia)
  have ey:(kj st')[lo+(k+1)-1]?=some ((kj st')[lo+k]'(by lia)):=ai (by lia)
  refine jW (C.at ex ey (hp _ (aQq ex)) (hp _ (aQq ey)) hk ?_);cases e:lt ((kj st')[lo+(k+1)]'(by lia)) ((kj st')[lo+k]'(by lia)) with
  |true=>exact jZ ⟨_,rfl,rfl,h3,h4,h5,.inr ⟨_,_,ex,ey,e⟩⟩
  |false =>
   refine jZ ⟨rfl,rfl,by lia,h2,OM C hp h5 (λx y hx hy=>?_) (by lia)⟩
   have hy':(kj st')[lo+(k+1)-1]?=some y:=hy;rw[ex]at hx;rw[ey]at hy';cases hx;cases hy';exact e
 case fin =>
  rintro c st' ⟨rfl,rfl,h3,h4,h5⟩;have e:max a nrem=nrem:=jt han;rw[e]at h3 h4 h5 ⊢;exact⟨nrem,rfl,rfl,h3,af _,h5,.inl rfl⟩
theorem B6{i j:Nat}{st:SortSt}{Q:Unit->SortSt->Prop}(h:Q () (kC st (mirror (kj st) i j ((j-i) / 2)))):wpS (jY prog w) A E s (lQ i j) Q st:=by
 rw[reverseSlice'_eq];exact kU h
structure yr (xs ys:Array jV) (lo hi:Nat):Prop where
 pm:ys.Perm xs
 out:∀k,(k<lo∨hi<=k)->ys[k]?=xs[k]?
theorem yr.refl(xs:Array jV) (lo hi:Nat):yr xs xs lo hi:=⟨jC.refl _,λ_ _=>rfl⟩
theorem yr.trans{xs ys zs:Array jV}{lo hi:Nat}(a:yr xs ys lo hi) (b:yr ys zs lo hi):yr xs zs lo hi:=⟨b.pm.trans a.pm,λk h=>(b.out k h).trans (a.out k h)⟩
theorem yr.mono{xs ys:Array jV}{lo hi hi':Nat}(a:yr xs ys lo hi) (h:hi<=hi'):yr xs ys lo hi':=⟨a.pm,λk q=>a.out k (by lia)⟩
theorem yr.size{xs ys:Array jV}{lo hi:Nat}(a:yr xs ys lo hi):ys.size=xs.size:=a.pm.size_eq
theorem yr.mem{xs ys:Array jV}{lo hi:Nat}(a:yr xs ys lo hi) {P:jV->Prop}(h:∀x,x∈xs->P x):∀x,x∈ys->P x:=λx hx=>h x (a.pm.mem_iff.mp hx)
theorem xY{xs:Array jV}{lo hi i j:Nat}(hj:j<=xs.size) (h1:lo<=i) (h2:j<=hi):yr xs (mirror xs i j ((j-i) / 2)) lo hi :=
 ⟨mirror_perm _ _ _ _,λk hk=>by rw[lu hj,pJ (by lia)]⟩
structure CR (lt:jV->jV->Bool) (as:Array jV) (lo i q:Nat) (ys:Array jV):Prop where
 b:yr as ys lo (lo+i)
 d:Qv lt ys lo (lo+i)
 e:Xf lt ys (lo+i-(q+1)) (lo+i)
 p:q+1<=i
theorem Ca(C:zg prog w A s κ P lt) {ys:Array jV}(hp:∀x,x∈ys->P x) {i j:Nat}(h:j<=i+1):Xf lt ys i j:=by
 intro p q x y g1 g2 g3 g4 gx gy;have e:p=q:=by lia
 subst e;rw[gx]at gy;cases gy;exact C.refl (hp _ (aQq gx))
theorem TH(C:zg prog w A s κ P lt) {lo nrem k neq:Nat}{st:SortSt}{ys:Array jV}(hp:∀x,x∈kj st->P x) (hk:kindOf st=κ) (hz:lo+nrem<=(kj st).size) (hi:k+1<nrem) (g:CR lt (kj st) lo (k+1) neq ys) :
  wpS (jY prog w) A E s (YZ lo (k+1) neq) (λr DW=>∃m q zs,DW=kC st zs/\m<=nrem/\CR lt (kj st) lo m q zs/\(r = .done (none,m,q)∨r = .yield (none,m,q)/\m=k+1+1)) (kC st ys):=by
 have g1:=g.b;have g2:=g.d;have g3:=g.e;have g4:=g.p;have hpy:=g1.mem hp;have hsz:=g1.size;have ex:ys[lo+(k+1)]?=some (ys[lo+(k+1)]'(by lia)):=ai (by lia)
 have ey:ys[lo+(k+1)-1]?=some (ys[lo+k]'(by lia)):=ai (by lia)
 have px:=hpy _ (aQq ex);have py:=hpy _ (aQq ey);have des:lt (ys[lo+k]'(by lia)) (ys[lo+(k+1)]'(by lia))=false->Qv lt ys lo (lo+(k+1+1)):=λe=>GG C hpy g2 (λx y hx hy=>by
  have hy':ys[lo+(k+1)-1]?=some y:=hy;rw[ex]at hx;rw[ey]at hy';cases hx;cases hy';exact e) (by lia)
 refine jW (C.at (st:=kC st ys) ex ey px py hk ?_);cases e:lt (ys[lo+(k+1)]'(by lia)) (ys[lo+k]'(by lia)) with
 |true =>
  have g2':=des (C.asym _ _ px py e);dsimp only;rw[pN rfl]
  by_cases cn:neq>0
  .rw [pN cn];refine jW (B6 (jZ ?_));have bt:yr (kj st) (mirror ys (lo+(k+1)-(neq+1)) (lo+(k+1)) ((lo+(k+1)-(lo+(k+1)-(neq+1))) / 2)) lo (lo+(k+1)):=g1.trans (xY (by lia) (by lia) (af _))
   exact⟨_,0,_,rfl,hi,⟨bt.mono (by lia),zS (by lia) (by lia) (by lia) g3 g2',Ca C (bt.mem hp) (by lia),by lia⟩,.inr ⟨rfl,rfl⟩⟩
  .rw [pJ cn];exact jZ ⟨_,0,ys,rfl,hi,⟨g1.mono (by lia),g2',Ca C hpy (by lia),by lia⟩,.inr ⟨rfl,rfl⟩⟩
 |false =>
  dsimp only;rw[pJ (by decide)]
  refine jW (C.at (st:=kC st ys) ey ex py px hk ?_);cases e':lt (ys[lo+k]'(by lia)) (ys[lo+(k+1)]'(by lia)) with
  |true=>exact jZ ⟨_,neq,ys,rfl,cS hi,g,.inl rfl⟩
  |false =>
   refine jZ ⟨_,neq+1,ys,rfl,hi,⟨g1.mono (by lia),des e',?_,by lia⟩,.inr ⟨rfl,rfl⟩⟩
   intro p q x y h1 h2 h3 h4 gx gy;have qx:=hpy _ (aQq gx);have qy:=hpy _ (aQq gy)
   by_cases cp:p=lo+(k+1)
   .subst cp;rw[ex]at gx;cases gx
    by_cases cq:q=lo+(k+1)
    .subst cq;rw[ex]at gy;cases gy;exact C.refl px
    .exact C.trans _ _ _ qy py px (g3 (lo+(k+1)-1) q _ _ (by lia) (by lia) (by lia) (by lia) ey gy) e
   .by_cases cq:q=lo+(k+1)
    .subst cq;rw[ex]at gy;cases gy;exact C.trans _ _ _ px py qx e' (g3 p (lo+(k+1)-1) _ _ (by lia) (by lia) (by lia) (by lia) gx ey)
    .exact g3 p q x y (by lia) (by lia) (by lia) (by lia) gx gy
abbrev Xm(lt:jV->jV->Bool) (st:SortSt) (lo nrem:Nat) (Q:Option Nat->SortSt->Prop):=∀n xs,1<=n->n<=nrem->yr (kj st) xs lo (lo+n)->zQ lt xs lo (lo+n)->Q (some n) (kC st xs)
theorem Nj(C:zg prog w A s κ P lt) {lo nrem m:Nat}{st:SortSt}{ys:Array jV}{Q:Option Nat->SortSt->Prop}(hp:∀x,x∈kj st->P x) (hk:kindOf st=κ) (hz:lo+nrem<=(kj st).size) (h:Xm lt st lo nrem Q)
  (h1:1<=m) (h2:m<=nrem) (b:yr (kj st) ys lo (lo+m)) (d:Qv lt ys lo (lo+m)):wpS (jY prog w) A E s (YF lo nrem m) Q (kC st ys):=by
 refine jW (B6 ?_);have hsz:=b.size;have f1:=II (by lia) d
 have f2:=b.trans (xY (i:=lo) (j:=lo+m) (by lia) (af _) (af _))
 refine jW (kF (GW (st:=kC st _) C (f2.mem hp) hk h1 h2 (bY hz (gG f2.size.symm)) f1) ?_);rintro c DW ⟨n',rfl,rfl,n1',n2',s1',_⟩;exact jZ (h n' _ (by lia) n2' (f2.mono (by lia)) s1')
theorem MY(C:zg prog w A s κ P lt) {lo nrem n:Nat}{st:SortSt}{xs:Array jV}{Q:Option Nat->SortSt->Prop}(hp:∀x,x∈kj st->P x) (hk:kindOf st=κ) (hz:lo+nrem<=(kj st).size) (h:Xm lt st lo nrem Q)
  (hn:n<nrem) (b:yr (kj st) xs lo (lo+n)) (d:Qv lt xs lo (lo+(n+1))):wpS (jY prog w) A E s (YE lo nrem n) Q (kC st xs):=by
 refine jW (xt (jW (kF (kB
  (I:=λi c DW=>∃q ys,c=(none,i,q)/\DW=kC st ys/\i<=nrem/\CR lt (kj st) lo i q ys)
  (Q:=λc DW=>∃m q ys,c=(none,m,q)/\DW=kC st ys/\m<=nrem/\CR lt (kj st) lo m q ys)
  ?_ ?_ ⟨0,xs,rfl,rfl,hn,b.mono (by lia),d,Ca C (b.mem hp) (by lia),by lia⟩) ?_)))
 .rintro i c DW _ hi ⟨q,ys,rfl,rfl,_,g⟩;obtain⟨k,rfl⟩:∃k,i=k+1:=⟨i-1,by have:=g.p;lia⟩
  refine kF (TH C hp hk hz hi g) λr DW hr=>?_
  obtain⟨m,q,zs,rfl,hm,g',rfl|⟨rfl,rfl⟩⟩:=hr
  .exact ⟨m,q,zs,rfl,rfl,hm,g'⟩
  .exact ⟨q,zs,rfl,rfl,hm,g'⟩
 .rintro c DW ⟨q,ys,rfl,rfl,hm,g⟩;exact⟨_,q,ys,rfl,rfl,hm,g⟩
 .rintro c DW ⟨m,q,ys,rfl,rfl,hm,g⟩;have hsz:=g.b.size;have gp:=g.p;dsimp only
  by_cases cn:q>0
  .rw [pN cn];exact jW (B6 (Nj (st:=st) (ys:=mirror ys (lo+m-(q+1)) (lo+m) ((lo+m-(lo+m-(q+1))) / 2)) C hp hk hz h (by lia) hm (g.b.trans (xY (by lia) (by lia) (af _))) (zS (by lia) (by lia) (af _) g.e g.d)))
  .rw [pJ cn];exact Nj C hp hk hz h (by lia) hm g.b g.d
theorem E4(C:zg prog w A s κ P lt) {lo nrem:Nat}{st:SortSt}{Q:Option Nat->SortSt->Prop}(hp:∀x,x∈kj st->P x) (hk:kindOf st=κ) (h1:1<=nrem) (hz:lo+nrem<=(kj st).size)
  (h:∀n xs,1<=n->n<=nrem->yr (kj st) xs lo (lo+n)->zQ lt xs lo (lo+n)->Q (some n) (kC st xs)):wpS (jY prog w) A E s (countRun' lo nrem) Q st:=by
 rw[Xw];refine jW (kF (GW C hp hk (af 1) h1 hz (SB C hp lo)) ?_);rintro c st' ⟨n,rfl,rfl,n1,n2,sg1,brk⟩;dsimp only;have triv:Q (some n) st':=h n (kj st') n1 n2 (yr.refl _ _ _) sg1
 by_cases c1:n=nrem
 .rw [pN (by simp[c1])]
  exact jZ triv
 rw[pJ (by simpa using c1)]
 obtain⟨xb,yb,exb,eyb,eb⟩:=brk.resolve_left c1;obtain⟨m,rfl⟩:∃m,n=m+1:=⟨n-1,by lia⟩
 have pxb:=hp _ (aQq exb);have pyb:=hp _ (aQq eyb);have go:Xf lt (kj st') lo (lo+(m+1))->Qv lt (kj st') lo (lo+(m+1+1)):=λe1 =>
  GG C hp (λp q x y g1 g2 g3 ex ey=>e1 p q x y g1 (by lia) (by lia) g3 ex ey) (λx y hx hy=>by
   have hy':(kj st')[lo+(m+1)-1]?=some y:=hy;rw[exb]at hx;rw[eyb]at hy';cases hx;cases hy';exact C.asym _ _ pxb pyb eb) (by lia)
 by_cases c2:m+1>1
 .rw [pN c2];have ex:(kj st')[lo]?=some ((kj st')[lo]'(by lia)):=ai (by lia)
  have pex:=hp _ (aQq ex);refine jW (C.at ex eyb pex pyb hk ?_);cases e:lt ((kj st')[lo]'(by lia)) yb with
  |true=>exact jZ triv
  |false =>
   dsimp only;rw[pJ (by decide)]
   have eqv:Xf lt (kj st') lo (lo+(m+1)):=by
    intro p q x y g1 g2 g3 g4 gx gy;have px:=hp _ (aQq gx);have py:=hp _ (aQq gy);have q1:=sg1 q (lo+(m+1)-1) _ _ g3 (by lia) (by lia) gy eyb
    have q2:=sg1 lo p _ _ (af _) g1 g2 ex gx;exact C.trans _ _ _ py pex px (C.trans _ _ _ py pyb pex q1 e) q2
   exact jW (B6 (MY C hp hk hz h (by lia) (xY (by lia) (af _) (af _)) (zS (by lia) (af _) (by lia) eqv (go eqv))))
 .rw [pJ c2];exact MY C hp hk hz h (by lia) (yr.refl _ _ _) (go (Ca C hp (by lia)))
end
section
variable {prog:kf}{w:ki}{A:Around}{E:Value->Shared->Prop}{s:Shared}{κ:kG}{P:jV->Prop}{lt:jV->jV->Bool}
theorem QV(C:zg prog w A s κ P lt) {xs:Array jV}(hp:∀x,x∈xs->P x) {lo k l:Nat}(hz:lo+k<xs.size) (hl:l<=k) (hs:zQ lt xs lo (lo+k)) {x:jV}(hx:xs[lo+k]?=some x)
  (h1:∀j y,j<l->xs[lo+j]?=some y->lt x y=false) (h2:∀j y,l<=j->j<k->xs[lo+j]?=some y->lt x y=true):zQ lt (bubble xs (lo+k) (k-l)) lo (lo+(k+1)):=by
 have px:=hp _ (aQq hx);have g:∀p,(bubble xs (lo+k) (k-l))[p]?=if p=lo+l then some x else if lo+l<p/\p<=lo+k then xs[p-1]? else xs[p]?:=λp=>by
  rw[getElem?_bubble hz (k-l) (by lia) p,show lo+k-(k-l)=lo+l by lia,hx]
 intro p q u v a1 a2 a3 eu ev;rw[g]at eu ev
 by_cases cp:p=lo+l
 .rw [pN cp]at eu;cases eu
  by_cases cq:q=lo+l
  .rw [pN cq]at ev;cases ev;exact C.refl px
  .rw [pJ cq,pN ⟨by lia,by lia⟩]at ev
   have pv:=hp _ (aQq ev);exact C.asym _ _ px pv (h2 (q-1-lo) v (by lia) (by lia) (by rw[show lo+(q-1-lo)=q-1 by lia];exact ev))
 .rw [pJ cp]at eu
  by_cases cp2:lo+l<p/\p<=lo+k
  .rw [pN cp2]at eu;rw[pJ (by lia),pN ⟨by lia,by lia⟩]at ev
   exact hs (p-1) (q-1) _ _ (by lia) (by lia) (by lia) eu ev
  .rw [pJ cp2]at eu
   by_cases cq:q=lo+l
   .rw [pN cq]at ev;cases ev;exact h1 (p-lo) u (by lia) (by rw[show lo+(p-lo)=p by lia];exact eu)
   .rw [pJ cq]at ev
    by_cases cq2:lo+l<q/\q<=lo+k
    .rw [pN cq2]at ev;exact hs p (q-1) _ _ a1 (by lia) (by lia) eu ev
    .rw [pJ cq2]at ev;exact hs p q _ _ a1 a2 (by lia) eu ev
theorem IG{xs:Array jV}{lo k l n:Nat}(hz:lo+k<xs.size) (hl:l<=k) (hn:k<n):yr xs (bubble xs (lo+k) (k-l)) lo (lo+n) :=
 ⟨bubble_perm _ _ _,λp hp=>by rw[getElem?_bubble hz (k-l) (by lia) p,pJ (by lia),pJ (by lia)]⟩
theorem NN{src dst:Nat}{st:SortSt}{Q:Unit->SortSt->Prop}(h:Q () (kC st (bubble (kj st) src (src-dst)))):wpS (jY prog w) A E s (moveDown' src dst) Q st:=by
 rw[moveDown'_eq];exact kU h
theorem IV(C:zg prog w A s κ P lt) {lo n ok:Nat}{st:SortSt}{Q:Bool->SortSt->Prop}(hp:∀x,x∈kj st->P x) (hk:kindOf st=κ) (h1:1<=ok) (h2:ok<=n) (hz:lo+n<=(kj st).size) (hs:zQ lt (kj st) lo (lo+ok))
  (h:∀xs,yr (kj st) xs lo (lo+n)->zQ lt xs lo (lo+n)->Q true (kC st xs)):wpS (jY prog w) A E s (binarySort' lo n ok) Q st:=by
 rw[binarySort'_eq];dsimp only;rw[Nat.max_eq_left h1];refine jW (kF (kB (I:=λk c st'=>∃ys,c=(none,())/\st'=kC st ys/\yr (kj st) ys lo (lo+n)/\zQ lt ys lo (lo+k)/\k<=n)
  (Q:=λc st'=>∃ys,c=(none,())/\st'=kC st ys/\yr (kj st) ys lo (lo+n)/\zQ lt ys lo (lo+n)) ?step ?fin ⟨kj st,rfl,rfl,yr.refl _ _ _,hs,h2⟩) ?post)
 case fin =>
  rintro c st' ⟨ys,rfl,rfl,b1,s1,q⟩;have e:max ok n=n:=by lia
  rw[e]at s1;exact⟨ys,rfl,rfl,b1,s1⟩
 case post =>
  rintro c st' ⟨ys,rfl,rfl,b1,s1⟩;exact jZ (h ys b1 s1)
 case step =>
  rintro k c st' hk1 hk2 ⟨ys,rfl,rfl,b1,s1,q⟩;have hpy:=b1.mem hp;have hsz:=b1.size;have ex:ys[lo+k]?=some (ys[lo+k]'(by lia)):=ai (by lia)
  have px:=hpy _ (aQq ex);refine jW (kF (kB (I:=λi c st'=>∃l r,c=(none,l,r)/\st'=kC st ys/\l<=r/\r<=k/\(∀j y,j<l->ys[lo+j]?=some y->lt (ys[lo+k]'(by lia)) y=false)/\(∀j y,r<=j->j<k->ys[lo+j]?=some y->lt (ys[lo+k]'(by lia)) y=true)/\(r-l)+i<=k)
   (Q:=λc st'=>∃l r,c=(none,l,r)/\st'=kC st ys/\l=r/\r<=k/\(∀j y,j<l->ys[lo+j]?=some y->lt (ys[lo+k]'(by lia)) y=false)/\(∀j y,r<=j->j<k->ys[lo+j]?=some y->lt (ys[lo+k]'(by lia)) y=true))
   ?step1 ?fin1 ⟨0,k,rfl,rfl,bp _,af _,λj y hj=>absurd hj (cQ _),λj y g1 g2=>absurd g2 (by lia),by lia⟩) ?post1)
  case fin1 =>
   rintro c st' ⟨l,r,rfl,rfl,a1,a2,a3,a4,a5⟩;exact⟨l,r,rfl,rfl,by lia,a2,a3,a4⟩
  case step1 =>
   rintro i c st' _ hi ⟨l,r,rfl,rfl,a1,a2,a3,a4,a5⟩;dsimp only
   by_cases c1:l ≥ r
   .rw [pN c1];exact jZ ⟨l,r,rfl,rfl,by lia,a2,a3,a4⟩
   rw[pJ c1];have em:ys[lo+(l+r) / 2]?=some (ys[lo+(l+r) / 2]'(by lia)):=ai (by lia)
   have pm:=hpy _ (aQq em);refine jW (C.at (st:=kC st ys) ex em px pm hk ?_);cases e:lt (ys[lo+k]'(by lia)) (ys[lo+(l+r) / 2]'(by lia)) with
   |true =>
    dsimp only;rw[pN rfl];refine jZ ⟨l,_,rfl,rfl,by lia,by lia,a3,λj y g1 g2 ey=>?_,by lia⟩
    have py:=hpy _ (aQq ey);cases e':lt (ys[lo+k]'(by lia)) y with
    |true=>rfl
    |false =>
     have q1:=s1 (lo+(l+r) / 2) (lo+j) _ _ (by lia) (by lia) (by lia) em ey
     have q2:=C.trans _ _ _ pm py px q1 e';rw[e]at q2;cases q2
   |false =>
    dsimp only;rw[pJ (by decide)]
    refine jZ ⟨_,r,rfl,rfl,by lia,a2,λj y g1 ey=>?_,a4,by lia⟩
    have py:=hpy _ (aQq ey);exact C.trans _ _ _ py pm px (s1 (lo+j) (lo+(l+r) / 2) _ _ (by lia) (by lia) (by lia) ey em) e
  case post1 =>
   rintro c st' ⟨l,r,rfl,rfl,rfl,a2,a3,a4⟩;dsimp only;refine jW (NN (jZ ?_));have e:lo+k-(lo+l)=k-l:=by lia
   show ∃ys',_/\kC st (bubble ys (lo+k) (lo+k-(lo+l)))=kC st ys'/\_;rw[e];exact⟨_,rfl,rfl,b1.trans (IG (by lia) a2 hk2),QV C hpy (by lia) a2 s1 ex a3 a4,hk2⟩
end
def sZ(lt:jV->jV->Bool) (xs:Array jV):Nat->List (Nat×Nat×Nat)->Nat->Prop
 |s,[],e=>s=e
 |s,p::r,e=>p.1=s/\0<p.2.1/\zQ lt xs s (s+p.2.1)/\sZ lt xs (s+p.2.1) r e
theorem uo{lt:jV->jV->Bool}{xs:Array jV}:∀{q r:List (Nat×Nat×Nat)}{s e:Nat},sZ lt xs s (q++r) e↔∃m,sZ lt xs s q m/\sZ lt xs m r e
 | [],r,s,e=>by
  constructor
  .intro h;exact⟨s,rfl,h⟩
  .rintro ⟨m,rfl,h⟩;exact h
 |p::q,r,s,e=>by
  constructor
  .rintro ⟨h1,h2,h3,h4⟩;obtain⟨m,a,b⟩:=uo.mp h4;exact⟨m,⟨h1,h2,h3,a⟩,b⟩
  .rintro ⟨m,⟨h1,h2,h3,a⟩,b⟩;exact⟨h1,h2,h3,uo.mpr ⟨m,a,b⟩⟩
theorem yH{lt:jV->jV->Bool}{xs:Array jV}:∀{q:List (Nat×Nat×Nat)}{s e:Nat},sZ lt xs s q e->s+q.length<=e
 | [],s,e,h=>by have:s=e:=h;simp[this]
 |p::q,s,e,hz=>by
  obtain⟨_,h2,_,h4⟩:=hz;have:=yH h4;rw[lCq];lia
theorem wy{lt:jV->jV->Bool}{xs ys:Array jV}:∀{q:List (Nat×Nat×Nat)}{s e:Nat},(∀k,s<=k->k<e->ys[k]?=xs[k]?)->sZ lt xs s q e->sZ lt ys s q e
 | [],s,e,_,h=>h
 |p::q,s,e,g,hz=>by
  obtain⟨h1,h2,h3,h4⟩:=hz;have l:=yH h4;refine⟨h1,h2,λa b x y a1 a2 a3 ex ey=>h3 a b x y a1 a2 a3 ?_ ?_,wy (λk k1 k2=>g k (by lia) k2) h4⟩
  .rw [←g a a1 (by lia)];exact ex
  .rw [←g b (by lia) (by lia)];exact ey
theorem AC{lt:jV->jV->Bool}{xs:Array jV}:∀{q q':List (Nat×Nat×Nat)}{s e:Nat},q'.map (λp=>(p.1,p.2.1))=q.map (λp=>(p.1,p.2.1))->sZ lt xs s q e->sZ lt xs s q' e
 | [],q',s,e,g,h=>by
  have:q'=[]:=by simpa using g
  subst this;exact h
 |p::q,[],s,e,g,h=>by simp at g
 |p::q,p'::q',s,e,g,hz=>by
  obtain⟨h1,h2,h3,h4⟩:=hz;simp only[au,jj.injEq,Prod.mk.injEq]at g;obtain⟨⟨g1,g2⟩,g3⟩:=g;rw[←g2]at h2 h3 h4;exact⟨g1.trans h1,h2,h3,AC g3 h4⟩
theorem Eo(o:Nat):∀(M:List jV) (n:Nat) (xs:Array jV),o+n+M.length<=xs.size ->
  ((M.zipIdx n).foldl (λa x=>a.setIfInBounds (o+x.2) x.1) xs).toList=xs.toList.take (o+n)++M++xs.toList.drop (o+n+M.length)
 | [],n,xs,h=>by simp
 |y::r,n,xs,h=>by
  rw[List.zipIdx_cons,bD];rw[lCq]at h;rw[Eo o r (n+1) _ (by rw[Array.size_setIfInBounds];lia),gU]
  have hl:o+n<xs.toList.length:=by rw[ax];lia
  have e1:(xs.toList.set (o+n) y).take (o+(n+1))=xs.toList.take (o+n)++[y]:=by
   rw[←gc,cB,aC hl,List.take_set_of_le (af _)];rfl
  have e2:(xs.toList.set (o+n) y).drop (o+(n+1)+r.length)=xs.toList.drop (o+n+(r.length+1)):=by
   rw[List.drop_set_of_lt (by lia)]
   congr 1;lia
  rw[e1,e2,lCq,ah,ah,ah];rfl
section
variable {prog:kf}{w:ki}{A:Around}{E:Value->Shared->Prop}{s:Shared}{κ:kG}{P:jV->Prop}{lt:jV->jV->Bool}
theorem JQ(C:zg prog w A s κ P lt) {left:Bool}{key:jV}{arr:Array jV}{base n:Nat}(hb:base+n<=arr.size) (ha:∀x,x∈arr->P x) (hkey:P key) (so:zQ lt arr base (base+n)) :
  ∀i j,i<=j->j<n->yc lt left key arr base j=true->yc lt left key arr base i=true:=by
 intro i j hij hj h;have ei:arr[base+i]?=some (arr[base+i]'(by lia)):=ai (by lia)
 have ej:arr[base+j]?=some (arr[base+j]'(by lia)):=ai (by lia)
 have pi:=ha _ (aQq ei);have pj:=ha _ (aQq ej);have le:=so (base+i) (base+j) _ _ (by lia) (by lia) (by lia) ei ej
 rw[ur ej]at h;rw[ur ei];cases left with
 |true =>
  rw[pN rfl]at h ⊢;cases q:lt (arr[base+i]'(by lia)) key with
  |true=>rfl
  |false =>
   have:=C.trans _ _ _ hkey pi pj q le;rw[h]at this;cases this
 |false =>
  rw[pJ (by decide)]at h ⊢
  have h':lt key (arr[base+j]'(by lia))=false:=by simpa using h
  have:=C.trans _ _ _ pi pj hkey le h';simp[this]
theorem tX{a:Array jV}{i j:Nat}{x:jV}(h:x∈(a.extract i j).toList):∃k,i<=k/\k<j/\a[k]?=some x:=by
 rw[rD]at h;obtain⟨k,k1,k2,e⟩:=vN h;rw[bZ]at e;exact⟨k,k1,k2,e⟩
theorem BJ{a:Array jV}{i j:Nat}(h:zQ lt a i j):xT lt (a.extract i j).toList:=by
 rw[rD];refine bR.mpr λp q hp hq hpq=>?_
 rw[aR,lTq,ax]at hp hq;have e:∀k (hk:k<((a.toList.take j).drop i).length),a[i+k]?=some ((a.toList.take j).drop i)[k]:=λk hk=>by
  rw[aR,lTq,ax]at hk;rw[fJ,gY,bf];exact⟨by lia,by simp⟩
 exact h (i+p) (i+q) _ _ (by lia) (by lia) (by lia) (e p _) (e q _)
theorem Ga(i:Nat):mergeAt' i=(do
 let s ←get
 let (some (sa,na,power),some (sb,nb,_)):=((kT s)[i]?,(kT s)[i+1]?)|lK "internal:list.sort.pending"
 set (setPending s (((kT s).setIfInBounds i (sa,na+nb,power)).eraseIdxIfInBounds (i+1)))
 let some k ←wN false (←kK (kj s) sb) (kj s) sa na 0|return false
 let (sa,na):=(sa+k,na-k)
 if na == 0 then return true
 let some nb ←wN true (←kK (kj s) (sa+na-1)) (kj s) sb nb (nb-1)|return false
 if nb == 0 then return true
 let x:=(kj s).extract sa sb
 let y:=(kj s).extract sb (sb+nb)
 let merged ←if na<=nb then Dh x y else C5 x y
 modify λs=>kC s (merged.toList.zipIdx.foldl (λa (p,j)=>a.setIfInBounds (sa+j) p) (kj s))
 return (failedOf (←get)).isNone):=rfl
theorem Kw{st st':SortSt}{Q:PUnit->SortSt->Prop}(h:Q ⟨⟩ st'):wpS (jY prog w) A E s (set st':StateT SortSt Sem PUnit) Q st:=by
 unfold wpS;rw[StateT.run_set];exact jX ⟨rfl,h⟩
theorem Mx(C:zg prog w A s κ P lt) {xs zs M:Array jV}{sa na nb k l:Nat}(hp:∀x,x∈xs->P x) (hz:sa+na+nb<=xs.size) (hk:k<=na) (hl:l<=nb) (h1:zQ lt xs sa (sa+na)) (h2:zQ lt xs (sa+na) (sa+na+nb)) {key last:jV}
  (ek:xs[sa+na]?=some key) (el:xs[sa+na-1]?=some last)
  (k2:∀j y,j<k->xs[sa+j]?=some y->lt key y=false) (l3:∀j y,l<=j->j<nb->xs[sa+na+j]?=some y->lt y last=false) (hna:0<na) (hnb:0<nb)
  (m:Qy lt (xs.extract (sa+k) (sa+na)) (xs.extract (sa+na) (sa+na+l)) M)
  (hzs:zs.toList=xs.toList.take (sa+k)++M.toList++xs.toList.drop (sa+k+M.toList.length)):yr xs zs sa (sa+na+nb)/\zQ lt zs sa (sa+na+nb):=by
 have lM:M.toList.length=(na-k)+l:=by
  have:=m.pm.length_eq;simp only[lAq,ax,fA]at this ⊢;lia
 have hlx:xs.toList.length=xs.size:=ax;have gz:∀p,zs[p]?=if p<sa+k then xs[p]? else if p<sa+na+l then M[p-(sa+k)]? else xs[p]?:=λp=>by
  rw[←az,hzs]
  by_cases c1:p<sa+k
  .rw [pN c1,ah,gZq (by rw[lTq];lia),eF c1,az]
  .rw [pJ c1,ah,gYq (by rw[lTq];lia),lTq,show min (sa+k) xs.toList.length=sa+k by lia]
   by_cases c2:p<sa+na+l
   .rw [pN c2,gZq (by lia),az]
   .rw [pJ c2,gYq (by lia),cZ,az]
    congr 1;lia
 have pk:=hp _ (aQq ek);have pl:=hp _ (aQq el);have from_:∀q v,M[q]?=some v->(∃j,k<=j/\j<na/\xs[sa+j]?=some v)∨∃j,j<l/\xs[sa+na+j]?=some v:=λq v e=>by
  have hv:v∈M.toList:=by simpa using aQq e
  rcases mAq.mp (m.pm.mem_iff.mp hv) with hv|hv
  .obtain ⟨j,j1,j2,ej⟩:=tX hv;exact .inl ⟨j-sa,by lia,by lia,by rw[show sa+(j-sa)=j by lia];exact ej⟩
  .obtain ⟨j,j1,j2,ej⟩:=tX hv;exact .inr ⟨j-(sa+na),by lia,by rw[show sa+na+(j-(sa+na))=j by lia];exact ej⟩
 refine⟨⟨?_,λp hp'=>?_⟩,?_⟩
 .rw [Array.perm_iff_toList_perm,hzs];have c:xs.toList=xs.toList.take (sa+k)++((xs.extract (sa+k) (sa+na)).toList++(xs.extract (sa+na) (sa+na+l)).toList)++xs.toList.drop (sa+k+M.toList.length):=by
   rw[rD,rD,lM];have a1:=Ax xs.toList (sa+k) (sa+na) (by lia)
   have a2:=Ax xs.toList (sa+na) (sa+na+l) (by lia)
   have a3:sa+k+(na-k+l)=sa+na+l:=by lia
   rw[a3,←ah,←a1,←a2,bb]
  conv=>rhs;rw[c]
  exact bj.append_right _ (bj.append_left _ m.pm)
 .rw [gz]
  by_cases c1:p<sa+k
  .rw [pN c1]
  .rw [pJ c1,pJ (by lia)]
 .intro p q x y a1 a2 a3 ex ey;rw[gz]at ex ey
  by_cases p1:p<sa+k
  .rw [pN p1]at ex;have px:=hp _ (aQq ex);have lx:lt key x=false:=k2 (p-sa) x (by lia) (by rw[show sa+(p-sa)=p by lia];exact ex)
   by_cases q1:q<sa+k
   .rw [pN q1]at ey;exact h1 p q _ _ a1 a2 (by lia) ex ey
   .rw [pJ q1]at ey
    by_cases q2:q<sa+na+l
    .rw [pN q2]at ey;rcases from_ _ _ ey with ⟨j,j1,j2,ej⟩|⟨j,j1,ej⟩
     .exact h1 p (sa+j) _ _ a1 (by lia) (by lia) ex ej
     .exact C.trans _ _ _ px pk (hp _ (aQq ej)) lx (h2 (sa+na) (sa+na+j) _ _ (af _) (by lia) (by lia) ek ej)
    .rw [pJ q2]at ey;exact C.trans _ _ _ px pk (hp _ (aQq ey)) lx (h2 (sa+na) q _ _ (af _) (by lia) (by lia) ek ey)
  .rw [pJ p1]at ex;rw[pJ (by lia)]at ey
   by_cases p2:p<sa+na+l
   .rw [pN p2]at ex
    by_cases q2:q<sa+na+l
    .rw [pN q2]at ey;rcases fu a2 with c|c
     .have ex':M.toList[p-(sa+k)]?=some x:=by rw[az];exact ex
      have ey':M.toList[q-(sa+k)]?=some y:=by rw[az];exact ey
      obtain⟨hx,e1⟩:=gSq.mp ex';obtain⟨hy,e2⟩:=gSq.mp ey';have:=bR.mp m.so (p-(sa+k)) (q-(sa+k)) hx hy (by lia)
      rw[e1,e2]at this;exact this
     .subst c;rw[ex]at ey;cases ey;rcases from_ _ _ ex with ⟨j,j1,j2,ej⟩|⟨j,j1,ej⟩
      .exact C.refl (hp _ (aQq ej))
      .exact C.refl (hp _ (aQq ej))
    .rw [pJ q2]at ey;have py:=hp _ (aQq ey);rcases from_ _ _ ex with ⟨j,j1,j2,ej⟩|⟨j,j1,ej⟩
     .exact C.trans _ _ _ (hp _ (aQq ej)) pl py (h1 (sa+j) (sa+na-1) _ _ (by lia) (by lia) (by lia) ej el) (l3 (q-(sa+na)) y (by lia) (by lia) (by rw[show sa+na+(q-(sa+na))=q by lia];exact ey))
     .exact h2 (sa+na+j) q _ _ (by lia) (by lia) (by lia) ej ey
   .rw [pJ p2]at ex;rw[pJ (by lia)]at ey
    exact h2 p q _ _ (by lia) a2 (by lia) ex ey
end
section
variable {prog:kf}{w:ki}{A:Around}{E:Value->Shared->Prop}{s:Shared}{κ:kG}{P:jV->Prop}{lt:jV->jV->Bool}
theorem PV{α:Type}{l:List α}{i:Nat}{a b:α}(h1:l[i]?=some a) (h2:l[i+1]?=some b):l=l.take i++a::b::l.drop (i+2):=by
 obtain⟨h3,e3⟩:=gSq.mp h1;obtain⟨h4,e4⟩:=gSq.mp h2
 conv=>lhs;rw[←bb i l]
 rw[aZ h3,aZ h4,e3,e4]
theorem LZ{α:Type}{q r:List α}{a b c:α}:((q++a::b::r).set q.length c).eraseIdx (q.length+1)=q++c::r:=by
 rw[iF _ _ (af _),dB,cG,fK (by lia),fE]
 rfl
theorem BM(C:zg prog w A s κ P lt) {i lo:Nat}{st:SortSt}{Q:Bool->SortSt->Prop}(hp:∀x,x∈kj st->P x) (hk:kindOf st=κ) (hf:failedOf st=none) (hlo:lo<=(kj st).size) (hch:sZ lt (kj st) 0 (kT st).toList lo)
  (hi:i+1<(kT st).size) (h:∀xs p g,yr (kj st) xs 0 lo->p.size+1=(kT st).size->sZ lt xs 0 p.toList lo->Q true (SortSt.mk' κ xs p g none)):wpS (jY prog w) A E s (mergeAt' i) Q st:=by
 obtain⟨κ',arr,pend,g0,fl⟩:=st;have hk:κ'=κ:=hk;have hf:fl=none:=hf;subst hk hf;have hp:∀x,x∈arr->P x:=hp;have hlo:lo<=arr.size:=hlo;have hch:sZ lt arr 0 pend.toList lo:=hch;have hi:i+1<pend.size:=hi;have e1:pend[i]?=some (pend[i]'(by lia)):=ai (by lia)
 have e2:pend[i+1]?=some (pend[i+1]'(by lia)):=ai (by lia)
 generalize pend[i]'(by lia)=a at e1
 generalize pend[i+1]'(by lia)=b at e2
 obtain⟨sa,na,pa⟩:=a;obtain⟨sb,nb,pb⟩:=b;have e1':pend.toList[i]?=some (sa,na,pa):=by rw[az];exact e1
 have e2':pend.toList[i+1]?=some (sb,nb,pb):=by rw[az];exact e2
 have ep:=PV e1' e2';have lq:(pend.toList.take i).length=i:=by rw[lTq,ax];lia
 generalize pend.toList.take i=q at ep lq;generalize pend.toList.drop (i+2)=r at ep;rw[ep]at hch;obtain⟨m0,c1,c2⟩:=uo.mp hch;obtain⟨x1,x2,x3,x4,x5,x6,x7⟩:=c2;have d1:sa=m0:=x1;have d2:0<na:=x2;have d3:zQ lt arr m0 (m0+na):=x3;have f1:sb=m0+na:=x4;have f2:0<nb:=x5;have f3:zQ lt arr (m0+na) (m0+na+nb):=x6;have f4:sZ lt arr (m0+na+nb) r lo:=x7
 clear x1 x2 x3 x4 x5 x6 x7
 subst d1 f1;have hrl:sa+na+nb+r.length<=lo:=yH f4;have hql:0+q.length<=sa:=yH c1;have hz:sa+na+nb<=arr.size:=by lia
 have np:((pend.setIfInBounds i (sa,na+nb,pa)).eraseIdxIfInBounds (i+1)).toList=q++(sa,na+nb,pa)::r:=by
  rw[Array.toList_eraseIdxIfInBounds,gU,ep,←lq];exact LZ
 have ns:((pend.setIfInBounds i (sa,na+nb,pa)).eraseIdxIfInBounds (i+1)).size+1=pend.size:=by
  rw[←ax,np,←ax,ep];simp only[lAq,lCq];lia
 have fin:∀zs g,yr arr zs sa (sa+na+nb)->zQ lt zs sa (sa+na+nb)->Q true (SortSt.mk' κ' zs ((pend.setIfInBounds i (sa,na+nb,pa)).eraseIdxIfInBounds (i+1)) g none):=λzs g b1 s1=>by
  refine h zs _ g ⟨b1.pm,λk hk=>b1.out k (by lia)⟩ ns ?_
  rw[np];refine uo.mpr ⟨sa,wy (λk _ k2=>b1.out k (.inl k2)) c1,rfl,by show 0<na+nb;lia,?_,?_⟩
  .show zQ lt zs sa (sa+(na+nb));rw[←gc];exact s1
  .show sZ lt zs (sa+(na+nb)) r lo;rw[←gc];exact wy (λk k1 _=>b1.out k (.inr k1)) f4
 rw[Ga];refine jW (lj ?_);dsimp only;rw[e1,e2];dsimp only;refine jW (Kw ?_);have ek:arr[sa+na]?=some (arr[sa+na]'(by lia)):=ai (by lia)
 have el:arr[sa+na-1]?=some (arr[sa+na-1]'(by lia)):=ai (by lia)
 have pk:=hp _ (aQq ek);have pl:=hp _ (aQq el);refine jW (pX ek ?_);refine jW (uE C d2 (by lia) hp pk rfl (JQ C (by lia) hp pk d3) λk k1 k2 k3=>?_)
 dsimp only;have kl:∀j y,j<k->arr[sa+j]?=some y->lt (arr[sa+na]'(by lia)) y=false:=λj y hj ey=>by
  have:=k2 j hj;rw[ur ey,pJ (by decide)]at this
  simpa using this
 have kh:∀j y,k<=j->j<na->arr[sa+j]?=some y->lt (arr[sa+na]'(by lia)) y=true:=λj y h1 h2 ey=>by
  have:=k3 j h1 h2;rw[ur ey,pJ (by decide)]at this
  simpa using this
 by_cases c1':na-k=0
 .rw [pN (by simp[c1'])]
  refine jZ (fin arr g0 (yr.refl _ _ _) λp q x y a1 a2 a3 ex ey=>?_)
  have px:=hp _ (aQq ex);have py:=hp _ (aQq ey)
  by_cases q1:q<sa+na
  .exact d3 p q _ _ a1 a2 q1 ex ey
  .by_cases p1:p<sa+na
   .exact C.trans _ _ _ px pk py (kl (p-sa) x (by lia) (by rw[show sa+(p-sa)=p by lia];exact ex)) (f3 (sa+na) q _ _ (af _) (by lia) a3 ek ey)
   .exact f3 p q _ _ (by lia) a2 a3 ex ey
 rw[pJ (by simpa using c1')]
 have ea:sa+k+(na-k)-1=sa+na-1:=by lia
 rw[ea];refine jW (pX el ?_);refine jW (uE C (by lia) (by lia) hp pl rfl (JQ C (by lia) hp pl f3) λl l1 l2 l3=>?_)
 dsimp only;have ll:∀j y,j<l->arr[sa+na+j]?=some y->lt y (arr[sa+na-1]'(by lia))=true:=λj y hj ey=>by
  have:=l2 j hj;rw[ur ey,pN rfl]at this;exact this
 have lh:∀j y,l<=j->j<nb->arr[sa+na+j]?=some y->lt y (arr[sa+na-1]'(by lia))=false:=λj y h1 h2 ey=>by
  have:=l3 j h1 h2;rw[ur ey,pN rfl]at this;exact this
 by_cases c2':l=0
 .rw [pN (by simp[c2'])]
  refine jZ (fin arr g0 (yr.refl _ _ _) λp q x y a1 a2 a3 ex ey=>?_)
  have px:=hp _ (aQq ex);have py:=hp _ (aQq ey)
  by_cases q1:q<sa+na
  .exact d3 p q _ _ a1 a2 q1 ex ey
  .by_cases p1:p<sa+na
   .exact C.trans _ _ _ px pl py (d3 p (sa+na-1) _ _ a1 (by lia) (by lia) ex el) (lh (q-(sa+na)) y (by lia) (by lia) (by rw[show sa+na+(q-(sa+na))=q by lia];exact ey))
   .exact f3 p q _ _ (by lia) a2 a3 ex ey
 rw[pJ (by simpa using c2')]
 have sx:xT lt (arr.extract (sa+k) (sa+na)).toList:=BJ λp q x y a1 a2 a3 ex ey=>d3 p q x y (by lia) a2 a3 ex ey
 have sy:xT lt (arr.extract (sa+na) (sa+na+l)).toList:=BJ λp q x y a1 a2 a3 ex ey=>f3 p q x y a1 a2 (by lia) ex ey
 have hx:∀x,x∈arr.extract (sa+k) (sa+na)->P x:=λx hx=>by
  obtain⟨j,_,_,e⟩:=tX (iQ.mpr hx);exact hp _ (aQq e)
 have hy:∀x,x∈arr.extract (sa+na) (sa+na+l)->P x:=λx hx=>by
  obtain⟨j,_,_,e⟩:=tX (iQ.mpr hx);exact hp _ (aQq e)
 have zx:(arr.extract (sa+k) (sa+na)).size=na-k:=by rw[fA];lia
 have zy:(arr.extract (sa+na) (sa+na+l)).size=l:=by rw[fA];lia
 have g0':(arr.extract (sa+na) (sa+na+l))[0]?=some (arr[sa+na]'(by lia)):=by
  rw[iC,pN (by lia),ir]
  exact ek
 have gl':(arr.extract (sa+k) (sa+na))[na-k-1]?=some (arr[sa+na-1]'(by lia)):=by
  rw[iC,pN (by lia),show sa+k+(na-k-1)=sa+na-1 by lia]
  exact el
 have low:∀y∈(arr.extract (sa+k) (sa+na)).toList,lt y (arr[sa+na]'(by lia))=false:=λy hy=>by
  obtain⟨j,j1,j2,ej⟩:=tX hy;exact C.asym _ _ pk (hp _ (aQq ej)) (kh (j-sa) y (by lia) (by lia) (by rw[show sa+(j-sa)=j by lia];exact ej))
 have high:∀x∈(arr.extract (sa+na) (sa+na+l)).toList,lt (arr[sa+na-1]'(by lia)) x=false:=λx hx=>by
  obtain⟨j,j1,j2,ej⟩:=tX hx;exact C.asym _ _ (hp _ (aQq ej)) pl (ll (j-(sa+na)) x (by lia) (by rw[show sa+na+(j-(sa+na))=j by lia];exact ej))
 have done:∀M g,Qy lt (arr.extract (sa+k) (sa+na)) (arr.extract (sa+na) (sa+na+l)) M ->
   Q true (SortSt.mk' κ' (M.toList.zipIdx.foldl (λa x=>a.setIfInBounds (sa+k+x.snd) x.fst) arr) ((pend.setIfInBounds i (sa,na+nb,pa)).eraseIdxIfInBounds (i+1)) g none):=λM g mg=>by
  have lM:M.toList.length=(na-k)+l:=by
   have:=mg.pm.length_eq;simp only[lAq,ax,fA]at this ⊢;lia
  have wb:=Eo (sa+k) M.toList 0 arr (by lia)
  obtain⟨b1,s1⟩:=Mx C hp hz k1 l1 d3 f3 ek el kl lh d2 f2 mg wb;exact fin _ g b1 s1
 by_cases c3:na-k<=l
 .rw [pN c3];refine jW (FL (κ:=κ') (a:=arr.extract (sa+k) (sa+na)) (b:=arr.extract (sa+na) (sa+na+l)) C hx hy rfl sx sy (by rw[zx];lia) (by rw[zy];lia) (λx ex y hy=>?_) (λj hj x hx y hy=>?_) λM g mg=>?_)
  .rw [g0']at ex;cases ex;exact low y hy
  .have hj':j=na-k-1:=by lia
   subst hj';have:y=arr[sa+na-1]'(by lia):=by
    obtain⟨t,t1,t2⟩:=yE hy;rw[zx]at t1;have t0:t=0:=by lia
    subst t0;rw[ir,gl']at t2;exact(aD.inj t2).symm
   rw[this];exact high x hx
  .refine jW (kU ?_);refine jW (lj ?_);exact jZ (done M g mg)
 .rw [pJ c3];refine jW (Gh (κ:=κ') (a:=arr.extract (sa+k) (sa+na)) (b:=arr.extract (sa+na) (sa+na+l)) C hx hy rfl sx sy (by rw[zx];lia) (by rw[zy];lia) (λx hx y hy=>?_) (λx ex y hy=>?_) λM g mg=>?_)
  .have:x=arr[sa+na]'(by lia):=by
    obtain⟨t,t1,t2⟩:=yC hx;have t0:t=0:=by lia
    subst t0;rw[bZ,g0']at t2;exact(aD.inj t2).symm
   rw[this];exact low y hy
  .rw [zx,gl']at ex;cases ex;exact high y hy
  .refine jW (kU ?_);refine jW (lj ?_);exact jZ (done M g mg)
end
section
variable {prog:kf}{w:ki}{A:Around}{E:Value->Shared->Prop}{s:Shared}{κ:kG}{P:jV->Prop}{lt:jV->jV->Bool}
abbrev ya(κ:kG) (xs:Array jV) (p:Array (Nat×Nat×Nat)) (g:Nat):SortSt:=SortSt.mk' κ xs p g none
theorem DE{xs:Array jV}{p:Array (Nat×Nat×Nat)}{lo n:Nat}(h:sZ lt xs 0 p.toList lo) (hn:0<n) (hs:zQ lt xs lo (lo+n)):sZ lt xs 0 (p.push (lo,n,0)).toList (lo+n):=by
 rw[dv];exact uo.mpr ⟨lo,h,rfl,hn,hs,rfl⟩
theorem DX(p:Array (Nat×Nat×Nat)) (i pw:Nat):(p.modify i λx=>(x.fst,x.2.fst,pw)).toList.map (λp=>(p.1,p.2.1))=p.toList.map (λp=>(p.1,p.2.1)):=by
 apply dw;intro k;rw[gMq,gMq,az,az,Array.getElem?_modify];split
 .cases p[k]? <;> rfl
 .rfl
theorem Fb(C:zg prog w A s κ P lt) {arr:Array jV}{g:Nat}{Q:Unit->SortSt->Prop}(hp:∀x,x∈arr->P x) (h2:2<=arr.size)
    (h:∀xs p g',xs.Perm arr->zQ lt xs 0 arr.size->Q () (ya κ xs p g')):wpS (jY prog w) A E s sortRuns' Q (ya κ arr #[] g):=by
  rw[sortRuns'_eq];refine jW (lj ?_);dsimp only;have e0:kj (ya κ arr #[] g)=arr:=rfl;rw[e0];generalize minRun' arr.size arr.size 0=mr;refine jW (kF (kB
    (I:=λi c st'=>∃lo xs p g',c=(none,lo)/\st'=ya κ xs p g'/\xs.Perm arr/\lo<=arr.size/\sZ lt xs 0 p.toList lo/\i<=lo)
    (Q:=λc st'=>∃xs p g',c=(none,arr.size)/\st'=ya κ xs p g'/\xs.Perm arr/\sZ lt xs 0 p.toList arr.size)
    ?step ?fin ⟨0,arr,#[],g,rfl,rfl,jC.refl _,bp _,rfl,af _⟩) ?post)
  case fin =>
    rintro c st' ⟨lo,xs,p,g',rfl,rfl,q1,q2,q3,q4⟩;have e:lo=arr.size:=by lia
    subst e;exact⟨xs,p,g',rfl,rfl,q1,q3⟩
  case step =>
    rintro i c st' _ hi ⟨lo,xs,p,g',rfl,rfl,q1,q2,q3,q4⟩;dsimp only;have hpx:∀x,x∈xs->P x:=λx hx=>hp x (q1.mem_iff.mp hx)
    have hzx:xs.size=arr.size:=q1.size_eq
    by_cases c1:lo ≥ arr.size
    . rw[pN c1]
      have e:lo=arr.size:=by lia
      subst e;exact jZ ⟨xs,p,g',rfl,rfl,q1,q3⟩
    rw[pJ c1];refine jW (E4 (st:=ya κ xs p g') C hpx rfl (by lia) (by show lo+(arr.size-lo)<=xs.size;lia) λn ys n1 n2 b1 s1=>?_)
    dsimp only;have hb:yr xs ys lo (lo+n):=b1;show wpS _ _ _ _ _ _ (ya κ ys p g')
    by_cases c2:n<mr
    all_goals
      first
        | (rw[pN c2]
           refine jW (xt ?_);refine jW (IV (st:=ya κ ys p g') (n:=min (arr.size-lo) mr) C (hb.mem hpx) rfl n1 (by lia) (by show lo+min (arr.size-lo) mr<=ys.size;have:=hb.size;lia) s1 λzs b2 s2=>?_)
           rw[pJ (by decide)]
           have hb2:yr xs zs lo (lo+min (arr.size-lo) mr):=(hb.mono (by lia)).trans b2
           have nn:1<=min (arr.size-lo) mr:=by lia
           have nl:lo+min (arr.size-lo) mr<=arr.size:=by lia
           show wpS _ _ _ _ _ _ (ya κ zs p g')
           clear b1 s1 hb b2
           generalize min (arr.size-lo) mr=nN at hb2 nn nl s2 ⊢)
        | (rw[pJ c2]
           have hb2:=hb;have s2:=s1;have nn:=n1;have nl:lo+n<=arr.size:=by lia
           clear b1 s1 hb
           generalize hnN:n=nN at hb2 nn nl s2 ⊢;generalize hzs:ys=zs at hb2 s2 ⊢)
      have hpz:=hb2.mem hpx;have hzz:=hb2.size;have hcz:sZ lt zs 0 p.toList lo:=wy (λk _ k2=>hb2.out k (.inl k2)) q3
      have pz:zs.Perm arr:=hb2.pm.trans q1;refine jW (lj ?_);have ep:kT (ya κ zs p g')=p:=rfl;rw[ep];cases eb:p.back? with
      |none =>
        dsimp only;refine jW (kU (jZ ?_));exact⟨lo+nN,zs,p.push (lo,nN,0),g',rfl,rfl,pz,nl,DE hcz nn s2,by lia⟩
      |some t =>
        obtain⟨s1',n1',pw0⟩:=t;dsimp only;refine jW (kF (kB
          (I:=λi c st'=>∃ys q g2,c=(none,())/\st'=ya κ ys q g2/\yr zs ys 0 lo/\sZ lt ys 0 q.toList lo)
          (Q:=λc st'=>∃ys q g2,c=(none,())/\st'=ya κ ys q g2/\yr zs ys 0 lo/\sZ lt ys 0 q.toList lo)
          ?step1 (λc st' hh=>hh) ⟨zs,p,g',rfl,rfl,yr.refl _ _ _,hcz⟩) ?post1)
        case step1 =>
          rintro j c st' _ hj ⟨ys2,q,g2,rfl,rfl,b3,ch3⟩;refine jW (lj ?_);have eq:kT (ya κ ys2 q g2)=q:=rfl;rw[eq]
          by_cases d1:q.size>1
          . rw[pN d1]
            have eo:q[q.size-2]?=some (q[q.size-2]'(by lia)):=ai (by lia)
            rw[eo];generalize q[q.size-2]'(by lia)=o
            obtain⟨o1,o2,older⟩:=o;dsimp only;split
            . exact jZ ⟨ys2,q,g2,rfl,rfl,b3,ch3⟩
            . refine jW (BM (st:=ya κ ys2 q g2) C (b3.mem hpz) rfl rfl (by show lo<=ys2.size;have:=b3.size;lia) ch3 (by show q.size-2+1<q.size;lia) λxs3 p3 g3 b4 _ ch4=>?_)
              rw[pJ (by decide)]
              exact jZ ⟨xs3,p3,g3,rfl,rfl,b3.trans b4,ch4⟩
          . rw[pJ d1]
            exact jZ ⟨ys2,q,g2,rfl,rfl,b3,ch3⟩
        case post1 =>
          rintro c st' ⟨ys2,q,g2,rfl,rfl,b3,ch3⟩;dsimp only;refine jW (kU (jW (kU (jZ ?_))));have s3:zQ lt ys2 lo (lo+nN):=λa b x y a1 a2 a3 ex ey=>s2 a b x y a1 a2 a3 (by rw[←b3.out a (.inr a1)];exact ex) (by rw[←b3.out b (.inr (by lia))];exact ey)
          exact⟨lo+nN,ys2,_,g2,rfl,rfl,b3.pm.trans pz,nl,DE (AC (DX q _ _) ch3) nn s3,by lia⟩
  case post =>
    rintro c st' ⟨xs,p,g',rfl,rfl,q1,q3⟩;dsimp only;refine jW (kF (kB
      (I:=λi c st'=>∃ys q g2,c=(none,())/\st'=ya κ ys q g2/\ys.Perm arr/\sZ lt ys 0 q.toList arr.size/\q.size+i<=arr.size)
      (Q:=λc st'=>∃ys q g2,c=(none,())/\st'=ya κ ys q g2/\ys.Perm arr/\sZ lt ys 0 q.toList arr.size/\q.size<=1)
      ?step2 ?fin2 ⟨xs,p,g',rfl,rfl,q1,q3,by have:=yH q3;rw[ax]at this;lia⟩) ?post2)
    case fin2 =>
      rintro c st' ⟨ys,q,g2,rfl,rfl,r1,r2,r3⟩;exact⟨ys,q,g2,rfl,rfl,r1,r2,by lia⟩
    case step2 =>
      rintro j c st' _ hj ⟨ys,q,g2,rfl,rfl,r1,r2,r3⟩;refine jW (lj ?_);have eq:kT (ya κ ys q g2)=q:=rfl;rw[eq]
      by_cases d1:q.size<=1
      . rw[pN d1]
        exact jZ ⟨ys,q,g2,rfl,rfl,r1,r2,d1⟩
      rw[pJ d1];have hi':∀(b:Prop) [Decidable b],(if b then q.size-2-1 else q.size-2)+1<q.size:=λb _=>by split <;> lia
      refine jW (BM (st:=ya κ ys q g2) C (λx hx=>hp x (r1.mem_iff.mp hx)) rfl rfl (by show arr.size<=ys.size;have:=r1.size_eq;lia) r2 (hi' _) λxs3 p3 g3 b4 ns ch4=>?_)
      rw[pJ (by decide)]
      have ns':p3.size+1=q.size:=ns;exact jZ ⟨xs3,p3,g3,rfl,rfl,b4.pm.trans r1,ch4,by lia⟩
    case post2 =>
      rintro c st' ⟨ys,q,g2,rfl,rfl,r1,r2,r3⟩;refine jZ (h ys q g2 r1 ?_);rw[←ax]at r3;cases eq:q.toList with
      |nil =>
        rw[eq]at r2;have r2':0=arr.size:=r2;lia
      |cons a r =>
        rw[eq]at r2 r3;have er:r=[]:=by
          rw[lCq]at r3;exact bq.mp (by lia)
        subst er;obtain⟨_,_,s3,e3⟩:=r2;have e3':0+a.2.1=arr.size:=e3;rw[e3']at s3;exact s3
end
end MrS
namespace Xe
open PySem
abbrev XD:List Value:=[.type "ValueError", .type "Exception", .type "BaseException", .type "object"]
abbrev Lk{α:Type}(M:Model) (h:Heap) (x:Sem α) (r:α):Prop :=
 ∀(A:Around) (Q:α->Shared->Prop) (E:Value->Shared->Prop) (s:Shared),(∀b o,h.get? b=some o->s.heap.get? b=some o)->Q r s->kc M A x Q E s
end Xe
namespace Xe
open PySem
open Builtin Builtin.ObjectAttr
section
variable {prog:kf}{w:ki}{A:Around}{E:Value->Shared->Prop}{s:Shared}{env:Env}{e:Addr}{c0:Value}{t:Expr}{n:Str}{b₀:Stmt}{suite:List Stmt}{pos:Pos}{rest:List ExceptHandler}{Q:Flow->Shared->Prop}
abbrev Mt(M:Model) (e:Addr) (c0:Value) (b:Bool) (s:Shared):Prop:=∀(A:Around) (Q:Bool->Shared->Prop) (E:Value->Shared->Prop),Q b s->kc M A (excMatches (.ref e) c0) Q E s
end
end Xe
namespace Mr
abbrev St:=L2.St
open PySem PySem.Spec PyProof.Rows L2
section
variable {X:Cx}{ou:List (Addr×Obj)}{σ:List (Option V)}{H H':Hp}{s:Shared}{h':Heap}
theorem Qb{t':Nat}{fp:List Addr}{T:Addr}{o:HO}(I:Inv X ou σ H s) (k:∀b u,b∉fp->s.heap.get? b=some u->h'.get? b=some u)
  (hf:∀b∈fp,Ds X ou H b) (hT:s.heap.objs.size<=T) (new:qW X.prog X.w (qP H T o) h' T o):Inv X ou σ (qP H T o) { s with heap:=h',toks:=t' }:=by
 have hn:H T=none:=I.hok.fresh hT;have nf:∀b u,H b=some u->b∉fp:=λb u e z=>by rw[(hf b z).1]at e;cases e
 refine I.step (g':=s.gens) (d':=s.drawn) (ch:=fp) (λb hb=>?_) (λb u _ _ hc e _=>k b u hc e) (λb u _ _ hc e _=>⟨u.slots,k b u hc e⟩)
  (λb u _ e n=>by rw[oV (aE (aT (ao e) hT))];exact n) (λb u hc e=>⟨u,k b u hc e⟩)
  (λb xs e=>by rw[oV (qY e hn)];exact e) (λb u xs e=>by rw[oV (qY e hn)];exact e) (λb ps e=>⟨#[],by rw[oV (qY e hn),e];simp⟩) (λm hm=>?_) (λb u e=>?_) I.bare
 .obtain ⟨_,f1,_,f3,f4,f5⟩:=hf b hb;exact⟨f3,f1,f4,f5⟩
 .obtain ⟨u,es,ep,ho,r⟩:=hm;exact⟨u,es,ep,k _ u (λz=>(hf _ z).2.1 rfl) ho,r⟩
 .by_cases hb:b=T
  .subst hb;rw[pD]at e;cases e;exact new
  .rw [oV hb]at e;refine(I.hok b u e).stay (λc v hc q=>k c v ?_ q) (λc q=>by rw[oV (qY q hn)];exact q) λc xs q=>by rw[oV (qY q hn)];exact q
   rcases hc with rfl|hc
   .exact nf _ u e
   .exact nf c _ hc
theorem Rl{t':Nat}{fp:List Addr}(I:Inv X ou σ H s) (k:∀b u,b∉fp->s.heap.get? b=some u->h'.get? b=some u)
  (hf:∀b∈fp,Ds X ou H b):Inv X ou σ H { s with heap:=h',toks:=t' }:=by
 have nf:∀b u,H b=some u->b∉fp:=λb u e z=>by rw[(hf b z).1]at e;cases e
 refine I.step (g':=s.gens) (d':=s.drawn) (ch:=fp) (λb hb=>?_) (λb u _ _ hc e _=>k b u hc e) (λb u _ _ hc e _=>⟨u.slots,k b u hc e⟩)
  (λ_ _ _ _ n=>n) (λb u hc e=>⟨u,k b u hc e⟩) (λ_ _ e=>e) (λ_ _ _ e=>e) (λb ps e=>⟨#[],by rw[e];simp⟩) (λm hm=>?_) (λb u e=>?_) I.bare
 .obtain ⟨_,f1,_,f3,f4,f5⟩:=hf b hb;exact⟨f3,f1,f4,f5⟩
 .obtain ⟨u,es,ep,ho,r⟩:=hm;exact⟨u,es,ep,k _ u (λz=>(hf _ z).2.1 rfl) ho,r⟩
 .refine (I.hok b u e).stay (λc v hc q=>k c v ?_ q) (λ_ q=>q) λ_ _ q=>q
  rcases hc with rfl|hc
  .exact nf _ u e
  .exact nf c _ hc
end
def Wx(K:W.Frag) (a:Addr):It :=
  ⟨λi H=>∃xs x,sS K H a xs/\xs[i]?=some x,
   λi H v H'=>∃T x,H T=none/\v = .ref T/\H'=qP H T (.tup [.int i,x])/\∀xs,sS K H a xs->xs[i]?=some x,
   λi H=>∃xs,sS K H a xs/\xs.length<=i⟩
theorem LB{P:kf}{w:ki}{K:W.Frag}{elts:List Expr}{k:Nat}{pos:Pos}(a e it:Addr) (hne:e≠it) :
  HZ P w K (.Tuple elts k pos) (Wx K a) [e,it] e (λi h=>(∃old,IsEnum h e it i old)/\h.IsListIter it a i) where
 mem:=by simp
 obj:=λi h st b hb=>by
  obtain⟨⟨old,he⟩,o,ho,_,d⟩:=st;rcases ae.mp hb with rfl|hb
  .exact ⟨_,he,λv z=>by
    have z':Data.fields _=Data.cell v:=z;cases z'⟩
  .have e:b=it:=by simpa using hb
   subst e;exact⟨o,ho,λv z=>by rw[d]at z;cases z⟩
 keep:=λi h h' st kp=>by
  obtain⟨⟨old,he⟩,hit⟩:=st;exact⟨⟨old,kp e (by simp) _ he⟩,hit.at λo q=>kp it (by simp) o q⟩
 item:=by
  intro X hP hw hK hc i ou s σ H E I hf st hg;subst hP hw hK;obtain⟨xs,x,hq,hx⟩:=hg;obtain⟨its,rv,p,hz⟩:=I.list hq;obtain⟨u,hu,ru⟩:=rv.get hx;obtain⟨⟨old,he⟩,hit⟩:=st;have hil:it<s.heap.objs.size:=by obtain⟨_,q,_⟩:=hit;exact ao q
  have hel:e<s.heap.objs.size:=ao he;refine wpAny_pyNext_enum_item he hit p.isList (x:=u) (by simpa using hu) hne λh1 he1 hit1 ht1 hz1 hk1=>⟨_,rfl,?_⟩
  refine wpAny_letOwnedTupleGo_enum he1 λh2 he2 hs2=>?_
  replace hs2:cC e h1 h2:=hs2;have hn:H s.heap.objs.size=none:=I.hok.fresh (af _);refine⟨.ref s.heap.objs.size,qP H s.heap.objs.size (.tup [.int i,x]),?_,rfl,⟨_,x,hn,rfl,rfl,λys hy=>by rw[I.list_inj hy hq];exact hx⟩,⟨⟨_,by simpa using he2⟩,hit1.extBut hs2.extBut (Ne.symm hne)⟩,λb hb=>?_⟩
  .show L2.Inv X ou σ _ { s with heap:=h2,toks:=s.toks+1 }
   refine Qb (s:=s) (fp:=[e,it]) I (λb o hb q=>?_) hf (af _) ⟨by simp only[lCq,dX];rw[kO];decide,[.int i s.toks,u],.cons ⟨_,rfl⟩ (.cons ru .nil),_,hs2.extBut _ _ (cD hel) ht1,rfl,_,rfl⟩
   have b1:b≠e:=λz=>hb (by simp[z])
   exact hs2.extBut b o b1 (hk1 b o b1 (λz=>hb (by simp[z])) q)
  .have hb2:b<s.heap.objs.size:=by
    rcases ae.mp hb with rfl|hb
    .exact hel
    .have e:b=it:=by simpa using hb
     subst e;exact hil
   rw[oV (aE hb2)];exact(hf b hb).1
 done:=by
  intro X hP hw hK hc i ou s σ H E I hf st hg;subst hP hw hK;obtain⟨xs,hq,hx⟩:=hg;obtain⟨its,rv,p,hz⟩:=I.list hq;obtain⟨⟨old,he⟩,hit⟩:=st;have hl:=rv.length;exact wpAny_pyNext_enum_end (I.ok.hd hc) he hit p.isList (by simp;lia) λh1 eb=>⟨rfl,Rl (t':=s.toks) (fp:=[e,it]) I (λb o hb q=>eb b o (λz=>hb (by simp[z])) q) hf⟩
 self:=λ_ _ _ _ _ st h=>by
  obtain⟨⟨old,he⟩,_⟩:=st;exact wpAny_pyIter_enum he h
structure Z5 (z TI TO i1 i2:Addr):Prop where
 a:TI≠z
 b:TO≠z
 c:i1≠z
 d:i2≠z
 e:TI≠TO
 f:TI≠i1
 g:TI≠i2
 h:TO≠i1
 i:TO≠i2
 j:i1≠i2
theorem Xt(n:Nat):Z5 (n+4) (n+2) (n+3) n (n+1) where
 a:=λ(q:n+2=n+4)=>by lia
 b:=λ(q:n+3=n+4)=>by lia
 c:=λ(q:n=n+4)=>by lia
 d:=λ(q:n+1=n+4)=>by lia
 e:=λ(q:n+2=n+3)=>by lia
 f:=λ(q:n+2=n)=>by lia
 g:=λ(q:n+2=n+1)=>by lia
 h:=λ(q:n+3=n)=>by lia
 i:=λ(q:n+3=n+1)=>by lia
 j:=λ(q:n=n+1)=>by lia
section
variable {X:Cx}{elts:List Expr}{kk:Nat}{tpos:Pos}
def Tp(K:W.Frag) (ta:TA):TI:=λσ H R=>ta σ H λvs H1=>∃a,vs=[.ref a]/\(∃xs,sS K H1 a xs)/\R (Wx K a) H1
theorem Sw{e:Expr}{ta:TA}{p pos:Pos}(hg:Gl X "enumerate") (hm:X.mg "enumerate" = none) (ha:PA X [e] ta) (hs:ko [e] X.env=[(false,eval e X.env)]:=by rfl) :
  PI X (.Tuple elts kk tpos) (.Call (.Name "enumerate" p) [e] [] pos) (Tp X.K ta):=by
 intro ou s σ H R I h;refine Call_ (yj I hg hm boot_enumerate (bX (thn (ha pos ou s σ H _ I h) λus s1 hz1=>?_) hs rfl))
 obtain⟨vs,H1,I1,r1,q1⟩:=hz1;obtain⟨a,e1,⟨xs,hq⟩,q⟩:=q1;subst e1;obtain⟨u,rfl,ru⟩:=yO r1;cases ru;obtain⟨its,rv,p1,hz⟩:=I1.list hq;refine call_enumerate_list p1.isList λg he hit hsz hk=>wpAny_pyIter_enum he ?_
 refine⟨s1.heap.objs.size+1,[s1.heap.objs.size+1,s1.heap.objs.size],_,_,H1,rfl,I1.kept (t':=s1.toks) hk,LB a _ _ (Nat.succ_ne_self _),⟨⟨_,he⟩,hit⟩,λb hb=>?_,q⟩
 have hb2:s1.heap.objs.size<=b:=by
  simp only[ae,gf,or_false]at hb;rcases hb with rfl|rfl
  .exact cO _
  .exact af _
 exact I1.fpOk hb2 (I1.hok.fresh hb2)
end
theorem MV{K:W.Frag}{a:Addr}{xs:List V}{i1 i2:Nat}{tb:TS}{D:zj}{σ:St}{H:Hp}(Pv:Nat->St->Hp->Prop) (h0:Pv 0 σ H) (hl:∀i σ H,i<=xs.length->Pv i σ H->sS K H a xs)
  (hs:∀i x σ H T,xs[i]?=some x->Pv i σ H->H T=none->tb { D with nx:=Pv (i+1),ct:=Pv (i+1),bk:=D.nx } ((σ.set i1 (some (.int i))).set i2 (some x)) (qP H T (.tup [.int i,x]))) (hd:∀σ H,Pv xs.length σ H->D.nx σ H) :
  ∃W:Nat->Nat->St->Hp->Prop,(∃m,W 0 m σ H)/\∀i m σ H,W i m σ H ->
   ((Wx K a).stop i H/\D.nx σ H)∨((Wx K a).go i H/\∃N:St->Hp->Prop,(∀σ' H',N σ' H'->∃m',m'<m/\W (i+1) m' σ' H')/\∀x H',(Wx K a).yld i H x H'->Q8 K 2 (De (tW i1) (De (tW i2) RQ)) x σ H' λσ2 H2=>tb { D with nx:=N,ct:=N,bk:=D.nx } σ2 H2):=by
 refine⟨λi m σ H=>m=xs.length-i/\i<=xs.length/\Pv i σ H,⟨xs.length,by simp,bp _,h0⟩,?_⟩
 rintro i m σ H ⟨rfl,hi,p⟩;have q:=hl i σ H hi p
 by_cases hlt:i<xs.length
 .refine .inr ⟨⟨xs,xs[i],q,by simp[hlt]⟩,Pv (i+1),λσ' H' p'=>⟨xs.length-(i+1),by lia,rfl,hlt,p'⟩,λv H' y=>?_⟩
  obtain⟨T,x,hT,rfl,rfl,hx⟩:=y;exact⟨T,_,rfl,Jo.of pD,rfl,_,_,rfl,_,_,rfl,rfl,hs i x σ H T (hx xs q) p hT⟩
 .have e:i=xs.length:=by lia
  subst e;exact .inl ⟨⟨xs,q,af _⟩,hd σ H p⟩
section
variable {X:Cx}
theorem Dt{ou:List (Addr×Obj)}{σ:St}{H:Hp}{s:Shared}{a:Addr}{ns:List Int}(I:Inv X ou σ H s) (h:sS X.K H a (ns.map V.int)) :
  ∃vs:List Value,s.heap.IsList a vs.toArray/\kz vs ns/\ns.length<=ke:=by
 obtain⟨its,r,p,z⟩:=I.list h;rw[lMq]at z;exact⟨its,p.isList,zW r,z⟩
theorem LU(hc:X.calm=true):yw X (.builtin "min") (λxs H Q=>∃(a:Addr) (ns:List Int),xs=[.ref a]/\sS X.K H a (ns.map V.int)/\0<ns.length/\∀M,M∈ns->(∀x,x∈ns->M<=x)->Q (.int M) H):=by
 intro ou s σ H xs us Q I r h;obtain⟨a,ns,rfl,hS,hne,q⟩:=h;obtain⟨u,rfl,ru⟩:=yO r;cases ru;obtain⟨vs,hl,hi,_⟩:=Dt I hS;obtain⟨xs,e⟩:=hi.allInts.items;have hns:ns=xs.toList.map (·.1):=by
  rw[←hi.numsOf,←nums_intItems,←e]
 have hsz:0<xs.size:=by
  have h3:=hne;rw[hns,lMq,ax]at h3;exact h3
 rw[e]at hl;refine min_intList (I.ok.hd hc) hl hsz λv h' tk hv hk=>?_
 obtain⟨t,rfl⟩:=intItems_at hv;obtain⟨h1,h2⟩:=argBest_lt (numAt xs) (xs.size-1);refine⟨.int _,H,I.kept hk,⟨t,rfl⟩,q _ ?_ λx hx=>?_⟩
 .rw [hns,numAt_eq];exact PySem.getD_mem (by rw[lMq,ax];lia)
 .rw [hns]at hx;obtain⟨j,hj,rfl⟩:=PySem.mem_getD hx;rw[lMq,ax]at hj;rw[←numAt_eq];exact h2 j (by lia)
def Np(K:W.Frag):V->List V->Hp->VK->Prop:=λx vs H Q=>∃(a:Addr) (ns:List Int) (k:Int),x = .ref a/\vs=[.int k]/\sS K H a (ns.map V.int)/\k∈ns/\Q (.int (ns.idxOf k:Nat)) H
theorem O6:XC X "list.index" (Np X.K):=by
 intro ou s σ H x xs v us Q I rx r h;obtain⟨a,ns,k,rfl,rfl,hS,hk,q⟩:=h;cases rx;obtain⟨u,rfl,t,rfl⟩:=yO r;obtain⟨its,rv,⟨o,n,ho,hc,hd0,hd⟩,hz⟩:=I.list hS;have hi:=zW rv;obtain⟨cls,dd,data,sl⟩:=o;simp only at hc hd0 hd;subst hc hd0 hd;have hlen:=hi.length;have hj:ns.idxOf k<ns.length:=hZ.mpr hk;have hs:ke=16777216:=kO;rw[lMq]at hz;refine lC iu ⟨_,ho,rfl⟩ PySem.F.entry_list_index (PySem.F.args_list_index_2 _ _)
  (SeqAt.list_indexAt a its.toArray n none sl (.int k t) (isInt k) (ns.idxOf k) (by simpa [hlen] using hj) (by lia) ?_ ?_) ⟨ho,λy hy=>(eq_isInt k t hi y (by simpa using hy)).at _ _,?_⟩
 .show isInt k its[ns.idxOf k]=true;rw[isInt_at k hi _ (by lia) hj]
  simpa using jc hj
 .intro j hjs hlt;show isInt k its[j]=false;rw[isInt_at k hi j (by simpa using hjs) (by lia)]
  exact ne_of_lt_idxOf hlt _
 .exact ⟨.int _,H,I.tok _,⟨_,rfl⟩,q⟩
def Wv(K:W.Frag) (x:V) (H:Hp) (T:String) (b:Bool):Prop :=
 match x with
 | .int _=>(T = "int" /\ b=true)∨(T = "bool" /\ b=false)
 | .bl _=>(T = "bool" /\ b=true)∨(T = "int" /\ b=true)
 | .str _=>T = "str" /\ b=true
 | .ref p=>(T = "list" /\ b=true/\∃xs,sS K H p xs)∨(T = "dict" /\ b=true/\∃kvs,H p=some (.dK kvs))∨(T = "tuple" /\ b=true/\∃xs,Jo K H p xs)
 |_=>False
theorem CC:yw X (.builtin "isinstance") (λxs H Q=>∃x T b,xs=[x,.ty T]/\Wv X.K x H T b/\Q (.bl b) H):=by
 intro ou s σ H xs us Q I r h;obtain⟨x,T,b,rfl,e,q⟩:=h;obtain⟨u,v,rfl,rx,rT⟩:=SV r;cases rT;cases x with
 |int i =>
  obtain⟨t,rfl⟩:=rx;rcases e with ⟨rfl,rfl⟩|⟨rfl,rfl⟩
  .exact kE (kN (Tx := "int") F.isi_meta_int F.sub_int_int) ⟨(show s.TypeIs (.int i t) "int" from rfl),⟨.bl true,H,I,rfl,q⟩⟩
  .exact kE (isinstance_false_int (by decide +kernel) F.isi_meta_bool F.sub_int_bool) (show EP X ou σ Q (.bool false) { s with toks:=s.toks+1 } from ⟨.bl false,H,I.tok _,rfl,q⟩)
 |bl i =>
  cases rx;rcases e with ⟨rfl,rfl⟩|⟨rfl,rfl⟩
  .exact kE (kN (Tx := "bool") F.isi_meta_bool F.sub_bool_bool) ⟨(show s.TypeIs (.bool i) "bool" from rfl),⟨.bl true,H,I,rfl,q⟩⟩
  .exact kE (kN (Tx := "bool") F.isi_meta_int F.sub_bool_int) ⟨(show s.TypeIs (.bool i) "bool" from rfl),⟨.bl true,H,I,rfl,q⟩⟩
 |str i =>
  obtain⟨t,rfl⟩:=rx;obtain⟨rfl,rfl⟩:=e;exact kE (kN (Tx := "str") F.isi_meta_str F.sub_str_str) ⟨(show s.TypeIs (.str i t) "str" from rfl),⟨.bl true,H,I,rfl,q⟩⟩
 |ref p =>
  cases rx;rcases e with ⟨rfl,rfl,xs,hS⟩|⟨rfl,rfl,kvs,hp⟩|⟨rfl,rfl,xs,hS⟩
  .obtain ⟨its,rv,pl,hz⟩:=I.list hS;exact kE (kN (Tx := "list") F.isi_meta_list (by rw[mX];kernel_rfl)) ⟨pl.isList.typeIs,⟨.bl true,H,I,rfl,q⟩⟩
  .have ty:s.TypeIs (.ref p) "dict" := (NS I (.inl ⟨kvs,.inl hp⟩)).1;exact kE (kN (Tx := "dict") F.isi_meta_dict (by rw[mX];kernel_rfl)) ⟨ty,⟨.bl true,H,I,rfl,q⟩⟩
  .obtain ⟨its,rv,⟨o,ho,hc,_⟩,hz⟩:=I.tuple hS;exact kE (kN (Tx := "tuple") F.isi_meta_tuple (by rw[mX];kernel_rfl)) ⟨⟨o,ho,hc⟩,⟨.bl true,H,I,rfl,q⟩⟩
 |_=>exact(show False from e).elim
end
end Mr
namespace Mr
open PySem L2
structure Cd (K:W.Frag) (mg:Str->Option Value) (x:Str) (st:Stmt) (ps:List Str) (f:Addr) (fd:kA):Prop where
 F:S5 K x x st f fd
 m:mg x=some (.ref f)
 b:zp K fd ps []
theorem yW{H:Hp}{p:Addr}{o:HO}(h:H p=none):qh H (qP H p o):=λb u e=>by
 rw[oV (qY e h)];exact e
end Mr
namespace Mr
open PySem PySem.Spec PyProof.Rows L2
theorem G7{prog:kf}{w:ki}{A:Around}{R:Result->Shared->Prop}{s:Shared}{elt target wk:Expr}{ifs:List Expr}{scope:lH}{pos:Pos}{it acc:Value}{env:Env}(I:Nat->Shared->Prop)
  (turn:∀n s,I n s->kc (jY prog w) A (lO it) (λr s₁=>match r with
   |none=>R (.ok .next) s₁
   |some v=>kc (jY prog w) A (lZ target it v) (λ_ s₂=>kc (jY prog w) A (assign target env v) (λ_ s₃ =>
     kc (jY prog w) A (forIn ifs true λc r=>if r=true then do let ok ←isTrue c env (eval c env);pure (ForInStep.yield ok) else pure (ForInStep.yield r)) (λok s₄ =>
      if ok=true then kc (jY prog w) A (eval elt env) (λx s₅ =>
       kc (jY prog w) A (call (.builtin "list.append") [acc,x]) (λ_ s₆=>∃m,m<n/\I m s₆) (λ_ _=>False) s₅) (λ_ _=>False) s₄
      else ∃m,m<n/\I m s₄) (λ_ _=>False) s₃) (λ_ _=>False) s₂) (λ_ _=>False) s₁) (λ_ _=>False) s)
  (n:Nat) (h:I n s):lD (jY prog w) A (.compLoop (.ListComp elt [⟨target,wk,ifs,0⟩] scope pos) 0 it acc env) R s:=by
 refine codeAny_loop rfl I (λn s hI=>?_) n h
 show kc _ A ((compTurn (.ListComp elt [⟨target,wk,ifs,0⟩] scope pos) 0 it acc env).onRaise (λx=>do noteFrame x env;theTreesLotGoes x)) _ _ s
 refine wpAny_noted ?_;rw[compTurn_list];refine jU (wpAny_standAt (jU (kx (turn n s hI) (λr s₁ h₁=>?_) λ_ _ z=>z.elim)))
 cases r with
 |none=>exact jX h₁
 |some v =>
  refine jU (kx h₁ (λ_ s₂ h₂=>?_) λ_ _ z=>z.elim)
  refine jU (kx h₂ (λ_ s₃ h₃=>?_) λ_ _ z=>z.elim)
  refine jU (kx h₃ (λok s₄ h₄=>?_) λ_ _ z=>z.elim)
  cases ok with
  |false=>exact jX ⟨rfl,h₄⟩
  |true=>exact jU (jU (kx h₄ (λx s₅ h₅=>jU (kx h₅ (λ_ s₆ h₆=>jX (jX ⟨rfl,h₆⟩)) λ_ _ z=>z.elim)) λ_ _ z=>z.elim))
abbrev tJ(X:Cx) (scope:lH) (cl:List (Str×Addr)) (N:List Str) (C:Addr) (s:Shared) (H:Hp) (fp:List Addr):Cx where
 prog:=X.prog
 w:=X.w
 K:=X.K
 mg:=X.mg
 base:=X.base
 A:=X.A
 N:=N
 s₀:=s
 H₀:=H
 env:=compEnvC scope cl C X.env
 outer:=X.stack
 stack:=X.stack
 ex:=fp
 fn:=λ_=>false
 calm:=X.calm
 pn:=[]
 xe:=λ_ _=>False
def PF(X:Cx) (ifs:List Expr) (t:TT):Prop :=
 ∀(ou:List (Addr×Obj)) (s:Shared) (σ:St) (H:Hp) (Q:Bool->Hp->Prop),Inv X ou σ H s->t σ H Q ->
  kc (jY X.prog X.w) X.A (forIn ifs true λc r=>if r=true then do let ok ←isTrue c X.env (eval c X.env);pure (ForInStep.yield ok) else pure (ForInStep.yield r)) (TP X ou σ Q) X.xe s
def Wy:TT:=λ_ H Q=>Q true H
theorem vh{X:Cx}:PF X [] Wy:=λ_ _ _ H _ I h=>wpAny_tests_nil ⟨H,I,h⟩
theorem Mw{X:Cx}{c:Expr}{t:TT}(h:PT X c t):PF X [c] t:=λou s σ H Q I q=>wpAny_tests_one (h ou s σ H Q I q)
structure tL (X:Cx) (scope:lH) (cl:List (Str×Addr)) (x:Str) (N:List Str) (fr:List Nat):Prop where
 names:N.Nodup
 own:N[0]?=some x
 len:N.length=fr.length+1
 sub:∀y c,cl.lookup y=some c->X.env.cells.lookup y=some c
 has:∀y,((mv scope X.env).names.lookup y=some .cell∨(mv scope X.env).names.lookup y=some .free)->∃c,cl.lookup y=some c
 get:∀(k j:Nat) (y:Str),fr[k]?=some j->N[k+1]?=some y->X.N[j]?=some y/\X.env.scope.names.lookup y=some .cell/\(mv scope X.env).names.lookup y=some .cell
theorem tL.none{X:Cx}{scope:lH}{x:Str}(h:∀p∈scope.names,p.2 ≠ .cell/\p.2 ≠ .free):tL X scope [] x [x] [] where
 names:=by simp
 own:=rfl
 len:=rfl
 sub:=λy c e=>by cases e
 has:=λy e=>by
  exfalso;have key:∀p∈(mv scope X.env).names,p.2 ≠ .cell/\p.2 ≠ .free:=by
   intro p hp;obtain⟨q,hq,rfl⟩:=mMq.mp hp;obtain⟨n,k⟩:=q;obtain⟨h1,h2⟩:=h _ hq;have hk:(k == NameKind.free)=false:=by simpa using h2
   simp only[hk,jE];exact⟨h1,h2⟩
  rcases e with e|e
  .exact (key _ (PySem.mem_of_lookup e)).1 rfl
  .exact (key _ (PySem.mem_of_lookup e)).2 rfl
 get:=λk j y e _=>by cases e
def slots(σ:St) (fr:List Nat):St:=fr.map λj=>(σ[j]?).join
def GC(wi:TI) (fr:List Nat) (tf:TT) (te:TE):TE:=λσ H Q=>wi σ H λJ H1=>∀acc,H1 acc=none->∃W:Nat->Nat->Hp->Prop,(∃m,W 0 m (qP H1 acc (.lst [])))/\∀i m H,W i m H ->
 (J.stop i H/\Q (.ref acc) H) ∨
 (J.go i H/\∃N:Hp->Prop,(∀H',N H'->∃m',m'<m/\W (i+1) m' H')/\∀x H',J.yld i H x H'->tf (some x::slots σ fr) H' λb H2 =>
  if b=true then te (some x::slots σ fr) H2 λy H3=>∃ys,H3 acc=some (.lst ys)/\ys.length<ke/\N (qP H3 acc (.lst (ys++[y]))) else N H2)
section
variable {X:Cx}{scope:lH}{cl:List (Str×Addr)}{N:List Str}{fr:List Nat}{x:Str}{px pos:Pos}{elt wk:Expr}{ifs:List Expr}{tf:TT}{te:TE}
theorem DQ{ou:List (Addr×Obj)}{σ:St}{H:Hp}{s:Shared}{E:Value->Shared->Prop}{J:It}{fp:List Addr}{it:Addr}{tn:Nat->Heap->Prop}{RR:Value->Addr->Result->Shared->Prop}{Q:VK}
  (hc:X.calm=true) (hcell:∀y∈scope.names,y.2 ≠ .cell) (hkind:scope.kind = .function) (hx:scope.names.lookup x=some .local) (hF:tL X scope cl x N fr)
  (hf:∀C s H fp,PF (tJ X scope cl N C s H fp) ifs tf) (he:∀C s H fp,PE (tJ X scope cl N C s H fp) elt te)
  (I:Inv X ou σ H s) (T:HZ X.prog X.w X.K (.Name x px) J fp it tn) (st:tn 0 s.heap) (fpo:∀b∈fp,Ds X ou H b)
  (h:∀acc,H acc=none->∃W:Nat->Nat->Hp->Prop,(∃m,W 0 m (qP H acc (.lst [])))/\∀i m H,W i m H ->
   (J.stop i H/\Q (.ref acc) H) ∨
   (J.go i H/\∃N:Hp->Prop,(∀H',N H'->∃m',m'<m/\W (i+1) m' H')/\∀x H',J.yld i H x H'->tf (some x::slots σ fr) H' λb H2 =>
    if b=true then te (some x::slots σ fr) H2 λy H3=>∃ys,H3 acc=some (.lst ys)/\ys.length<ke/\N (qP H3 acc (.lst (ys++[y]))) else N H2))
  (fin:∀acc C s' Hf m,Inv X ou σ Hf s'->s'.heap.Ns C m->Ds X ou Hf C->Q (.ref acc) Hf->RR (.ref acc) C (.ok .next) s') :
  kc (jY X.prog X.w) X.A (newList []) (λacc s₃=>kc (jY X.prog X.w) X.A (newFunctionEnv scope X.env.globals cl [] X.env.qual none .none (some X.env)) (λcenv s₄ =>
   lD (jY X.prog X.w) X.A (.compStart (.ListComp elt [⟨.Name x px,wk,ifs,0⟩] scope pos) 0 (.ref it) acc { cenv with scope:=mv scope X.env }) (RR acc cenv.locals) s₄) E s₃) E s:=by
 refine wpAny_newObj_type (wpAny_newFunctionEnv hcell (by intro y hy;simp at hy) (λh₁ hns₁ hsb₁=>?_) hkind)
 dsimp only at hns₁ hsb₁ ⊢;generalize hG:s.heap.push { cls:=.type "list", dict:=none,data:=.seq ([]:List Value).toArray }=G at hns₁ hsb₁ ⊢;have hC:G.objs.size=s.heap.objs.size+1:=by rw[←hG,gP]
 have hCle:s.heap.objs.size<=G.objs.size:=by rw[hC];exact cO _
 have hDC:s.heap.objs.size≠G.objs.size:=by rw[hC];exact aE (fg _)
 have below:∀b,b<s.heap.objs.size->b≠G.objs.size:=λb hb=>by rw[hC];exact aE (bU hb)
 have old:∀b o,s.heap.get? b=some o->h₁.get? b=some o:=λb o e=>hsb₁.extBut b o (below b (ao e)) (ak _ (hG ▸ ak _ e))
 have hacc:h₁.get? s.heap.objs.size=some { cls:=.type "list", data:=.seq ([]:List Value).toArray }:=hsb₁.extBut _ _ hDC (ak _ (hG ▸ aX _ rfl));have hn:H s.heap.objs.size=none:=I.hok.fresh (af _);have hnC:H G.objs.size=none:=I.hok.fresh hCle;have fpl:∀b∈fp,b<s.heap.objs.size:=λb hb=>by
  obtain⟨o,q,_⟩:=T.obj 0 _ st b hb;exact ao q
 obtain⟨W,⟨m0,w0⟩,turn⟩:=h _ hn;have ok':(tJ X scope cl N G.objs.size s H fp).Ok:=by
  refine⟨I.ok.mod,by show (mv scope X.env).kind = .function;exact hkind,I.ok.glob,I.ok.blt,hCle,λy z c h1 h2=>I.ok.inj y z c (hF.sub y c h1) (hF.sub z c h2),hF.has,λ_ _ z _=>(by cases z),I.ok.hd,I.ok.frames,.inl rfl,
   λb hb=>⟨below b (fpl b hb),λy c e=>(fpo b hb).2.2.2.2.1 y c (hF.sub y c e)⟩,λb o e=>⟨(I.bs b o e).1,(I.bs b o e).2⟩,bY I.ok.bsz I.sz,λb o e hb=>?_,λb hb z=>?_,I.stack,I.stkFree⟩
  .rcases (fpo b hb).2.2.2.1 with q|q
   .exact I.ok.noex b o e q
   .exact absurd (aT (ao (I.ok.bs b o e).1) q) (dZ _)
  .rcases ae.mp (I.stkSub b z) with q|q
   .exact (fpo b hb).2.1 q
   .exact (fpo b hb).2.2.1 q
 have I0:Inv (tJ X scope cl N G.objs.size s H fp) [] (none::slots σ fr) (qP H s.heap.objs.size (.lst [])) { s with heap:=h₁,toks:=s.toks+([]:List (Str×Value)).length }:=by
  have hok1:Ac X.prog X.w (qP H s.heap.objs.size (.lst [])) h₁:=I.hok.laid old (af _) ⟨bp _,[],0,.nil,hacc⟩;refine⟨ok',rfl,I.bare,Un.laid old (af _) hn,⟨_,hns₁,λk y v e1 e2 e3=>?_⟩,λy c e=>?_,?_,λy c e=>?_,λp hp=>absurd (show p∈([]:List (Addr×Obj)) from hp) (by simp),hok1,?_⟩
  .cases k with
   |zero=>cases e2
   |succ k =>
    have e2':(slots σ fr)[k]?=some (some v):=e2;unfold slots at e2';rw[gMq]at e2';cases ej:fr[k]? with
    |none=>rw[ej]at e2';cases e2'
    |some j =>
     rw[ej]at e2';have e2j:(σ[j]?).join=some v:=aD.inj e2';have e2s:σ[j]?=some (some v):=by
      cases q:σ[j]? with
      |none=>rw[q]at e2j;cases e2j
      |some z=>rw[q]at e2j;exact congrArg some e2j
     obtain⟨g1,g2,g3⟩:=hF.get k j y ej e1;obtain⟨m,_,hl⟩:=I.loc;obtain⟨u,r,l⟩:=hl j y v g1 e2s (.inr (.inl g2));refine⟨u,r,.inr ⟨.inl g3,?_⟩⟩;obtain⟨c,e⟩:=hF.has y (.inl g3);have e':=hF.sub y c e;rcases l with ⟨l1,_⟩|⟨_,c',ec,hcell'⟩
     .have l1':X.env.scope.names.lookup y=some .local:=l1;rw[g2]at l1';cases l1'
     .rw [e']at ec;cases ec;obtain⟨o,ho,hd⟩:=hcell';exact⟨c,e,o,old c o ho,hd⟩
  .obtain ⟨v,o,ho,hd⟩:=I.cell y c (hF.sub y c e);exact⟨v,o,old c o ho,hd⟩
  .show qP H s.heap.objs.size (.lst []) G.objs.size=none;rw[oV (Ne.symm hDC)];exact hnC
  .obtain ⟨v,o,ho,hd⟩:=I.cell y c (hF.sub y c e);rw[oV (aE (ao ho))];exact I.freeC y c (hF.sub y c e)
  .show (none::slots σ fr).length=N.length;rw[hF.len,lCq];unfold slots;rw[lMq]
 have XM:tn 0 h₁:=T.keep 0 _ _ st λb _ o e=>old b o e
 have nd:N.Nodup:=hF.names;have nf0:∀b∈fp,qP H s.heap.objs.size (.lst []) b=none:=λb hb=>by
  rw[oV (aE (fpl b hb))];exact(fpo b hb).1
 have stat:∀{H':Hp},(∀b∈fp,H' b=none)->∀b∈fp,Ds (tJ X scope cl N G.objs.size s H fp) [] H' b:=λhn' b hb =>
  ⟨hn' b hb,below b (fpl b hb),ok'.exfs b hb,.inl hb,λy c e=>(ok'.exf b hb).2 y c e,λp hp=>absurd (show p∈([]:List (Addr×Obj)) from hp) (by simp)⟩
 have loop:∀s₃:Shared,s₃={ s with heap:=h₁,toks:=s.toks+([]:List (Str×Value)).length } ->
   lD (jY X.prog X.w) X.A (.compLoop (.ListComp elt [⟨.Name x px,wk,ifs,0⟩] scope pos) 0 (.ref it) (.ref s.heap.objs.size) (compEnvC scope cl G.objs.size X.env)) (RR (.ref s.heap.objs.size) G.objs.size) s₃:=by
  rintro s₃ rfl;refine G7 (λn s'=>∃i v0 H',Inv (tJ X scope cl N G.objs.size s H fp) [] (v0::slots σ fr) H' s'/\tn i s'.heap/\(∀b∈fp,H' b=none)/\W i n H') ?_ m0 ⟨0,none,_,I0,XM,nf0,w0⟩
  rintro n s4 ⟨i,v0,H4,I4,XR,nf4,w4⟩;rcases turn i n H4 w4 with ⟨stop,q⟩|⟨go,Nx,hNx,step⟩
  .refine thn (T.done (tJ X scope cl N G.objs.size s H fp) rfl rfl rfl hc i [] s4 (v0::slots σ fr) H4 (λ_ _=>False) I4 (stat nf4) XR stop) λr s5 hz1=>?_
   obtain⟨hr,I5⟩:=hz1;subst hr;obtain⟨m,hm,_⟩:=I5.loc;have I6:Inv X ou σ H4 s5:=I.call' (ch:=fp) I5.os I5.base I5.hok I5.bare λb hb=>⟨(fpo b hb).2.2.2.1,(fpo b hb).2.1,(fpo b hb).2.2.2.2.1,(fpo b hb).2.2.2.2.2⟩
   exact fin _ _ s5 H4 m I6 hm (I.fpOk hCle I5.free) q
  .refine thn (T.item (tJ X scope cl N G.objs.size s H fp) rfl rfl rfl hc i [] s4 (v0::slots σ fr) H4 (λ_ _=>False) I4 (stat nf4) XR go) λr s5 hz1=>?_
   obtain⟨u,hr,h5⟩:=hz1;subst hr;refine thn h5 λ_ s6 hz1=>?_
   obtain⟨y,H6,I6,r6,y6,st6,nf6⟩:=hz1;have I6':=I6.pinned (stat nf6) (T.obj _ _ st6);have pg:PG (tJ X scope cl N G.objs.size s H fp) (.Name x px) (tW 0):=qZ nd hF.own (.inl (nh hx)) (.inr (nh hx));refine thn (pg _ s6 (v0::slots σ fr) H6 y u (λσ2 H2=>σ2=some y::slots σ fr/\H2=H6) I6' r6 ⟨rfl,rfl⟩) λ_ s7 hz1=>?_
   obtain⟨σ7,H7,I7,e7,e8⟩:=hz1;subst e7 e8;refine thn (hf _ _ _ _ _ s7 _ _ _ I7 (step y _ y6)) λb s8 hz1=>?_
   obtain⟨H8,I8,q8⟩:=hz1;have again:∀{s9:Shared}{H9:Hp},Inv (tJ X scope cl N G.objs.size s H fp) ([]++CH fp s6.heap) (some y::slots σ fr) H9 s9->Nx H9->∃m,m<n/\∃i v0 H',Inv (tJ X scope cl N G.objs.size s H fp) [] (v0::slots σ fr) H' s9/\tn i s9.heap/\(∀b∈fp,H' b=none)/\W i m H':=λ{s9 H9} I9 n9=>by
    obtain⟨m',hm,w9⟩:=hNx H9 n9;refine⟨m',hm,i+1,some y,H9,I9.unpinned,T.keep _ _ _ st6 λb hb o e=>(I9.pin (b,o) (aj _ (aj _ (ye hb e)))).1,λb hb=>?_,w9⟩
    obtain⟨o,e,d⟩:=T.obj _ _ st6 b hb;exact(I9.pin (b,o) (aj _ (aj _ (ye hb e)))).2.1
   cases b with
   |false=>exact again I8 q8
   |true =>
    refine thn (he _ _ _ _ _ s8 _ _ _ I8 q8) λz s9 hz1=>?_
    obtain⟨zv,H9,I9,r9,ys,a9,l9,n9⟩:=hz1;refine thn (qw (X:=tJ X scope cl N G.objs.size s H fp) _ s9 _ H9 (.ref s.heap.objs.size) [zv] (.ref s.heap.objs.size) [z] (λ_ H'=>H'=qP H9 s.heap.objs.size (.lst (ys++[zv]))) I9 rfl (.cons r9 .nil) ⟨_,ys,zv,rfl,rfl,a9,l9,rfl⟩) λ_ s10 hz1=>?_
    obtain⟨_,H10,I10,_,e10⟩:=hz1;subst e10;exact again I10 n9
 exact codeAny_compStart_list (loop _ rfl) (T.self X.A 0 _ _ _ XM (loop _ rfl))
theorem tD{wi:TI}(hc:X.calm=true) (hclos:closureFor scope X.env=pure cl) (hcell:∀y∈scope.names,y.2 ≠ .cell) (hkind:scope.kind = .function) (hnames:∀y∈scope.names,y.2 = .local->scope.names.lookup y.1=some .local)
  (hx:scope.names.lookup x=some .local) (hF:tL X scope cl x N fr) (hi:PI X (.Name x px) wk wi) (hf:∀C s H fp,PF (tJ X scope cl N C s H fp) ifs tf) (he:∀C s H fp,PE (tJ X scope cl N C s H fp) elt te)
  (hs:∀x,mF wk X.env x=pure x:=by intro _;rfl):PE X (.ListComp elt [⟨.Name x px,wk,ifs,0⟩] scope pos) (GC wi fr tf te):=by
 intro ou s σ H Q I h;rw[eval_ListComp];refine mJ (use:=none) rfl hs hclos hkind hnames (thn (hi ou s σ H _ I h) λv s1 h1=>thn h1 λitv s2 h2=>?_)
 obtain⟨it,fp,tn,J,H2,e,I2,T,DW,f2,q2⟩:=h2;subst e;refine DQ (RR:=λacc C=>compPost (jY X.prog X.w) X.A X.xe none (EP X ou σ Q) acc C) hc hcell hkind hx hF hf he I2 T DW f2 q2 ?_
 intro acc C s' Hf m I' hm fC q;refine⟨m,hm,λh' sb=>⟨.ref acc,Hf,?_,rfl,q⟩⟩
 exact I'.turned (t':=s'.toks) (λb o hb e=>(sb.2 b hb).trans e) fC.1 fC.2.1 fC.2.2.2.1 fC.2.2.2.2.1 fC.2.2.2.2.2
theorem RY{wi:TI}{y:Str}{i:Nat}{py spos:Pos}(hc:X.calm=true) (hN:X.N.Nodup) (Xy:X.N[i]?=some y) (hy:WW X.env.scope y) (hclos:closureFor scope X.env=pure cl) (hcell:∀y∈scope.names,y.2 ≠ .cell) (hkind:scope.kind = .function)
  (hnames:∀y∈scope.names,y.2 = .local->scope.names.lookup y.1=some .local)
  (hx:scope.names.lookup x=some .local) (hF:tL X scope cl x N fr) (hi:PI X (.Name x px) wk wi) (hf:∀C s H fp,PF (tJ X scope cl N C s H fp) ifs tf) (he:∀C s H fp,PE (tJ X scope cl N C s H fp) elt te)
  (hsw:nA (.ListComp elt [⟨.Name x px,wk,ifs,0⟩] scope pos) (some (.Name y py)) spos.line X.env=pure true:=by rfl) (hs:∀x,mF wk X.env x=pure x:=by intro _;rfl)
  (hfn:X.fn y=true∨X.env.scope.names.lookup y=some .local:=by trivial) :
  PS X (.Assign [.Name y py] (.ListComp elt [⟨.Name x px,wk,ifs,0⟩] scope pos) spos) (IW (GC wi fr tf te) (tW i)):=by
 intro ou s σ H D I h;rw[exec_Assign_Name_used _ _ _ _ hsw];refine jU (wpAny_standAt (jU ?_));show kc _ X.A (do let _ ←comprehension (.ListComp elt [⟨.Name x px,wk,ifs,0⟩] scope pos) scope X.env _ (newList []) false (eval wk X.env) (some (assign (.Name y py) X.env))) _ _ s
 refine jU (kx (mJ (use:=some (assign (.Name y py) X.env)) (Q:=λ_ s'=>SP X ou D .next s') rfl hs hclos hkind hnames
  (thn (hi ou s σ H _ I h) λv s1 h1=>thn h1 λitv s2 h2=>?_)) (λ_ s' hq=>jX (jX hq)) λ_ _ e=>e)
 obtain⟨it,fp,tn,J,H2,e,I2,T,DW,f2,q2⟩:=h2;subst e;refine DQ (RR:=λacc C=>compPost (jY X.prog X.w) X.A X.xe (some (assign (.Name y py) X.env)) (λ_ s'=>SP X ou D .next s') acc C) (Q:=λv H'=>D.nx (σ.set i (some v)) H') hc hcell hkind hx hF hf he I2 T DW f2 q2 ?_
 intro acc C s' Hf m I' hm fC q;obtain⟨o,es,ep,ho,hd,r⟩:=id hm;have I1:Inv X (ou++[(C,o)]) σ Hf s':=I'.pins_of λp hp=>(mAq.mp hp).elim (λz=>I'.pin p (aj _ z)) λz=>by
  have e:p=(C,o):=by simpa using z
  subst e;exact⟨ho,fC.1,fC.2.1,fC.2.2.1,λv z=>by rw[hd]at z;cases z⟩
 refine thn (qZ (X:=X) (i:=i) (pos:=py) hN Xy hy hfn _ s' σ Hf (.ref acc) (.ref acc) _ I1 rfl q) λ_ s2 hz1=>?_
 obtain⟨σ2,H2,I2,q2⟩:=hz1;have pC:=I2.pin (C,o) (aj _ (aj _ (by simp)))
 refine⟨m,⟨o,es,ep,pC.1,hd,r⟩,λh' sb=>⟨σ2,H2,?_,q2⟩⟩
 exact I2.unpinned.turned (t':=s2.toks) (λb u hb e=>(sb.2 b hb).trans e) pC.2.1 fC.2.1 fC.2.2.2.1 fC.2.2.2.2.1 fC.2.2.2.2.2
end
end Mr
namespace MrS
open PySem PyProof.Rows
section
variable {prog:kf}{w:ki}{A:Around}{E:Value->Shared->Prop}{s:Shared}{Pk:jV->Prop}{lt:jV->jV->Bool}
abbrev uT(h:Heap) (a:Addr) (vs:List Value):Heap:=((h.update a (Obj.mapSeq λ_=>#[])).push (kq "tuple" vs.toArray 0)).push (kq "list" #[] 0)
theorem zA{a:Addr}{vs:List Value}{n:Nat}{P:PySem.Fin->Shared->Prop}(ho:s.heap.get? a=some (kq "list" vs.toArray n)) (hs:vs.length<=ke)
  (hkk:2<=vs.length->∀Q:kG->Shared->Prop,Q kX { s with heap:=uT s.heap a vs }->kc (jY prog w) A (keyKind' vs.toArray) Q E { s with heap:=uT s.heap a vs })
  (C:zg prog w A { s with heap:=uT s.heap a vs } kX Pk lt) (hp:∀x,x∈pairsOf vs->Pk x)
  (h:∀xs:Array jV,xs.Perm (pairsOf vs)->zQ lt xs 0 (pairsOf vs).size->P (.done (.ret .none)) { s with heap:=mG s.heap a vs (xs.map (·.2)) }) :
  kc (jY prog w) A (Builtin.«list.sort» ⟨[.ref a],[]⟩) P E s:=by
 rw[list_sort_plain];have ha:a<s.heap.objs.size:=ao ho;refine jU (listItems_at ho rfl ?_);refine jU (nu ho rfl ?_ (hsz:=by simpa using hs))
 obtain⟨e1,ho1⟩:∃e1,(s.heap.update a (Obj.mapSeq λ_=>#[])).get? a=some (kq "list" #[] e1):=⟨_,mO ho (λ_=>#[])⟩
 refine jU (nC ho1 rfl ?_);refine jU (wpAny_newTuple ?_);refine jU (mB ?_);refine kr ?_;have ho6:(uT s.heap a vs).get? a=some (kq "list" #[] e1):=by
  rw[fL _ _ _ (by rw[size_push',fh];exact aE (bU ha)),fL _ _ _ (by rw[fh];exact aE ha)]
  exact ho1
 show kc (jY prog w) A _ P E { s with heap:=uT s.heap a vs }
 dsimp only;have hsz:vs.toArray.size=vs.length:=by simp
 have hs':ke=16777216:=kO
 by_cases h2:vs.toArray.size<2
 .rw [pN h2,pN h2];refine jU (jX ?_);rw[StateT.run_pure];refine jU (jX ?_);dsimp only;refine jU (nC ho6 rfl ?_);refine jU (nu ho6 rfl ?_ (hsz2:=by rw[jF];show (pairsOf vs).size<=_;rw[mh,kO];lia))
  simp only[bne_self_eq_false,de,if_false];refine jX (h _ (jC.refl _) ?_);intro i j x y _ hij hj ex ey;have:i=j:=by rw[mh]at hj;lia
  subst this;rw[ex]at ey;cases ey;exact C.refl (hp x (aQq ex))
 .rw [pJ h2,pJ h2];refine jU (hkk (by lia) _ ?_)
  refine jU (kx (Fb C (arr:=pairsOf vs) (g:=7) (E:=E)
   (Q:=λ_ st'=>∃xs p g',st'=ya kX xs p g'/\xs.Perm (pairsOf vs)/\zQ lt xs 0 (pairsOf vs).size) hp (by rw[mh];lia) λxs p g' a1 a2=>⟨xs,p,g',rfl,a1,a2⟩) ?_ λ_ _ e=>e)
  rintro⟨⟨⟩,st'⟩ s' ⟨rfl,xs,p,g',rfl,hpm,hsg⟩;dsimp only;refine jU (nC ho6 rfl ?_);refine jU (nu ho6 rfl ?_ (hsz2:=by refine bY (gG ((jF ..).trans (hpm.size_eq.trans (mh _)))) ?_;lia))
  simp only[bne_self_eq_false,de,if_false];exact jX (h xs hpm hsg)
theorem Jr{h:Heap}{a:Addr}{xs:Array Value}{n:Nat}(vs:List Value) (ho:h.get? a=some (kq "list" xs n)):∃e1,(uT h a vs).get? a=some (kq "list" #[] e1):=by
 have ha:a<h.objs.size:=ao ho;obtain⟨e1,ho1⟩:∃e1,(h.update a (Obj.mapSeq λ_=>#[])).get? a=some (kq "list" #[] e1):=⟨_,mO ho (λ_=>#[])⟩
 refine⟨e1,?_⟩;rw[fL _ _ _ (by rw[size_push',fh];exact aE (bU ha)),fL _ _ _ (by rw[fh];exact aE ha)]
 exact ho1
theorem J6{h:Heap}{a:Addr}{xs:Array Value}{n:Nat}(ys:Array Value) (ho:h.get? a=some (kq "list" xs n)):∃n1,(h.update a (Obj.mapSeq λ_=>ys)).get? a=some (kq "list" ys n1):=⟨_,mO ho (λ_=>ys)⟩
theorem wx{vs:List Value}{x:jV}(h:x∈pairsOf vs):x.1∈vs/\x.2=x.1:=by
 obtain⟨i,hi,e⟩:=Array.mem_iff_getElem.mp h;have hi':i<vs.length:=by rw[mh]at hi;exact hi
 have:x=(vs[i],vs[i]):=by
  rw[←e];simp[pairsOf]
 rw[this];exact⟨gRq hi',rfl⟩
theorem BH{vs:List Value}{xs:Array jV}(hp:xs.Perm (pairsOf vs)) (hs:zQ lt xs 0 (pairsOf vs).size) :
  (xs.map (·.2)).toList.Perm vs/\(xs.map (·.2)).toList.Pairwise (λx y=>lt (y,y) (x,x)=false):=by
 constructor
 .have:=hp.toList.map (·.2);have e:(pairsOf vs).toList.map (·.2)=vs:=by
   have:(pairsOf vs).toList=vs.zip vs:=by simp[pairsOf]
   rw[this];apply List.ext_getElem
   .simp
   .intro i h1 h2;simp
  rw[e]at this;rw[Array.toList_map];exact this
 .rw [bR];intro i j hi hj hij;have hi':i<xs.size:=by simpa using hi
  have hj':j<xs.size:=by simpa using hj
  have z:=hs i j xs[i] xs[j] (bp _) (cS hij) (by rw[←hp.size_eq];exact hj') (by simp[hi']) (by simp[hj'])
  have m1:=wx (hp.mem_iff.mp (bu hi'));have m2:=wx (hp.mem_iff.mp (bu hj'));have e1:xs[i]=(xs[i].2,xs[i].2):=jy m1.2.symm rfl;have e2:xs[j]=(xs[j].2,xs[j].2):=jy m2.2.symm rfl;rw[e1,e2]at z;simpa using z
theorem CT{l:Addr}{vs:List Value}{Q:Value->Shared->Prop}(hl:s.heap.IsList l vs.toArray) (hs:vs.length<=ke)
  (hC:∀s':Shared,(∀b o,s.heap.get? b=some o->s'.heap.get? b=some o)->(2<=vs.length->∀Q:kG->Shared->Prop,Q kX s'->kc (jY prog w) A.in1.in1 (keyKind' vs.toArray) Q E s')/\zg prog w A.in1.in1 s' kX Pk lt)
  (hp:∀v∈vs,Pk (v,v))
  (h:∀(out:List Value) (h':Heap) (n':Nat),out.Perm vs->out.Pairwise (λx y=>lt (y,y) (x,x)=false)->(∀b o,s.heap.get? b=some o->h'.get? b=some o) ->
   h'.get? (s.heap.objs.size+1)=some (kq "list" out.toArray n')->Q (.ref (s.heap.objs.size+1)) { s with heap:=h' }) :
  kc (jY prog w) A (call (.builtin "sorted") [.ref l]) Q E s:=by
 refine Calls.call_function_entry kind_sorted plain_sorted entry_sorted (args_sorted1 _) ?_;unfold Builtin.«sorted»;refine jU (m:=checkCount "sorted" 1 1 _) (jX ?_);refine jU (collect_list hl ?_ hs);refine jU (mB ?_);have hsz:((s.heap.push (kq "list" #[] 0)).update s.heap.objs.size (Obj.mapSeq (· ++ vs.toArray))).objs.size=s.heap.objs.size+1:=by
  rw[fh,size_push']
 have hoL:(((s.heap.push (kq "list" #[] 0)).update s.heap.objs.size (Obj.mapSeq (· ++ vs.toArray))).push (kq "list" vs.toArray 0)).get? (s.heap.objs.size+1)=some (kq "list" vs.toArray 0):=by
  rw[←hsz];exact aX _ rfl
 show kc _ _ _ _ _ { s with heap:=((s.heap.push (kq "list" #[] 0)).update s.heap.objs.size (Obj.mapSeq (· ++ vs.toArray))).push (kq "list" vs.toArray 0) }
 rw[hsz];generalize hG:((s.heap.push (kq "list" #[] 0)).update s.heap.objs.size (Obj.mapSeq (· ++ vs.toArray))).push (kq "list" vs.toArray 0)=G at hoL ⊢;have k1:∀b o,s.heap.get? b=some o->G.get? b=some o:=λb o e=>by
  rw[←hG];refine ak _ ?_;rw[eK _ _ _ _ (aE (ao e))];exact ak _ e
 have k2:∀b o,s.heap.get? b=some o->(uT G (s.heap.objs.size+1) vs).get? b=some o:=λb o e=>by
  refine ak _ (ak _ ?_);rw[eK _ _ _ _ (aE (bU (ao e)))];exact k1 b o e
 obtain⟨q1,q2⟩:=hC { s with heap:=uT G (s.heap.objs.size+1) vs } k2
 refine jU (kr (lU slot_list_sort ⟨_,hoL,rfl⟩ entry_list_sort (zA (Pk:=Pk) (lt:=lt) hoL hs q1 q2 (λx hx=>?_) λxs a1 a2=>⟨_,rfl,?_⟩) (args_list_sort _)))
 .obtain ⟨m1,m2⟩:=wx hx;have:x=(x.1,x.1):=jy rfl m2;rw[this];exact hp _ m1
 .obtain ⟨v1,v2⟩:=BH a1 a2;obtain⟨e1,ho1⟩:=Jr vs hoL;obtain⟨n1,g1⟩:=J6 (xs.map (·.2)) ho1;refine jX ⟨_,rfl,h _ (mG G (s.heap.objs.size+1) vs (xs.map (·.2))) n1 v1 v2 (λb o e=>?_) ?_⟩
  .unfold mG;rw[eK _ _ _ _ (aE (bU (ao e)))];exact k2 b o e
  .rw [show (xs.map (·.2)).toList.toArray=xs.map (·.2) from iR]
   exact g1
end
end MrS
namespace HT
open PySem PyProof.Rows
section
open PySem.SeqAt
open PySem.AutoSeq1 (wpAny_loadPart')
open PySem.MeetsSeq PySem.MeetsSeq2 PySem.MeetsSeq3 PySem.SeqRoads2
theorem FN{vs:List Value}{ns:List Int}(h:kz vs ns):∀{i:Nat}(hi:i<vs.length),∃(z:Int) (t:Tok),vs[i] = .int z t/\ns.drop i=z::ns.drop (i+1):=by
 induction h with
 |nil=>intro i hi;exact absurd hi (cQ _)
 |cons a t _ ih =>
  intro i hi;cases i with
  |zero=>exact⟨a,t,rfl,rfl⟩
  |succ i=>exact ih (i:=i) (by simpa using hi)
theorem Fc(l b:Addr) (items items2:Array Value) (n n2:Nat) (dd dd2:Option Addr) (sl sl2:Array (Option Value)) (ns ms:List Int) (hi:kz items.toList ns) (hj:kz items2.toList ms) (k:Nat) :
  ∀i:Nat,min items.size items2.size-i=k->i<=items.size->i<=items2.size->Meets (Builtin.«list.__eq__.loop» ⟨[.ref l,.ref b,rawInt i,rawInt 0],[]⟩)
   (λ_ R s=>s.heap.get? l=some { cls:=.type "list", dict:=dd,data:=.seq items n,slots:=sl }/\s.heap.get? b=some { cls:=.type "list", dict:=dd2,data:=.seq items2 n2,slots:=sl2 } /\
    R (.ok (.ret (.bool (tq (ns.drop i) (ms.drop i))))) s):=by
 have z1:ns.length=items.size:=by rw[←hi.length];simp
 have z2:ms.length=items2.size:=by rw[←hj.length];simp
 induction k with
 |zero =>
  intro i hk h1 h2 prog w A R s h;obtain⟨hp,g,d,tk,os⟩:=s;obtain⟨hl,hb,h⟩:=h
  wp_walk using wpAny_loadPart' hl,wpAny_loadPart' hb
  have fin:tq (ns.drop i) (ms.drop i)=decide (items.size<items2.size):=by
   by_cases c:i=items.size
   .have e1:ns.drop i=[]:=dF (by lia)
    rw[e1]
    by_cases c2:i<items2.size
    .rw [aZ (by lia:i<ms.length),CO]
     exact(decide_eq_true (by lia)).symm
    .rw [dF (by lia:ms.length<=i),D3]
     exact(decide_eq_false (by lia)).symm
   .have c2:i=items2.size:=by lia
    rw[aZ (by lia:i<ns.length),dF (by lia:ms.length<=i),Dp]
    exact(decide_eq_false (by lia)).symm
  rw[fin]at h
  by_cases c:i=items.size
  .have Qu:items[((i:Nat):Int).toNat]?=none:=by simp;lia
   rw[Qu]
   wp_walk using wpAny_loadPart' hl,wpAny_loadPart' hb
   exact h
  .have c2:i=items2.size:=by lia
   have Qu:items[((i:Nat):Int).toNat]?=some (items[i]'(by lia)):=by simp
   have hi2:items2[((i:Nat):Int).toNat]?=none:=by simp;lia
   rw[Qu,hi2]
   wp_walk using wpAny_loadPart' hl,wpAny_loadPart' hb
   exact h
 |succ k ih =>
  intro i hk h1 h2 prog w A R s h;obtain⟨hp,g,d,tk,os⟩:=s;obtain⟨hl,hb,h⟩:=h
  wp_walk using wpAny_loadPart' hl,wpAny_loadPart' hb
  have hlt:i<items.size:=by lia
  have hlt2:i<items2.size:=by lia
  obtain⟨x,t,ex,dx⟩:=FN hi (i:=i) (by simpa using hlt)
  obtain⟨y,u,ey,dy⟩:=FN hj (i:=i) (by simpa using hlt2)
  have Qu:items[((i:Nat):Int).toNat]?=some (.int x t):=by
   rw[←ex];simp[hlt]
  have hi2:items2[((i:Nat):Int).toNat]?=some (.int y u):=by
   rw[←ey];simp[hlt2]
  have hc:((i:Int)+1)=((i+1:Nat):Int):=by push_cast;rfl
  rw[dx,dy,xR]at h;rw[Qu,hi2];obtain⟨e,he,hiff⟩:=NX A.in1 ⟨hp,g,d,tk,os⟩ x t y u;refine jU (he prog w _ _ ?_);cases e with
  |true =>
   rw[pN (hiff.mp rfl)]at h
   wp_walk
   rw[hc];exact⟨kY plain_eq_loop _,ku entry_eq_loop (by
    rw[Around.under_plainId plain_eq_loop _];exact ih (i+1) (by lia) (by lia) (by lia) prog w A R _ ⟨hl,hb,h⟩)⟩
  |false =>
   rw[pJ (λq=>absurd (hiff.mpr q) aK)]at h
   have hri:=Pg A.in1 ⟨hp,g,d,tk,os⟩ x t y u prog w
   wp_walk using wpAny_loadPart' hl,wpAny_loadPart' hb
   rw[Qu,hi2]
   wp_walk using hri
   exact h
theorem FG(l b:Addr) (items items2:Array Value) (n n2:Nat) (dd dd2:Option Addr) (sl sl2:Array (Option Value)) (ns ms:List Int) (hi:kz items.toList ns) (hj:kz items2.toList ms) :
  Meets (Builtin.«list.__lt__» ⟨[.ref l,.ref b],[]⟩)
   (λ_ R s=>s.heap.get? l=some { cls:=.type "list", dict:=dd,data:=.seq items n,slots:=sl }/\s.heap.get? b=some { cls:=.type "list", dict:=dd2,data:=.seq items2 n2,slots:=sl2 } /\
    R (.ok (.ret (.bool (tq ns ms)))) s):=by
 intro prog w A R s h;obtain⟨hp,g,d,tk,os⟩:=s;obtain⟨hl,hb,h⟩:=h;have f3:=AutoSeq1.sub_list_list
 wp_walk using wpAny_loadPart' hl,wpAny_loadPart' hb
 exact⟨kY plain_eq_loop _,ku entry_eq_loop (by
  rw[Around.under_plainId plain_eq_loop _];exact Fc l b items items2 n n2 dd dd2 sl sl2 ns ms hi hj _ 0 rfl (bp _) (bp _) prog w A R _ ⟨hl,hb,h⟩)⟩
end
end HT
namespace Mr
open PySem PySem.Spec PyProof.Rows L2
section
open HT
theorem CZ:∀xs ys:List Int,tq xs ys=true->tq ys xs=false
 | [],[],_=>rfl
 | [],_::_,_=>rfl
 |_::_,[],h=>by cases h
 |x::xs,y::ys,h=>by
  rw[xR]at h ⊢
  by_cases e:x=y
  .rw [pN e]at h;rw[pN e.symm];exact CZ xs ys h
  .rw [pJ e]at h;rw[pJ (Ne.symm e)];have h':x<y:=of_decide_eq_true h;exact decide_eq_false (by lia)
theorem Bc:∀xs ys zs:List Int,tq ys xs=false->tq zs ys=false->tq zs xs=false
 | [],[],[],_,_=>rfl
 | [],[],_::_,_,h=>by exact h
 | [],_::_,[],_,h=>by cases h
 | [],_::_,_::_,_,_=>rfl
 |_::_,[],_,h,_=>by cases h
 |_::_,_::_,[],_,h=>by cases h
 |x::xs,y::ys,z::zs,h1,h2=>by
  rw[xR]at h1 h2 ⊢
  by_cases e1:y=x
  .rw [pN e1]at h1;subst e1
   by_cases e2:z=y
   .rw [pN e2]at h2 ⊢;exact Bc xs ys zs h1 h2
   .rw [pJ e2]at h2 ⊢;exact h2
  .rw [pJ e1]at h1;have h1':¬ y<x:=of_decide_eq_false h1
   by_cases e2:z=y
   .rw [pJ (by lia)]
    exact decide_eq_false (by lia)
   .rw [pJ e2]at h2;have h2':¬ z<y:=of_decide_eq_false h2;rw[pJ (by lia)]
    exact decide_eq_false (by lia)
theorem G4:∀xs ys:List Int,tq xs ys=false->tq ys xs=false->xs=ys
 | [],[],_,_=>rfl
 | [],_::_,h,_=>by cases h
 |_::_,[],_,h=>by cases h
 |x::xs,y::ys,h1,h2=>by
  rw[xR]at h1 h2
  by_cases e:x=y
  .rw [pN e]at h1;rw[pN e.symm]at h2;rw[e,G4 xs ys h1 h2]
  .rw [pJ e]at h1;rw[pJ (Ne.symm e)]at h2;have h1':¬ x<y:=of_decide_eq_false h1;have h2':¬ y<x:=of_decide_eq_false h2;lia
def Rq(x y:List Int):Bool:=!HT.tq y x
theorem KA(x y z:List Int) (h1:Rq x y=true) (h2:Rq y z=true):Rq x z=true:=by
 unfold Rq at *;simp only[fM]at *;exact Bc x y z h1 h2
theorem LP(x y:List Int):(Rq x y || Rq y x)=true:=by
 unfold Rq;cases h:HT.tq y x with
 |false=>rfl
 |true=>rw[CZ y x h];rfl
def wX(rs:List (List Int)):List (List Int):=rs.mergeSort Rq
theorem se(rs:List (List Int)):(wX rs).Perm rs:=iW _ _
theorem C7(rs:List (List Int)):(wX rs).Pairwise (λx y=>HT.tq y x=false):=by
 refine(iw KA LP rs).imp λ{a b} h=>?_
 unfold Rq at h;simpa using h
theorem DY:∀{xs ys:List (List Int)},xs.Perm ys->xs.Pairwise (λx y=>HT.tq y x=false)->ys.Pairwise (λx y=>HT.tq y x=false)->xs=ys
 |xs,ys,hp,h1,h2=>bj.eq_of_pairwise (λa b _ _ e1 e2=>(G4 b a e1 e2).symm) h1 h2 hp
theorem NF{xs rs:List (List Int)}(hp:xs.Perm rs) (h:xs.Pairwise (λx y=>HT.tq y x=false)):xs=wX rs :=
 DY (hp.trans (se rs).symm) h (C7 rs)
theorem KM{rs ts:List (List Int)}(hp:rs.Perm ts):wX rs=wX ts:=NF ((se rs).trans hp) (C7 rs)
theorem yi(rs:List (List Int)):(wX rs).length=rs.length:=(se rs).length_eq
def qH(ns:List Int):List Int:=ns.mergeSort (λx y=>decide (x<=y))
theorem qC(ns:List Int):(qH ns).Perm ns:=iW _ _
theorem uW(ns:List Int):(qH ns).Pairwise (·<=·):=by
 refine(iw (le:=λx y=>decide (x<=y)) (λa b c h1 h2=>?_) (λa b=>?_) ns).imp λ{a b} h=>by simpa using h
 .simp only [decide_eq_true_eq]at *;lia
 .simp only [jz,decide_eq_true_eq];lia
theorem za{xs ns:List Int}(hp:xs.Perm ns) (h:xs.Pairwise (·<=·)):xs=qH ns :=
 bj.eq_of_pairwise (λa b _ _ e1 e2=>Int.le_antisymm e1 e2) h (uW ns) (hp.trans (qC ns).symm)
end
def rK(H:Hp) (ps:List Addr) (rs:List (List Int)):Prop:=ps.map H=rs.map (λr=>some (HO.lst (r.map V.int)))
theorem rK.nil{H:Hp}:rK H [] []:=rfl
theorem rK.length{H:Hp}{ps:List Addr}{rs:List (List Int)}(h:rK H ps rs):ps.length=rs.length:=by
 have:=congrArg cm h;simpa using this
theorem rK.cons_iff{H:Hp}{ps:List Addr}{rs:List (List Int)}{p:Addr}{r:List Int}:rK H (p::ps) (r::rs)↔H p=some (.lst (r.map V.int))/\rK H ps rs:=by
 unfold rK;rw[au,au,jj.injEq]
theorem rK.get{H:Hp}{ps:List Addr}{rs:List (List Int)}(h:rK H ps rs) {i:Nat}{p:Addr}(e:ps[i]?=some p):∃r,rs[i]?=some r/\H p=some (.lst (r.map V.int)):=by
 have:=congrArg (λl=>l[i]?) h
 simp only[gMq,e,cf]at this;cases er:rs[i]? with
 |none=>rw[er]at this;cases this
 |some r=>rw[er]at this;exact⟨r,rfl,aD.inj this⟩
theorem rK.mem{H:Hp}{ps:List Addr}{rs:List (List Int)}(h:rK H ps rs) {p:Addr}(hp:p∈ps):∃r,r∈rs/\H p=some (.lst (r.map V.int)):=by
 obtain⟨i,hi⟩:=List.getElem?_of_mem hp;obtain⟨r,er,e⟩:=h.get hi;exact⟨r,mGq er,e⟩
theorem rK.keep{H H':Hp}{ps:List Addr}{rs:List (List Int)}(h:rK H ps rs) (k:∀p∈ps,H' p=H p):rK H' ps rs:=by
 unfold rK at *;rw[←h];exact mCq k
theorem rK.same{H H':Hp}{ps:List Addr}{rs:List (List Int)}(h:rK H ps rs) (s:qh H H'):rK H' ps rs :=
 h.keep λp hp=>by
  obtain⟨r,_,e⟩:=h.mem hp;rw[s _ _ e,e]
def Zy:V->Int
 | .int i=>i
 |_=>0
def zt(H:Hp) (p:Addr):List Int:=match H p with
 |some (.lst xs)=>xs.map Zy
 |_=>[]
theorem Gf{H:Hp}{p:Addr}{r:List Int}(h:H p=some (.lst (r.map V.int))):zt H p=r:=by
 unfold zt;rw[h];simp only[mPq];exact List.map_id'' (λ_=>rfl) r
theorem rK.fn{H:Hp}{ps:List Addr}{rs:List (List Int)}(h:rK H ps rs):rs=ps.map (zt H):=by
 induction rs generalizing ps with
 |nil =>
  have:=h.length;have:ps=[]:=bq.mp this;rw[this];rfl
 |cons r rs ih =>
  cases ps with
  |nil=>have:=h.length;simp at this
  |cons p ps =>
   obtain⟨h1,h2⟩:=rK.cons_iff.mp h;rw[au,←ih h2,Gf h1]
theorem rK.fn_row{H:Hp}{ps:List Addr}{rs:List (List Int)}(h:rK H ps rs) {p:Addr}(hp:p∈ps):H p=some (.lst ((zt H p).map V.int)):=by
 obtain⟨r,_,e⟩:=h.mem hp;rw[Gf e];exact e
theorem rK.of_fn{H:Hp}{ps:List Addr}(h:∀p∈ps,H p=some (.lst ((zt H p).map V.int))):rK H ps (ps.map (zt H)):=by
 unfold rK;rw[mPq];exact mCq h
theorem rK.perm{H:Hp}{ps qs:List Addr}{rs:List (List Int)}(h:rK H ps rs) (hp:qs.Perm ps):∃ts,rK H qs ts/\ts.Perm rs/\ts=qs.map (zt H) :=
 ⟨_,rK.of_fn λp m=>h.fn_row (hp.mem_iff.mp m),by rw[h.fn];exact hp.map _,rfl⟩
theorem rK.free{H H':Hp}{ps:List Addr}{rs:List (List Int)}(h:rK H' ps rs) {q:Addr}(n:H' q=none):q∉ps:=λm=>by
 obtain⟨r,_,e⟩:=h.mem m;rw[n]at e;cases e
theorem Ek:∀{ps:List Addr}{vs:List Value},pY (ps.map V.ref) vs->vs=ps.map cj
 | [],vs,r=>by cases r;rfl
 |p::ps,vs,r=>by
  rw[au]at r;cases r with
  |cons h1 h2 =>
   have e:_=cj p:=h1;rw[e,Ek h2];rfl
theorem En:∀(ps:List Addr),pY (ps.map V.ref) (ps.map cj)
 | []=>.nil
 |p::ps=>.cons rfl (En ps)
def Be:Value->Addr
 | .ref p=>p
 |_=>0
def intOf:Value->Int
 | .int i _=>i
 |_=>0
theorem ET{vs:List Value}{ns:List Int}(h:kz vs ns):ns=vs.map intOf/\∀v∈vs,∃a t,v = .int a t:=by
 induction h with
 |nil=>exact⟨rfl,λv hv=>by cases hv⟩
 |cons a t _ ih =>
  refine⟨by rw[au,←ih.1];rfl,λv hv=>?_⟩
  rcases ae.mp hv with rfl|hv
  .exact ⟨a,t,rfl⟩
  .exact ih.2 v hv
theorem vals_ints:∀{vs:List Value},(∀v∈vs,∃a t,v = .int a t)->pY ((vs.map intOf).map V.int) vs
 | [],_=>.nil
 |v::vs,h=>by
  obtain⟨a,t,rfl⟩:=h _ (ag ..);exact .cons ⟨t,rfl⟩ (vals_ints λv hv=>h v (mCo _ hv))
theorem Q6{M:Model}{A:Around}{E:Value->Shared->Prop}{s:Shared}{vs:List Value}{T:String}{Q:kG->Shared->Prop}(h2:2<=vs.length) (hT:∀v∈vs,W.Looks M s.heap (typeOf v) (.type T)) (hT1:(fP T != fP "tuple")=true) (hT2:(fP T == fP T)=true) (h:Q kX s) :
  kc M A (keyKind' vs.toArray) Q E s:=W.kas_kind h2 hT hT1 hT2 h
def YD(x y:jV):Bool:=match x.1,y.1 with
 | .int a _,.int b _=>decide (a<b)
 |_,_=>false
theorem Xa(prog:kf) (w:ki) (A:Around) (s:Shared):MrS.zg prog w A s kX (λx=>∃a t,x.1 = .int a t) YD where
 ask:=by
  rintro⟨_,x⟩ ⟨_,y⟩ ⟨a,t,e1⟩ ⟨b,u,e2⟩ E Q q;dsimp only at e1 e2;subst e1 e2;rw[keyLt'_oneType];exact oneLt_int q
 asym:=by
  rintro⟨_,x⟩ ⟨_,y⟩ ⟨a,t,e1⟩ ⟨b,u,e2⟩ h;dsimp only at e1 e2;subst e1 e2;have h':a<b:=of_decide_eq_true h;exact decide_eq_false (by lia)
 trans:=by
  rintro⟨_,x⟩ ⟨_,y⟩ ⟨_,z⟩ ⟨a,t,e1⟩ ⟨b,u,e2⟩ ⟨c,v,e3⟩ h1 h2;dsimp only at e1 e2 e3;subst e1 e2 e3;have h1':¬ b<a:=of_decide_eq_false h1;have h2':¬ c<b:=of_decide_eq_false h2;exact decide_eq_false (by lia)
def YX(r:Addr->List Int) (x y:jV):Bool:=match x.1,y.1 with
 | .ref p,.ref q=>HT.tq (r p) (r q)
 |_,_=>false
theorem X8{prog:kf}{w:ki}{A:Around}{s:Shared}{ps:List Addr}{r:Addr->List Int}(hu:A.units<lF)
  (h:∀p∈ps,∃vs:List Value,PlainL s.heap p vs.toArray/\kz vs (r p)):MrS.zg prog w A s kX (λx=>∃p,x.1 = .ref p/\p∈ps) (YX r) where
 ask:=by
  rintro⟨_,x⟩ ⟨_,y⟩ ⟨p,e1,hp⟩ ⟨q,e2,hq⟩ E Q k;dsimp only at e1 e2;subst e1 e2;obtain⟨vs,⟨o,n,ho,hc,hd0,hd⟩,hi⟩:=h p hp;obtain⟨ws,⟨o2,n2,ho2,hc2,hd02,hd2⟩,hj⟩:=h q hq;obtain⟨cls,dd,data,sl⟩:=o;obtain⟨cls2,dd2,data2,sl2⟩:=o2;simp only at hc hd0 hd hc2 hd02 hd2;subst hc hd0 hd hc2 hd02 hd2;rw[keyLt'_oneType,oneLt'_eq];simp only[if_true];refine jU (wpAny_cRoomFor hu ?_);refine jU (wpAny_callSpecialIfBound?_slot ⟨_,ho,rfl⟩ F.slot_list_lt (lC F.slot_list_lt ⟨_,ho,rfl⟩ F.entry_list_lt (F.args_list_lt_2 _ _)
   (HT.FG p q vs.toArray ws.toArray n n2 none none sl sl2 (r p) (r q) (by simpa using hi) (by simpa using hj)) ⟨ho,ho2,?_⟩))
  exact kH k
 asym:=by
  rintro⟨_,x⟩ ⟨_,y⟩ ⟨a,e1,_⟩ ⟨b,e2,_⟩ h;dsimp only at e1 e2;subst e1 e2;exact CZ _ _ h
 trans:=by
  rintro⟨_,x⟩ ⟨_,y⟩ ⟨_,z⟩ ⟨a,e1,_⟩ ⟨b,e2,_⟩ ⟨c,e3,_⟩ h1 h2;dsimp only at e1 e2 e3;subst e1 e2 e3;exact Bc _ _ _ h1 h2
section
variable {X:Cx}
theorem AL:yw X (.builtin "sorted") (λxs H Q=>∃(a:Addr) (ns:List Int),xs=[.ref a]/\sS X.K H a (ns.map V.int)/\∀p,H p=none->Q (.ref p) (qP H p (.lst ((qH ns).map V.int)))):=by
 intro ou s σ H xs us Q I r h;obtain⟨a,ns,rfl,hS,q⟩:=h;obtain⟨u,rfl,ru⟩:=yO r;cases ru;obtain⟨vs,hl,hi,hz⟩:=Dt I hS;obtain⟨en,hv⟩:=ET hi;have hlen:=hi.length;refine MrS.CT (Pk:=λx=>∃a t,x.1 = .int a t) (lt:=YD) hl (by lia) (λs' _=>⟨λh2 Q q=>?_,Xa _ _ _ _⟩) (λv m=>hv v m) λout h' n' o1 o2 o3 o4=>?_
 .match vs,hi,h2 with
  | [],_,h2=>simp at h2
  | [_],_,h2=>simp at h2
  |v₁::v₂::rest,hi,_ =>
   rw[keyKind_ints hi];exact jX q
 .have ho:∀v∈out,∃a t,v = .int a t:=λv m=>hv v (o1.mem_iff.mp m)
  have e:out.map intOf=qH ns:=by
   refine za (by rw[en];exact o1.map _) ?_
   rw[bg];refine o2.imp_of_mem λ{x y} mx my h=>?_
   obtain⟨a,t,rfl⟩:=ho x mx;obtain⟨b,u,rfl⟩:=ho y my;have h':¬ b<a:=of_decide_eq_false h;show a<=b;lia
  have hp:H (s.heap.objs.size+1)=none:=I.hok.fresh (cO _);refine⟨.ref (s.heap.objs.size+1),_,I.laid (t':=s.toks) o3 (cO _) (show qW X.prog X.w _ h' _ (.lst ((qH ns).map V.int)) from ⟨?_,out,n',?_,o4⟩),rfl,q _ hp⟩
  .rw [lMq,(qC ns).length_eq];exact hz
  .rw [←e];exact vals_ints ho
theorem AU(hu:X.A.units+64<lF):yw X (.builtin "sorted") (λxs H Q=>∃(a:Addr) (ps:List Addr) (rs:List (List Int)),xs=[.ref a]/\sS X.K H a (ps.map V.ref)/\rK H ps rs /\
  ∀p qs,H p=none->qs.Perm ps->rK (qP H p (.lst (qs.map V.ref))) qs (wX rs)->Q (.ref p) (qP H p (.lst (qs.map V.ref)))):=by
 intro ou s σ H xs us Q I r h;obtain⟨a,ps,rs,rfl,hS,hE,q⟩:=h;obtain⟨u,rfl,ru⟩:=yO r;cases ru;obtain⟨its,rv,hl,hz⟩:=I.list hS;have ei:=Ek rv;subst ei;have hrow:∀p∈ps,∃vs:List Value,PlainL s.heap p vs.toArray/\kz vs (zt H p):=λp hp=>by
  obtain⟨its,rv,pl,_⟩:=I.list (sS.of (hE.fn_row hp));exact⟨its,pl,zW rv⟩
 have keepL:∀(s':Shared),(∀b o,s.heap.get? b=some o->s'.heap.get? b=some o)->∀p∈ps,∃vs:List Value,PlainL s'.heap p vs.toArray/\kz vs (zt H p):=λs' k p hp=>by
  obtain⟨vs,⟨o,n,ho,rest⟩,hi⟩:=hrow p hp;exact⟨vs,⟨o,n,k _ _ ho,rest⟩,hi⟩
 refine MrS.CT (Pk:=λx=>∃p,x.1 = .ref p/\p∈ps) (lt:=YX (zt H)) hl.isList (by simpa using hz) (λs' k=>⟨λh2 Q q=>?_,X8 (by show X.A.units+1+1<lF;lia) (keepL s' k)⟩) (λv m=>?_) λout h' n' o1 o2 o3 o4=>?_
 .refine Q6 (T := "list") h2 (λv hv=>?_) (by rfl) (by rfl) q
  obtain⟨p,hp,rfl⟩:=mMq.mp hv;obtain⟨vs,pl,_⟩:=keepL s' k p hp;intro A Q E s2 k2 q2;obtain⟨o,ho,hc,_⟩:=pl.isList;exact nv (T := "list") ⟨o,k2 _ _ ho,hc⟩ q2
 .obtain ⟨p,hp,rfl⟩:=mMq.mp m;exact⟨p,rfl,hp⟩
 .have ho:∀v∈out,∃p∈ps,v = .ref p:=λv m=>by
   obtain⟨p,hp,rfl⟩:=mMq.mp (o1.mem_iff.mp m);exact⟨p,hp,rfl⟩
  have eo:out=(out.map Be).map cj:=by
   rw[mPq];have e:=mCq (l:=out) (f:=id) (g:=cj∘Be) λv hv=>by
    obtain⟨p,_,rfl⟩:=ho v hv;rfl
   rw[←e,dR]
  have hq:(out.map Be).Perm ps:=by
   have:=o1.map Be;rw[mPq,show Be∘cj=id from rfl,dR]at this
   exact this
  have hp:H (s.heap.objs.size+1)=none:=I.hok.fresh (cO _);generalize out.map Be=qs at eo hq;obtain⟨ts,e1,e2,e3⟩:=hE.perm hq;have es:ts=wX rs:=by
   refine NF e2 ?_;rw[e3,bg];rw[eo,bg]at o2;exact o2
  refine⟨.ref (s.heap.objs.size+1),_,I.laid (t':=s.toks) o3 (cO _) (show qW X.prog X.w _ h' _ (.lst (qs.map V.ref)) from ⟨?_,out,n',?_,o4⟩),rfl,q _ qs hp hq (by rw[←es];exact e1.same (yW hp))⟩
  .rw [lMq,hq.length_eq];simpa using hz
  .rw [eo];exact En qs
def wW(r:List Int):PyData:=.list (r.map PyData.int)
def AW(rs:List (List Int)):PyData:=.list (rs.map wW)
theorem BR:∀rs:List (List Int),PyData.canLayAll0 (rs.map wW)=true
 | []=>by simp[PyData.canLayAll0]
 |r::rs=>by simp[PyData.canLayAll0,wW,PyData.canLay0,W.canLayAll0_ints r,BR rs]
theorem Ct:∀rs:List (List Int),PyData.depthAll (rs.map wW)<=3
 | []=>by simp[PyData.depthAll]
 |r::rs=>by
  have h1:=Ct rs;have h2:=W.depthAll_ints r;simp only[au,PyData.depthAll,wW,PyData.depth];lia
theorem BK(rs:List (List Int)):SeqAt.shaped (AW rs)=true:=by
 have h1:=Ct rs;have h2:PyData.depth (AW rs)<=64:=by simp only[AW,PyData.depth];lia
 show (PyData.canLay0 (AW rs) && decide (PyData.depth (AW rs)<=64))=true;rw[fV];exact⟨by simp only[AW,PyData.canLay0];exact BR rs,decide_eq_true h2⟩
theorem Di:∀rs ts:List (List Int),SeqAt.noMixAll (rs.map wW) (ts.map wW)=true
 | [],[]=>by simp[SeqAt.noMixAll]
 | [],_::_=>by simp[SeqAt.noMixAll]
 |_::_,[]=>by simp[SeqAt.noMixAll]
 |r::rs,t::ts=>by simp[SeqAt.noMixAll,wW,SeqAt.noMix,W.noMix_ints r t,Di rs ts]
theorem Ew:∀rs ts:List (List Int),PySem.Spec.sameAll (rs.map wW) (ts.map wW)=decide (rs=ts)
 | [],[]=>by simp[PySem.Spec.sameAll]
 | [],_::_=>by simp[PySem.Spec.sameAll]
 |_::_,[]=>by simp[PySem.Spec.sameAll]
 |r::rs,t::ts=>by
  simp only[au,PySem.Spec.sameAll,wW,PySem.Spec.same,W.same_ints r t];rw[Ew rs ts]
  by_cases h:r=t <;> simp[h]
end
end Mr
namespace Mr
open PySem L2
structure Bt (mg:Str->Option Value):Prop where
 len:mg "len" = none
 min:mg "min" = none
 max:mg "max" = none
 abs:mg "abs" = none
 all:mg "all" = none
 sorted:mg "sorted" = none
 isi:mg "isinstance" = none
 list:mg "list" = none
 int:mg "int" = none
 bool:mg "bool" = none
 str:mg "str" = none
 dict:mg "dict" = none
 zip:mg "zip" = none
 enum:mg "enumerate" = none
 range:mg "range" = none
 reversed:mg "reversed" = none
structure Fn (P:kf) (w:ki) (K:W.Frag) (mg:Str->Option Value) (base:Heap) (k:Nat) (x:Str) (st:Stmt) (ps:List Str) (sp:Sp) (f:Addr) (fd:kA):Prop where
 D:Cd K mg x st ps f fd
 ok:BS P w K mg base Vi k f fd ps sp
theorem xj.units65{k:Nat}{A:Around}(r:xj k A):A.units+65<lF:=by have:=r.un;lia
section
variable {X:Cx}{k:Nat}{f:Addr}{fd:kA}{ps:List Str}{sp:Sp}{x:Str}{p pos:Pos}{e:Expr}{es:List Expr}{t:TA}{st:Stmt}
theorem qU(G:Fn X.prog X.w X.K X.mg X.base k x st ps sp f fd) (hr:xj k X.A) (ha:PA X (e::es) t) (hg:Gl X x:=by rfl) (hdb:(x == ("__debug__" : Str))=false:=by decide)
  (he:ko (e::es) X.env=(false,eval e X.env)::ko es X.env:=by rfl) (hpl:(kZ pos (ko es X.env)).any (·.1)=false:=by rfl) :
  PE X (.Call (.Name x p) (e::es) [] pos) (Kf sp [] E0 t):=Sb G.ok hr hg G.D.m G.D.F.kp G.D.b .nil Xi ha hdb he hpl
end
section
variable (K:W.Frag)
def TN(i:Int):Bool:=decide (i≠0) && decide ((if i<0 then -i else i)<10 ^ 60)
def JT:Sp:=λvs H Q _=>∃(a:Addr) (ns:List Int),vs=[.ref a]/\sS K H a (ns.map V.int)/\ns.length<=63/\∀H',Q (.bl true) H'
end
theorem qK{α:Type}{l:List α}{i:Nat}{x:α}(h:l[i]?=some x):l.take (i+1)=l.take i++[x]:=by
 rw[cB,h];rfl
end Mr
namespace Xe
open PySem PySem.Spec PySem.W PyProof.Rows L2 Mr
abbrev Zr(K:Frag) (C:Addr):Bool:=findIn K (.ref C) "__setattr__" == some (some (.builtin "object.__setattr__")) && findIn K (.ref C) "__getattribute__" == some (some (.builtin "BaseException.__getattribute__")) &&
 findIn K (.ref C) "__getattr__" == some none && findIn K (.ref C) "__class__" == some (some (.builtin "object.__class__"))
def T1(K:Frag) (c:Str) (C:Addr) (bm:List Value):Bool:=match K.lookup C with
 |some ⟨.type "type", _,.cls cd,sl⟩=>(match sl.toList with
  | [_,_,_,_,some (.builtin n),_]=>cd.name == c && cd.mro == .ref C::bm && n == "ValueError.__new__" && !cd.hasDel && cd.hasDict && tailIn K XD bm
  |_=>false)
 |_=>false
structure Yy (K:Frag) (c:Str) (C M:Addr):Prop where
 nm:nsIn K kg c=some (some (.ref C))
 nmM:nsIn K kg "MapError" = some (some (.ref M))
 xc:T1 K c C (.ref M::XD)=true
 xm:T1 K "MapError" M XD=true
 lk:Zr K C=true
def Zh(K:Frag) (c:Str) (C:Addr):Prop:=nsIn K kg c=some (some (.ref C))/\((∃M,Yy K c C M)∨(c = "MapError" /\ T1 K "MapError" C XD=true))
def YS(e C:Addr) (od:Option Addr):HO:=.ext λh=>∃o vs,h.get? e=some o/\o.cls = .ref C/\o.dict=od/\o.data = .fields vs
section
variable {X:Cx}
theorem MR{kvs:List (oU×V)}{vs:List (oU×Value)}(r:KV kvs vs):∀{i:Nat}{p:oU×V},kvs[i]?=some p->∃u,vs[i]?=some (p.1,u)/\qp p.2 u:=by
 induction r with
 |nil=>intro i p h;simp at h
 | @cons a b _ _ r t ih =>
  intro i p h;cases i with
  |zero=>simp at h;subst h;exact⟨b.2,by simp[r.1],r.2⟩
  |succ i=>obtain⟨u,g1,g2⟩:=ih (by simpa using h);exact⟨u,by simpa using g1,g2⟩
end
end Xe
namespace Xe
open PySem
end Xe
namespace Xe
open PySem PySem.Spec PySem.W PyProof.Rows L2 Mr
end Xe
namespace Xe
open PySem
end Xe
namespace Xe
open PySem PySem.Spec PySem.W PyProof.Rows L2 Mr
end Xe
namespace PySem.SCG
open PySem Builtin Builtin.Str
end PySem.SCG
namespace Mr
open PySem PySem.Spec PyProof.Rows L2
section
variable {X:Cx}
theorem GO:∀{bs:List Bool}{us:List Value},pY (bs.map V.bl) us->us=bs.map gJ
 | [],us,r=>by cases r;rfl
 |b::bs,us,r=>by
  cases r with
  |cons r1 r2=>rw[GO r2];cases r1;rfl
theorem GP(hc:X.calm=true):yw X (.builtin "all") (λxs H Q=>∃(a:Addr) (bs:List Bool),xs=[.ref a]/\sS X.K H a (bs.map V.bl)/\Q (.bl (bs.all id)) H):=by
 intro ou s σ H xs us Q I r h;obtain⟨a,bs,rfl,hS,q⟩:=h;obtain⟨u,rfl,ru⟩:=yO r;cases ru;obtain⟨its,rv,p,hz⟩:=I.list hS;obtain rfl:=GO rv;have hl:=p.isList;have hlt:a<s.heap.objs.size:=by obtain⟨_,e,_⟩:=hl;exact ao e
 refine call_all_walk (mD hl ?_);refine⟨s.heap.objs.size,[s.heap.objs.size,a],[s.heap.objs.size],(bs.map gJ).toArray.size,_,_,λi=>(bs[i]?).getD true,rfl,Walks.list (A:=X.A.in1) (I.ok.hd hc) _ a (aE hlt) _,⟨⟨_,aX _ rfl,rfl,rfl⟩,hl.push _⟩,λi v s' Q' E' hP hQ=>?_,λh' tk hk=>?_⟩
 .have e:(bs.map gJ)[i]?=some v:=by simpa using hP
  rw[gMq]at e;cases hb:bs[i]? with
  |none=>rw[hb]at e;cases e
  |some b =>
   rw[hb]at e;cases e;simp only[hb,gg]at hQ;exact kH hQ
 .have e:((bN (bs.map gJ).toArray.size).all λi=>(bs[i]?).getD true)=bs.all id:=by
   rw[aG,lMq,bI,ip,ip];constructor
   .intro z b hb;obtain⟨i,hi,rfl⟩:=List.getElem_of_mem hb;have:=z i (bW.mpr hi);simpa [gEg hi] using this
   .intro z i hi;have hi':=bW.mp hi;have:=z bs[i] (gRq hi');simpa [gEg hi'] using this
  rw[e];refine⟨.bl _,H,I.kept (t':=tk) λb ob z=>hk b ob (λm=>?_) (ak _ z),rfl,q⟩
  rw[mSq.mp m]at z;exact dZ _ (ao z)
end
end Mr
namespace Mr
open PySem PyProof.Rows L2
section
variable {X:Cx}
def O3(_ j:Int):Prop:=0<j/\j.natAbs.log2<9000
theorem Nd:DU X (lz .FloorDiv) (rI O3 λi j=>.int (i / j)):=WQ λi j _ _ _ _ _ hc q=>by
 have h1:(0:Int)<j:=hc.1;exact floordiv_int (by lia) (by rw[gT i (by lia)];exact q) (.inl (PyProof.noPylong_of_log2 hc.2))
end
end Mr
namespace Mr
open PySem L2
end Mr
namespace Mr
open PySem PySem.Calls PySem.Spec PyProof.Rows L2
end Mr
namespace MrS
open PySem PySem.W PyProof.Rows
section
variable {prog:kf}{w:ki}{A:Around}{E:Value->Shared->Prop}{s:Shared}{Pk:jV->Prop}{lt:jV->jV->Bool}{T:String}{r d:Addr}{n:Nat}{P:Nat->Value->Prop}{OK:Heap->Prop}
theorem FI{Q:List Value->Shared->Prop}(K:KdlSrc prog w T r d n P OK) (hh:A.handled=none) (hok:OK s.heap) (hn:n<=ke)
  (h:∀h' tk (acc:Array Value),(∀b o,s.heap.get? b=some o->h'.get? b=some o)->s.heap.objs.size<h'.objs.size->ItemsOf P acc n->Q acc.toList { s with heap:=h',toks:=tk }) :
  kc (jY prog w) A (collect (.ref r)) Q E s:=by
 unfold collect;refine jU (wpAny_runValue (ku entry_proto_collect' ?_));show kc _ _ (do again (.builtin "list.__iadd__" ⟨[←newList [],.ref r],[]⟩)) _ _ s
 refine jU (mB (jX ⟨Code.quiet_builtin _ (by decide +kernel),ku entry_list_iadd' ?_⟩))
 show kc _ _ (Builtin.List.listExtendWith (.ref s.heap.objs.size) (.ref r) (.ref s.heap.objs.size)) _ _ { s with heap:=s.heap.push (kq "list" #[] 0) }
 have hlt:=K.there _ hok;have hS0:(s.heap.push (kq "list" #[] 0)).get? s.heap.objs.size=some (kq "list" #[] 0):=aX _ rfl;refine kdl_extend (A:=A) (R:=λr s'=>match r with
   | .ok (.ret v)=>kc (jY prog w) A (match v with
    | .ref a=>do
     let o ←load a
     match o.data with
     | .seq xs _=>pure xs.toList
     |_=>lK "internal:collect"
    |_=>lK "internal:collect") Q E s'
   | .ok _=>False
   | .error e=>E e s') (s:={ s with heap:=s.heap.push (kq "list" #[] 0) }) K hh (K.keep _ _ hok λb _ o e=>ak _ e) s.heap.objs.size (cD hlt.1) (cD hlt.2) (.ref s.heap.objs.size) 0 hS0 (λh' tk acc c hk hS hi=>?_) hn
 show kc (jY prog w) A (do
   let o ←load s.heap.objs.size
   match o.data with
   | .seq xs _=>pure xs.toList
   |_=>lK "internal:collect") Q E { s with heap:=h',toks:=tk }
 refine jU (wpAny_load hS ?_);exact jX (h h' tk acc (λb o e=>hk b o (aE (ao e)) (ak _ e)) (ao hS) hi)
theorem Iq{Q:Value->Shared->Prop}(K:KdlSrc prog w T r d n P OK) (hh:A.handled=none) (hok:OK s.heap) (hn:n<=ke)
  (hC:∀(vs:List Value),vs.length=n->(∀j v,vs[j]?=some v->P j v)->∀s':Shared,(2<=vs.length->∀Q:kG->Shared->Prop,Q kX s'->kc (jY prog w) A.in1.in1 (keyKind' vs.toArray) Q E s')/\zg prog w A.in1.in1 s' kX Pk lt/\∀v∈vs,Pk (v,v))
  (h:∀(vs out:List Value) (h':Heap) (p:Addr) (tk n':Nat),vs.length=n->(∀j v,vs[j]?=some v->P j v)->out.Perm vs->out.Pairwise (λx y=>lt (y,y) (x,x)=false)->(∀b o,s.heap.get? b=some o->h'.get? b=some o)->s.heap.objs.size<=p ->
   h'.get? p=some (kq "list" out.toArray n')->Q (.ref p) { s with heap:=h',toks:=tk }) :
  kc (jY prog w) A (call (.builtin "sorted") [.ref r]) Q E s:=by
 refine Calls.call_function_entry kind_sorted plain_sorted entry_sorted (args_sorted1 _) ?_;unfold Builtin.«sorted»;refine jU (m:=checkCount "sorted" 1 1 _) (jX ?_);refine jU (FI K hh hok hn λh0 tk acc hk0 hsz0 hi=>?_)
 have hl:acc.toList.length=n:=by rw[ax];exact hi.1
 have hP:∀j v,acc.toList[j]?=some v->P j v:=λj v e=>hi.2 j v (by rw[←az];exact e)
 have hs:acc.toList.length<=ke:=by rw[hl];exact hn
 generalize acc.toList=vs at hl hP hs;refine jU (mB ?_ hs);have hoL:(h0.push (kq "list" vs.toArray 0)).get? h0.objs.size=some (kq "list" vs.toArray 0):=aX _ rfl;show kc _ _ _ _ _ { s with heap:=h0.push (kq "list" vs.toArray 0),toks:=tk }
 have hsz:s.heap.objs.size<=h0.objs.size:=cS hsz0;have k1:∀b o,s.heap.get? b=some o->(h0.push (kq "list" vs.toArray 0)).get? b=some o:=λb o e=>ak _ (hk0 b o e)
 have hlt:∀b o,s.heap.get? b=some o->b≠h0.objs.size:=λb o e=>aE (ao (hk0 b o e))
 generalize h0.push (kq "list" vs.toArray 0)=G at hoL k1 ⊢
 clear hsz0
 generalize h0.objs.size=p at hoL hsz hlt ⊢;have k2:∀b o,s.heap.get? b=some o->(uT G p vs).get? b=some o:=λb o e=>by
  refine ak _ (ak _ ?_);rw[eK _ _ _ _ (hlt b o e)];exact k1 b o e
 obtain⟨q1,q2,q3⟩:=hC vs hl hP { s with heap:=uT G p vs,toks:=tk }
 refine jU (kr (lU slot_list_sort ⟨_,hoL,rfl⟩ entry_list_sort (zA (s:={ s with heap:=G,toks:=tk }) (Pk:=Pk) (lt:=lt) hoL hs q1 q2 (λx hx=>?_) λxs a1 a2=>⟨_,rfl,?_⟩) (args_list_sort _)))
 .obtain ⟨m1,m2⟩:=wx hx;have:x=(x.1,x.1):=jy rfl m2;rw[this];exact q3 _ m1
 .obtain ⟨v1,v2⟩:=BH a1 a2;obtain⟨e1,ho1⟩:=Jr vs hoL;obtain⟨n1,g1⟩:=J6 (xs.map (·.2)) ho1;refine jX ⟨_,rfl,h vs _ (mG G p vs (xs.map (·.2))) p tk n1 hl hP v1 v2 (λb o e=>?_) hsz ?_⟩
  .unfold mG;rw[eK _ _ _ _ (hlt b o e)];exact k2 b o e
  .rw [show (xs.map (·.2)).toList.toArray=xs.map (·.2) from iR]
   exact g1
end
end MrS
namespace Mr
open PySem PySem.W PySem.Spec PyProof.Rows L2
section
variable {X:Cx}
theorem Kn:∀{us:List Value}{ns:List Int},us.length=ns.length->(∀(j:Nat) (v:Value) (n:Int),us[j]?=some v->ns[j]?=some n->∃t,v=gV n t)->kz us ns
 | [],[],_,_=>.nil
 | [],_::_,h,_=>by simp at h
 |_::_,[],h,_=>by simp at h
 |u::us,n::ns,h,g=>by
  obtain⟨t,rfl⟩:=g 0 u n rfl rfl;exact .cons n t (Kn (by simpa using h) λj v m e1 e2=>g (j+1) v m (by simpa using e1) (by simpa using e2))
theorem Sx:∀{kvs:List (oU×V)}{ws:List (oU×Value)},KV kvs ws->kvs.map (·.1)=ws.map (·.1):=λ{kvs ws} r=>by
 induction r with
 |nil=>rfl
 |cons a b ih=>rw[au,au,ih,a.1]
theorem Fw(hc:X.calm=true):yw X (.builtin "sorted") (λxs H Q=>∃(a:Addr) (kvs:List (oU×V)) (ns:List Int),xs=[.ref a]/\H a=some (.dK kvs)/\kvs.map (·.1)=ns.map aH/\∀p,H p=none->Q (.ref p) (qP H p (.lst ((qH ns).map V.int)))):=by
 intro ou s σ H xs us Q I r h;obtain⟨a,kvs,ns,rfl,ha,hk,q⟩:=h;obtain⟨u,rfl,ru⟩:=yO r;cases ru;obtain⟨hz,sa,vs,kv,d⟩:=(show qW X.prog X.w H s.heap a (.dK kvs) from I.hok a _ ha)
 obtain⟨ep,da⟩:=d.dictAt;have hl:=Paired.length kv;have hlen:ns.length=vs.length:=by
  have:=congrArg cm hk;rw[lMq,lMq]at this;rw[←this,hl]
 have hkv:vs.map (·.1)=ns.map aH:=by rw[←Sx kv,hk]
 have hI:∀us:List Value,us.length=vs.length->(∀(j:Nat) (v:Value),us[j]?=some v->∃k x,vs[j]?=some (k,x)/\(qv X.prog X.w).is k v=true)->kz us ns:=λus h1 h2=>Kn (by rw[h1,hlen]) λj v m e1 e2=>by
  obtain⟨k,x,g1,g2⟩:=h2 j v e1;have e3:(vs.map (·.1))[j]?=some k:=by rw[gMq,g1];rfl
  rw[hkv,gMq,e2]at e3;have e4:(aH m:oU)=k:=by simpa using e3
  subst e4;rcases qF (k:=aH m) (v:=v) g2 with ⟨i,t,e5,e6⟩|⟨z,t,e5,_⟩
  .cases e5;exact⟨t,e6⟩
  .cases e5
 refine MrS.Iq (kdl_dict (knd:=qv X.prog X.w) (d:=a) (kvs:=vs) (ep:=ep) sa) (I.ok.hd hc) da (by rw[←hl];exact hz) (Pk:=λx:jV=>∃a t,x.1=gV a t) (lt:=YD) (λus h1 h2 s'=>⟨λh3 Q q=>?_,Xa _ _ _ _,λv m=>(ET (hI us h1 h2)).2 v m⟩) λus out h' p tk n' h1 h2 o1 o2 o3 op o4=>?_
 .have hi:=hI us h1 h2
  match us,hi,h3 with
  | [],_,h3=>simp at h3
  | [_],_,h3=>simp at h3
  |v₁::v₂::rest,hi,_ =>
   rw[keyKind_ints hi];exact jX q
 .obtain ⟨en,hv⟩:=ET (hI us h1 h2);have ho:∀v∈out,∃a t,v = .int a t:=λv m=>hv v (o1.mem_iff.mp m)
  have e:out.map intOf=qH ns:=by
   refine za (by rw[en];exact o1.map _) ?_
   rw[bg];refine o2.imp_of_mem λ{x y} mx my h=>?_
   obtain⟨a,t,rfl⟩:=ho x mx;obtain⟨b,u,rfl⟩:=ho y my;have h':¬ b<a:=of_decide_eq_false h;show a<=b;lia
  have hp:H p=none:=I.hok.fresh op;refine⟨.ref p,_,I.laid (t':=tk) o3 op (show qW X.prog X.w _ h' _ (.lst ((qH ns).map V.int)) from ⟨?_,out,n',?_,o4⟩),rfl,q _ hp⟩
  .rw [lMq,(qC ns).length_eq,hlen,←hl];exact hz
  .rw [←e];exact vals_ints ho
end
end Mr
namespace Z
open PySem L2 Mr
abbrev St:=L2.St
inductive D where
 |non|bl (b:Bool)|int (i:Int)|str (x:Str)|ty (n:String)|list (xs:List D)|tup (xs:List D)|dict (kvs:List (oU×D))|scr (ns:List Int)|exc (c:Str) (fs:List (Str×Int))|cls (c:Str)|fd (kvs:List (oU×D))|ins (c:Str) (fs:List (Str×D))
inductive rS (K:W.Frag) (H:Hp):D->V->Prop
 |non:rS K H .non .non
 |bl {b:Bool}:rS K H (.bl b) (.bl b)
 |int {i:Int}:rS K H (.int i) (.int i)
 |str {x:Str}:rS K H (.str x) (.str x)
 |ty {n:String}:rS K H (.ty n) (.ty n)
 |list {p:Addr}{vs:List V}{ds:List D}(h:H p=some (.lst vs)) (l:ds.length=vs.length) (e:∀(i:Nat) (d:D) (v:V),ds[i]?=some d->vs[i]?=some v->rS K H d v):rS K H (.list ds) (.ref p)
 |tup {p:Addr}{vs:List V}{ds:List D}(h:H p=some (.tup vs)) (l:ds.length=vs.length) (e:∀(i:Nat) (d:D) (v:V),ds[i]?=some d->vs[i]?=some v->rS K H d v):rS K H (.tup ds) (.ref p)
 |dict {p:Addr}{kvs:List (oU×V)}{ds:List (oU×D)}(h:H p=some (.dK kvs)) (l:ds.map (·.1)=kvs.map (·.1)) (e:∀(i:Nat) (d:oU×D) (v:oU×V),ds[i]?=some d->kvs[i]?=some v->rS K H d.2 v.2):rS K H (.dict ds) (.ref p)
 |scr {p:Addr}{ns:List Int}(h:sS K H p (ns.map V.int)):rS K H (.scr ns) (.ref p)
 |exc {c:Str}{fs:List (Str×Int)}{e C M dx:Addr}(rf:Xe.Yy K c C M) (nf:∀p∈fs,W.findIn K (.ref C) p.1=some none) (h:H e=some (Xe.YS e C (some dx))) (hx:H dx=some (.xd (fs.map λp=>(p.1,V.int p.2)))):rS K H (.exc c fs) (.ref e)
 |exc0 {c:Str}{e C M:Addr}(rf:Xe.Yy K c C M) (h:H e=some (Xe.YS e C none)):rS K H (.exc c []) (.ref e)
 |cls {c:Str}{C:Addr}(h:Xe.Zh K c C):rS K H (.cls c) (.ref C)
 |fd {p:Addr}{o:Obj}{kvs:List (oU×V)}{ds:List (oU×D)}(h:H p=some (.frz o (.dK kvs))) (l:ds.map (·.1)=kvs.map (·.1)) (e:∀(i:Nat) (d:oU×D) (v:oU×V),ds[i]?=some d->kvs[i]?=some v->rS K H d.2 v.2):rS K H (.fd ds) (.ref p)
 |ins {c:Str}{a C dx:Addr}{gs:List (Str×V)}{fs:List (Str×D)}(rf:W.nsIn K kg c=some (some (.ref C))) (h:H a=some (.ins C dx gs)) (l:fs.map (·.1)=gs.map (·.1)) (e:∀(i:Nat) (d:Str×D) (v:Str×V),fs[i]?=some d->gs[i]?=some v->rS K H d.2 v.2):rS K H (.ins c fs) (.ref a)
def qr(K:W.Frag) (H:Hp) (ds:List D) (vs:List V):Prop:=ds.length=vs.length/\∀(i:Nat) (d:D) (v:V),ds[i]?=some d->vs[i]?=some v->rS K H d v
def tN(K:W.Frag) (H:Hp) (ds:List (oU×D)) (kvs:List (oU×V)):Prop:=ds.map (·.1)=kvs.map (·.1)/\∀(i:Nat) (d:oU×D) (v:oU×V),ds[i]?=some d->kvs[i]?=some v->rS K H d.2 v.2
section
variable {K:W.Frag}{H H':Hp}
theorem rS.mono{d:D}{v:V}(h:rS K H d v) (s:qh H H'):rS K H' d v:=by
 induction h with
 |non=>exact .non
 |bl=>exact .bl
 |int=>exact .int
 |str=>exact .str
 |ty=>exact .ty
 |list h l _ ih=>exact .list (s _ _ h) l ih
 |tup h l _ ih=>exact .tup (s _ _ h) l ih
 |dict h l _ ih=>exact .dict (s _ _ h) l ih
 |scr h=>exact .scr (s.seq h)
 |exc rf nf h hx=>exact .exc rf nf (s _ _ h) (s _ _ hx)
 |exc0 rf h=>exact .exc0 rf (s _ _ h)
 |cls h=>exact .cls h
 |fd h l _ ih=>exact .fd (s _ _ h) l ih
 |ins rf h l _ ih=>exact .ins rf (s _ _ h) l ih
theorem qr.mono{ds:List D}{vs:List V}(h:qr K H ds vs) (s:qh H H'):qr K H' ds vs:=⟨h.1,λi d v a b=>(h.2 i d v a b).mono s⟩
theorem tN.mono{ds:List (oU×D)}{vs:List (oU×V)}(h:tN K H ds vs) (s:qh H H'):tN K H' ds vs:=⟨h.1,λi d v a b=>(h.2 i d v a b).mono s⟩
theorem qr.nil:qr K H [] []:=⟨rfl,λi d v a=>by simp at a⟩
theorem qr.cons{d:D}{v:V}{ds:List D}{vs:List V}(h:rS K H d v) (t:qr K H ds vs):qr K H (d::ds) (v::vs):=⟨by simp[t.1],λi e w a b=>by
 cases i with
 |zero =>
  simp at a b;subst a b;exact h
 |succ i=>exact t.2 i e w (by simpa using a) (by simpa using b)⟩
theorem qr.cons_iff{d:D}{v:V}{ds:List D}{vs:List V}:qr K H (d::ds) (v::vs)↔rS K H d v/\qr K H ds vs :=
 ⟨λh=>⟨h.2 0 d v rfl rfl,by have:=h.1;simpa using this,λi e w a b=>h.2 (i+1) e w (by simpa using a) (by simpa using b)⟩,λh=>.cons h.1 h.2⟩
theorem qr.nil_inv{vs:List V}(h:qr K H [] vs):vs=[]:=by
 have:=h.1;cases vs with
 |nil=>rfl
 |cons _ _=>simp at this
theorem qr.cons_inv{d:D}{ds:List D}{vs:List V}(h:qr K H (d::ds) vs):∃v ws,vs=v::ws/\rS K H d v/\qr K H ds ws:=by
 cases vs with
 |nil=>have:=h.1;simp at this
 |cons v ws=>exact⟨v,ws,rfl,qr.cons_iff.mp h⟩
theorem qr.append:∀{ds es:List D}{vs ws:List V},qr K H ds vs->qr K H es ws->qr K H (ds++es) (vs++ws)
 | [],es,vs,ws,h,g=>by rw[h.nil_inv];exact g
 |d::ds,es,vs,ws,h,g=>by
  obtain⟨v,us,rfl,h1,h2⟩:=h.cons_inv;exact .cons h1 (qr.append h2 g)
theorem qr.take{ds:List D}{vs:List V}(h:qr K H ds vs) (n:Nat):qr K H (ds.take n) (vs.take n):=⟨by rw[lTq,lTq,h.1],λi d v a b=>by
 rw[jd]at a b;split at a
 .rename_i hi;rw[pN hi]at b;exact h.2 i d v a b
 .cases a⟩
theorem qr.drop{ds:List D}{vs:List V}(h:qr K H ds vs) (n:Nat):qr K H (ds.drop n) (vs.drop n):=⟨by rw[aR,aR,h.1],λi d v a b=>by
 rw[cZ]at a b;exact h.2 _ d v a b⟩
theorem qr.get{ds:List D}{vs:List V}(h:qr K H ds vs) {i:Nat}{d:D}(e:ds[i]?=some d):∃v,vs[i]?=some v/\rS K H d v:=by
 have hi:i<ds.length:=(gSq.mp e).1;have hj:i<vs.length:=h.1 ▸ hi;exact⟨vs[i],gEg hj,h.2 i d _ e (gEg hj)⟩
theorem qr.get'{ds:List D}{vs:List V}(h:qr K H ds vs) {i:Nat}{v:V}(e:vs[i]?=some v):∃d,ds[i]?=some d/\rS K H d v:=by
 have hi:i<vs.length:=(gSq.mp e).1;have hj:i<ds.length:=h.1.symm ▸ hi;exact⟨ds[i],gEg hj,h.2 i _ v (gEg hj) e⟩
theorem rS.list_inv{ds:List D}{v:V}(h:rS K H (.list ds) v):∃p vs,v = .ref p/\H p=some (.lst vs)/\qr K H ds vs:=by
 cases h with
 |list h l e=>exact⟨_,_,rfl,h,l,e⟩
theorem rS.tup_inv{ds:List D}{v:V}(h:rS K H (.tup ds) v):∃p vs,v = .ref p/\H p=some (.tup vs)/\qr K H ds vs:=by
 cases h with
 |tup h l e=>exact⟨_,_,rfl,h,l,e⟩
theorem rS.dict_inv{ds:List (oU×D)}{v:V}(h:rS K H (.dict ds) v):∃p kvs,v = .ref p/\H p=some (.dK kvs)/\tN K H ds kvs:=by
 cases h with
 |dict h l e=>exact⟨_,_,rfl,h,l,e⟩
theorem rS.mk_list{ds:List D}{p:Addr}{vs:List V}(h:H p=some (.lst vs)) (r:qr K H ds vs):rS K H (.list ds) (.ref p):=.list h r.1 r.2
theorem rS.mk_dict{ds:List (oU×D)}{p:Addr}{vs:List (oU×V)}(h:H p=some (.dK vs)) (r:tN K H ds vs):rS K H (.dict ds) (.ref p):=.dict h r.1 r.2
end
def D.scal:D->Bool
 | .non=>true
 | .bl _=>true
 | .int _=>true
 | .str _=>true
 | .ty _=>true
 |_=>false
theorem rS.scal{K:W.Frag}{H H':Hp}{d:D}{v:V}(h:rS K H d v) (s:d.scal=true):rS K H' d v:=by
 cases h with
 |non=>exact .non
 |bl=>exact .bl
 |int=>exact .int
 |str=>exact .str
 |ty=>exact .ty
 |_=>cases s
inductive AV where
 |sh (d:D)|ow (avs:List AV)|owd (kvs:List (oU×D))|owl (kvs:List (oU×List Int))
mutual
def oP:AV->D
 | .sh d=>d
 | .ow avs=>.list (Du avs)
 | .owd kvs=>.dict kvs
 | .owl kvs=>.dict (kvs.map λx=>(x.1,.list (x.2.map .int)))
def Du:List AV->List D
 | []=>[]
 |a::as=>oP a::Du as
end
theorem Eb:∀avs:List AV,Du avs=avs.map oP
 | []=>by simp[Du]
 |a::as=>by simp[Du,Eb as]
@[simp] theorem rq (d:D):oP (.sh d)=d:=by simp[oP]
@[simp] theorem qO (avs:List AV):oP (.ow avs) = .list (avs.map oP):=by simp[oP,Eb]
@[simp] theorem vz (kvs:List (oU×D)):oP (.owd kvs) = .dict kvs:=by simp[oP]
theorem Et(kvs:List (oU×List Int)):oP (.owl kvs) = .dict (kvs.map λx=>(x.1,.list (x.2.map .int))):=by simp[oP]
inductive pT (K:W.Frag) (Hf H:Hp):AV->V->List Addr->Prop
 |sh {d:D}{v:V}(r:rS K Hf d v):pT K Hf H (.sh d) v []
 |ow {p:Addr}{vs:List V}{avs:List AV}{Fs:List (List Addr)}(h:H p=some (.lst vs)) (n:Hf p=none) (l:avs.length=vs.length) (lf:avs.length=Fs.length)
   (e:∀(i:Nat) (a:AV) (v:V) (F:List Addr),avs[i]?=some a->vs[i]?=some v->Fs[i]?=some F->pT K Hf H a v F):pT K Hf H (.ow avs) (.ref p) (p::Fs.flatten)
 |owd {p:Addr}{kvs:List (oU×V)}{ds:List (oU×D)}(h:H p=some (.dK kvs)) (n:Hf p=none) (r:tN K Hf ds kvs):pT K Hf H (.owd ds) (.ref p) [p]
 |owl {p:Addr}{kvs:List (oU×List Int)}{qs:List Addr}(h:H p=some (.dK (bH (λx q=>(x.1,V.ref q)) kvs qs))) (n:Hf p=none) (l:kvs.length=qs.length) (e:∀(i:Nat) (q:Addr) (x:oU×List Int),qs[i]?=some q->kvs[i]?=some x->H q=some (.lst (x.2.map V.int))/\Hf q=none):pT K Hf H (.owl kvs) (.ref p) (p::qs)
theorem J1{K:W.Frag}{H:Hp}{p:Addr}{kvs:List (oU×List Int)}{qs:List Addr}(h:H p=some (.dK (bH (λx q=>(x.1,V.ref q)) kvs qs))) (l:kvs.length=qs.length) (e:∀(i:Nat) (q:Addr) (x:oU×List Int),qs[i]?=some q->kvs[i]?=some x->H q=some (.lst (x.2.map V.int))):rS K H (.dict (kvs.map λx=>(x.1,.list (x.2.map .int)))) (.ref p):=by
 refine .dict h ?_ λi d v h1 h2=>?_
 .refine dw λi=>?_
  rw[gMq,gMq,gMq,dS]
  by_cases c:i<kvs.length
  .rw [gEg c,gEg (l ▸ c)];rfl
  .rw [bc (jq c)];rfl
 .rw [gMq]at h1;rw[dS]at h2;cases hk:kvs[i]? with
  |none=>rw[hk]at h1;cases h1
  |some x =>
   cases hq:qs[i]? with
   |none=>rw[hk,hq]at h2;cases h2
   |some q =>
    rw[hk]at h1 h2;rw[hq]at h2;cases h1;cases h2;refine .list (e i q x hq hk) (by rw[lMq,lMq]) λj d v e1 e2=>?_
    rw[gMq]at e1 e2;cases hj:x.2[j]? with
    |none=>rw[hj]at e1;cases e1
    |some m =>
     rw[hj]at e1 e2;cases e1;cases e2;exact .int
theorem U9{kvs:List (oU×List Int)}{qs:List Addr}(l:kvs.length=qs.length) {q:Addr}(hq:q∈qs):∃(i:Nat) (x:oU×List Int),qs[i]?=some q/\kvs[i]?=some x:=by
 obtain⟨i,hi⟩:=ar.mp hq;have hl:=(gSq.mp hi).1;exact⟨i,_,hi,gEg (l ▸ hl)⟩
section
variable {K:W.Frag}{Hf Hf' H H':Hp}{av:AV}{v:V}{F:List Addr}
theorem pT.owned(h:pT K Hf H av v F):∀q∈F,H q≠none/\Hf q=none:=by
 induction h with
 |sh _=>intro q hq;cases hq
 | @ow p vs avs Fs h n l lf e ih =>
  intro q hq;rcases ae.mp hq with rfl|hq
  .exact ⟨by rw[h];simp,n⟩
  .obtain ⟨F,hF,hq⟩:=mFq.mp hq;obtain⟨i,hi,rfl⟩:=dg.mp hF;exact ih i avs[i] vs[i] Fs[i] (by simp) (by simp) (by simp) q hq
 |owd h n r =>
  intro q hq;have:=mSq.mp hq;subst this;exact⟨by rw[h];simp,n⟩
 |owl h n l e =>
  intro q hq;rcases ae.mp hq with z|z
  .rw [z];exact⟨by rw[h];simp,n⟩
  .obtain ⟨i,x,h1,h2⟩:=U9 l z;obtain⟨e1,e2⟩:=e i q x h1 h2;exact⟨by rw[e1];simp,e2⟩
theorem pT.keep(h:pT K Hf H av v F) (s:qh Hf Hf') (hk:∀q∈F,H' q=H q) (hn:∀q∈F,Hf' q=none):pT K Hf' H' av v F:=by
 induction h with
 |sh r=>exact .sh (r.mono s)
 | @ow p vs avs Fs h n l lf e ih =>
  refine .ow (by rw[hk p (by simp)];exact h) (hn p (by simp)) l lf λi a v F h1 h2 h3=>ih i a v F h1 h2 h3 (λq hq=>hk q ?_) λq hq=>hn q ?_
  all_goals exact mCo _ (mFq.mpr ⟨F,mGq h3,hq⟩)
 |owd h n r=>exact .owd (by rw[hk _ (by simp)];exact h) (hn _ (by simp)) (r.mono s)
 | @owl p kvs qs h n l e =>
  refine .owl (by rw[hk _ (ag ..)];exact h) (hn _ (ag ..)) l λi q x h1 h2=>?_
  have m:q∈p::qs:=mCo _ (mGq h1);exact⟨by rw[hk q m];exact(e i q x h1 h2).1,hn q m⟩
theorem pT.rep(h:pT K Hf H av v F) (s:qh Hf H):rS K H (oP av) v:=by
 induction h with
 |sh r=>rw[rq];exact r.mono s
 | @ow p vs avs Fs h n l lf e ih =>
  rw[qO];refine .list h (by simp[l]) λi d v h1 h2=>?_
  rw[gMq]at h1;cases ea:avs[i]? with
  |none=>rw[ea]at h1;cases h1
  |some a =>
   rw[ea]at h1;cases h1;have hi:i<Fs.length:=lf ▸ (gSq.mp ea).1;exact ih i a v Fs[i] ea h2 (gEg hi)
 |owd h n r=>rw[vz];exact .mk_dict h (r.mono s)
 |owl h n l e=>rw[Et];exact J1 h l λi q x h1 h2=>(e i q x h1 h2).1
def frz(Hf H:Hp) (F:List Addr):Hp:=λb=>if b∈F then H b else Hf b
theorem zN{b:Addr}(h:b∈F):frz Hf H F b=H b:=pN h
theorem uw{b:Addr}(h:b∉F):frz Hf H F b=Hf b:=pJ h
theorem sJ(h:∀q∈F,Hf q=none):qh Hf (frz Hf H F):=λb o e=>by
 rw[uw λm=>by rw[h b m]at e;cases e]
 exact e
theorem Sq(s:qh Hf H):qh (frz Hf H F) H:=λb o e=>by
 by_cases m:b∈F
 .rw [zN m]at e;exact e
 .rw [uw m]at e;exact s b o e
theorem pT.frozen(h:pT K Hf H av v F) (s:qh Hf Hf') (hk:∀q∈F,Hf' q=H q):rS K Hf' (oP av) v:=by
 induction h with
 |sh r=>rw[rq];exact r.mono s
 | @ow p vs avs Fs h n l lf e ih =>
  rw[qO];refine .list (by rw[hk p (by simp)];exact h) (by simp[l]) λi d v h1 h2=>?_
  rw[gMq]at h1;cases ea:avs[i]? with
  |none=>rw[ea]at h1;cases h1
  |some a =>
   rw[ea]at h1;cases h1;have hi:i<Fs.length:=lf ▸ (gSq.mp ea).1;exact ih i a v Fs[i] ea h2 (gEg hi) λq hq=>hk q (mCo _ (mFq.mpr ⟨Fs[i],gRq hi,hq⟩))
 |owd h n r=>rw[vz];exact .mk_dict (by rw[hk _ (by simp)];exact h) (r.mono s)
 |owl h n l e=>rw[Et];exact J1 (by rw[hk _ (ag ..)];exact h) l λi q x h1 h2=>by rw[hk q (mCo _ (mGq h1))];exact(e i q x h1 h2).1
end
abbrev AS:=List (Option AV)
structure qf (K:W.Frag) (H₀ Hf₀ Hf:Hp) (S:AS) (σ:St) (H:Hp) (Fs:List (List Addr)):Prop where
 len:S.length=σ.length
 lenF:Fs.length=S.length
 rep:∀(i:Nat) (av:AV),S[i]?=some (some av)->∃v F,σ[i]?=some (some v)/\Fs[i]?=some F/\pT K Hf H av v F
 emp:∀i:Nat,S[i]?=some none->Fs[i]?=some []
 nd:Fs.flatten.Nodup
 fresh:∀p∈Fs.flatten,H₀ p=none
 sub:qh Hf H
 fr:qh H₀ H
 lim:∀b,Hf₀ b=none->H₀ b≠none->Hf b=none
 sf:qh Hf₀ Hf
structure zb (Hf H:Hp) (Fs:List (List Addr)) (Hf' H':Hp) (Fs':List (List Addr)):Prop where
 sf:qh Hf Hf'
 sh:qh H H'
 own:∀p∈Fs'.flatten,p∈Fs.flatten
 gr:∀b,Hf b=none->Hf' b≠none->H b=none∨b∈Fs.flatten
theorem zb.refl{Hf H:Hp}{Fs:List (List Addr)}:zb Hf H Fs Hf H Fs:=⟨.refl _,.refl _,λ_ h=>h,λb h g=>absurd h g⟩
theorem QK{H H':Hp}(s:qh H H') {b:Addr}(h:H b≠none):H' b≠none:=by
 cases e:H b with
 |none=>exact absurd e h
 |some o=>rw[s b o e];simp
theorem zb.trans{Hf H Hf1 H1 Hf2 H2:Hp}{Fs Fs1 Fs2:List (List Addr)}(a:zb Hf H Fs Hf1 H1 Fs1) (b:zb Hf1 H1 Fs1 Hf2 H2 Fs2):zb Hf H Fs Hf2 H2 Fs2 :=
 ⟨a.sf.trans b.sf,a.sh.trans b.sh,λp h=>a.own p (b.own p h),λc h g=>by
  by_cases e:Hf1 c=none
  .rcases b.gr c e g with q|q
   .exact .inl (a.sh.free q)
   .exact .inr (a.own c q)
  .exact a.gr c h e⟩
section
variable {K:W.Frag}{H₀ Hf₀ Hf Hf' H H':Hp}{S:AS}{σ:St}{Fs Fs':List (List Addr)}
theorem J8{b:Addr}(s:qh H H') (h:H b≠none):H' b=H b:=by
 cases e:H b with
 |none=>exact absurd e h
 |some o=>exact s b o e
theorem qf.mem(R:qf K H₀ Hf₀ Hf S σ H Fs) {q:Addr}(h:q∈Fs.flatten):H q≠none/\Hf q=none:=by
 obtain⟨F,hF,hq⟩:=mFq.mp h;obtain⟨i,hi,rfl⟩:=dg.mp hF;have hiS:i<S.length:=R.lenF ▸ hi;cases e:S[i] with
 |none =>
  have:=R.emp i (by rw[gEg hiS,e])
  rw[gEg hi]at this;rw[aD.inj this]at hq;cases hq
 |some av =>
  obtain⟨v,F,_,e2,r⟩:=R.rep i av (by rw[gEg hiS,e])
  rw[gEg hi]at e2;rw[aD.inj e2]at hq;exact r.owned q hq
theorem qf.more(R:qf K H₀ Hf₀ Hf S σ H Fs) (s:qh H H') (sf:qh Hf Hf') (sub:qh Hf' H') (hn:∀q∈Fs.flatten,Hf' q=none) (lim:∀b,Hf₀ b=none->H₀ b≠none->Hf' b=none):qf K H₀ Hf₀ Hf' S σ H' Fs where
 len:=R.len
 lenF:=R.lenF
 rep:=λi av e=>by
  obtain⟨v,F,e1,e2,r⟩:=R.rep i av e;refine⟨v,F,e1,e2,r.keep sf (λq hq=>J8 s (r.owned q hq).1) λq hq=>hn q (mFq.mpr ⟨F,mGq e2,hq⟩)⟩
 emp:=R.emp
 nd:=R.nd
 fresh:=R.fresh
 sub:=sub
 fr:=R.fr.trans s
 lim:=lim
 sf:=R.sf.trans sf
theorem qf.laid(R:qf K H₀ Hf₀ Hf S σ H Fs) (s:qh H H'):qf K H₀ Hf₀ Hf S σ H' Fs:=R.more s (.refl _) (R.sub.trans s) (λq h=>(R.mem h).2) R.lim
theorem sC{F:List Addr}{i:Nat}{p:Addr}(h:p∈(Fs.set i F).flatten):p∈F∨p∈Fs.flatten:=by
 obtain⟨G,hG,hp⟩:=mFq.mp h;rcases cT hG with q|q
 .exact .inr (mFq.mpr ⟨G,q,hp⟩)
 .subst q;exact .inl hp
theorem si:∀{Fs:List (List Addr)}{F:List Addr}(i:Nat),Fs.flatten.Nodup->F.Nodup->(∀p∈F,p∉Fs.flatten)->(Fs.set i F).flatten.Nodup
 | [],F,i,h,_,_=>by simp
 |G::Gs,F,0,h,hF,hd=>by
  rw[cG,fCq,nAq];rw[fCq,nAq]at h;refine⟨hF,h.2.1,λa ha b hb e=>hd a ha ?_⟩
  rw[fCq];exact aj _ (e ▸ hb)
 |G::Gs,F,i+1,h,hF,hd=>by
  rw[cH,fCq,nAq];rw[fCq,nAq]at h;refine⟨h.1,si i h.2.1 hF λp hp m=>hd p hp (by rw[fCq];exact aj _ m),λa ha b hb e=>?_⟩
  rcases sC hb with q|q
  .exact hd b q (by rw[fCq];exact aw _ (e ▸ ha))
  .exact h.2.2 a ha b q e
theorem qf.set(R:qf K H₀ Hf₀ Hf S σ H Fs) {av:AV}{v:V}{F:List Addr}(i:Nat) (r:pT K Hf H av v F) (nd:F.Nodup) (hf:∀q∈F,H₀ q=none/\q∉Fs.flatten) :
  qf K H₀ Hf₀ Hf (S.set i (some av)) (σ.set i (some v)) H (Fs.set i F) where
 len:=by simp[R.len]
 lenF:=by simp[R.lenF]
 rep:=λj a e=>by
  rw[bG]at e
  by_cases hij:i=j
  .subst hij;rw[pN rfl]at e;split at e
   .rename_i hi;cases e;exact⟨v,F,by rw[aC (R.len ▸ hi)],by rw[aC (R.lenF.symm ▸ hi)],r⟩
   .cases e
  .rw [pJ hij]at e;obtain⟨w,G,e1,e2,q⟩:=R.rep j a e;exact⟨w,G,by rw[aA hij];exact e1,by rw[aA hij];exact e2,q⟩
 emp:=λj e=>by
  rw[bG]at e
  by_cases hij:i=j
  .subst hij;rw[pN rfl]at e;split at e <;> cases e
  .rw [pJ hij]at e;rw[aA hij];exact R.emp j e
 nd:=si i R.nd nd λp hp=>(hf p hp).2
 fresh:=λp hp=>by
  rcases sC hp with q|q
  .exact (hf p q).1
  .exact R.fresh p q
 sub:=R.sub
 fr:=R.fr
 lim:=R.lim
 sf:=R.sf
theorem qD{i:Nat}{p:Addr}(h:p∈(Fs.set i []).flatten):p∈Fs.flatten:=by
 rcases sC h with q|q
 .cases q
 .exact q
theorem ug:∀{Fs:List (List Addr)}{F:List Addr}{i:Nat}{p:Addr},Fs.flatten.Nodup->Fs[i]?=some F->p∈F->p∉(Fs.set i []).flatten
 | [],F,i,p,_,e,_,_=>by simp at e
 |G::Gs,F,0,p,h,e,hp,m=>by
  simp at e;subst e;rw[cG,fCq,dY]at m;rw[fCq,nAq]at h;exact h.2.2 p hp p m rfl
 |G::Gs,F,i+1,p,h,e,hp,m=>by
  rw[cH,fCq]at m;rw[fCq,nAq]at h;have e':Gs[i]?=some F:=by simpa using e
  rcases mAq.mp m with q|q
  .exact h.2.2 p q p (mFq.mpr ⟨F,mGq e',hp⟩) rfl
  .exact ug h.2.1 e' hp q
theorem qf.move(R:qf K H₀ Hf₀ Hf S σ H Fs) {i:Nat}{av:AV}(e:S[i]?=some (some av)):∃v F,σ[i]?=some (some v)/\Fs[i]?=some F/\pT K Hf H av v F/\F.Nodup/\(∀q∈F,H₀ q=none/\q∉(Fs.set i []).flatten) /\
  qf K H₀ Hf₀ Hf (S.set i none) σ H (Fs.set i []):=by
 obtain⟨v,F,e1,e2,r⟩:=R.rep i av e;have hin:∀q∈F,q∈Fs.flatten:=λq hq=>mFq.mpr ⟨F,mGq e2,hq⟩
 refine⟨v,F,e1,e2,r,aY.sublist (aF (mGq e2)) R.nd,λq hq=>⟨R.fresh q (hin q hq),ug R.nd e2 hq⟩,?_⟩
 refine⟨by simp[R.len],by simp[R.lenF],λj a ej=>?_,λj ej=>?_,si i R.nd aU (λp hp=>by cases hp),λp hp=>R.fresh p (qD hp),R.sub,R.fr,R.lim,R.sf⟩
 .rw [bG]at ej
  by_cases hij:i=j
  .subst hij;rw[pN rfl]at ej;split at ej <;> cases ej
  .rw [pJ hij]at ej;obtain⟨w,G,f1,f2,q⟩:=R.rep j a ej;exact⟨w,G,f1,by rw[aA hij];exact f2,q⟩
 .rw [bG]at ej
  by_cases hij:i=j
  .subst hij;rw[pN rfl]at ej;split at ej
   .rename_i hi;rw[aC (R.lenF.symm ▸ hi)]
   .cases ej
  .rw [pJ hij]at ej;rw[aA hij];exact R.emp j ej
theorem qf.frz(R:qf K H₀ Hf₀ Hf S σ H Fs) {F:List Addr}(hf:∀q∈F,H₀ q=none/\q∉Fs.flatten) (hn:∀q∈F,Hf q=none):qf K H₀ Hf₀ (frz Hf H F) S σ H Fs:=by
 refine R.more (.refl _) (sJ hn) (Sq R.sub) (λq hq=>?_) λb h1 h2=>?_
 .rw [uw λm=>(hf q m).2 hq]
  exact(R.mem hq).2
 .rw [uw λm=>h2 (hf b m).1]
  exact R.lim b h1 h2
end
abbrev ME:=AS->Option (D×AS)
abbrev MK:=AS->Option (AV×AS)
abbrev ML:=AS->Option (List D×AS)
abbrev MT:=AS->Option (Bool×AS)
abbrev MA:=AS->Option (List AV×AS)
def pW(K:W.Frag) (Hf H:Hp) (avs:List AV) (vs:List V) (Gs:List (List Addr)):Prop :=
 avs.length=vs.length/\avs.length=Gs.length/\∀(i:Nat) (a:AV) (v:V) (F:List Addr),avs[i]?=some a->vs[i]?=some v->Gs[i]?=some F->pT K Hf H a v F
structure yt (H₀ H:Hp) (Fs Fs':List (List Addr)) (F:List Addr):Prop where
 nd:F.Nodup
 fr:∀q∈F,H₀ q=none
 out:∀q∈F,q∉Fs'.flatten
 new:∀q∈F,H q=none∨q∈Fs.flatten
theorem yt.nil{H₀ H:Hp}{Fs Fs':List (List Addr)}:yt H₀ H Fs Fs' []:=⟨aU,λq h=>(by cases h),λq h=>(by cases h),λq h=>(by cases h)⟩
section
variable (K:W.Frag)
def SR(te:TE) (m:ME):Prop:=∀{H₀ Hf₀ Hf:Hp}{S:AS}{σ:St}{H:Hp}{Fs:List (List Addr)}{d:D}{S':AS},qf K H₀ Hf₀ Hf S σ H Fs->m S=some (d,S')->∀Q:VK,
 (∀Hf' H' Fs' v,zb Hf H Fs Hf' H' Fs'->qf K H₀ Hf₀ Hf' S' σ H' Fs'->rS K H' d v->Q v H')->te σ H Q
def SK(te:TE) (m:MK):Prop:=∀{H₀ Hf₀ Hf:Hp}{S:AS}{σ:St}{H:Hp}{Fs:List (List Addr)}{a:AV}{S':AS},qf K H₀ Hf₀ Hf S σ H Fs->m S=some (a,S')->∀Q:VK,
 (∀Hf' H' Fs' v F,zb Hf H Fs Hf' H' Fs'->qf K H₀ Hf₀ Hf' S' σ H' Fs'->pT K Hf' H' a v F->yt H₀ H Fs Fs' F->Q v H')->te σ H Q
def SL(te:TE) (m:ML):Prop:=∀{H₀ Hf₀ Hf:Hp}{S:AS}{σ:St}{H:Hp}{Fs:List (List Addr)}{ds:List D}{S':AS},qf K H₀ Hf₀ Hf S σ H Fs->m S=some (ds,S')->∀Q:VK,
 (∀Hf' H' Fs' p vs,zb Hf H Fs Hf' H' Fs'->qf K H₀ Hf₀ Hf' S' σ H' Fs'->H' p=some (.lst vs)->qr K Hf' ds vs->Q (.ref p) H')->te σ H Q
def Ho(tt:TT) (m:MT):Prop:=∀{H₀ Hf₀ Hf:Hp}{S:AS}{σ:St}{H:Hp}{Fs:List (List Addr)}{b:Bool}{S':AS},qf K H₀ Hf₀ Hf S σ H Fs->m S=some (b,S')->∀Q:Bool->Hp->Prop,
 (∀Hf' H' Fs',zb Hf H Fs Hf' H' Fs'->qf K H₀ Hf₀ Hf' S' σ H' Fs'->Q b H')->tt σ H Q
def SA(ta:TA) (m:MA):Prop:=∀{H₀ Hf₀ Hf:Hp}{S:AS}{σ:St}{H:Hp}{Fs:List (List Addr)}{as:List AV}{S':AS},qf K H₀ Hf₀ Hf S σ H Fs->m S=some (as,S')->∀Q:List V->Hp->Prop,
 (∀Hf' H' Fs' vs Gs,zb Hf H Fs Hf' H' Fs'->qf K H₀ Hf₀ Hf' S' σ H' Fs'->pW K Hf' H' as vs Gs->yt H₀ H Fs Fs' Gs.flatten->Q vs H')->ta σ H Q
def QI(ta:TA) (m:ML):Prop:=∀{H₀ Hf₀ Hf:Hp}{S:AS}{σ:St}{H:Hp}{Fs:List (List Addr)}{ds:List D}{S':AS},qf K H₀ Hf₀ Hf S σ H Fs->m S=some (ds,S')->∀Q:List V->Hp->Prop,
 (∀Hf' H' Fs' vs,zb Hf H Fs Hf' H' Fs'->qf K H₀ Hf₀ Hf' S' σ H' Fs'->qr K H' ds vs->Q vs H')->ta σ H Q
end
section
variable {K:W.Frag}{H₀ Hf₀ Hf Hf' H H':Hp}{S S':AS}{σ:St}{Fs Fs':List (List Addr)}
theorem pT.stp{av:AV}{v:V}{F:List Addr}(r:pT K Hf H av v F) (ho:∀q∈F,q∉Fs.flatten) (t:zb Hf H Fs Hf' H' Fs'):pT K Hf' H' av v F :=
 r.keep t.sf (λq hq=>J8 t.sh (r.owned q hq).1) λq hq=>by
  by_cases e:Hf' q=none
  .exact e
  .rcases t.gr q (r.owned q hq).2 e with z|z
   .exact absurd z (r.owned q hq).1
   .exact absurd z (ho q hq)
theorem qf.new(R:qf K H₀ Hf₀ Hf S σ H Fs) {p:Addr}{o:HO}(hp:H p=none):zb Hf H Fs Hf (qP H p o) Fs/\qf K H₀ Hf₀ Hf S σ (qP H p o) Fs/\Hf p=none/\H₀ p=none/\p∉Fs.flatten :=
 ⟨⟨.refl _,yW hp,λ_ h=>h,λb h g=>absurd h g⟩,R.laid (yW hp),R.sub.free hp,R.fr.free hp,λm=>(R.mem m).1 hp⟩
theorem vF(n:Nat):(aB n ([]:List Addr)).flatten=[]:=by
 induction n with
 |zero=>rfl
 |succ n ih=>rw[gL,fCq,ih];rfl
theorem pT.new{p:Addr}{vs:List V}{ds:List D}(h:H p=some (.lst vs)) (n:Hf p=none) (r:qr K Hf ds vs):pT K Hf H (.ow (ds.map .sh)) (.ref p) [p]:=by
 have e:[p]=p::(aB ds.length ([]:List Addr)).flatten:=by rw[vF]
 rw[e];refine .ow h n (by simp[r.1]) (by simp) λi a v F h1 h2 h3=>?_
 rw[gMq]at h1;cases q:ds[i]? with
 |none=>rw[q]at h1;cases h1
 |some d =>
  rw[q]at h1;cases h1;have:F=[]:=eI (mGq h3);subst this;exact .sh (r.2 i d v q h2)
theorem pT.news{p:Addr}{vs:List V}{avs:List AV}{Gs:List (List Addr)}(h:H p=some (.lst vs)) (n:Hf p=none) (r:pW K Hf H avs vs Gs):pT K Hf H (.ow avs) (.ref p) (p::Gs.flatten):=.ow h n r.1 r.2.1 r.2.2
theorem pT.ow_inv{avs:List AV}{v:V}{F:List Addr}(h:pT K Hf H (.ow avs) v F):∃p vs Gs,v = .ref p/\F=p::Gs.flatten/\H p=some (.lst vs)/\Hf p=none/\pW K Hf H avs vs Gs:=by
 cases h with
 |ow h n l lf e=>exact⟨_,_,_,rfl,rfl,h,n,l,lf,e⟩
theorem pT.owd_inv{ds:List (oU×D)}{v:V}{F:List Addr}(h:pT K Hf H (.owd ds) v F):∃p kvs,v = .ref p/\F=[p]/\H p=some (.dK kvs)/\Hf p=none/\tN K Hf ds kvs:=by
 cases h with
 |owd h n r=>exact⟨_,_,rfl,rfl,h,n,r⟩
theorem pT.sh_inv{d:D}{v:V}{F:List Addr}(h:pT K Hf H (.sh d) v F):F=[]/\rS K Hf d v:=by
 cases h with
 |sh r=>exact⟨rfl,r⟩
theorem qf.give{H1:Hp}{Fs1:List (List Addr)}(R:qf K H₀ Hf₀ Hf' S σ H1 Fs1) (t:zb Hf H Fs Hf' H1 Fs1) {av:AV}{v:V}{F:List Addr}(r:pT K Hf' H1 av v F) (o:yt H₀ H Fs Fs1 F) :
  qf K H₀ Hf₀ (Z.frz Hf' H1 F) S σ H1 Fs1/\rS K (Z.frz Hf' H1 F) (oP av) v/\zb Hf H Fs (Z.frz Hf' H1 F) H1 Fs1:=by
 have n:∀q∈F,Hf' q=none:=λq hq=>(r.owned q hq).2
 refine⟨R.frz (λq hq=>⟨o.fr q hq,o.out q hq⟩) n,r.frozen (sJ n) λq hq=>zN hq,t.sf.trans (sJ n),t.sh,t.own,λb h g=>?_⟩
 by_cases m:b∈F
 .exact o.new b m
 .rw [uw m]at g;exact t.gr b h g
theorem pW.nil:pW K Hf H [] [] []:=⟨rfl,rfl,λi a v F h=>by simp at h⟩
theorem pW.cons{a:AV}{v:V}{F:List Addr}{as:List AV}{vs:List V}{Gs:List (List Addr)}(h:pT K Hf H a v F) (t:pW K Hf H as vs Gs):pW K Hf H (a::as) (v::vs) (F::Gs) :=
 ⟨by simp[t.1],by simp[t.2.1],λi b w G h1 h2 h3=>by
  cases i with
  |zero =>
   simp at h1 h2 h3;subst h1 h2 h3;exact h
  |succ i=>exact t.2.2 i b w G (by simpa using h1) (by simpa using h2) (by simpa using h3)⟩
theorem pW.nil_inv{vs:List V}{Gs:List (List Addr)}(h:pW K Hf H [] vs Gs):vs=[]/\Gs=[]:=by
 obtain⟨a,b,_⟩:=h;exact⟨bq.mp a.symm,bq.mp b.symm⟩
theorem pW.cons_inv{a:AV}{as:List AV}{vs:List V}{Gs:List (List Addr)}(h:pW K Hf H (a::as) vs Gs):∃v ws F Gs',vs=v::ws/\Gs=F::Gs'/\pT K Hf H a v F/\pW K Hf H as ws Gs':=by
 obtain⟨h1,h2,h3⟩:=h;cases vs with
 |nil=>simp at h1
 |cons v ws =>
  cases Gs with
  |nil=>simp at h2
  |cons F Gs'=>exact⟨v,ws,F,Gs',rfl,rfl,h3 0 a v F rfl rfl rfl,by simpa using h1,by simpa using h2,λi b w G q1 q2 q3=>h3 (i+1) b w G (by simpa using q1) (by simpa using q2) (by simpa using q3)⟩
theorem pW.frozen(h:pW K Hf H as vs Gs) (s:qh Hf Hf') (hk:∀q∈Gs.flatten,Hf' q=H q):qr K Hf' (as.map oP) vs :=
 ⟨by simp[h.1],λi d v h1 h2=>by
  rw[gMq]at h1;cases ea:as[i]? with
  |none=>rw[ea]at h1;cases h1
  |some a =>
   rw[ea]at h1;cases h1;have hi:i<Gs.length:=h.2.1 ▸ (gSq.mp ea).1;exact(h.2.2 i a v Gs[i] ea h2 (gEg hi)).frozen s λq hq=>hk q (mFq.mpr ⟨Gs[i],gRq hi,hq⟩)⟩
theorem pW.owned(h:pW K Hf H as vs Gs):∀q∈Gs.flatten,H q≠none/\Hf q=none:=λq hq=>by
 obtain⟨F,hF,hq⟩:=mFq.mp hq;obtain⟨i,hi,rfl⟩:=dg.mp hF;have h1:i<as.length:=h.2.1.symm ▸ hi;have h2:i<vs.length:=h.1 ▸ h1;exact(h.2.2 i as[i] vs[i] Gs[i] (gEg h1) (gEg h2) (gEg hi)).owned q hq
theorem qf.gives{H1:Hp}{Fs1:List (List Addr)}(R:qf K H₀ Hf₀ Hf' S σ H1 Fs1) (t:zb Hf H Fs Hf' H1 Fs1) {as:List AV}{vs:List V}{Gs:List (List Addr)}(r:pW K Hf' H1 as vs Gs) (o:yt H₀ H Fs Fs1 Gs.flatten) :
  qf K H₀ Hf₀ (Z.frz Hf' H1 Gs.flatten) S σ H1 Fs1/\qr K (Z.frz Hf' H1 Gs.flatten) (as.map oP) vs/\zb Hf H Fs (Z.frz Hf' H1 Gs.flatten) H1 Fs1:=by
 have n:∀q∈Gs.flatten,Hf' q=none:=λq hq=>(r.owned q hq).2
 refine⟨R.frz (λq hq=>⟨o.fr q hq,o.out q hq⟩) n,r.frozen (sJ n) λq hq=>zN hq,t.sf.trans (sJ n),t.sh,t.own,λb h g=>?_⟩
 by_cases m:b∈Gs.flatten
 .exact o.new b m
 .rw [uw m]at g;exact t.gr b h g
theorem yt.stp{Hf1 H1 Hf2 H2:Hp}{Fs1 Fs2:List (List Addr)}{F:List Addr}(o:yt H₀ H Fs Fs1 F) (t:zb Hf1 H1 Fs1 Hf2 H2 Fs2):yt H₀ H Fs Fs2 F:=⟨o.nd,o.fr,λq h m=>o.out q h (t.own q m),o.new⟩
theorem yt.back{Hf1 H1:Hp}{Fs1 Fs2:List (List Addr)}{F:List Addr}(t:zb Hf H Fs Hf1 H1 Fs1) (o:yt H₀ H1 Fs1 Fs2 F):yt H₀ H Fs Fs2 F:=⟨o.nd,o.fr,o.out,λq h=>(o.new q h).elim (λe=>.inl (t.sh.free e)) λm=>.inr (t.own q m)⟩
theorem yt.app{F G:List Addr}(a:yt H₀ H Fs Fs' F) (b:yt H₀ H Fs Fs' G) (d:∀q∈F,q∉G):yt H₀ H Fs Fs' (F++G) :=
 ⟨nAq.mpr ⟨a.nd,b.nd,λx hx y hy e=>d x hx (e ▸ hy)⟩,λq h=>(mAq.mp h).elim (a.fr q) (b.fr q),λq h=>(mAq.mp h).elim (a.out q) (b.out q),λq h=>(mAq.mp h).elim (a.new q) (b.new q)⟩
theorem yt.apart{Hf1 H1:Hp}{Fs1 Fs2:List (List Addr)}{F G:List Addr}(a:yt H₀ H Fs Fs1 F) (ha:∀q∈F,H1 q≠none) (b:yt H₀ H1 Fs1 Fs2 G):∀q∈F,q∉G:=λq h m=>by
 rcases b.new q m with e|e
 .exact ha q h e
 .exact a.out q h e
theorem yt.one(R:qf K H₀ Hf₀ Hf S σ H Fs) {p:Addr}(hp:H p=none):yt H₀ H Fs Fs [p] :=
 ⟨by simp,λq h=>by rw[mSq.mp h];exact R.fr.free hp,λq h m=>by rw[mSq.mp h]at m;exact(R.mem m).1 hp,λq h=>by rw[mSq.mp h];exact .inl hp⟩
end
def oy(i:Nat):ME:=λS=>(S[i]?.join).map λa=>(oP a,S)
def oQ(i:Nat):MK:=λS=>(S[i]?.join).map λa=>(.sh (oP a),S.set i (some (.sh (oP a))))
def zi(i:Nat):MK:=λS=>(S[i]?.join).map λa=>(a,S.set i none)
def D6(i:Nat):ML:=λS=>match S[i]?.join with
 |some (.sh (.list ds))=>some (ds,S)
 |some (.ow avs)=>some (avs.map oP,S.set i (some (.ow ((avs.map oP).map .sh))))
 |_=>none
def rOf(k:MK):ME:=λS=>(k S).map λx=>(oP x.1,x.2)
def kSc(m:ME):MK:=λS=>(m S).bind λx=>if x.1.scal then some (.sh x.1,x.2) else none
def lOf(k:MK):ML:=λS=>(k S).bind λx=>match x.1 with
 | .sh (.list ds)=>some (ds,x.2)
 | .ow avs=>some (avs.map oP,x.2)
 |_=>none
def wu(k:MK):MK:=λS=>(k S).map λx=>(.sh (oP x.1),x.2)
def rC(d:D):ME:=λS=>if d.scal then some (d,S) else none
section
variable {K:W.Frag}
theorem qd{S:AS}{i:Nat}{a:AV}(h:S[i]?.join=some a):S[i]?=some (some a):=by
 cases e:S[i]? with
 |none=>rw[e]at h;cases h
 |some z=>rw[e]at h;exact congrArg some h
theorem oz(i:Nat):SR K (wR i) (oy i):=by
 intro H₀ Hf₀ Hf S σ H Fs d S' R e Q q;obtain⟨a,ea,e⟩:=oMq.mp e;cases e;obtain⟨v,F,s1,s2,r⟩:=R.rep i a (qd ea);exact⟨v,s1,q _ _ _ v .refl R (r.rep R.sub)⟩
theorem yy(i:Nat):SK K (wR i) (zi i):=by
 intro H₀ Hf₀ Hf S σ H Fs a S' R e Q q;obtain⟨b,ea,e⟩:=oMq.mp e;cases e;obtain⟨v,F,s1,s2,r,nd,o,R1⟩:=R.move (qd ea);exact⟨v,s1,q _ _ _ v F ⟨.refl _,.refl _,λp hp=>qD hp,λb h g=>absurd h g⟩ R1 r ⟨nd,λq hq=>(o q hq).1,λq hq=>(o q hq).2,λq hq=>.inr (mFq.mpr ⟨F,mGq s2,hq⟩)⟩⟩
theorem qf.again{H₀ Hf₀ Hf H:Hp}{S:AS}{σ:St}{Fs:List (List Addr)}{i:Nat}{av:AV}{v:V}{F G:List Addr}(R:qf K H₀ Hf₀ Hf (S.set i none) σ H (Fs.set i [])) (s1:σ[i]?=some (some v)) (r:pT K Hf H av v G) (nd:G.Nodup) (hf:∀q∈G,H₀ q=none/\q∉(Fs.set i []).flatten) :
  qf K H₀ Hf₀ Hf (S.set i (some av)) σ H (Fs.set i G):=by
 have R2:=R.set i r nd hf;rw[dC,dC]at R2;have e:σ.set i (some v)=σ:=by
  obtain⟨hk,ev⟩:=gSq.mp s1;rw[←ev];exact gj hk
 rw[e]at R2;exact R2
theorem pM(i:Nat):SK K (wR i) (oQ i):=by
 intro H₀ Hf₀ Hf S σ H Fs a S' R e Q q;obtain⟨b,ea,e⟩:=oMq.mp e;cases e;obtain⟨v,F,s1,s2,r,nd,o,R1⟩:=R.move (qd ea);have n:∀q∈F,Hf q=none:=λq hq=>(r.owned q hq).2
 have R2:=R1.frz o n;have r2:=r.frozen (sJ (H:=H) n) λq hq=>zN hq
 have R3:=R2.again (F:=F) (G:=[]) s1 (.sh r2) aU λq h=>(by cases h)
 refine⟨v,s1,q _ _ _ v [] ⟨sJ n,.refl _,λp hp=>qD hp,λb h g=>?_⟩ R3 (.sh r2) .nil⟩
 by_cases m:b∈F
 .exact .inr (mFq.mpr ⟨F,mGq s2,m⟩)
 .rw [uw m]at g;exact absurd h g
theorem Ii(i:Nat):SL K (wR i) (D6 i):=by
 intro H₀ Hf₀ Hf S σ H Fs ds S' R e Q q;unfold D6 at e;split at e
 .rename_i ds' ea;cases e;obtain⟨v,F,s1,s2,r⟩:=R.rep i _ (qd ea);obtain⟨p,vs,rfl,h1,h2⟩:=r.sh_inv.2.list_inv;exact⟨_,s1,q _ _ _ p vs .refl R (R.sub _ _ h1) h2⟩
 .rename_i avs ea;cases e;obtain⟨v,F,s1,s2,r,nd,o,R1⟩:=R.move (qd ea);obtain⟨p,vs,Gs,rfl,rfl,h1,h2,h3⟩:=r.ow_inv;have n:∀q∈Gs.flatten,Hf q=none:=λq hq=>(h3.owned q hq).2
  have R2:=R1.frz (F:=Gs.flatten) (λq hq=>o q (mCo _ hq)) n
  have r2:=h3.frozen (sJ (H:=H) n) λq hq=>zN hq
  have np:p∉Gs.flatten:=(aq.mp nd).1;have r3:pT K (Z.frz Hf H Gs.flatten) H (.ow ((avs.map oP).map .sh)) (.ref p) [p]:=pT.new h1 (by rw[uw np];exact h2) r2
  have R3:=R2.again (F:=p::Gs.flatten) (G:=[p]) s1 r3 (by simp) λq hq=>by rw[mSq.mp hq];exact o p (by simp)
  refine⟨_,s1,q _ _ _ p vs ⟨sJ n,.refl _,λb hb=>?_,λb h g=>?_⟩ R3 h1 r2⟩
  .rcases sC hb with z|z
   .rw [mSq.mp z];exact mFq.mpr ⟨_,mGq s2,by simp⟩
   .exact z
  .by_cases m:b∈Gs.flatten
   .exact .inr (mFq.mpr ⟨_,mGq s2,mCo _ m⟩)
   .rw [uw m]at g;exact absurd h g
 .cases e
theorem SK.rOf{te:TE}{k:MK}(h:SK K te k):SR K te (rOf k):=by
 intro H₀ Hf₀ Hf S σ H Fs d S' R e Q q;obtain⟨x,ea,e⟩:=oMq.mp e;cases e;exact h R (a:=x.1) (S':=x.2) ea Q λHf' H' Fs' v F t R' r o=>q _ _ _ v t R' (r.rep R'.sub)
theorem SR.kSc{te:TE}{m:ME}(h:SR K te m):SK K te (kSc m):=by
 intro H₀ Hf₀ Hf S σ H Fs a S' R e Q q;obtain⟨x,ea,e⟩:=oBq.mp e;split at e
 .rename_i hs;cases e;exact h R (d:=x.1) (S':=x.2) ea Q λHf' H' Fs' v t R' r=>q _ _ _ v [] t R' (.sh (r.scal hs)) .nil
 .cases e
theorem SK.frz{te:TE}{k:MK}(h:SK K te k):SK K te (wu k):=by
 intro H₀ Hf₀ Hf S σ H Fs a S' R e Q q;obtain⟨x,ea,e⟩:=oMq.mp e;cases e;refine h R (a:=x.1) (S':=x.2) ea Q λHf' H' Fs' v F t R' r o=>?_
 obtain⟨R2,r2,t2⟩:=R'.give t r o;exact q _ _ _ v [] t2 R2 (.sh r2) .nil
theorem SK.lOf{te:TE}{k:MK}(h:SK K te k):SL K te (lOf k):=by
 intro H₀ Hf₀ Hf S σ H Fs ds S' R e Q q;obtain⟨x,ea,e⟩:=oBq.mp e;refine h R (a:=x.1) (S':=x.2) ea Q λHf' H' Fs' v F t R' r o=>?_
 split at e
 .rename_i ds' hx;cases e;rw[hx]at r;obtain⟨p,vs,rfl,h1,h2⟩:=r.sh_inv.2.list_inv;exact q _ _ _ p vs t R' (R'.sub _ _ h1) h2
 .rename_i avs hx;cases e;obtain⟨R2,r2,t2⟩:=R'.give t r o;rw[hx,qO]at r2;obtain⟨p,vs,rfl,h1,h2⟩:=r2.list_inv;exact q _ _ _ p vs t2 R2 (R2.sub _ _ h1) h2
 .cases e
theorem Ux{v:V}{d:D}(h:∀H,rS K H d v):SR K (tC v) (rC d):=by
 intro H₀ Hf₀ Hf S σ H Fs d' S' R e Q q;unfold rC at e;split at e
 .cases e;exact q _ _ _ v .refl R (h _)
 .cases e
theorem oJ{i:Int}:SR K (tC (.int i)) (rC (.int i)):=Ux λ_=>.int
theorem EG{i:Bool}:SR K (tC (.bl i)) (rC (.bl i)):=Ux λ_=>.bl
theorem PZ{T:String}:SR K (tC (.ty T)) (rC (.ty T)):=Ux λ_=>.ty
end
def vc{α:Type}(p:Prop) (x:Option α):Option α:=@ite (Option α) p (aV p) x none
theorem uR{α:Type}{p:Prop}(h:p) (x:Option α):vc p x=x:=pN h
theorem vP{α:Type}(x:Option α):vc True x=x:=pN trivial
theorem pO{α:Type}{p:Prop}{x y:Option α}(h:vc p x=y):(p/\x=y)∨none=y:=by
 by_cases c:p
 .rw [uR c]at h;exact .inl ⟨c,h⟩
 .exact .inr ((@if_neg p (aV p) c _ x none).symm.trans h)
def pK(f:D->D->Option D) (a b:ME):ME:=λS=>(a S).bind λx=>(b x.2).bind λy=>(f x.1 y.1).map λd=>(d,y.2)
def DV(f:D->Option D) (a:ME):ME:=λS=>(a S).bind λx=>(f x.1).map λd=>(d,x.2)
def Fe(K:W.Frag) (r:R2) (f:D->D->Option D):Prop:=∀{x y:V}{H:Hp}{Q:VK}{dx dy d:D},rS K H dx x->rS K H dy y->f dx dy=some d->(∀v,rS K H d v->Q v H)->r x y H Q
def Ze(K:W.Frag) (r:V->Hp->VK->Prop) (f:D->Option D):Prop:=∀{x:V}{H:Hp}{Q:VK}{dx d:D},rS K H dx x->f dx=some d->(∀v,rS K H d v->Q v H)->r x H Q
section
variable {K:W.Frag}{r:R2}{f:D->D->Option D}{ta tb:TE}{a b:ME}
theorem oT(hr:Fe K r f) (ha:SR K ta a) (hb:SR K tb b):SR K (Qs r ta tb) (pK f a b):=by
 intro H₀ Hf₀ Hf S σ H Fs d S' R e Q q;obtain⟨x,e1,e⟩:=oBq.mp e;obtain⟨y,e2,e⟩:=oBq.mp e;obtain⟨z,e3,e⟩:=oMq.mp e;cases e;refine ha R (d:=x.1) (S':=x.2) e1 _ λHf1 H1 Fs1 v1 t1 R1 r1=>hb R1 (d:=y.1) (S':=y.2) e2 _ λHf2 H2 Fs2 v2 t2 R2 r2=>?_
 exact hr (r1.mono t2.sh) r2 e3 λv rv=>q _ _ _ v (t1.trans t2) R2 rv
theorem Ah{r:V->Hp->VK->Prop}{f:D->Option D}(hr:Ze K r f) (ha:SR K ta a):SR K (Zb r ta) (DV f a):=by
 intro H₀ Hf₀ Hf S σ H Fs d S' R e Q q;obtain⟨x,e1,e⟩:=oBq.mp e;obtain⟨z,e3,e⟩:=oMq.mp e;cases e;exact ha R (d:=x.1) (S':=x.2) e1 _ λHf1 H1 Fs1 v1 t1 R1 r1=>hr r1 e3 λv rv=>q _ _ _ v t1 R1 rv
end
def IF(c:Int->Int->Prop) (g:Int->Int->D):D->D->Option D
 | .int i,.int j=>vc (c i j) (some (g i j))
 |_,_=>none
def YY(g:Int->D):D->Option D
 | .int i=>some (g i)
 |_=>none
abbrev xx:=IF (λ_ _=>True) λi j=>.int (i+j)
abbrev yu:=IF (λ_ _=>True) λi j=>.int (i-j)
abbrev BC:=IF OG λi j=>.int (i*j)
abbrev sr:=IF (λ_ j=>0<j) λi j=>.int (i % j)
abbrev yq:=IF UK λi j=>.int (i / j)
abbrev B2:=IF Vz λi j=>.int (i ^ j.toNat)
abbrev S8:=IF (λ_ _=>True) λi j=>.bl (decide (i<j))
abbrev ZQ:=IF (λ_ _=>True) λi j=>.bl (decide (i<=j))
abbrev FA:=IF (λ_ _=>True) λi j=>.bl (decide (j<i))
abbrev XA:=IF (λ_ _=>True) λi j=>.bl (decide (j<=i))
abbrev xk:=YY λi=>.int (-i)
def Mi(b:Bool):Option D:=some (.bl b)
def DT(x y:D):Option D:=match x with
 | .int i=>(match y with|.int j=>Mi (decide (i=j))|.non=>Mi false|.str _=>Mi false|_=>none)
 | .str i=>(match y with|.str j=>Mi (decide (i=j))|.non=>Mi false|.int _=>Mi false|_=>none)
 | .bl i=>(match y with|.bl j=>Mi (decide (i=j))|.non=>Mi false|_=>none)
 | .non=>(match y with|.non=>Mi true|.int _=>Mi false|.str _=>Mi false|.bl _=>Mi false|_=>none)
 |_=>none
def LC:D->Option D
 | .bl b=>some (.bl (!b))
 |_=>none
def Jq(x y:D):Option D:=(DT x y).bind LC
section
variable {K:W.Frag}
theorem Hj{C:Int->Int->Prop}{g:Int->Int->V}{g':Int->Int->D}(hg:∀H i j,rS K H (g' i j) (g i j)):Fe K (rI C g) (IF C g'):=by
 intro x y H Q dx dy d rx ry e q;unfold IF at e;split at e
 .rename_i i j;cases rx;cases ry;rcases pO e with ⟨h,e⟩|e
  .cases e;exact⟨i,j,rfl,rfl,h,q _ (hg H i j)⟩
  .cases e
 .cases e
theorem CK{g:Int->Int->V}{g':Int->Int->D}(hg:∀H i j,rS K H (g' i j) (g i j)):Fe K (Lq g) (IF (λ_ _=>True) g'):=by
 intro x y H Q dx dy d rx ry e q;unfold IF at e;split at e
 .rename_i i j;cases rx;cases ry;rw[vP]at e;cases e;exact⟨i,j,rfl,rfl,q _ (hg H i j)⟩
 .cases e
theorem xJ:Fe K (Lq λi j=>.int (i+j)) xx:=CK λ_ _ _=>.int
theorem CM:Fe K (Lq λi j=>.int (i-j)) yu:=CK λ_ _ _=>.int
theorem Fz:Fe K (rI OG λi j=>.int (i*j)) BC:=Hj λ_ _ _=>.int
theorem rH:Fe K (rI (λ_ j=>0<j) λi j=>.int (i % j)) sr:=Hj λ_ _ _=>.int
theorem yI:Fe K (rI UK λi j=>.int (i / j)) yq:=Hj λ_ _ _=>.int
theorem EN:Fe K (rI Vz λi j=>.int (i ^ j.toNat)) B2:=Hj λ_ _ _=>.int
theorem S4:Fe K (Lq λi j=>.bl (decide (i<j))) S8:=CK λ_ _ _=>.bl
theorem Cv:Fe K (Lq λi j=>.bl (decide (j<i))) FA:=CK λ_ _ _=>.bl
theorem WK:Fe K (Lq λi j=>.bl (decide (j<=i))) XA:=CK λ_ _ _=>.bl
theorem yl:Ze K (rU λi=>.int (-i)) xk:=by
 intro x H Q dx d rx e q;cases rx <;> simp only[YY]at e
 all_goals first|(exfalso;simp at e;done)|skip
 rename_i i;cases e;exact⟨i,rfl,q _ .int⟩
theorem Al:Fe K YL DT:=by
 intro x y H Q dx dy d rx ry e q;unfold DT at e;cases rx <;> first|(cases e;done)|(cases ry <;> first|(cases e;done)|skip)
 all_goals (cases e;refine⟨rfl,q _ ?_⟩;simp only[reduceCtorEq,decide_false,decide_true,V.int.injEq,V.str.injEq,V.bl.injEq];exact .bl)
theorem SX:Fe K YV Jq:=by
 intro x y H Q dx dy d rx ry e q;obtain⟨b,e1,e2⟩:=oBq.mp e;obtain⟨h1,h2⟩:=Al rx ry e1 (Q:=λv _=>rS K H b v) λv h=>h
 cases h2;cases e2;exact⟨h1,q _ .bl⟩
end
def DD(a b:ME):ME:=λS=>(a S).bind λx=>match x.1 with
 | .bl true=>b x.2
 | .bl false=>some (.bl false,x.2)
 |_=>none
def ZO(a b:ME):ME:=λS=>(a S).bind λx=>match x.1 with
 | .bl true=>some (.bl true,x.2)
 | .bl false=>b x.2
 |_=>none
def Nb(a:ME):ME:=DV LC a
def rp(a:ME):MT:=λS=>(a S).bind λx=>match x.1 with
 | .bl b=>some (b,x.2)
 |_=>none
def D8(a b:MT):MT:=λS=>(a S).bind λx=>if x.1=true then b x.2 else some (false,x.2)
def IT(a b:MT):MT:=λS=>(a S).bind λx=>if x.1=true then some (true,x.2) else b x.2
def uv(a:MT):MT:=λS=>(a S).map λx=>(!x.1,x.2)
def ZP(c:MT) (a b:ME):ME:=λS=>(c S).bind λx=>if x.1=true then a x.2 else b x.2
def ZN(c:MT) (a b:MK):MK:=λS=>(c S).bind λx=>if x.1=true then a x.2 else b x.2
section
variable {K:W.Frag}{ta tb:TE}{a b:ME}{ca cb:TT}{ma mb:MT}
theorem NG(ha:SR K ta a) (hb:SR K tb b):SR K (S7 ta tb) (DD a b):=by
 intro H₀ Hf₀ Hf S σ H Fs d S' R e Q q;obtain⟨x,e1,e⟩:=oBq.mp e;refine ha R (d:=x.1) (S':=x.2) e1 _ λHf1 H1 Fs1 v1 t1 R1 r1=>?_
 split at e
 .rename_i hx;rw[hx]at r1;cases r1;exact⟨true,rfl,IR (hb R1 e Q λHf2 H2 Fs2 v2 t2 R2 r2=>q _ _ _ v2 (t1.trans t2) R2 r2)⟩
 .rename_i hx;rw[hx]at r1;cases r1;cases e;exact⟨false,rfl,Jn (q _ _ _ _ t1 R1 .bl)⟩
 .cases e
theorem UW(ha:SR K ta a):SR K (Tz ta) (Nb a):=by
 intro H₀ Hf₀ Hf S σ H Fs d S' R e Q q;obtain⟨x,e1,e⟩:=oBq.mp e;obtain⟨z,e3,e⟩:=oMq.mp e;cases e;refine ha R (d:=x.1) (S':=x.2) e1 _ λHf1 H1 Fs1 v1 t1 R1 r1=>?_
 cases hx:x.1 <;> rw[hx]at e3 r1 <;> simp only[LC]at e3
 all_goals first|(exfalso;simp at e3;done)|skip
 cases r1;cases e3;exact⟨_,rfl,q _ _ _ _ t1 R1 .bl⟩
theorem DB(ha:SR K ta a):Ho K (tB ta) (rp a):=by
 intro H₀ Hf₀ Hf S σ H Fs d S' R e Q q;obtain⟨x,e1,e⟩:=oBq.mp e;refine ha R (d:=x.1) (S':=x.2) e1 _ λHf1 H1 Fs1 v1 t1 R1 r1=>?_
 split at e
 .rename_i b hx;rw[hx]at r1;cases r1;cases e;exact⟨_,rfl,q _ _ _ t1 R1⟩
 .cases e
theorem qJ(ha:SR K ta a):Ho K (Tq ta) (rp a):=DB ha
theorem P2(ha:Ho K ca ma) (hb:Ho K cb mb):Ho K (WH ca cb) (D8 ma mb):=by
 intro H₀ Hf₀ Hf S σ H Fs d S' R e Q q;obtain⟨x,e1,e⟩:=oBq.mp e;refine ha R (b:=x.1) (S':=x.2) e1 _ λHf1 H1 Fs1 t1 R1=>?_
 split at e
 .rename_i hx;rw[hx];exact IR (hb R1 e Q λHf2 H2 Fs2 t2 R2=>q _ _ _ (t1.trans t2) R2)
 .rename_i hx;cases e;rw[dG]at hx;rw[hx];exact Jn (q _ _ _ t1 R1)
theorem P6(ha:Ho K ca ma):Ho K (VX ca) (uv ma):=by
 intro H₀ Hf₀ Hf S σ H Fs d S' R e Q q;obtain⟨x,e1,e⟩:=oMq.mp e;cases e;exact ha R (b:=x.1) (S':=x.2) e1 _ λHf1 H1 Fs1 t1 R1=>q _ _ _ t1 R1
end
abbrev rh:Nat:=16777216
theorem ud:ke=rh:=kO
def SQ(K:W.Frag) (te:TE) (m:ML):Prop:=∀{H₀ Hf₀ Hf:Hp}{S:AS}{σ:St}{H:Hp}{Fs:List (List Addr)}{ds:List D}{S':AS},qf K H₀ Hf₀ Hf S σ H Fs->m S=some (ds,S')->∀Q:VK,
 (∀Hf' H' Fs' p vs,zb Hf H Fs Hf' H' Fs'->qf K H₀ Hf₀ Hf' S' σ H' Fs'->sS K H' p vs->qr K Hf' ds vs->Q (.ref p) H')->te σ H Q
theorem SL.q{K:W.Frag}{te:TE}{m:ML}(h:SL K te m):SQ K te m:=by
 intro H₀ Hf₀ Hf S σ H Fs ds S' R e Q q;exact h R e Q λHf' H' Fs' p vs t R' hp r=>q _ _ _ p vs t R' (sS.of hp) r
def sR(i:Nat):ML:=λS=>match S[i]?.join with
 |some (.sh (.scr ns))=>some (ns.map .int,S)
 |some (.sh (.list ds))=>some (ds,S)
 |some (.ow avs)=>some (avs.map oP,S.set i (some (.ow ((avs.map oP).map .sh))))
 |_=>none
theorem tV{K:W.Frag}{H:Hp}:∀ns:List Int,qr K H (ns.map .int) (ns.map V.int)
 | []=>.nil
 |n::ns=>.cons .int (tV ns)
theorem uH{K:W.Frag}(i:Nat):SQ K (wR i) (sR i):=by
 intro H₀ Hf₀ Hf S σ H Fs ds S' R e Q q;unfold sR at e;split at e
 .rename_i ns ea;cases e;obtain⟨v,F,s1,s2,r⟩:=R.rep i _ (qd ea);cases r.sh_inv.2 with
  |scr h=>exact⟨_,s1,q _ _ _ _ _ .refl R (R.sub.seq h) (tV ns)⟩
 .rename_i ds' ea;cases e;refine Ii i R (ds:=ds) (S':=S) ?_ Q λHf' H' Fs' p vs t R' hp r=>q _ _ _ p vs t R' (sS.of hp) r
  unfold D6;rw[ea]
 .rename_i avs ea;refine Ii i R (ds:=ds) (S':=S') ?_ Q λHf' H' Fs' p vs t R' hp r=>q _ _ _ p vs t R' (sS.of hp) r
  unfold D6;rw[ea];exact e
 .cases e
section
variable {K:W.Frag}{H₀ Hf₀ Hf Hf' H H':Hp}{S S':AS}{σ:St}{Fs Fs':List (List Addr)}
theorem pW.stp{as:List AV}{vs:List V}{Gs:List (List Addr)}(r:pW K Hf H as vs Gs) (ho:∀q∈Gs.flatten,q∉Fs.flatten) (t:zb Hf H Fs Hf' H' Fs'):pW K Hf' H' as vs Gs :=
 ⟨r.1,r.2.1,λi a v F h1 h2 h3=>(r.2.2 i a v F h1 h2 h3).stp (λq hq=>ho q (mFq.mpr ⟨F,mGq h3,hq⟩)) t⟩
end
def oW:MA:=λS=>some ([],S)
def oH(k:MK) (r:MA):MA:=λS=>(k S).bind λx=>(r x.2).map λy=>(x.1::y.1,y.2)
def oC:ML:=λS=>some ([],S)
def ot(k:ME) (r:ML):ML:=λS=>(k S).bind λx=>(r x.2).map λy=>(x.1::y.1,y.2)
section
variable {K:W.Frag}{te ta tb:TE}{tr:TA}
theorem pR:SA K wV oW:=by
 intro H₀ Hf₀ Hf S σ H Fs as S' R e Q q;cases e;exact q _ _ _ [] [] .refl R .nil .nil
theorem oZ{k:MK}{r:MA}(hk:SK K te k) (hr:SA K tr r):SA K (um te tr) (oH k r):=by
 intro H₀ Hf₀ Hf S σ H Fs as S' R e Q q;obtain⟨x,e1,e⟩:=oBq.mp e;obtain⟨y,e2,e⟩:=oMq.mp e;cases e;refine hk R (a:=x.1) (S':=x.2) e1 _ λHf1 H1 Fs1 v F t1 R1 r1 o1=>hr R1 (as:=y.1) (S':=y.2) e2 _ λHf2 H2 Fs2 vs Gs t2 R2 r2 o2=>?_
 refine q _ _ _ (v::vs) (F::Gs) (t1.trans t2) R2 (.cons (r1.stp o1.out t2) r2) ?_;rw[fCq];exact(o1.stp t2).app (o2.back t1) (o1.apart (Hf1:=Hf1) (λq hq=>(r1.owned q hq).1) o2)
theorem oR:QI K wV oC:=by
 intro H₀ Hf₀ Hf S σ H Fs as S' R e Q q;cases e;exact q _ _ _ [] .refl R .nil
theorem oD{k:ME}{r:ML}(hk:SR K te k) (hr:QI K tr r):QI K (um te tr) (ot k r):=by
 intro H₀ Hf₀ Hf S σ H Fs as S' R e Q q;obtain⟨x,e1,e⟩:=oBq.mp e;obtain⟨y,e2,e⟩:=oMq.mp e;cases e;refine hk R (d:=x.1) (S':=x.2) e1 _ λHf1 H1 Fs1 v t1 R1 r1=>hr R1 (ds:=y.1) (S':=y.2) e2 _ λHf2 H2 Fs2 vs t2 R2 r2=>?_
 exact q _ _ _ (v::vs) (t1.trans t2) R2 (.cons (r1.mono t2.sh) r2)
end
def rQ(a:MA):MK:=λS=>(a S).bind λx=>vc (x.1.length<=rh) (some (.ow x.1,x.2))
def RG(a:MA):MK:=λS=>(a S).bind λx=>vc (x.1.length<=rh) (some (.sh (.tup (x.1.map oP)),x.2))
section
variable {K:W.Frag}{ta:TA}{a:MA}
theorem sq(ha:SA K ta a):SK K (UC ta) (rQ a):=by
 intro H₀ Hf₀ Hf S σ H Fs av S' R e Q q;obtain⟨x,e1,e⟩:=oBq.mp e;rcases pO e with ⟨hl,e⟩|e
 .skip
  cases e;refine ha R (as:=x.1) (S':=x.2) e1 _ λHf1 H1 Fs1 vs Gs t1 R1 r1 o1=>⟨by rw[ud,←r1.1];exact hl,λp hp=>?_⟩
  obtain⟨t2,R2,n1,n2,n3⟩:=R1.new (o:=.lst vs) hp;refine q _ _ _ (.ref p) (p::Gs.flatten) (t1.trans t2) R2 (pT.news pD n1 (r1.stp o1.out t2)) ?_;have o2:=(yt.one R1 hp).back t1;refine(show yt _ _ _ _ ([p]++Gs.flatten) from o2.app o1 λq hq m=>?_)
  rw[mSq.mp hq]at m;exact(r1.owned p m).1 hp
 .cases e
end
def Da(a b:ML):MK:=λS=>(a S).bind λx=>(b x.2).bind λy=>vc (x.1.length+y.1.length<=rh) (some (.ow ((x.1++y.1).map .sh),y.2))
section
variable {K:W.Frag}{ta tb:TE}{a b:ML}
theorem Ff(ha:SL K ta a) (hb:SL K tb b):SK K (Qs Vu ta tb) (Da a b):=by
 intro H₀ Hf₀ Hf S σ H Fs av S' R e Q q;obtain⟨x,e1,e⟩:=oBq.mp e;obtain⟨y,e2,e⟩:=oBq.mp e;rcases pO e with ⟨hl,e⟩|e
 .skip
  cases e;refine ha R (ds:=x.1) (S':=x.2) e1 _ λHf1 H1 Fs1 p1 vs1 t1 R1 h1 r1=>hb R1 (ds:=y.1) (S':=y.2) e2 _ λHf2 H2 Fs2 p2 vs2 t2 R2 h2 r2=>?_
  refine⟨p1,p2,vs1,vs2,rfl,rfl,t2.sh _ _ h1,h2,by rw[ud,←r1.1,←r2.1];exact hl,λp hp=>?_⟩
  obtain⟨t3,R3,n1,n2,n3⟩:=R2.new (o:=.lst (vs1++vs2)) hp;exact q _ _ _ (.ref p) [p] ((t1.trans t2).trans t3) R3 (pT.new pD n1 ((r1.mono t2.sf).append r2)) ((yt.one R2 hp).back (t1.trans t2))
 .cases e
end
abbrev MO:=AS->Option (Option Int×AS)
def SO(K:W.Frag) (to:TO) (m:MO):Prop:=∀{H₀ Hf₀ Hf:Hp}{S:AS}{σ:St}{H:Hp}{Fs:List (List Addr)}{o:Option Int}{S':AS},qf K H₀ Hf₀ Hf S σ H Fs->m S=some (o,S')->∀Q:Option Int->Hp->Prop,
 (∀Hf' H' Fs',zb Hf H Fs Hf' H' Fs'->qf K H₀ Hf₀ Hf' S' σ H' Fs'->Q o H')->to σ H Q
def zC:MO:=λS=>some (none,S)
def wQ(m:ME):MO:=λS=>(m S).bind λx=>match x.1 with
 | .int i=>some (some i,x.2)
 |_=>none
def zF{α:Type}(xs:List α) (lo hi:Option Int):List α:=(xs.drop (HT.DS xs.length 0 lo)).take (HT.DS xs.length xs.length hi-HT.DS xs.length 0 lo)
def Oq(l:ML) (lo hi:MO):MK:=λS=>(l S).bind λx=>(lo x.2).bind λy=>(hi y.2).map λz=>(.ow ((zF x.1 y.1 z.1).map .sh),z.2)
section
variable {K:W.Frag}{te:TE}{tl th:TO}{l:ML}{lo hi:MO}{m:ME}
theorem EX:SO K Kq zC:=by
 intro H₀ Hf₀ Hf S σ H Fs o S' R e Q q;cases e;exact q _ _ _ .refl R
theorem AD(h:SR K te m):SO K (Tg te) (wQ m):=by
 intro H₀ Hf₀ Hf S σ H Fs o S' R e Q q;obtain⟨x,e1,e⟩:=oBq.mp e;refine h R (d:=x.1) (S':=x.2) e1 _ λHf1 H1 Fs1 v t1 R1 r1=>?_
 split at e
 .rename_i i hx;rw[hx]at r1;cases r1;cases e;exact⟨i,rfl,q _ _ _ t1 R1⟩
 .cases e
theorem qr.cut{H:Hp}{ds:List D}{vs:List V}(r:qr K H ds vs) (lo hi:Option Int):qr K H (zF ds lo hi) (HW vs lo hi):=by
 unfold zF HW;rw[r.1];exact(r.drop _).take _
theorem J7(hl:SQ K te l) (hlo:SO K tl lo) (hhi:SO K th hi):SK K (Za (WG K) te tl th) (Oq l lo hi):=by
 intro H₀ Hf₀ Hf S σ H Fs av S' R e Q q;obtain⟨x,e1,e⟩:=oBq.mp e;obtain⟨y,e2,e⟩:=oBq.mp e;obtain⟨z,e3,e⟩:=oMq.mp e;cases e;refine hl R (ds:=x.1) (S':=x.2) e1 _ λHf1 H1 Fs1 p1 vs1 t1 R1 h1 r1=>hlo R1 (o:=y.1) (S':=y.2) e2 _ λHf2 H2 Fs2 t2 R2=>hhi R2 (o:=z.1) (S':=z.2) e3 _ λHf3 H3 Fs3 t3 R3=>?_
 refine⟨p1,vs1,rfl,(t2.sh.trans t3.sh).seq h1,λp hp=>?_⟩
 obtain⟨t4,R4,n1,n2,n3⟩:=R3.new (o:=.lst (HW vs1 y.1 z.1)) hp;exact q _ _ _ (.ref p) [p] (((t1.trans t2).trans t3).trans t4) R4 (pT.new pD n1 ((r1.mono (t2.sf.trans t3.sf)).cut _ _)) ((yt.one R3 hp).back ((t1.trans t2).trans t3))
end
def G2:D->D->Option D
 | .list ds,.int i=>atI ds i
 | .scr ns,.int i=>(atI ns i).map .int
 |_,_=>none
def UV:D->D->Option D
 | .tup ds,.int i=>atI ds i
 |_,_=>none
def Qx(l:ML) (b:ME):MK:=λS=>(l S).bind λx=>(b x.2).bind λy=>match y.1 with
 | .int i=>(atI x.1 i).map λd=>(.sh d,y.2)
 |_=>none
def Yu(k:MK) (b:ME):MK:=λS=>(k S).bind λx=>(b x.2).bind λy=>match x.1,y.1 with
 | .sh (.tup ds),.int i=>(atI ds i).map λd=>(.sh d,y.2)
 |_,_=>none
section
variable {K:W.Frag}{ta tb:TE}
theorem qr.atI{H:Hp}{ds:List D}{vs:List V}{i:Int}{d:D}(r:qr K H ds vs) (h:L2.atI ds i=some d):∃v,L2.atI vs i=some v/\rS K H d v:=by
 unfold L2.atI at h ⊢;rw[r.1]at h;obtain⟨j,h1,h2⟩:=oBq.mp h;rw[h1];exact r.get h2
theorem AA:Fe K (RC K) G2:=by
 intro x y H Q dx dy d rx ry e q;unfold G2 at e;split at e
 .rename_i ds i;cases ry;obtain⟨p,vs,rfl,h,r⟩:=rx.list_inv;obtain⟨l,e'⟩:=r;obtain⟨v,h1,h2⟩:=qr.atI (K:=K) (H:=H) (ds:=ds) (vs:=vs) ⟨l,e'⟩ e;exact⟨p,vs,i,v,rfl,rfl,sS.of h,h1,q v h2⟩
 .rename_i ns i;cases ry;cases rx;rename_i p h;obtain⟨n,h1,h2⟩:=oMq.mp e;subst h2;obtain⟨v,h3,h4⟩:=qr.atI (K:=K) (H:=H) (tV ns) (i:=i) (d:=.int n) (by
   unfold L2.atI at h1 ⊢;rw[lMq];obtain⟨j,g1,g2⟩:=oBq.mp h1;rw[g1];show (ns.map D.int)[j]?=_;rw[gMq,g2];rfl)
  exact⟨p,_,i,v,rfl,rfl,h,h3,q v h4⟩
 .cases e
theorem JE{l:ML}{b:ME}(hl:SQ K ta l) (hb:SR K tb b):SK K (Qs (RC K) ta tb) (Qx l b):=by
 intro H₀ Hf₀ Hf S σ H Fs av S' R e Q q;obtain⟨x,e1,e⟩:=oBq.mp e;obtain⟨y,e2,e⟩:=oBq.mp e;refine hl R (ds:=x.1) (S':=x.2) e1 _ λHf1 H1 Fs1 p1 vs1 t1 R1 h1 r1=>hb R1 (d:=y.1) (S':=y.2) e2 _ λHf2 H2 Fs2 v2 t2 R2 r2=>?_
 split at e
 .rename_i i hy;rw[hy]at r2;cases r2;obtain⟨d,e3,e⟩:=oMq.mp e;cases e;obtain⟨v,g1,g2⟩:=(r1.mono t2.sf).atI e3;exact⟨p1,vs1,i,v,rfl,rfl,t2.sh.seq h1,g1,q _ _ _ v [] (t1.trans t2) R2 (.sh g2) .nil⟩
 .cases e
end
def VI(K:W.Frag) (r:List V->Hp->VK->Prop) (f:List D->Option D):Prop:=∀{vs:List V}{H:Hp}{Q:VK}{ds:List D}{d:D},qr K H ds vs->f ds=some d->(∀v,rS K H d v->Q v H)->r vs H Q
def rP(f:List D->Option D) (a:ML):ME:=λS=>(a S).bind λx=>(f x.1).map λd=>(d,x.2)
theorem ri{K:W.Frag}{r:List V->Hp->VK->Prop}{f:List D->Option D}{ta:TA}{a:ML}(hr:VI K r f) (ha:QI K ta a):SR K (Mj r ta) (rP f a):=by
 intro H₀ Hf₀ Hf S σ H Fs d S' R e Q q;obtain⟨x,e1,e⟩:=oBq.mp e;obtain⟨z,e3,e⟩:=oMq.mp e;cases e;exact ha R (ds:=x.1) (S':=x.2) e1 _ λHf1 H1 Fs1 vs t1 R1 r1=>hr r1 e3 λv rv=>q _ _ _ v t1 R1 rv
def ql:List D->Option D
 | [.list ds]=>some (.int ds.length)
 | [.tup ds]=>some (.int ds.length)
 | [.scr ns]=>some (.int ns.length)
 | [.str x]=>vc (x.length<=rh) (some (.int x.length))
 |_=>none
def Jl:List D->Option D
 | [.int i]=>some (.int (if i<0 then -i else i))
 |_=>none
def Zf:List D->Option D
 | [.int i,.int j]=>some (.int (if j>i then j else i))
 |_=>none
def Zd:List D->Option D
 | [.int i,.int j]=>some (.int (if j<i then j else i))
 |_=>none
def Y3:List D->Option D
 | [.int i]=>some (.int i)
 | [.bl k]=>some (.int (if k then 1 else 0))
 |_=>none
def WR:D->String->Option D
 | .int _,T=>if T = "int" then some (.bl true) else if T = "bool" then some (.bl false) else none
 | .bl _,T=>if T = "bool" ∨ T = "int" then some (.bl true) else none
 | .str _,T=>if T = "str" then some (.bl true) else none
 | .list _,T=>if T = "list" then some (.bl true) else none
 | .tup _,T=>if T = "tuple" then some (.bl true) else none
 | .dict _,T=>if T = "dict" then some (.bl true) else none
 |_,_=>none
def zO:List D->Option D
 | [x,.ty T]=>WR x T
 |_=>none
def rJ:List D->Option (List Int)
 | []=>some []
 | .int i::ds=>(rJ ds).map (i :: ·)
 |_=>none
theorem uO:∀{ds:List D}{ns:List Int},rJ ds=some ns->ds=ns.map .int
 | [],ns,h=>by cases h;rfl
 |d::ds,ns,h=>by
  cases d with
  |int i =>
   obtain⟨ms,h1,h2⟩:=oMq.mp (show (rJ ds).map (i :: ·)=some ns from h)
   subst h2;rw[uO h1];rfl
  |_=>cases h
@[simp] theorem uC (ns:List Int):rJ (ns.map .int)=some ns:=by
 induction ns with
 |nil=>rfl
 |cons n ns ih=>show (rJ (ns.map .int)).map (n :: ·)=_;rw[ih];rfl
theorem rO{K:W.Frag}{H:Hp}:∀{ns:List Int}{vs:List V},qr K H (ns.map .int) vs->vs=ns.map V.int
 | [],vs,h=>h.nil_inv
 |n::ns,vs,h=>by
  obtain⟨v,ws,rfl,h1,h2⟩:=qr.cons_inv (d:=.int n) (ds:=ns.map .int) h;cases h1;rw[rO h2];rfl
def JD:List Int->Option Int
 | []=>none
 |n::ns=>some (ns.foldl min n)
theorem xf:∀(ns:List Int) (n:Int),ns.foldl min n∈n::ns
 | [],n=>by simp
 |m::ns,n=>by
  have h:=xf ns (min n m);rw[bD];rcases ae.mp h with e|e
  .rw [e]
   by_cases c:n<=m
   .rw [Int.min_eq_left c];simp
   .rw [Int.min_eq_right (by lia)];simp
  .exact mCo _ (mCo _ e)
theorem vm:∀(ns:List Int) (n:Int),(ns.foldl min n<=n)/\∀x∈ns,ns.foldl min n<=x
 | [],n=>⟨fZ _,λx h=>by cases h⟩
 |m::ns,n=>by
  obtain⟨h1,h2⟩:=vm ns (min n m);rw[bD];refine⟨by lia,λx hx=>?_⟩
  rcases ae.mp hx with e|e
  .subst e;lia
  .exact h2 x e
def Qn:List D->Option D
 | [.list ds]=>(rJ ds).bind λns=>(JD ns).map .int
 |_=>none
section
variable {K:W.Frag}
theorem rn:VI K (λxs H Q=>∃x n,xs=[x]/\Wk K x H n/\Q (.int n) H) ql:=by
 intro vs H Q ds d r e q;unfold ql at e;split at e
 .obtain ⟨v,ws,rfl,h1,h2⟩:=r.cons_inv;rw[h2.nil_inv];obtain⟨p,us,rfl,h3,h4⟩:=h1.list_inv;cases e;exact⟨_,_,rfl,.inl ⟨us,sS.of h3,h4.1⟩,q _ .int⟩
 .obtain ⟨v,ws,rfl,h1,h2⟩:=r.cons_inv;rw[h2.nil_inv];obtain⟨p,us,rfl,h3,h4⟩:=h1.tup_inv;cases e;exact⟨_,_,rfl,.inr ⟨us,Jo.of h3,h4.1⟩,q _ .int⟩
 .obtain ⟨v,ws,rfl,h1,h2⟩:=r.cons_inv;rw[h2.nil_inv];cases e;cases h1 with
  |scr h=>exact⟨_,_,rfl,.inl ⟨_,h,(lMq _).symm⟩,q _ .int⟩
 .rcases pO e with ⟨hl,e⟩|e
  .skip
   obtain⟨v,ws,rfl,h1,h2⟩:=r.cons_inv;rw[h2.nil_inv];cases e;cases h1;exact⟨_,_,rfl,⟨by rw[ud];exact hl,rfl⟩,q _ .int⟩
  .cases e
 .cases e
theorem Qr:VI K (λxs H Q=>∃i,xs=[.int i]/\Q (.int (if i<0 then -i else i)) H) Jl:=by
 intro vs H Q ds d r e q;unfold Jl at e;split at e
 .obtain ⟨v,ws,rfl,h1,h2⟩:=r.cons_inv;rw[h2.nil_inv];cases h1;cases e;exact⟨_,rfl,q _ .int⟩
 .cases e
theorem Vj:VI K (λxs H Q=>∃(a:Addr) (ns:List Int),xs=[.ref a]/\sS K H a (ns.map V.int)/\0<ns.length/\∀M,M∈ns->(∀x,x∈ns->M<=x)->Q (.int M) H) Qn:=by
 intro vs H Q ds d r e q;unfold Qn at e;split at e
 .obtain ⟨v,ws,rfl,h1,h2⟩:=r.cons_inv;rw[h2.nil_inv];obtain⟨ns,e1,e⟩:=oBq.mp e;obtain⟨m,e2,e⟩:=oMq.mp e;cases e;rw[uO e1]at h1;obtain⟨p,us,rfl,h3,h4⟩:=h1.list_inv;rw[rO h4]at h3;cases ns with
  |nil=>cases e2
  |cons n ns =>
   cases e2;refine⟨p,_,rfl,sS.of h3,by simp,λM hM hm=>?_⟩
   have e3:M=ns.foldl min n:=by
    have a1:=hm _ (xf ns n);have a2:=vm ns n;have a3:ns.foldl min n<=M:=by
     rcases ae.mp hM with z|z
     .subst z;exact a2.1
     .exact a2.2 M z
    lia
   rw[e3];exact q _ .int
 .cases e
theorem IM:VI K (λxs H Q=>∃x T b,xs=[x,.ty T]/\Wv K x H T b/\Q (.bl b) H) zO:=by
 intro vs H Q ds d r e q;unfold zO at e;split at e
 rotate_left
 .cases e
 rename_i x T;obtain⟨v,ws,rfl,h1,h2⟩:=r.cons_inv;obtain⟨u,zs,rfl,h3,h4⟩:=h2.cons_inv;rw[h4.nil_inv];cases h3;unfold WR at e;cases x <;> first|(cases e;done)|dsimp only at e
 case int =>
  cases h1;split at e
  .rename_i hT;cases e;exact⟨_,_,_,rfl,.inl ⟨hT,rfl⟩,q _ .bl⟩
  .split at e
   .rename_i hT;cases e;exact⟨_,_,_,rfl,.inr ⟨hT,rfl⟩,q _ .bl⟩
   .cases e
 case bl =>
  cases h1;split at e
  .rename_i hT;cases e;rcases hT with hT|hT
   .exact ⟨_,_,_,rfl,.inl ⟨hT,rfl⟩,q _ .bl⟩
   .exact ⟨_,_,_,rfl,.inr ⟨hT,rfl⟩,q _ .bl⟩
  .cases e
 case str =>
  cases h1;split at e
  .rename_i hT;cases e;exact⟨_,_,_,rfl,⟨hT,rfl⟩,q _ .bl⟩
  .cases e
 case list =>
  obtain⟨p,us,rfl,g3,g4⟩:=h1.list_inv;split at e
  .rename_i hT;cases e;exact⟨_,_,_,rfl,.inl ⟨hT,rfl,us,sS.of g3⟩,q _ .bl⟩
  .cases e
 case tup =>
  obtain⟨p,us,rfl,g3,g4⟩:=h1.tup_inv;split at e
  .rename_i hT;cases e;exact⟨_,_,_,rfl,.inr (.inr ⟨hT,rfl,us,Jo.of g3⟩),q _ .bl⟩
  .cases e
 case dict =>
  obtain⟨p,us,rfl,g3,g4⟩:=h1.dict_inv;split at e
  .rename_i hT;cases e;exact⟨_,_,_,rfl,.inr (.inl ⟨hT,rfl,us,g3⟩),q _ .bl⟩
  .cases e
end
abbrev MF:=List D->Option AV
def qN(K:W.Frag) (f:MF):Sp:=λvs H Q _=>∃(Hf:Hp) (ds:List D) (a:AV),qh Hf H/\qr K Hf ds vs/\f ds=some a /\
 ∀Hf' H' v F,qh Hf Hf'->qh H H'->qh Hf' H'->(∀b,Hf b=none->H b≠none->Hf' b=none)->pT K Hf' H' a v F->F.Nodup->(∀q∈F,H q=none)->Q v H'
def pH(f:MF) (a:MA):MK:=λS=>(a S).bind λx=>(f (x.1.map oP)).map λr=>(r,x.2)
theorem qE{K:W.Frag}{f:MF}{ta:TA}{a:MA}(ha:SA K ta a):SK K (Kf (qN K f) [] E0 ta) (pH f a):=by
 intro H₀ Hf₀ Hf S σ H Fs av S' R e Q q;obtain⟨x,e1,e⟩:=oBq.mp e;obtain⟨z,e3,e⟩:=oMq.mp e;cases e;refine ha R (as:=x.1) (S':=x.2) e1 _ λHf1 H1 Fs1 vs Gs t1 R1 r1 o1=>?_
 obtain⟨R2,r2,t2⟩:=R1.gives t1 r1 o1;rw[aNq];refine⟨_,_,av,R2.sub,r2,e3,λHf' H' v F s1 s2 s3 l r nd fr=>?_⟩
 have t3:zb (Z.frz Hf1 H1 Gs.flatten) H1 Fs1 Hf' H' Fs1:=⟨s1,s2,λ_ h=>h,λb h g=>.inl (by
  by_cases e:H1 b=none
  .exact e
  .exact absurd (l b h e) g)⟩
 have hn:∀q∈Fs1.flatten,Hf' q=none:=λq hq=>l q (R2.mem hq).2 (R2.mem hq).1
 have R3:qf K H₀ Hf₀ Hf' x.2 σ H' Fs1:=R2.more s2 s1 s3 hn λb h1 h2=>l b (R2.lim b h1 h2) (QK R2.fr h2)
 refine q _ _ _ v F (t2.trans t3) R3 r ⟨nd,λq hq=>R2.fr.free (fr q hq),λq hq m=>(R2.mem m).1 (fr q hq),λq hq=>.inl (t1.sh.free (fr q hq))⟩
inductive Kd where
 |nx (S:AS)|rt (a:AV)|bk (S:AS)|ct (S:AS)
abbrev MS:=AS->Option Kd
def DL(K:W.Frag) (H₀ Hf₀ Hf:Hp) (D:zj):Kd->Prop
 | .nx S=>∀Hf' σ' H' Fs',qh Hf Hf'->qf K H₀ Hf₀ Hf' S σ' H' Fs'->D.nx σ' H'
 | .bk S=>∀Hf' σ' H' Fs',qh Hf Hf'->qf K H₀ Hf₀ Hf' S σ' H' Fs'->D.bk σ' H'
 | .ct S=>∀Hf' σ' H' Fs',qh Hf Hf'->qf K H₀ Hf₀ Hf' S σ' H' Fs'->D.ct σ' H'
 | .rt a=>∀Hf' H' v F,qh Hf₀ Hf'->qh H₀ H'->qh Hf' H'->(∀b,Hf₀ b=none->H₀ b≠none->Hf' b=none)->pT K Hf' H' a v F->F.Nodup->(∀q∈F,H₀ q=none)->D.rt v H'
def SS(K:W.Frag) (t:TS) (m:MS):Prop:=∀{H₀ Hf₀ Hf:Hp}{S:AS}{σ:St}{H:Hp}{Fs:List (List Addr)}{o:Kd},qf K H₀ Hf₀ Hf S σ H Fs->m S=some o->∀D:zj,DL K H₀ Hf₀ Hf D o->t D σ H
theorem DL.mono{K:W.Frag}{H₀ Hf₀ Hf Hf':Hp}{D:zj}{o:Kd}(s:qh Hf Hf') (h:DL K H₀ Hf₀ Hf D o):DL K H₀ Hf₀ Hf' D o:=by
 cases o with
 |nx S=>exact λHf2 σ' H' Fs' s2 R=>h Hf2 σ' H' Fs' (s.trans s2) R
 |bk S=>exact λHf2 σ' H' Fs' s2 R=>h Hf2 σ' H' Fs' (s.trans s2) R
 |ct S=>exact λHf2 σ' H' Fs' s2 R=>h Hf2 σ' H' Fs' (s.trans s2) R
 |rt a=>exact h
def pU:MS:=λS=>some (.nx S)
def Yo:MS:=λS=>some (.bk S)
def YT:MS:=λS=>some (.ct S)
def Yg:MS:=λ_=>none
def oE(a b:MS):MS:=λS=>(a S).bind λo=>match o with
 | .nx S'=>b S'
 |o=>some o
def oS(i:Nat) (k:MK):MS:=λS=>(k S).map λx=>.nx (x.2.set i (some x.1))
def Y1(k:MK):MS:=λS=>(k S).map λx=>.nx x.2
def qa(k:MK):MS:=λS=>(k S).map λx=>.rt x.1
def wt(c:MT) (a b:MS):MS:=λS=>(c S).bind λx=>if x.1=true then a x.2 else b x.2
section
variable {K:W.Frag}{t u:TS}{a b:MS}{te:TE}{k:MK}
theorem tE:SS K Tj pU:=by
 intro H₀ Hf₀ Hf S σ H Fs o R e D h;cases e;exact h _ _ _ _ (.refl _) R
theorem oO(ha:SS K t a) (hb:SS K u b):SS K (Oy t u) (oE a b):=by
 intro H₀ Hf₀ Hf S σ H Fs o R e D h;obtain⟨x,e1,e⟩:=oBq.mp e;refine ha R e1 _ ?_;cases x with
 |nx S'=>exact λHf' σ' H' Fs' s R'=>hb R' e D (h.mono s)
 |rt a=>cases e;exact h
 |bk a=>cases e;exact h
 |ct a=>cases e;exact h
theorem pE{i:Nat}(hk:SK K te k):SS K (IW te (tW i)) (oS i k):=by
 intro H₀ Hf₀ Hf S σ H Fs o R e D h;obtain⟨x,e1,e⟩:=oMq.mp e;cases e;refine hk R (a:=x.1) (S':=x.2) e1 _ λHf1 H1 Fs1 v F t1 R1 r1 o1=>?_
 exact h _ _ _ _ t1.sf (R1.set i r1 o1.nd λq hq=>⟨o1.fr q hq,o1.out q hq⟩)
theorem qG(hk:SK K te k):SS K (Vx te) (qa k):=by
 intro H₀ Hf₀ Hf S σ H Fs o R e D h;obtain⟨x,e1,e⟩:=oMq.mp e;cases e;exact hk R (a:=x.1) (S':=x.2) e1 _ λHf1 H1 Fs1 v F t1 R1 r1 o1=>h _ _ v F R1.sf R1.fr R1.sub R1.lim r1 o1.nd o1.fr
theorem wB{c:TT}{m:MT}(hc:Ho K c m) (ha:SS K t a) (hb:SS K u b):SS K (Q0 c t u) (wt m a b):=by
 intro H₀ Hf₀ Hf S σ H Fs o R e D h;obtain⟨x,e1,e⟩:=oBq.mp e;refine hc R (b:=x.1) (S':=x.2) e1 _ λHf1 H1 Fs1 t1 R1=>?_
 split at e
 .rename_i hx;rw[hx];exact IR (ha R1 e D (h.mono t1.sf))
 .rename_i hx;rw[dG]at hx;rw[hx];exact Jn (hb R1 e D (h.mono t1.sf))
end
def qL(S:AS) (i:Nat):Option (List AV):=match S[i]?.join with
 |some (.ow avs)=>some avs
 |_=>none
def wF(S:AS) (i:Nat):Option (List (oU×D)):=match S[i]?.join with
 |some (.owd kvs)=>some kvs
 |_=>none
def uV(i:Nat) (k:MK):MS:=λS=>(qL S i).bind λ_=>(k S).bind λx=>(qL x.2 i).bind λavs =>
 vc (avs.length<rh) (some (.nx (x.2.set i (some (.ow (avs++[x.1]))))))
def Lg(i:Nat) (l:ML):MS:=λS=>(qL S i).bind λ_=>(l S).bind λx=>(qL x.2 i).bind λavs =>
 vc (avs.length+x.1.length<=rh) (some (.nx (x.2.set i (some (.ow (avs++x.1.map .sh))))))
def intOf:D->Option Int
 | .int i=>some i
 |_=>none
def ZF(i:Nat) (b:ME) (k:MK):MS:=λS=>(wu k S).bind λx=>(qL x.2 i).bind λ_=>(b x.2).bind λy=>(qL y.2 i).bind λavs=>(intOf y.1).bind λj=>(GN avs.length j).map λn =>
 .nx (y.2.set i (some (.ow (((avs.map oP).set n (oP x.1)).map .sh))))
def uz:D->Option oU
 | .int i=>some (.inl i)
 | .str x=>some (.inr x)
 |_=>none
def xZ(kvs:List (oU×D)) (k:oU) (d:D):List (oU×D):=if kvs.any (λkv=>decide (kv.1=k)) then kvs.map (λkv=>if kv.1=k then (kv.1,d) else kv) else kvs++[(k,d)]
def getD(kvs:List (oU×D)) (k:oU):Option D:=(kvs.find? λkv=>decide (kv.1=k)).map (·.2)
def vS(i:Nat) (b:ME) (k:MK):MS:=λS=>(wu k S).bind λx=>(wF x.2 i).bind λ_=>(b x.2).bind λy=>(wF y.2 i).bind λkvs=>(uz y.1).bind λkey =>
 vc (kvs.length<rh) (some (.nx (y.2.set i (some (.owd (xZ kvs key (oP x.1)))))))
section
variable {K:W.Frag}{H₀ Hf₀ Hf H:Hp}{S:AS}{σ:St}{Fs:List (List Addr)}
theorem qf.turn(R:qf K H₀ Hf₀ Hf S σ H Fs) {i:Nat}{av:AV}{p:Addr}{o:HO}{F F':List Addr}(s1:σ[i]?=some (some (.ref p))) (s2:Fs[i]?=some F) (hp:p∈F) (r:pT K Hf (qP H p o) av (.ref p) F') (nd:F'.Nodup)
  (hf:∀q∈F',H₀ q=none/\q∉(Fs.set i []).flatten):qf K H₀ Hf₀ Hf (S.set i (some av)) σ (qP H p o) (Fs.set i F'):=by
 have hin:p∈Fs.flatten:=mFq.mpr ⟨F,mGq s2,hp⟩;have pn:Hf p=none:=(R.mem hin).2;have p0:H₀ p=none:=R.fresh p hin;have out:=ug R.nd s2 hp;have R1:qf K H₀ Hf₀ Hf (S.set i none) σ (qP H p o) (Fs.set i []):=by
  refine⟨by simp[R.len],by simp[R.lenF],λj a ej=>?_,λj ej=>?_,si i R.nd aU (λp hp=>by cases hp),λp hp=>R.fresh p (qD hp),λb u e=>?_,λb u e=>?_,R.lim,R.sf⟩
  .rw [bG]at ej
   by_cases hij:i=j
   .subst hij;rw[pN rfl]at ej;split at ej <;> cases ej
   .rw [pJ hij]at ej;obtain⟨w,G,f1,f2,q⟩:=R.rep j a ej;refine⟨w,G,f1,by rw[aA hij];exact f2,q.keep (.refl _) (λc hc=>oV λe=>out ?_) λc hc=>(q.owned c hc).2⟩
    subst e;exact mFq.mpr ⟨G,mGq (i:=j) (by rw[aA hij];exact f2),hc⟩
  .rw [bG]at ej
   by_cases hij:i=j
   .subst hij;rw[pN rfl]at ej;split at ej
    .rename_i hi;rw[aC (R.lenF.symm ▸ hi)]
    .cases ej
   .rw [pJ hij]at ej;rw[aA hij];exact R.emp j ej
  .rw [oV λz=>by rw[z,pn]at e;cases e]
   exact R.sub b u e
  .rw [oV λz=>by rw[z,p0]at e;cases e]
   exact R.fr b u e
 exact R1.again (F:=F) s1 r nd hf
theorem pS{i:Nat}{F:List Addr}{q:Addr}(s2:Fs[i]?=some F) (h:q∈F):q∈Fs.flatten:=mFq.mpr ⟨F,mGq s2,h⟩
theorem pW.snoc{as:List AV}{vs:List V}{Gs:List (List Addr)}{a:AV}{v:V}{F:List Addr}(r:pW K Hf H as vs Gs) (s:pT K Hf H a v F):pW K Hf H (as++[a]) (vs++[v]) (Gs++[F]):=by
 obtain⟨h1,h2,h3⟩:=r;refine⟨by simp[h1],by simp[h2],λi b w G e1 e2 e3=>?_⟩
 by_cases hi:i<as.length
 .rw [gZq hi]at e1;rw[gZq (h1 ▸ hi)]at e2;rw[gZq (h2 ▸ hi)]at e3;exact h3 i b w G e1 e2 e3
 .have hi':i=as.length:=by
   have:=(gSq.mp e1).1;rw[lAq,lSq]at this;lia
  subst hi';rw[gYq (af _),dB]at e1;rw[h1,gYq (af _),dB]at e2;rw[h2,gYq (af _),dB]at e3;cases e1;cases e2;cases e3;exact s
theorem pW.keepUpd{as:List AV}{vs:List V}{Gs:List (List Addr)}{p:Addr}{o:HO}(r:pW K Hf H as vs Gs) (hp:p∉Gs.flatten):pW K Hf (qP H p o) as vs Gs :=
 ⟨r.1,r.2.1,λi a v F h1 h2 h3=>by
  have q:=r.2.2 i a v F h1 h2 h3;refine q.keep (.refl _) (λc hc=>oV λe=>hp ?_) λc hc=>(q.owned c hc).2
  subst e;exact mFq.mpr ⟨F,mGq h3,hc⟩⟩
theorem pT.keepUpd{a:AV}{v:V}{F:List Addr}{p:Addr}{o:HO}(q:pT K Hf H a v F) (hp:p∉F):pT K Hf (qP H p o) a v F :=
 q.keep (.refl _) (λc hc=>oV λe=>hp (e ▸ hc)) λc hc=>(q.owned c hc).2
theorem RF{ds:List D}{vs:List V}(r:qr K Hf ds vs):pW K Hf H (ds.map .sh) vs (aB ds.length []) :=
 ⟨by simp[r.1],by simp,λi a v F h1 h2 h3=>by
  rw[gMq]at h1;cases q:ds[i]? with
  |none=>rw[q]at h1;cases h1
  |some d =>
   rw[q]at h1;cases h1;have:F=[]:=eI (mGq h3);subst this;exact .sh (r.2 i d v q h2)⟩
theorem pW.append{as bs:List AV}{vs ws:List V}{Gs Es:List (List Addr)}(r:pW K Hf H as vs Gs) (s:pW K Hf H bs ws Es):pW K Hf H (as++bs) (vs++ws) (Gs++Es):=by
 obtain⟨h1,h2,h3⟩:=r;refine⟨by simp[h1,s.1],by simp[h2,s.2.1],λi b w G e1 e2 e3=>?_⟩
 by_cases hi:i<as.length
 .rw [gZq hi]at e1;rw[gZq (h1 ▸ hi)]at e2;rw[gZq (h2 ▸ hi)]at e3;exact h3 i b w G e1 e2 e3
 .rw [gYq (by lia)]at e1
  rw[gYq (by lia),←h1]at e2
  rw[gYq (by lia),←h2]at e3
  exact s.2.2 _ b w G e1 e2 e3
end
section
variable {K:W.Frag}{te ta tb:TE}{k:MK}{b:ME}{l:ML}
theorem qb{S:AS}{i:Nat}{avs:List AV}(h:qL S i=some avs):S[i]?=some (some (.ow avs)):=by
 unfold qL at h;split at h
 .rename_i z e;cases h;exact qd e
 .cases h
theorem zV{S:AS}{i:Nat}{kvs:List (oU×D)}(h:wF S i=some kvs):S[i]?=some (some (.owd kvs)):=by
 unfold wF at h;split at h
 .rename_i z e;cases h;exact qd e
 .cases h
theorem qf.ow{H₀ Hf₀ Hf H:Hp}{S:AS}{σ:St}{Fs:List (List Addr)}(R:qf K H₀ Hf₀ Hf S σ H Fs) {i:Nat}{avs:List AV}(h:S[i]?=some (some (.ow avs))):∃p vs Gs,σ[i]?=some (some (.ref p))/\Fs[i]?=some (p::Gs.flatten)/\H p=some (.lst vs)/\Hf p=none/\pW K Hf H avs vs Gs /\
  p∉Gs.flatten/\Gs.flatten.Nodup/\∀q∈p::Gs.flatten,H₀ q=none/\q∉(Fs.set i []).flatten:=by
 obtain⟨v,F,s1,s2,r,nd,o,_⟩:=R.move h;obtain⟨p,vs,Gs,rfl,rfl,h1,h2,h3⟩:=r.ow_inv;exact⟨p,vs,Gs,s1,s2,h1,h2,h3,(aq.mp nd).1,(aq.mp nd).2,o⟩
theorem xh{i:Nat}(hk:SK K te k):SS K (AB (Nk K "list" wz (wR i) (um te wV))) (uV i k):=by
 intro H₀ Hf₀ Hf S σ H Fs o R e D h;obtain⟨a0,e0,e⟩:=oBq.mp e;obtain⟨x,e1,e⟩:=oBq.mp e;obtain⟨avs,e2,e⟩:=oBq.mp e;rcases pO e with ⟨hl,e⟩|e
 .skip
  cases e;obtain⟨p,vs,Gs,s1,_,h1,_⟩:=R.ow (qb e0);refine⟨.ref p,s1,.inl ⟨rfl,vs,sS.of h1⟩,hk R (a:=x.1) (S':=x.2) e1 _ λHf1 H1 Fs1 v F t1 R1 r1 o1=>?_⟩
  obtain⟨p',vs',Gs',s1',s2',h1',h2',h3',h4',h5',h6'⟩:=R1.ow (qb e2);rw[s1]at s1';cases s1';have pF:p∉F:=λm=>o1.out p m (pS s2' (by simp))
  refine⟨p,vs',v,rfl,rfl,h1',by rw[ud,←h3'.1];exact hl,h _ _ _ _ t1.sf (R1.turn s1 s2' (by simp) (F':=p::(Gs'++[F]).flatten) (pT.news pD h2' ((h3'.keepUpd h4').snoc (r1.keepUpd pF))) ?_ λq hq=>?_)⟩
  .rw [fAq,bo];refine aq.mpr ⟨λm=>(mAq.mp m).elim h4' pF,nAq.mpr ⟨h5',o1.nd,λa ha b hb e=>o1.out b hb (pS s2' (mCo _ (e ▸ ha)))⟩⟩
  .rw [fAq,bo]at hq;rcases ae.mp hq with z|z
   .exact h6' q (by rw[z];simp)
   .rcases mAq.mp z with z|z
    .exact h6' q (mCo _ z)
    .exact ⟨o1.fr q z,λm=>o1.out q z (qD m)⟩
 .cases e
theorem T6{i:Nat}(hl:SL K te l):SS K (AB (Nk K "list" JU (wR i) (um te wV))) (Lg i l):=by
 intro H₀ Hf₀ Hf S σ H Fs o R e D h;obtain⟨a0,e0,e⟩:=oBq.mp e;obtain⟨x,e1,e⟩:=oBq.mp e;obtain⟨avs,e2,e⟩:=oBq.mp e;rcases pO e with ⟨hle,e⟩|e
 .skip
  cases e;obtain⟨p,vs,Gs,s1,_,h1,_⟩:=R.ow (qb e0);refine⟨.ref p,s1,.inl ⟨rfl,vs,sS.of h1⟩,hl R (ds:=x.1) (S':=x.2) e1 _ λHf1 H1 Fs1 b ws t1 R1 hb r1=>?_⟩
  obtain⟨p',vs',Gs',s1',s2',h1',h2',h3',h4',h5',h6'⟩:=R1.ow (qb e2);rw[s1]at s1';cases s1';refine⟨p,b,vs',ws,rfl,rfl,h1',hb,by rw[ud,←h3'.1,←r1.1];exact hle,h _ _ _ _ t1.sf (R1.turn s1 s2' (by simp) (F':=p::(Gs'++aB x.1.length []).flatten) (pT.news pD h2' ((h3'.keepUpd h4').append (RF r1))) ?_ λq hq=>?_)⟩
  .rw [fAq,vF,aNq];exact aq.mpr ⟨h4',h5'⟩
  .rw [fAq,vF,aNq]at hq;exact h6' q hq
 .cases e
theorem AH{H:Hp}:∀{ds:List (oU×D)}{kvs:List (oU×V)}{key:oU},tN K H ds kvs->match getD ds key with
  |some d=>∃v,uy kvs key=some v/\rS K H d v
  |none=>uy kvs key=none
 | [],kvs,key,h=>by
  have:kvs=[]:=by
   have:=congrArg cm h.1;simpa using this.symm
  subst this;rfl
 |d::ds,[],key,h=>by
  have:=congrArg cm h.1;simp at this
 |d::ds,v::kvs,key,h=>by
  have h1:d.1=v.1/\ds.map (·.1)=kvs.map (·.1):=by
   have:=h.1;simpa using this
  have h2:rS K H d.2 v.2:=h.2 0 d v rfl rfl;have ht:tN K H ds kvs:=⟨h1.2,λi a b e1 e2=>h.2 (i+1) a b (by simpa using e1) (by simpa using e2)⟩
  unfold getD uy
  by_cases c:d.1=key
  .rw [eS (by simp[c]),eS (by simp[←h1.1,c])]
   exact⟨v.2,rfl,h2⟩
  .rw [dJ (by simp[c]),dJ (by simp[←h1.1,c])]
   exact AH ht
theorem vA{H:Hp}{d:D}{v:V}{key:oU}(h:uz d=some key) (r:rS K H d v):v=kV key:=by
 cases r <;> simp only[uz]at h
 all_goals first|(exfalso;simp at h;done)|skip
 all_goals (cases h;rfl)
theorem tN.key{H:Hp}{ds:List (oU×D)}{kvs:List (oU×V)}(h:tN K H ds kvs) {i:Nat}{d:oU×D}{v:oU×V}(e1:ds[i]?=some d) (e2:kvs[i]?=some v):d.1=v.1:=by
 have:=congrArg (λl=>l[i]?) h.1
 simp only[gMq,e1,e2,cf]at this;exact aD.inj this
theorem tN.len{H:Hp}{ds:List (oU×D)}{kvs:List (oU×V)}(h:tN K H ds kvs):ds.length=kvs.length:=by
 have:=congrArg cm h.1;simpa using this
theorem Gb{H:Hp}{ds:List (oU×D)}{kvs:List (oU×V)}{key:oU}{d:D}{v:V}(h:tN K H ds kvs) (r:rS K H d v):tN K H (xZ ds key d) (wq kvs key v):=by
 have ha:(ds.any λkv=>decide (kv.1=key))=kvs.any λkv=>decide (kv.1=key):=by
  have e1:(ds.any λkv=>decide (kv.1=key))=(ds.map (·.1)).any λk=>decide (k=key):=by rw[jL];rfl
  have e2:(kvs.any λkv=>decide (kv.1=key))=(kvs.map (·.1)).any λk=>decide (k=key):=by rw[jL];rfl
  rw[e1,e2,h.1]
 unfold xZ wq;rw[ha];split
 .refine ⟨?_,λi a b e1 e2=>?_⟩
  .rw [mPq,mPq];have e1:((λkv:oU×D=>kv.1)∘λkv:oU×D=>if kv.1=key then (kv.1,d) else kv)=λkv=>kv.1:=by
    funext kv;show (if kv.1=key then (kv.1,d) else kv).1=kv.1
    split <;> rfl
   have e2:((λkv:oU×V=>kv.1)∘λkv:oU×V=>if kv.1=key then (kv.1,v) else kv)=λkv=>kv.1:=by
    funext kv;show (if kv.1=key then (kv.1,v) else kv).1=kv.1
    split <;> rfl
   rw[e1,e2];exact h.1
  .rw [gMq]at e1 e2;obtain⟨a',f1,rfl⟩:=oMq.mp e1;obtain⟨b',f2,rfl⟩:=oMq.mp e2;have hk:=h.key f1 f2
   by_cases c:a'.1=key
   .rw [pN c,pN (hk ▸ c)];exact r
   .rw [pJ c,pJ (hk ▸ c)];exact h.2 i a' b' f1 f2
 .refine ⟨by rw[mBq,mBq,h.1];rfl,λi a b e1 e2=>?_⟩
  by_cases hi:i<ds.length
  .rw [gZq hi]at e1;rw[gZq (h.len ▸ hi)]at e2;exact h.2 i a b e1 e2
  .have hi':i=ds.length:=by
    have:=(gSq.mp e1).1;rw[lAq,lSq]at this;lia
   subst hi';rw[gYq (af _),dB]at e1;rw[h.len,gYq (af _),dB]at e2;cases e1;cases e2;exact r
def vi:MK:=λS=>some (.owd [],S)
theorem Ao:SK K NW vi:=by
 intro H₀ Hf₀ Hf S σ H Fs av S' R e Q q;cases e;intro p hp;obtain⟨t,R2,n1,n2,n3⟩:=R.new (o:=.dK []) hp;exact q _ _ _ (.ref p) [p] t R2 (.owd pD n1 ⟨rfl,λi d v h=>by simp at h⟩) (yt.one R hp)
theorem qf.owd{H₀ Hf₀ Hf H:Hp}{S:AS}{σ:St}{Fs:List (List Addr)}(R:qf K H₀ Hf₀ Hf S σ H Fs) {i:Nat}{ds:List (oU×D)}(h:S[i]?=some (some (.owd ds))):∃p kvs,σ[i]?=some (some (.ref p))/\Fs[i]?=some [p]/\H p=some (.dK kvs)/\Hf p=none/\tN K Hf ds kvs /\
  H₀ p=none/\p∉(Fs.set i []).flatten:=by
 obtain⟨v,F,s1,s2,r,nd,o,_⟩:=R.move h;obtain⟨p,kvs,rfl,rfl,h1,h2,h3⟩:=r.owd_inv;exact⟨p,kvs,s1,s2,h1,h2,h3,(o p (by simp)).1,(o p (by simp)).2⟩
theorem A0{i:Nat}(hk:SK K te k) (hb:SR K tb b):SS K (Tw (wR i) tb te) (vS i b k):=by
 intro H₀ Hf₀ Hf S σ H Fs o R e D h;obtain⟨x,e1,e⟩:=oBq.mp e;obtain⟨a0,e0,e⟩:=oBq.mp e;obtain⟨y,e2,e⟩:=oBq.mp e;obtain⟨kvs,e3,e⟩:=oBq.mp e;obtain⟨key,e4,e⟩:=oBq.mp e;rcases pO e with ⟨hl,e⟩|e
 .skip
  cases e;have hk':SK K te (wu k):=SK.frz hk;refine hk' R (a:=x.1) (S':=x.2) e1 _ λHf1 H1 Fs1 v F t1 R1 r1 o1=>?_
  obtain⟨p',_,s1,_⟩:=R1.owd (zV e0);refine⟨_,s1,hb R1 (d:=y.1) (S':=y.2) e2 _ λHf2 H2 Fs2 w t2 R2 r2=>?_⟩
  obtain⟨q',kv,s1',s2',h1',h2',h3',h4',h5'⟩:=R2.owd (zV e3);rw[s1]at s1';cases s1';obtain⟨x1,hx1⟩:∃d,x.1 = .sh d:=by
   obtain⟨w,_,e⟩:=oMq.mp e1;rw[←e];exact⟨_,rfl⟩
  rw[hx1]at r1;have rv:=(r1.sh_inv.2).mono t2.sf;have hw:=vA e4 r2;subst hw;refine⟨p',_,rfl,PJ.k h1' (by rw[ud,←h3'.len];exact hl),h _ _ _ _ (t1.sf.trans t2.sf) (R2.turn s1 s2' (by simp) (F':=[p']) (.owd pD h2' ?_) (by simp) λq hq=>by rw[mSq.mp hq];exact⟨h4',h5'⟩)⟩
  rw[hx1,rq];exact Gb h3' rv
 .cases e
def X9(a b:ME):ME:=λS=>(a S).bind λx=>(b x.2).bind λy=>match y.1 with
 | .dict kvs=>(uz x.1).map λkey=>(.bl (getD kvs key).isSome,y.2)
 |_=>none
def rY(a b:ME):ME:=λS=>(a S).bind λx=>(b x.2).bind λy=>match y.1 with
 | .dict kvs=>(uz x.1).map λkey=>(.bl (!(getD kvs key).isSome),y.2)
 |_=>none
def xC(a b:ME):ME:=λS=>(a S).bind λx=>(b x.2).bind λy=>match x.1 with
 | .dict kvs=>(uz y.1).bind λkey=>(getD kvs key).map λd=>(d,y.2)
 |_=>none
theorem L7{H:Hp}{kvs:List (oU×D)}{x:V}{key:oU}{d:D}(r:rS K H (.dict kvs) x) (e:getD kvs key=some d):∃a v,x = .ref a/\Dl H a (kV key) (some v)/\rS K H d v:=by
 obtain⟨p,vs,rfl,h1,h2⟩:=r.dict_inv;have g:=AH (key:=key) h2;rw[e]at g;obtain⟨v,g1,g2⟩:=g;exact⟨p,v,rfl,by rw[←g1];exact Dl.k h1,g2⟩
theorem OO{H:Hp}{kvs:List (oU×D)}{x:V}{key:oU}(r:rS K H (.dict kvs) x):∃a o,x = .ref a/\Dl H a (kV key) o/\o.isSome=(getD kvs key).isSome:=by
 obtain⟨p,vs,rfl,h1,h2⟩:=r.dict_inv;have g:=AH (key:=key) h2;refine⟨p,_,rfl,Dl.k h1,?_⟩;cases e:getD kvs key with
 |none=>rw[e]at g;rw[g];rfl
 |some d=>rw[e]at g;obtain⟨v,g1,_⟩:=g;rw[g1];rfl
theorem Bx{a:ME}(ha:SR K ta a) (hb:SR K tb b):SR K (JC ta tb) (rY a b):=by
 intro H₀ Hf₀ Hf S σ H Fs d S' R e Q q;obtain⟨x,e1,e⟩:=oBq.mp e;obtain⟨y,e2,e⟩:=oBq.mp e;refine ha R (d:=x.1) (S':=x.2) e1 _ λHf1 H1 Fs1 v1 t1 R1 r1=>hb R1 (d:=y.1) (S':=y.2) e2 _ λHf2 H2 Fs2 v2 t2 R2 r2=>?_
 split at e
 .rename_i kvs hy;rw[hy]at r2;obtain⟨key,e3,e⟩:=oMq.mp e;cases e;obtain⟨p,o,rfl,g1,g2⟩:=OO (key:=key) r2;refine⟨p,o,rfl,by rw[vA e3 r1];exact g1,?_⟩
  rw[g2];exact q _ _ _ _ (t1.trans t2) R2 .bl
 .cases e
theorem Av{a:ME}(ha:SR K ta a) (hb:SR K tb b):SR K (OX ta tb) (xC a b):=by
 intro H₀ Hf₀ Hf S σ H Fs d S' R e Q q;obtain⟨x,e1,e⟩:=oBq.mp e;obtain⟨y,e2,e⟩:=oBq.mp e;refine ha R (d:=x.1) (S':=x.2) e1 _ λHf1 H1 Fs1 v1 t1 R1 r1=>hb R1 (d:=y.1) (S':=y.2) e2 _ λHf2 H2 Fs2 v2 t2 R2 r2=>?_
 split at e
 .rename_i kvs hy;rw[hy]at r1;obtain⟨key,e3,e⟩:=oBq.mp e;obtain⟨d',e4,e⟩:=oMq.mp e;cases e;obtain⟨p,v,rfl,g1,g2⟩:=L7 (r1.mono t2.sh) e4;exact⟨p,v,rfl,by rw[vA e3 r2];exact g1,q _ _ _ _ (t1.trans t2) R2 g2⟩
 .cases e
end
def sN(x:Nat) (body:MS):List D->AS->Option Kd
 | [],S=>some (.nx S)
 |d::ds,S=>(body (S.set x (some (.sh d)))).bind λo=>match o with
  | .nx S'=>sN x body ds S'
  | .ct S'=>sN x body ds S'
  | .bk S'=>some (.nx S')
  | .rt a=>some (.rt a)
def uc:D->Option (List D)
 | .list ds=>some ds
 | .scr ns=>some (ns.map .int)
 |_=>none
def xg(x:Nat) (k:MK) (body:MS):MS:=λS=>(wu k S).bind λy=>(uc (oP y.1)).bind λds=>sN x body ds y.2
def pV(lo:Int) (n:Nat):List D:=(bN n).map λi:Nat=>.int (lo+i)
def B1:List D->Option (List D)
 | [.int j]=>vc (-(2 ^ 62)<=j/\j<2 ^ 62) (some (pV 0 j.toNat))
 |_=>none
def Ym:List D->Option (List D)
 | [.int i,.int j]=>vc (-(2 ^ 62)<=i/\i<2 ^ 62/\-(2 ^ 62)<=j/\j<2 ^ 62) (some (pV i (j-i).toNat))
 |_=>none
def vM(x:Nat) (a:ML) (body:MS):MS:=λS=>(a S).bind λy=>(B1 y.1).bind λds=>sN x body ds y.2
def X4(x:Nat) (a:ML) (body:MS):MS:=λS=>(a S).bind λy=>(Ym y.1).bind λds=>sN x body ds y.2
def Bk(x y:Nat) (body:MS):Nat->List D->AS->Option Kd
 |_,[],S=>some (.nx S)
 |i,d::ds,S=>(body ((S.set x (some (.sh (.int i)))).set y (some (.sh d)))).bind λo=>match o with
  | .nx S'=>Bk x y body (i+1) ds S'
  | .ct S'=>Bk x y body (i+1) ds S'
  | .bk S'=>some (.nx S')
  | .rt a=>some (.rt a)
def Oj(x y:Nat) (k:MK) (body:MS):MS:=λS=>(wu k S).bind λz=>(uc (oP z.1)).bind λds=>Bk x y body 0 ds z.2
def Hv(x y:Nat) (body:MS):List D->List D->AS->Option Kd
 |d::ds,e::es,S=>(body ((S.set x (some (.sh d))).set y (some (.sh e)))).bind λo=>match o with
  | .nx S'=>Hv x y body ds es S'
  | .ct S'=>Hv x y body ds es S'
  | .bk S'=>some (.nx S')
  | .rt a=>some (.rt a)
 |_,_,S=>some (.nx S)
def Wi(x y:Nat) (k l:MK) (body:MS):MS:=λS=>(wu k S).bind λz=>(wu l z.2).bind λw=>(uc (oP z.1)).bind λds=>(uc (oP w.1)).bind λes =>
 if ds.length=es.length then Hv x y body ds es w.2 else none
def qT(c:MT) (body:MS):Nat->MS
 |0,_=>none
 |n+1,S=>(c S).bind λx=>if x.1=true then (body x.2).bind λo=>match o with
   | .nx S'=>qT c body n S'
   | .ct S'=>qT c body n S'
   | .bk S'=>some (.nx S')
   | .rt a=>some (.rt a)
  else some (.nx x.2)
section
variable {K:W.Frag}{te tf:TE}{k l:MK}{tb:TS}{body:MS}{x y:Nat}
theorem By{H:Hp}{d:D}{ds:List D}{v:V}(e:uc d=some ds) (r:rS K H d v):∃a vs,v = .ref a/\sS K H a vs/\qr K H ds vs:=by
 cases d with
 |list es =>
  cases e;obtain⟨p,vs,rfl,h1,h2⟩:=r.list_inv;exact⟨p,vs,rfl,sS.of h1,h2⟩
 |scr ns =>
  cases e;cases r with
  |scr h=>exact⟨_,_,rfl,h,tV ns⟩
 |_=>cases e
theorem C3{te:TE}{S:AS}{z:AV×AS}(e:wu k S=some z):∃d,z.1 = .sh d:=by
 obtain⟨w,_,e⟩:=oMq.mp e;rw[←e];exact⟨_,rfl⟩
theorem qf.setD{H₀ Hf₀ Hf H:Hp}{S:AS}{σ:St}{Fs:List (List Addr)}{d:D}{v:V}(R:qf K H₀ Hf₀ Hf S σ H Fs) (i:Nat) (r:rS K Hf d v):qf K H₀ Hf₀ Hf (S.set i (some (.sh d))) (σ.set i (some v)) H (Fs.set i []) :=
 R.set i (.sh r) aU λq h=>(by cases h)
theorem yU(hk:SK K te k) (hb:SS K tb body):SS K (Nc (NL K te) (tW x) tb) (xg x k body):=by
 intro H₀ Hf₀ Hf S σ H Fs o R e D h;obtain⟨z,e1,e⟩:=oBq.mp e;obtain⟨ds,e2,e⟩:=oBq.mp e;have hk':SK K te (wu k):=SK.frz hk;refine hk' R (a:=z.1) (S':=z.2) e1 _ λHf1 H1 Fs1 v F t1 R1 r1 o1=>?_
 obtain⟨d,hd⟩:=C3 (te:=te) e1;rw[hd]at r1;rw[hd,rq]at e2;obtain⟨a,vs,rfl,g1,g2⟩:=By e2 r1.sh_inv.2;refine⟨a,rfl,⟨vs,R1.sub.seq g1⟩,Ny (xs:=vs) (λi σ' H'=>∃Hf' S' Fs',qf K H₀ Hf₀ Hf' S' σ' H' Fs'/\qh Hf1 Hf'/\sN x body (ds.drop i) S'=some o) ⟨Hf1,z.2,Fs1,R1,.refl _,e⟩
  (λi σ' H' _ ⟨Hf',S',Fs',R',s',_⟩=>R'.sub.seq (s'.seq g1)) ?_ ?_⟩
 .rintro i w σ' H' hw ⟨Hf',S',Fs',R',s',e'⟩;obtain⟨di,hdi,rw'⟩:=g2.get' hw;have hlt:i<ds.length:=(gSq.mp hdi).1;rw[aZ hlt]at e';have hdi':ds[i]=di:=(gSq.mp hdi).2;rw[hdi']at e';obtain⟨ob,e3,e4⟩:=oBq.mp e';refine hb (R'.setD x (rw'.mono s')) e3 _ ?_;cases ob with
  |nx S2=>exact λHf2 σ2 H2 Fs2 s2 R2=>⟨Hf2,S2,Fs2,R2,s'.trans s2,e4⟩
  |ct S2=>exact λHf2 σ2 H2 Fs2 s2 R2=>⟨Hf2,S2,Fs2,R2,s'.trans s2,e4⟩
  |bk S2=>cases e4;exact λHf2 σ2 H2 Fs2 s2 R2=>h _ _ _ _ ((t1.sf.trans s').trans s2) R2
  |rt a=>cases e4;exact h
 .rintro σ' H' ⟨Hf',S',Fs',R',s',e'⟩;rw[←g2.1,eJ]at e';cases e';exact h _ _ _ _ (t1.sf.trans s') R'
theorem Mg{H₀ Hf₀ Hf1 H1:Hp}{S1:AS}{σ:St}{Fs1:List (List Addr)}{o:Kd}{D:zj}{lo:Int}{n:Nat}(hb:SS K tb body) (R1:qf K H₀ Hf₀ Hf1 S1 σ H1 Fs1) (e:sN x body (pV lo n) S1=some o) (h:DL K H₀ Hf₀ Hf1 D o) :
  ∃W:Nat->Nat->St->Hp->Prop,(∃m,W 0 m σ H1)/\∀i m σ H,W i m σ H ->
   ((Ro lo n).stop i H/\D.nx σ H)∨((Ro lo n).go i H/\∃N:St->Hp->Prop,(∀σ' H',N σ' H'->∃m',m'<m/\W (i+1) m' σ' H')/\∀v H',(Ro lo n).yld i H v H'->tW x v σ H' λσ2 H2=>tb { D with nx:=N,ct:=N,bk:=D.nx } σ2 H2):=by
 refine KP (λi σ' H'=>∃Hf' S' Fs',qf K H₀ Hf₀ Hf' S' σ' H' Fs'/\qh Hf1 Hf'/\sN x body ((pV lo n).drop i) S'=some o) ⟨Hf1,S1,Fs1,R1,.refl _,e⟩ ?_ ?_
 .rintro i σ' H' hi ⟨Hf',S',Fs',R',s',e'⟩;have hlt:i<(pV lo n).length:=by unfold pV;rw[lMq,bh];exact hi
  rw[aZ hlt]at e';have hdi:(pV lo n)[i] = .int (lo+i):=by simp[pV]
  rw[hdi]at e';obtain⟨ob,e3,e4⟩:=oBq.mp e';refine hb (R'.setD x .int) e3 _ ?_;cases ob with
  |nx S2=>exact λHf2 σ2 H2 Fs2 s2 R2=>⟨Hf2,S2,Fs2,R2,s'.trans s2,e4⟩
  |ct S2=>exact λHf2 σ2 H2 Fs2 s2 R2=>⟨Hf2,S2,Fs2,R2,s'.trans s2,e4⟩
  |bk S2=>cases e4;exact λHf2 σ2 H2 Fs2 s2 R2=>h _ _ _ _ (s'.trans s2) R2
  |rt a=>cases e4;exact h
 .rintro σ' H' ⟨Hf',S',Fs',R',s',e'⟩;have hl:(pV lo n).length=n:=by unfold pV;rw[lMq,bh]
  rw[dF (gG hl)]at e';cases e';exact h _ _ _ _ s' R'
theorem yR{ta:TA}{a:ML}(ha:QI K ta a) (hb:SS K tb body):SS K (Nc (Oc ta) (tW x) tb) (vM x a body):=by
 intro H₀ Hf₀ Hf S σ H Fs o R e D h;obtain⟨z,e1,e⟩:=oBq.mp e;obtain⟨ds,e2,e⟩:=oBq.mp e;refine ha R (ds:=z.1) (S':=z.2) e1 _ λHf1 H1 Fs1 vs t1 R1 r1=>?_
 unfold B1 at e2;split at e2
 .rename_i j hz;rcases pO e2 with ⟨hj,e2⟩|e2
  .skip
   cases e2;rw[hz]at r1;obtain⟨v,ws,rfl,h1,h2⟩:=r1.cons_inv;rw[h2.nil_inv];cases h1;exact⟨j,rfl,hj.1,hj.2,Mg hb R1 e (h.mono t1.sf)⟩
  .cases e2
 .cases e2
theorem Sa(hk:SK K te k) (hb:SS K tb body):SS K (Nc (Tp K (um te wV)) (Q8 K 2 (De (tW x) (De (tW y) RQ))) tb) (Oj x y k body):=by
 intro H₀ Hf₀ Hf S σ H Fs o R e D h;obtain⟨z,e1,e⟩:=oBq.mp e;obtain⟨ds,e2,e⟩:=oBq.mp e;have hk':SK K te (wu k):=SK.frz hk;refine hk' R (a:=z.1) (S':=z.2) e1 _ λHf1 H1 Fs1 v F t1 R1 r1 o1=>?_
 obtain⟨d,hd⟩:=C3 (te:=te) e1;rw[hd]at r1;rw[hd,rq]at e2;obtain⟨a,vs,rfl,g1,g2⟩:=By e2 r1.sh_inv.2;refine⟨a,rfl,⟨vs,R1.sub.seq g1⟩,MV (xs:=vs) (λi σ' H'=>∃Hf' S' Fs',qf K H₀ Hf₀ Hf' S' σ' H' Fs'/\qh Hf1 Hf'/\Bk x y body i (ds.drop i) S'=some o) ⟨Hf1,z.2,Fs1,R1,.refl _,e⟩
  (λi σ' H' _ ⟨Hf',S',Fs',R',s',_⟩=>R'.sub.seq (s'.seq g1)) ?_ ?_⟩
 .rintro i w σ' H' T hw ⟨Hf',S',Fs',R',s',e'⟩ hT;obtain⟨di,hdi,rw'⟩:=g2.get' hw;have hlt:i<ds.length:=(gSq.mp hdi).1;rw[aZ hlt]at e';have hdi':ds[i]=di:=(gSq.mp hdi).2;rw[hdi']at e';obtain⟨ob,e3,e4⟩:=oBq.mp e';have R2:=(R'.new (o:=.tup [.int i,w]) hT).2.1;refine hb ((R2.setD x .int).setD y (rw'.mono s')) e3 _ ?_;cases ob with
  |nx S2=>exact λHf2 σ2 H2 Fs2 s2 R2=>⟨Hf2,S2,Fs2,R2,s'.trans s2,e4⟩
  |ct S2=>exact λHf2 σ2 H2 Fs2 s2 R2=>⟨Hf2,S2,Fs2,R2,s'.trans s2,e4⟩
  |bk S2=>cases e4;exact λHf2 σ2 H2 Fs2 s2 R2=>h _ _ _ _ ((t1.sf.trans s').trans s2) R2
  |rt a=>cases e4;exact h
 .rintro σ' H' ⟨Hf',S',Fs',R',s',e'⟩;rw[←g2.1,eJ]at e';cases e';exact h _ _ _ _ (t1.sf.trans s') R'
theorem Az{c:TT}{m:MT}(n:Nat) (hc:Ho K c m) (hb:SS K tb body):SS K (Nz c tb) (qT m body n):=by
 intro H₀ Hf₀ Hf S σ H Fs o R e D h;refine⟨λn σ' H'=>∃Hf' S' Fs',qf K H₀ Hf₀ Hf' S' σ' H' Fs'/\qh Hf Hf'/\qT m body n S'=some o,⟨n,Hf,S,Fs,R,.refl _,e⟩,?_⟩
 rintro n σ' H' ⟨Hf',S',Fs',R',s',e'⟩;cases n with
 |zero=>cases e'
 |succ n =>
  obtain⟨z,e1,e2⟩:=oBq.mp e';refine hc R' (b:=z.1) (S':=z.2) e1 _ λHf1 H1 Fs1 t1 R1=>?_
  split at e2
  .rename_i hz;rw[hz];refine IR ⟨λσ2 H2=>∃Hf' S' Fs',qf K H₀ Hf₀ Hf' S' σ2 H2 Fs'/\qh Hf Hf'/\qT m body n S'=some o,λσ2 H2 w=>⟨n,fg n,w⟩,?_⟩
   obtain⟨ob,e3,e4⟩:=oBq.mp e2;refine hb R1 e3 _ ?_;cases ob with
   |nx S2=>exact λHf2 σ2 H2 Fs2 s2 R2=>⟨Hf2,S2,Fs2,R2,(s'.trans t1.sf).trans s2,e4⟩
   |ct S2=>exact λHf2 σ2 H2 Fs2 s2 R2=>⟨Hf2,S2,Fs2,R2,(s'.trans t1.sf).trans s2,e4⟩
   |bk S2=>cases e4;exact λHf2 σ2 H2 Fs2 s2 R2=>h _ _ _ _ ((s'.trans t1.sf).trans s2) R2
   |rt a=>cases e4;exact h
  .rename_i hz;rw[dG]at hz;rw[hz];cases e2;exact Jn (h _ _ _ _ (s'.trans t1.sf) R1)
end
def rB(np n:Nat) (m:MS):MF:=λds=>if ds.length=np then (m (ds.map (λd=>some (.sh d))++aB (n-ds.length) none)).bind λo=>match o with
  | .rt a=>some a
  | .nx _=>some (.sh .non)
  |_=>none
 else none
theorem La{K:W.Frag}{Hf H:Hp}{ds:List D}{vs:List V}(N:List Str) (s:qh Hf H) (r:qr K Hf ds vs) :
  qf K H Hf Hf (ds.map (λd=>some (.sh d))++aB (N.length-ds.length) none) (L2.yn N vs) H (aB (ds.length+(N.length-ds.length)) []):=by
 have fl:=vF (ds.length+(N.length-ds.length));refine⟨by simp[L2.yn,r.1],by simp,λi av e=>?_,λi e=>?_,by rw[fl];exact aU,λp hp=>(by rw[fl]at hp;cases hp),s,qh.refl _,λb h _=>h,qh.refl _⟩
 .by_cases hi:i<ds.length
  .rw [gZq (by simpa using hi),gMq]at e
   obtain⟨d,e1,e2⟩:=oMq.mp e;cases e2;obtain⟨v,e3,rv⟩:=r.get e1;refine⟨v,[],?_,?_,.sh rv⟩
   .unfold L2.yn;rw[gZq (by simpa [←r.1] using hi),gMq,e3]
    rfl
   .rw [dA,pN (by lia)]
  .rw [gYq (by simpa using hi)]at e
   have:=mGq e;rw[eI this]at e;have h2:=eI this;cases h2
 .rw [dA];have hi:=(gSq.mp e).1;rw[lAq,lMq,cE]at hi;rw[pN hi]
theorem qi{K:W.Frag}{t:TS}{m:MS}{np:Nat}(N:List Str) (h:SS K t m) {vs:List V}{H:Hp}{Q:VK}{E:XK}(hs:qN K (rB np N.length m) vs H Q E):t { nx:=λ_ H'=>Q .non H',rt:=Q } (L2.yn N vs) H:=by
 obtain⟨Hf,ds,a,s,r,e,q⟩:=hs;unfold rB at e;split at e
 .obtain ⟨o,e1,e2⟩:=oBq.mp e;refine h (La N s r) e1 _ ?_;cases o with
  |rt a' =>
   cases e2;exact λHf' H' v F s1 s2 s3 l r nd fr=>q Hf' H' v F s1 s2 s3 l r nd fr
  |nx S' =>
   cases e2;exact λHf' σ' H' Fs' s1 R=>q Hf' H' .non [] R.sf R.fr R.sub R.lim (.sh .non) aU λq h=>(by cases h)
  |bk S'=>cases e2
  |ct S'=>cases e2
 .cases e
theorem rL{K:W.Frag}{m:MS}{np n:Nat}{vs:List V}{H:Hp}{Q:VK}{E:XK}(hs:qN K (rB np n m) vs H Q E):vs.length=np:=by
 obtain⟨Hf,ds,a,s,r,e,q⟩:=hs;unfold rB at e;split at e
 .rename_i h;rw[←r.1,h]
 .cases e
def fzAll:List Nat->AS->Option AS
 | [],S=>some S
 |j::js,S=>(S[j]?.join).bind λa=>fzAll js (S.set j (some (.sh (oP a))))
def Uo:Option AV->Option AV
 |some (.sh d)=>some (.sh d)
 |_=>none
def FB(S:AS):List Nat->Option AS
 | []=>some []
 |j::js=>(Uo S[j]?.join).bind λa=>(FB S js).map (some a :: ·)
def qR(tf:MT) (te:MK) (cap:AS):List D->Option (List AV)
 | []=>some []
 |d::ds=>(tf (some (.sh d)::cap)).bind λb=>if b.1=true then (te b.2).bind λa=>(qR tf te cap ds).map (a.1 :: ·) else qR tf te cap ds
abbrev MI:=AS->Option (List D×AS)
def wm(k:MK):MI:=λS=>(wu k S).bind λy=>(uc (oP y.1)).map λds=>(ds,y.2)
def QA(a:ML):MI:=λS=>(a S).bind λy=>(B1 y.1).map λds=>(ds,y.2)
def qM(src:MI) (fr:List Nat) (tf:MT) (te:MK):MK:=λS=>(src S).bind λy=>(fzAll fr y.2).bind λS2=>(FB S2 fr).bind λcap=>vc (y.1.length<=rh) ((qR tf te cap y.1).map λavs=>(.ow avs,S2))
def qt:MT:=λS=>some (true,S)
section
variable {K:W.Frag}{H₀ Hf₀ Hf Hf' H H':Hp}{S S':AS}{σ:St}{Fs Fs':List (List Addr)}
theorem qf.fz(R:qf K H₀ Hf₀ Hf S σ H Fs) {j:Nat}{a:AV}(e:S[j]?.join=some a):∃Hf' Fs',zb Hf H Fs Hf' H Fs'/\qf K H₀ Hf₀ Hf' (S.set j (some (.sh (oP a)))) σ H Fs':=by
 obtain⟨v,F,s1,s2,r,nd,o,R1⟩:=R.move (qd e);have n:∀q∈F,Hf q=none:=λq hq=>(r.owned q hq).2
 have R2:=R1.frz o n;have r2:=r.frozen (sJ (H:=H) n) λq hq=>zN hq
 have R3:=R2.again (F:=F) (G:=[]) s1 (.sh r2) aU λq h=>(by cases h)
 refine⟨_,_,⟨sJ n,.refl _,λp hp=>qD hp,λb h g=>?_⟩,R3⟩
 by_cases m:b∈F
 .exact .inr (mFq.mpr ⟨F,mGq s2,m⟩)
 .rw [uw m]at g;exact absurd h g
theorem qf.fzAll:∀{fr:List Nat}{Hf:Hp}{S S':AS}{Fs:List (List Addr)},qf K H₀ Hf₀ Hf S σ H Fs->fzAll fr S=some S'->∃Hf' Fs',zb Hf H Fs Hf' H Fs'/\qf K H₀ Hf₀ Hf' S' σ H Fs'
 | [],Hf,S,S',Fs,R,e=>by
  cases e;exact⟨Hf,Fs,.refl,R⟩
 |j::js,Hf,S,S',Fs,R,e=>by
  obtain⟨a,e1,e2⟩:=oBq.mp e;obtain⟨Hf1,Fs1,t1,R1⟩:=R.fz e1;obtain⟨Hf2,Fs2,t2,R2⟩:=qf.fzAll R1 e2;exact⟨Hf2,Fs2,t1.trans t2,R2⟩
theorem GR(R:qf K H₀ Hf₀ Hf S σ H Fs):∀{fr:List Nat}{cap:AS},FB S fr=some cap->cap.length=fr.length/\∀(k:Nat) (a:AV),cap[k]?=some (some a)->∃d v,a = .sh d/\(slots σ fr)[k]?=some (some v)/\rS K Hf d v
 | [],cap,e=>by
  cases e;exact⟨rfl,λk a h=>by simp at h⟩
 |j::js,cap,e=>by
  obtain⟨a,e1,e2⟩:=oBq.mp e;obtain⟨cap',e3,e4⟩:=oMq.mp e2;subst e4;obtain⟨h1,h2⟩:=GR R e3;refine⟨by simp[h1],λk b hk=>?_⟩
  cases k with
  |zero =>
   cases hk;cases ej:S[j]?.join with
   |none=>rw[ej]at e1;cases e1
   |some c =>
    rw[ej]at e1;cases c with
    |sh d =>
     cases e1;obtain⟨v,F,s1,s2,r⟩:=R.rep j _ (qd ej);refine⟨d,v,rfl,?_,r.sh_inv.2⟩;show some ((σ[j]?).join)=_;rw[s1];rfl
    |_=>cases e1
  |succ k=>exact h2 k b (by simpa using hk)
theorem LV(R:qf K H₀ Hf₀ Hf S σ H Fs) {fr:List Nat}{cap:AS}(e:FB S fr=some cap) {d:D}{x:V}(rx:rS K Hf d x) :
  qf K H₀ Hf₀ Hf (some (.sh d)::cap) (some x::slots σ fr) H (aB (cap.length+1) []):=by
 obtain⟨h1,h2⟩:=GR R e;have fl:=vF (cap.length+1);refine⟨by simp[slots,h1],by simp,λi av ei=>?_,λi ei=>?_,by rw[fl];exact aU,λp hp=>(by rw[fl]at hp;cases hp),R.sub,R.fr,R.lim,R.sf⟩
 .cases i with
  |zero =>
   cases ei;exact⟨x,[],rfl,by simp,.sh rx⟩
  |succ k =>
   have hk:k<cap.length:=(gSq.mp (by simpa using ei)).1
   obtain⟨d',v,rfl,s1,r⟩:=h2 k av (by simpa using ei)
   exact⟨v,[],by simpa using s1,by rw[dA,pN (by lia)],.sh r⟩
 .rw [dA];have hi:=(gSq.mp ei).1;rw[pN (by simpa using hi)]
theorem qf.updOut(R:qf K H₀ Hf₀ Hf S σ H Fs) {p:Addr}{o:HO}(h1:p∉Fs.flatten) (h2:Hf p=none) (h3:H₀ p=none):qf K H₀ Hf₀ Hf S σ (qP H p o) Fs where
 len:=R.len
 lenF:=R.lenF
 rep:=λi av e=>by
  obtain⟨v,F,s1,s2,r⟩:=R.rep i av e;exact⟨v,F,s1,s2,r.keepUpd λm=>h1 (pS s2 m)⟩
 emp:=R.emp
 nd:=R.nd
 fresh:=R.fresh
 sub:=λb u e=>by
  rw[oV λz=>by rw[z,h2]at e;cases e]
  exact R.sub b u e
 fr:=λb u e=>by
  rw[oV λz=>by rw[z,h3]at e;cases e]
  exact R.fr b u e
 lim:=R.lim
 sf:=R.sf
theorem qf.outer{σ2:St}{Fs2 Fs3:List (List Addr)}{Hf3 H3:Hp}{S3:AS}(R:qf K H₀ Hf₀ Hf S σ H Fs) (R3:qf K H₀ Hf₀ Hf3 S3 σ2 H3 Fs3) (t:zb Hf H Fs2 Hf3 H3 Fs3) (h0:Fs2.flatten=[]):zb Hf H Fs Hf3 H3 Fs/\qf K H₀ Hf₀ Hf3 S σ H3 Fs:=by
 have g:∀b,Hf b=none->H b≠none->Hf3 b=none:=λb h1 h2=>by
  by_cases e:Hf3 b=none
  .exact e
  .rcases t.gr b h1 e with z|z
   .exact absurd z h2
   .rw [h0]at z;cases z
 exact⟨⟨t.sf,t.sh,λ_ h=>h,λb h1 h2=>.inl (by
  by_cases e:H b=none
  .exact e
  .exact absurd (g b h1 e) h2)⟩,R.more t.sh t.sf R3.sub (λq hq=>g q (R.mem hq).2 (R.mem hq).1) R3.lim⟩
end
section
variable {K:W.Frag}{tf:TT}{te:TE}{mf:MT}{me:MK}{fr:List Nat}
theorem Bz{H₀ Hf₀ Hf1 H1:Hp}{S1:AS}{σ:St}{Fs1:List (List Addr)}{cap:AS}{ds:List D}{avs:List AV}{J:It}{Q:VK}(hf:Ho K tf mf) (he:SK K te me)
  (R1:qf K H₀ Hf₀ Hf1 S1 σ H1 Fs1) (ec:FB S1 fr=some cap) (hl:ds.length<=rh) (e:qR mf me cap ds=some avs)
  (hgo:∀i H,qh Hf1 H->i<ds.length->J.go i H) (hst:∀H,qh Hf1 H->J.stop ds.length H) (hy:∀i H x H',qh Hf1 H->i<ds.length->J.yld i H x H'->H'=H/\∃d,ds[i]?=some d/\rS K Hf1 d x)
  (q:∀Hf' H' v F,zb Hf1 H1 Fs1 Hf' H' Fs1->qf K H₀ Hf₀ Hf' S1 σ H' Fs1->pT K Hf' H' (.ow avs) v F->yt H₀ H1 Fs1 Fs1 F->Q v H') :
  ∀acc,H1 acc=none->∃W:Nat->Nat->Hp->Prop,(∃m,W 0 m (qP H1 acc (.lst [])))/\∀i m H,W i m H ->
   (J.stop i H/\Q (.ref acc) H) ∨
   (J.go i H/\∃N:Hp->Prop,(∀H',N H'->∃m',m'<m/\W (i+1) m' H')/\∀x H',J.yld i H x H'->tf (some x::slots σ fr) H' λb H2 =>
    if b=true then te (some x::slots σ fr) H2 λy H3=>∃ys,H3 acc=some (.lst ys)/\ys.length<ke/\N (qP H3 acc (.lst (ys++[y]))) else N H2):=by
 intro acc hacc;obtain⟨t0,R0,n1,n2,n3⟩:=R1.new (o:=.lst []) hacc
 let P:Nat->Hp->Prop:=λi H=>∃Hf as vs Gs rest,qf K H₀ Hf₀ Hf S1 σ H Fs1/\zb Hf1 H1 Fs1 Hf H Fs1/\H acc=some (.lst vs)/\Hf acc=none/\pW K Hf H as vs Gs/\yt H₀ H1 Fs1 Fs1 (acc::Gs.flatten)/\as.length<=i /\
  qR mf me cap (ds.drop i)=some rest/\avs=as++rest
 refine⟨λi m H=>m=ds.length-i/\i<=ds.length/\P i H,⟨ds.length,by simp,bp _,Hf1,[],[],[],avs,R0,t0,pD,n1,.nil,yt.one R1 hacc,bp _,e,rfl⟩,?_⟩
 rintro i m H ⟨rfl,hi,Hf,as,vs,Gs,rest,R,t,ha,hfa,ra,ow,la,er,ea⟩;have hs:qh Hf1 H:=t.sf.trans R.sub
 by_cases hlt:i<ds.length
 .refine .inr ⟨hgo i H hs hlt,P (i+1),λH' p=>⟨ds.length-(i+1),by lia,rfl,hlt,p⟩,λx H' y=>?_⟩
  obtain⟨rfl,d,hd,rx⟩:=hy i H x H' hs hlt y;rw[aZ hlt,(gSq.mp hd).2]at er;obtain⟨b,e1,e2⟩:=oBq.mp er;have fl:=vF (cap.length+1);refine hf (LV R ec (rx.mono t.sf)) (b:=b.1) (S':=b.2) e1 _ λHf2 H2 Fs2 t2 R2=>?_
  obtain⟨t2',R2'⟩:=R.outer R2 t2 fl;have ha2:H2 acc=some (.lst vs):=t2.sh _ _ ha;have hfa2:Hf2 acc=none:=by
   by_cases z:Hf2 acc=none
   .exact z
   .rcases t2.gr acc hfa z with z|z
    .rw [ha]at z;cases z
    .rw [fl]at z;cases z
  have ra2:=ra.stp (λq hq=>ow.out q (mCo _ hq)) t2'
  split at e2
  .rename_i hb;rw[hb];refine IR ?_;obtain⟨a,e3,e4⟩:=oBq.mp e2;obtain⟨rest',e5,e6⟩:=oMq.mp e4;subst e6;refine he R2 (a:=a.1) (S':=a.2) e3 _ λHf3 H3 Fs3 v F t3 R3 r3 o3=>?_
   have fl2:Fs2.flatten=[]:=by
    cases hz:Fs2.flatten with
    |nil=>rfl
    |cons z zs =>
     have:=t2.own z (by rw[hz];simp)
     rw[fl]at this;cases this
   obtain⟨t3',R3'⟩:=R2'.outer R3 t3 fl2;have ha3:H3 acc=some (.lst vs):=t3.sh _ _ ha2;have hfa3:Hf3 acc=none:=by
    by_cases z:Hf3 acc=none
    .exact z
    .rcases t3.gr acc hfa2 z with z|z
     .rw [ha2]at z;cases z
     .rw [fl2]at z;cases z
   have ra3:=ra2.stp (λq hq=>ow.out q (mCo _ hq)) t3'
   have newF:∀q∈F,H2 q=none:=λq hq=>(o3.new q hq).elim id λz=>by rw[fl2]at z;cases z
   have accF:acc∉F:=λm=>by rw[newF acc m]at ha2;cases ha2
   have accG:acc∉Gs.flatten:=(aq.mp ow.nd).1;have tt:=(t.trans t2').trans t3';refine⟨vs,ha3,?_,?_⟩
   .rw [ud,←ra.1];lia
   .refine ⟨Hf3,as++[a.1],vs++[v],Gs++[F],rest',R3'.updOut n3 hfa3 n2,⟨tt.sf,λb o eb=>?_,λ_ h=>h,tt.gr⟩,pD,hfa3,(ra3.keepUpd accG).snoc (r3.keepUpd accF),?_,by rw[lAq,lSq];lia,e5,by rw[ea];simp⟩
    .rw [oV λz=>by rw[z,hacc]at eb;cases eb]
     exact tt.sh b o eb
    .rw [fAq,bo];have oF:yt H₀ H1 Fs1 Fs1 F:=⟨o3.nd,o3.fr,λq hq m=>(R2'.mem m).1 (newF q hq),λq hq=>.inl ((t.trans t2').sh.free (newF q hq))⟩
     refine(show yt H₀ H1 Fs1 Fs1 ((acc::Gs.flatten)++F) from ow.app oF λq hq m=>?_)
     rcases ae.mp hq with z|z
     .rw [z]at m;exact accF m
     .exact (ra2.owned q z).1 (newF q m)
  .rename_i hb;rw[dG]at hb;rw[hb];exact Jn ⟨Hf2,as,vs,Gs,rest,R2',t.trans t2',ha2,hfa2,ra2,ow,by lia,e2,ea⟩
 .have e0:i=ds.length:=by lia
  subst e0;rw[eJ]at er;cases er;rw[aNq]at ea;subst ea;exact .inl ⟨hst H hs,q Hf H (.ref acc) _ t R (pT.news ha hfa ra) ow⟩
theorem ue{tl:TE}{k:MK}(hk:SK K tl k) (hf:Ho K tf mf) (he:SK K te me):SK K (GC (NL K tl) fr tf te) (qM (wm k) fr mf me):=by
 intro H₀ Hf₀ Hf S σ H Fs av S' R e Q q;obtain⟨y,e1,e⟩:=oBq.mp e;obtain⟨z,e0,e1⟩:=oBq.mp e1;obtain⟨ds,e2,e1⟩:=oMq.mp e1;subst e1;obtain⟨S2,e3,e⟩:=oBq.mp e;obtain⟨cap,e4,e⟩:=oBq.mp e;rcases pO e with ⟨hl,e⟩|e
 .obtain ⟨avs,e5,e⟩:=oMq.mp e;cases e;have hk':SK K tl (wu k):=SK.frz hk;refine hk' R (a:=z.1) (S':=z.2) e0 _ λHf1 H1 Fs1 v F t1 R1 r1 o1=>?_
  obtain⟨d,hd⟩:=C3 (te:=tl) e0;rw[hd]at r1;rw[hd,rq]at e2;obtain⟨Hf2,Fs2,t2,R2⟩:=R1.fzAll e3;obtain⟨a,vs,rfl,g1,g2⟩:=By e2 (r1.sh_inv.2.mono t2.sf);refine⟨a,rfl,⟨vs,R2.sub.seq g1⟩,Bz (K:=K) hf he R2 e4 hl e5 (λi H s hi=>⟨vs,vs[i]'(g2.1 ▸ hi),s.seq g1,gEg (g2.1 ▸ hi)⟩) (λH s=>⟨vs,s.seq g1,gG g2.1.symm⟩) (λi H x H' s hi y=>?_) λHf' H' v F t R' r o=>q _ _ _ v F ((t1.trans t2).trans t) R' r (o.back (t1.trans t2))⟩
  obtain⟨y1,y2⟩:=y;obtain⟨di,h1,h2⟩:=g2.get' (y2 vs (s.seq g1));exact⟨y1,di,h1,h2⟩
 .cases e
theorem Aa{lo:Int}{n i:Nat}(h:i<n):(pV lo n)[i]?=some (.int (lo+i)):=by
 unfold pV;rw[gMq,cR h];rfl
theorem pZ(lo:Int) (n:Nat):(pV lo n).length=n:=by unfold pV;rw[lMq,bh]
theorem zf{ta:TA}{a:ML}(ha:QI K ta a) (hf:Ho K tf mf) (he:SK K te me):SK K (GC (Oc ta) fr tf te) (qM (QA a) fr mf me):=by
 intro H₀ Hf₀ Hf S σ H Fs av S' R e Q q;obtain⟨y,e1,e⟩:=oBq.mp e;obtain⟨z,e0,e1⟩:=oBq.mp e1;obtain⟨ds,e2,e1⟩:=oMq.mp e1;subst e1;obtain⟨S2,e3,e⟩:=oBq.mp e;obtain⟨cap,e4,e⟩:=oBq.mp e;rcases pO e with ⟨hl,e⟩|e
 .obtain ⟨avs,e5,e⟩:=oMq.mp e;cases e;refine ha R (ds:=z.1) (S':=z.2) e0 _ λHf1 H1 Fs1 vs t1 R1 r1=>?_
  unfold B1 at e2;split at e2
  .rename_i j hz;rcases pO e2 with ⟨hj,e2⟩|e2
   .skip
    cases e2;rw[hz]at r1;obtain⟨v,ws,rfl,h1,h2⟩:=r1.cons_inv;rw[h2.nil_inv];cases h1;obtain⟨Hf2,Fs2,t2,R2⟩:=R1.fzAll e3;refine⟨j,rfl,hj.1,hj.2,Bz (K:=K) hf he R2 e4 hl e5 (λi H s hi=>(by rw[pZ]at hi;exact hi)) (λH s=>(by rw[pZ];exact af _)) (λi H x H' s hi y=>?_) λHf' H' v F t R' r o=>q _ _ _ v F ((t1.trans t2).trans t) R' r (o.back (t1.trans t2))⟩
    obtain⟨y1,y2⟩:=y;rw[pZ]at hi;exact⟨y1,_,Aa hi,by rw[y2];exact .int⟩
   .cases e2
  .cases e2
 .cases e
theorem vf:Ho K Wy qt:=by
 intro H₀ Hf₀ Hf S σ H Fs b S' R e Q q;cases e;exact q _ _ _ .refl R
end
mutual
def py:D->Option PyData
 | .non=>some .none
 | .bl b=>some (.bool b)
 | .int i=>some (.int i)
 | .str x=>some (.str x)
 | .list ds=>(Mf ds).map .list
 | .tup ds=>(Mf ds).map .tuple
 |_=>none
def Mf:List D->Option (List PyData)
 | []=>some []
 |d::ds=>(py d).bind λx=>(Mf ds).map (x :: ·)
end
section
variable {X:Cx}
theorem yM{h:Heap}:∀{ds:List D}{vs:List V}{its:List Value}{xs:List PyData},(∀(i:Nat) (d:D) (v:V),ds[i]?=some d->vs[i]?=some v->∀u x,qp v u->py d=some x->∃as,Reads h u x as)->ds.length=vs.length->pY vs its->Mf ds=some xs->∃as,ReadsAll h its xs as
 | [],vs,its,xs,_,hl,hv,e=>by
  have:vs=[]:=bq.mp hl.symm;subst this;cases hv;simp only[Mf]at e;cases e;exact⟨_,.nil⟩
 |d::ds,vs,its,xs,ih,hl,hv,e=>by
  cases vs with
  |nil=>simp at hl
  |cons v vs =>
   cases hv with
   |cons r t =>
    simp only[Mf]at e;obtain⟨x,e1,e2⟩:=oBq.mp e;obtain⟨ys,e3,e4⟩:=oMq.mp e2;subst e4;obtain⟨as,h1⟩:=ih 0 d v rfl rfl _ x r e1;obtain⟨bs,h2⟩:=yM (λi d' v' q1 q2=>ih (i+1) d' v' (by simpa using q1) (by simpa using q2)) (by simpa using hl) t e3
    exact⟨_,.cons h1 h2⟩
theorem GB{ou:List (Addr×Obj)}{σ:St}{H:Hp}{s:Shared}(I:Inv X ou σ H s) {d:D}{v:V}(r:rS X.K H d v):∀(u:Value) (x:PyData),qp v u->py d=some x->∃as,Reads s.heap u x as:=by
 induction r with
 |non=>intro u x ru e;cases ru;simp only[py]at e;cases e;exact⟨_,.none⟩
 |bl=>intro u x ru e;cases ru;simp only[py]at e;cases e;exact⟨_,.bool _⟩
 |int=>intro u x ru e;obtain⟨t,rfl⟩:=ru;simp only[py]at e;cases e;exact⟨_,.int _ _⟩
 |str=>intro u x ru e;obtain⟨t,rfl⟩:=ru;simp only[py]at e;cases e;exact⟨_,.str _ _⟩
 |ty=>intro u x ru e;simp only[py]at e;cases e
 |list h l _ ih =>
  intro u x ru e;cases ru;simp only[py]at e;obtain⟨xs,e1,rfl⟩:=oMq.mp e;obtain⟨its,rv,hl,hz⟩:=I.list (sS.of h);obtain⟨o,ho,hc,n,hd⟩:=hl.isList;obtain⟨as,e2⟩:=yM ih l rv e1;exact⟨_,Reads.list ho hc hd (by simpa using e2)⟩
 |tup h l _ ih =>
  intro u x ru e;cases ru;simp only[py]at e;obtain⟨xs,e1,rfl⟩:=oMq.mp e;obtain⟨its,rv,⟨o,ho,hc,n,hd⟩,hz⟩:=I.tuple (Jo.of h);obtain⟨as,e2⟩:=yM ih l rv e1;exact⟨_,Reads.tuple ho hc hd (by simpa using e2)⟩
 |dict h l _ ih=>intro u x ru e;simp only[py]at e;cases e
 |fd h l _ ih=>intro u x ru e;simp only[py]at e;cases e
 |scr h=>intro u x ru e;simp only[py]at e;cases e
 |exc rf nf h hx=>intro u x ru e;simp only[py]at e;cases e
 |exc0 rf h=>intro u x ru e;simp only[py]at e;cases e
 |cls h=>intro u x ru e;simp only[py]at e;cases e
 |ins rf h l _ ih=>intro u x ru e;simp only[py]at e;cases e
def VS(K:W.Frag) (neg:Bool):R2:=λx y H Q=>∃(d e:D) (a b:PyData),rS K H d x/\rS K H e y/\py d=some a/\py e=some b/\SeqAt.shaped a=true/\SeqAt.shaped b=true/\SeqAt.noMix a b=true /\
 Q (.bl (if neg then !(PySem.Spec.same a b) else PySem.Spec.same a b)) H
theorem Qe(hu:X.A.units+64<lF):DU X (kJ .Eq) (VS X.K false):=by
 intro ou s σ H x y v u Q I rx ry h;obtain⟨d,e,a,b,h1,h2,p1,p2,s1,s2,nm,q⟩:=h;obtain⟨as,r1⟩:=GB I h1 _ _ rx p1;obtain⟨bs,r2⟩:=GB I h2 _ _ ry p2;exact jH r1 r2 s1 s2 hu nm (qk I q rfl)
end
def D0(d e:D):Option D:=(py d).bind λa=>(py e).bind λb=>if SeqAt.shaped a=true/\SeqAt.shaped b=true/\SeqAt.noMix a b=true then some (.bl (PySem.Spec.same a b)) else none
def Zg(d e:D):Option D:=(D0 d e).bind LC
section
variable {K:W.Frag}
theorem N1:Fe K (VS K false) D0:=by
 intro x y H Q dx dy d rx ry e q;obtain⟨a,e1,e⟩:=oBq.mp e;obtain⟨b,e2,e⟩:=oBq.mp e;split at e
 .rename_i h;cases e;exact⟨dx,dy,a,b,rx,ry,e1,e2,h.1,h.2.1,h.2.2,q _ .bl⟩
 .cases e
end
abbrev dI(ns:List Int):D:=.list (ns.map .int)
abbrev dM(rs:List (List Int)):D:=.list (rs.map dI)
theorem M7(ns:List Int):Mf (ns.map .int)=some (ns.map PyData.int):=by
 induction ns with
 |nil=>simp[Mf]
 |cons n ns ih=>simp[Mf,py,ih]
theorem Vm(ns:List Int):py (dI ns)=some (wW ns):=by
 show py (.list _)=_;simp only[py,M7];rfl
theorem NI(rs:List (List Int)):Mf (rs.map dI)=some (rs.map wW):=by
 induction rs with
 |nil=>simp[Mf]
 |cons r rs ih =>
  show Mf (dI r::rs.map dI)=_;simp only[Mf,Vm,ih];rfl
theorem W4(rs:List (List Int)):py (dM rs)=some (AW rs):=by
 show py (.list _)=_;simp only[py,NI];rfl
theorem Cz(r:List Int):SeqAt.shaped (wW r)=true:=by
 have h2:=W.depthAll_ints r;have h3:PyData.depth (wW r)<=64:=by simp only[wW,PyData.depth];lia
 show (PyData.canLay0 (wW r) && decide (PyData.depth (wW r)<=64))=true;rw[fV];exact⟨by simp only[wW,PyData.canLay0];exact W.canLayAll0_ints r,decide_eq_true h3⟩
@[simp] theorem My (ns ms:List Int):D0 (dI ns) (dI ms)=some (.bl (decide (ns=ms))):=by
 unfold D0;rw[Vm,Vm];show (if _ then _ else _)=_
 rw[pN ⟨Cz ns,Cz ms,by simp only[wW,SeqAt.noMix];exact W.noMix_ints ns ms⟩]
 simp only[wW,PySem.Spec.same,W.same_ints]
@[simp] theorem YH (rs ts:List (List Int)):D0 (dM rs) (dM ts)=some (.bl (decide (rs=ts))):=by
 unfold D0;rw[W4,W4];show (if _ then _ else _)=_
 rw[pN ⟨BK rs,BK ts,by simp only[AW,SeqAt.noMix];exact Di rs ts⟩]
 simp only[AW,PySem.Spec.same,Ew]
def vJ(l:ML):MK:=λS=>(l S).map λx=>(.ow (x.1.map .sh),x.2)
def yz(l:ML):MK:=λS=>(l S).bind λx=>(rJ x.1).map λns=>(.ow ((qH ns).map λn=>.sh (.int n)),x.2)
def ER:List D->Option (List (List Int))
 | []=>some []
 | .list ds::es=>(rJ ds).bind λr=>(ER es).map (r :: ·)
 |_=>none
def Yw(l:ML):MK:=λS=>(l S).bind λx=>(ER x.1).map λrs=>(.ow ((wX rs).map λr=>.sh (dI r)),x.2)
section
variable {K:W.Frag}{te:TE}{l:ML}
theorem E5(hl:SQ K te l):SK K (Mj (λxs H Q=>∃p ys,xs=[.ref p]/\(sS K H p ys∨Jo K H p ys)/\∀l,H l=none->Q (.ref l) (qP H l (.lst ys))) (um te wV)) (vJ l):=by
 intro H₀ Hf₀ Hf S σ H Fs av S' R e Q q;obtain⟨x,e1,e⟩:=oMq.mp e;cases e;refine hl R (ds:=x.1) (S':=x.2) e1 _ λHf1 H1 Fs1 p1 vs1 t1 R1 h1 r1=>⟨p1,vs1,rfl,.inl h1,λp hp=>?_⟩
 obtain⟨t4,R4,n1,n2,n3⟩:=R1.new (o:=.lst vs1) hp;exact q _ _ _ (.ref p) [p] (t1.trans t4) R4 (pT.new pD n1 r1) ((yt.one R1 hp).back t1)
theorem yB(ns:List Int):(ns.map λn=>AV.sh (.int n))=(ns.map D.int).map .sh:=by rw[mPq];rfl
theorem G9(hl:SQ K te l):SK K (Mj (λxs H Q=>∃(a:Addr) (ns:List Int),xs=[.ref a]/\sS K H a (ns.map V.int)/\∀p,H p=none->Q (.ref p) (qP H p (.lst ((qH ns).map V.int)))) (um te wV)) (yz l):=by
 intro H₀ Hf₀ Hf S σ H Fs av S' R e Q q;obtain⟨x,e1,e⟩:=oBq.mp e;obtain⟨ns,e2,e⟩:=oMq.mp e;cases e;refine hl R (ds:=x.1) (S':=x.2) e1 _ λHf1 H1 Fs1 p1 vs1 t1 R1 h1 r1=>?_
 rw[uO e2]at r1;rw[rO r1]at h1;refine⟨p1,ns,rfl,h1,λp hp=>?_⟩
 obtain⟨t4,R4,n1,n2,n3⟩:=R1.new (o:=.lst ((qH ns).map V.int)) hp;rw[yB]at q;exact q _ _ _ (.ref p) [p] (t1.trans t4) R4 (pT.new pD n1 (tV _)) ((yt.one R1 hp).back t1)
end
def VO:String->D->Bool
 |T,.list _=>T == "list"
 |T,.scr _=>T == "list"
 |T,.str _=>T == "str"
 |_,_=>false
def Xz(T:String) (f:D->List D->Option D) (a:ME) (as:ML):ME:=λS=>(a S).bind λx=>if VO T x.1=true then (as x.2).bind λy=>(f x.1 y.1).map λd=>(d,y.2) else none
def YM(K:W.Frag) (r:V->List V->Hp->VK->Prop) (f:D->List D->Option D):Prop:=∀{x:V}{vs:List V}{H:Hp}{Q:VK}{dx:D}{ds:List D}{d:D},rS K H dx x->qr K H ds vs->f dx ds=some d->(∀v,rS K H d v->Q v H)->r x vs H Q
section
variable {K:W.Frag}{te:TE}{ta:TA}{a:ME}{as:ML}{r:V->List V->Hp->VK->Prop}{f:D->List D->Option D}{T:String}
theorem UN{H:Hp}{d:D}{v:V}(h:VO T d=true) (rv:rS K H d v):V1 K T v H:=by
 cases rv <;> simp only[VO]at h
 all_goals first|(exfalso;simp at h;done)|skip
 .exact eq_of_beq h
 .rename_i p vs ds h1 l e;exact .inl ⟨eq_of_beq h,vs,sS.of h1⟩
 .rename_i p ns h1;exact .inl ⟨eq_of_beq h,_,h1⟩
theorem VT(hr:YM K r f) (ha:SR K te a) (hs:QI K ta as):SR K (Nk K T r te ta) (Xz T f a as):=by
 intro H₀ Hf₀ Hf S σ H Fs d S' R e Q q;obtain⟨x,e1,e⟩:=oBq.mp e;split at e
 .rename_i hT;obtain⟨y,e2,e⟩:=oBq.mp e;obtain⟨z,e3,e⟩:=oMq.mp e;cases e;refine ha R (d:=x.1) (S':=x.2) e1 _ λHf1 H1 Fs1 v t1 R1 r1=>⟨UN hT r1,hs R1 (ds:=y.1) (S':=y.2) e2 _ λHf2 H2 Fs2 vs t2 R2 r2=>?_⟩
  exact hr (r1.mono t2.sh) r2 e3 λv rv=>q _ _ _ v (t1.trans t2) R2 rv
 .cases e
def Cu:D->List D->Option D
 | .list ds,[.int k]=>(rJ ds).bind λns=>if k∈ns then some (.int (ns.idxOf k:Nat)) else none
 |_,_=>none
theorem OE:YM K (Np K) Cu:=by
 intro x vs H Q dx ds d rx rs e q;unfold Cu at e;split at e
 .rename_i es k;obtain⟨ns,e1,e⟩:=oBq.mp e;split at e
  .rename_i hk;cases e;obtain⟨v,ws,rfl,h1,h2⟩:=rs.cons_inv;rw[h2.nil_inv];cases h1;rw[uO e1]at rx;obtain⟨p,us,rfl,h3,h4⟩:=rx.list_inv;rw[rO h4]at h3;exact⟨p,ns,k,rfl,rfl,sS.of h3,hk,q _ .int⟩
  .cases e
 .cases e
def VP(a:ME):ME:=λS=>(a S).bind λx=>match x.1 with
 | .list ds=>(ER ds).map λrs=>(.int (rs.countP (·=([]:List Int)):Nat),x.2)
 |_=>none
def Yb:D->Option Bool
 | .non=>some false
 | .bl b=>some b
 | .int i=>some (i != 0)
 | .list ds=>some (!ds.isEmpty)
 | .tup ds=>some (!ds.isEmpty)
 | .dict ds=>some (!ds.isEmpty)
 |_=>none
def QQ(a:ME):MT:=λS=>(a S).bind λx=>(Yb x.1).map λb=>(b,x.2)
end
def qu:AV->List Nat->Option (List AV)
 | .ow avs,[]=>some avs
 | .ow avs,j::js=>(avs[j]?).bind λa=>qu a js
 |_,_=>none
def putAt:AV->List Nat->List AV->AV
 | .ow _,[],as=>.ow as
 | .ow avs,j::js,as=>match avs[j]? with
  |some a=>.ow (avs.set j (putAt a js as))
  |none=>.ow avs
 |a,_,_=>a
def Fd(H:Hp):V->List Nat->V->Prop
 |v,[],w=>v=w
 |v,j::js,w=>∃p vs u,v = .ref p/\H p=some (.lst vs)/\vs[j]?=some u/\Fd H u js w
section
variable {K:W.Frag}{H₀ Hf₀ Hf Hf' H H':Hp}{S S':AS}{σ:St}{Fs Fs':List (List Addr)}
theorem yo:∀{Fs:List (List Addr)}{F G:List Addr}(i:Nat),Fs.flatten.Nodup->Fs[i]?=some G->F.Nodup->(∀p∈F,p∈G∨p∉Fs.flatten)->(Fs.set i F).flatten.Nodup
 | [],F,G,i,h,e,_,_=>by simp at e
 |E::Gs,F,G,0,h,e,hF,hd=>by
  simp at e;subst e;rw[cG,fCq,nAq];rw[fCq,nAq]at h;refine⟨hF,h.2.1,λa ha b hb e=>?_⟩
  subst e;rcases hd a ha with z|z
  .exact h.2.2 a z a hb rfl
  .exact z (by rw[fCq];exact aj _ hb)
 |E::Gs,F,G,i+1,h,e,hF,hd=>by
  rw[cH,fCq,nAq];rw[fCq,nAq]at h;have e':Gs[i]?=some G:=by simpa using e
  refine⟨h.1,yo i h.2.1 e' hF λp hp=>(hd p hp).imp id λz m=>z (by rw[fCq];exact aj _ m),λa ha b hb e=>?_⟩
  subst e;rcases sC hb with q|q
  .rcases hd a q with z|z
   .exact h.2.2 a ha a (mFq.mpr ⟨G,mGq e',z⟩) rfl
   .exact z (by rw[fCq];exact aw _ ha)
  .exact h.2.2 a ha a q rfl
theorem Dz:∀{Fs:List (List Addr)}{F G:List Addr}{i j:Nat}{p:Addr},Fs.flatten.Nodup->Fs[i]?=some F->Fs[j]?=some G->i≠j->p∈F->p∉G
 | [],F,G,i,j,p,_,e,_,_,_,_=>by simp at e
 |E::Es,F,G,0,0,p,h,e,f,n,_,_=>n rfl
 |E::Es,F,G,0,j+1,p,h,e,f,n,hp,m=>by
  simp at e;subst e;rw[fCq,nAq]at h;exact h.2.2 p hp p (mFq.mpr ⟨G,mGq (i:=j) (by simpa using f),m⟩) rfl
 |E::Es,F,G,i+1,0,p,h,e,f,n,hp,m=>by
  simp at f;subst f;rw[fCq,nAq]at h;exact h.2.2 p m p (mFq.mpr ⟨F,mGq (i:=i) (by simpa using e),hp⟩) rfl
 |E::Es,F,G,i+1,j+1,p,h,e,f,n,hp,m=>by
  rw[fCq,nAq]at h;exact Dz h.2.1 (i:=i) (j:=j) (by simpa using e) (by simpa using f) (λz=>n (by rw[z])) hp m
theorem pT.path:∀{path:List Nat}{av:AV}{v:V}{F:List Addr}{as:List AV},pT K Hf H av v F->F.Nodup->qu av path=some as->∃p vs Gs,Fd H v path (.ref p)/\H p=some (.lst vs)/\Hf p=none/\pW K Hf H as vs Gs/\p∈F/\p∉Gs.flatten/\Gs.flatten.Nodup/\(∀q∈Gs.flatten,q∈F) /\
  ∀as' vs' Gs',pW K Hf (qP H p (.lst vs')) as' vs' Gs'->(p::Gs'.flatten).Nodup->(∀q∈Gs'.flatten,q∈Gs.flatten∨q∉F)->∃F',pT K Hf (qP H p (.lst vs')) (putAt av path as') v F'/\F'.Nodup/\∀q∈F',q∈F∨q∈Gs'.flatten
 | [],av,v,F,as,r,nd,e=>by
  cases av with
  |ow avs =>
   cases e;obtain⟨p,vs,Gs,rfl,rfl,h1,h2,h3⟩:=r.ow_inv;have n:=aq.mp nd;refine⟨p,vs,Gs,rfl,h1,h2,h3,by simp,n.1,n.2,λq hq=>mCo _ hq,λas' vs' Gs' r' nd' _=>⟨p::Gs'.flatten,pT.news pD h2 r',nd',λq hq=>?_⟩⟩
   rcases ae.mp hq with z|z
   .exact .inl (by rw[z];simp)
   .exact .inr z
  |_=>cases e
 |j::js,av,v,F,as,r,nd,e=>by
  cases av with
  |ow avs =>
   obtain⟨a,e1,e2⟩:=oBq.mp (show (avs[j]?).bind (λa=>qu a js)=some as from e)
   obtain⟨p0,vs0,Gs0,rfl,rfl,h1,h2,h3⟩:=r.ow_inv;have n:=aq.mp nd;have hj:j<avs.length:=(gSq.mp e1).1;have hv:vs0[j]?=some (vs0[j]'(h3.1 ▸ hj)):=gEg _;have hg:Gs0[j]?=some (Gs0[j]'(h3.2.1 ▸ hj)):=gEg _;generalize vs0[j]'(h3.1 ▸ hj)=vj at hv;generalize Gs0[j]'(h3.2.1 ▸ hj)=Fj at hg;have rj:=h3.2.2 j a vj Fj e1 hv hg;have ndj:Fj.Nodup:=aY.sublist (aF (mGq hg)) n.2;have sub:∀q∈Fj,q∈Gs0.flatten:=λq hq=>pS hg hq
   obtain⟨p,vs,Gs,g1,g2,g3,g4,g5,g6,g6',g7,g8⟩:=pT.path rj ndj e2;have pne:p0≠p:=λz=>n.1 (z ▸ sub p g5)
   refine⟨p,vs,Gs,⟨p0,vs0,vj,rfl,h1,hv,g1⟩,g2,g3,g4,mCo _ (sub p g5),g6,g6',λq hq=>mCo _ (sub q (g7 q hq)),λas' vs' Gs' r' nd' hd=>?_⟩
   obtain⟨F',k1,k2,k3⟩:=g8 as' vs' Gs' r' nd' λq hq=>(hd q hq).imp id λz m=>z (mCo _ (sub q m))
   have hF':∀q∈F',q∈Fj∨q∉Gs0.flatten:=λq hq=>by
    rcases k3 q hq with z|z
    .exact .inl z
    .rcases hd q z with y|y
     .exact .inl (g7 q y)
     .exact .inr λm=>y (mCo _ m)
   refine⟨p0::(Gs0.set j F').flatten,?_,aq.mpr ⟨λm=>?_,yo j n.2 hg k2 hF'⟩,λq hq=>?_⟩
   .show pT K Hf (qP H p (.lst vs')) (match avs[j]? with|some a=>.ow (avs.set j (putAt a js as'))|none=>.ow avs) (.ref p0) _
    rw[e1];refine .ow (vs:=vs0) (by rw[oV pne];exact h1) h2 (by rw[lZq];exact h3.1) (by rw[lZq,lZq];exact h3.2.1) λi b w G q1 q2 q3=>?_
    rw[bG]at q1 q3
    by_cases hij:j=i
    .subst hij;rw[pN rfl,pN hj]at q1;rw[pN rfl,pN (h3.2.1 ▸ hj)]at q3;rw[hv]at q2;cases q1;cases q2;cases q3;exact k1
    .rw [pJ hij]at q1 q3;exact(h3.2.2 i b w G q1 q2 q3).keepUpd λm=>Dz n.2 hg q3 hij g5 m
   .rcases sC m with z|z
    .rcases k3 p0 z with y|y
     .exact n.1 (sub p0 y)
     .rcases hd p0 y with x|x
      .exact n.1 (sub p0 (g7 p0 x))
      .exact x (by simp)
    .exact n.1 z
   .rcases ae.mp hq with z|z
    .exact .inl (by rw[z];simp)
    .rcases sC z with z|z
     .exact (k3 q z).imp (λy=>mCo _ (sub q y)) id
     .exact .inl (mCo _ z)
  |_=>cases e
theorem qf.turnAny(R:qf K H₀ Hf₀ Hf S σ H Fs) {i:Nat}{av:AV}{p:Addr}{o:HO}{v:V}{F F':List Addr}(s1:σ[i]?=some (some v)) (s2:Fs[i]?=some F) (hp:p∈F) (r:pT K Hf (qP H p o) av v F') (nd:F'.Nodup)
  (hf:∀q∈F',H₀ q=none/\q∉(Fs.set i []).flatten):qf K H₀ Hf₀ Hf (S.set i (some av)) σ (qP H p o) (Fs.set i F'):=by
 have hin:p∈Fs.flatten:=mFq.mpr ⟨F,mGq s2,hp⟩;have pn:Hf p=none:=(R.mem hin).2;have p0:H₀ p=none:=R.fresh p hin;have out:=ug R.nd s2 hp;have R1:qf K H₀ Hf₀ Hf (S.set i none) σ (qP H p o) (Fs.set i []):=by
  refine⟨by simp[R.len],by simp[R.lenF],λj a ej=>?_,λj ej=>?_,si i R.nd aU (λp hp=>by cases hp),λp hp=>R.fresh p (qD hp),λb u e=>?_,λb u e=>?_,R.lim,R.sf⟩
  .rw [bG]at ej
   by_cases hij:i=j
   .subst hij;rw[pN rfl]at ej;split at ej <;> cases ej
   .rw [pJ hij]at ej;obtain⟨w,G,f1,f2,q⟩:=R.rep j a ej;refine⟨w,G,f1,by rw[aA hij];exact f2,q.keep (.refl _) (λc hc=>oV λe=>out ?_) λc hc=>(q.owned c hc).2⟩
    subst e;exact mFq.mpr ⟨G,mGq (i:=j) (by rw[aA hij];exact f2),hc⟩
  .rw [bG]at ej
   by_cases hij:i=j
   .subst hij;rw[pN rfl]at ej;split at ej
    .rename_i hi;rw[aC (R.lenF.symm ▸ hi)]
    .cases ej
   .rw [pJ hij]at ej;rw[aA hij];exact R.emp j ej
  .rw [oV λz=>by rw[z,pn]at e;cases e]
   exact R.sub b u e
  .rw [oV λz=>by rw[z,p0]at e;cases e]
   exact R.fr b u e
 exact R1.again (F:=F) s1 r nd hf
theorem qf.kill(R:qf K H₀ Hf₀ Hf S σ H Fs) (x:Nat):qf K H₀ Hf₀ Hf (S.set x none) σ H (Fs.set x []):=by
 refine⟨by simp[R.len],by simp[R.lenF],λj a ej=>?_,λj ej=>?_,si x R.nd aU (λp hp=>by cases hp),λp hp=>R.fresh p (qD hp),R.sub,R.fr,R.lim,R.sf⟩
 .rw [bG]at ej
  by_cases hij:x=j
  .subst hij;rw[pN rfl]at ej;split at ej <;> cases ej
  .rw [pJ hij]at ej;obtain⟨w,G,f1,f2,q⟩:=R.rep j a ej;exact⟨w,G,f1,by rw[aA hij];exact f2,q⟩
 .rw [bG]at ej
  by_cases hij:x=j
  .subst hij;rw[pN rfl]at ej;split at ej
   .rename_i hi;rw[aC (R.lenF.symm ▸ hi)]
   .cases ej
  .rw [pJ hij]at ej;rw[aA hij];exact R.emp j ej
theorem qf.any(R:qf K H₀ Hf₀ Hf (S.set x none) σ H Fs) (v:V):qf K H₀ Hf₀ Hf (S.set x none) (σ.set x (some v)) H Fs where
 len:=by rw[R.len,lZq]
 lenF:=R.lenF
 rep:=λi av e=>by
  by_cases hij:x=i
  .subst hij;rw[bG]at e;rw[pN rfl]at e;split at e <;> cases e
  .obtain ⟨w,G,f1,f2,q⟩:=R.rep i av e;exact⟨w,G,by rw[aA hij];exact f1,f2,q⟩
 emp:=R.emp
 nd:=R.nd
 fresh:=R.fresh
 sub:=R.sub
 fr:=R.fr
 lim:=R.lim
 sf:=R.sf
end
def Px(d:D):List AV->Option (List AV)
 | []=>some []
 | .ow as::r=>vc (as.length<rh) ((Px d r).map (.ow (as++[.sh d]) :: ·))
 |_=>none
def T9(i x:Nat) (d:D):MS:=λS=>if i=x∨S.length<=x then none else if d.scal=true then (qL S i).bind λavs=>(Px d avs).map λbs=>.nx ((S.set i (some (.ow bs))).set x none) else none
abbrev aI(ns:List Int):AV:=.ow (ns.map λn=>.sh (.int n))
def BN:List AV->Option (List Int)
 | []=>some []
 | .sh (.int i)::r=>(BN r).map (i :: ·)
 |_=>none
def CQ:List AV->Option (List (List Int))
 | []=>some []
 | .ow as::r=>(BN as).bind λns=>(CQ r).map (ns :: ·)
 |_=>none
theorem FR:∀{as:List AV}{ns:List Int},BN as=some ns->as=ns.map λn=>.sh (.int n)
 | [],ns,h=>by cases h;rfl
 |a::as,ns,h=>by
  cases a with
  |sh d =>
   cases d with
   |int i =>
    obtain⟨ms,h1,h2⟩:=oMq.mp (show (BN as).map (i :: ·)=some ns from h)
    subst h2;rw[FR h1];rfl
   |_=>cases h
  |_=>cases h
theorem DJ:∀{as:List AV}{rs:List (List Int)},CQ as=some rs->as=rs.map aI
 | [],rs,h=>by cases h;rfl
 |a::as,rs,h=>by
  cases a with
  |ow es =>
   obtain⟨r,h1,h⟩:=oBq.mp (show (BN es).bind (λns=>(CQ as).map (ns :: ·))=some rs from h)
   obtain⟨ts,h2,h3⟩:=oMq.mp h;subst h3;rw[DJ h2,FR h1];rfl
  |_=>cases h
@[simp] theorem KN (ns:List Int):BN (ns.map λn=>.sh (.int n))=some ns:=by
 induction ns with
 |nil=>rfl
 |cons n ns ih=>show (BN (ns.map λn=>.sh (.int n))).map (n :: ·)=_;rw[ih];rfl
@[simp] theorem K0 (rs:List (List Int)):CQ (rs.map aI)=some rs:=by
 induction rs with
 |nil=>rfl
 |cons r rs ih=>show (BN (r.map λn=>.sh (.int n))).bind (λns=>(CQ (rs.map aI)).map (ns :: ·))=_;rw[KN,ih];rfl
def zc(k:MK):MK:=λS=>(k S).bind λx=>match x.1 with
 | .ow avs=>(CQ avs).map λrs=>(.ow ((wX rs).map aI),x.2)
 |_=>none
section
variable {K:W.Frag}{Hf H:Hp}
theorem Ip{ns:List Int}{v:V}{F:List Addr}(h:pT K Hf H (aI ns) v F):∃p,v = .ref p/\F=[p]/\H p=some (.lst (ns.map V.int))/\Hf p=none:=by
 obtain⟨p,vs,Gs,rfl,rfl,h1,h2,h3⟩:=h.ow_inv;have e:∀{ns:List Int}{vs:List V}{Gs:List (List Addr)},pW K Hf H (ns.map λn=>AV.sh (.int n)) vs Gs->vs=ns.map V.int/\Gs.flatten=[]:=by
  intro ns
  induction ns with
  |nil =>
   intro vs Gs h;obtain⟨a,b⟩:=h.nil_inv;exact⟨a,by rw[b];rfl⟩
  |cons n ns ih =>
   intro vs Gs h;obtain⟨v,ws,F,Gs',rfl,rfl,r1,r2⟩:=pW.cons_inv (a:=.sh (.int n)) h;obtain⟨f1,f2⟩:=r1.sh_inv;subst f1;cases f2;obtain⟨g1,g2⟩:=ih r2;rw[g1];exact⟨rfl,by rw[fCq,g2];rfl⟩
 obtain⟨e1,e2⟩:=e h3;rw[e2];subst e1;exact⟨p,rfl,rfl,h1,h2⟩
theorem Uu{ns:List Int}{p:Addr}(h1:H p=some (.lst (ns.map V.int))) (h2:Hf p=none):pT K Hf H (aI ns) (.ref p) [p]:=by
 have:=pT.new (K:=K) (Hf:=Hf) (H:=H) (ds:=ns.map D.int) h1 h2 (tV ns);rw[←yB]at this;exact this
theorem vK:∀{rs:List (List Int)}{vs:List V}{Gs:List (List Addr)},pW K Hf H (rs.map aI) vs Gs->∃ps,vs=ps.map V.ref/\Gs=ps.map (λp=>[p])/\rK H ps rs/\∀p∈ps,Hf p=none
 | [],vs,Gs,h=>by
  obtain⟨a,b⟩:=h.nil_inv;exact⟨[],a,b,.nil,λp hp=>by cases hp⟩
 |r::rs,vs,Gs,h=>by
  obtain⟨v,ws,F,Gs',rfl,rfl,r1,r2⟩:=pW.cons_inv (a:=aI r) (as:=rs.map aI) h;obtain⟨p,rfl,rfl,h1,h2⟩:=Ip r1;obtain⟨ps,rfl,rfl,h3,h4⟩:=vK r2;exact⟨p::ps,rfl,rfl,rK.cons_iff.mpr ⟨h1,h3⟩,λq hq=>(ae.mp hq).elim (λe=>e ▸ h2) (h4 q)⟩
theorem Ab:∀{rs:List (List Int)}{ps:List Addr},rK H ps rs->(∀p∈ps,Hf p=none)->pW K Hf H (rs.map aI) (ps.map V.ref) (ps.map λp=>[p])
 | [],[],_,_=>.nil
 | [],_::_,h,_=>by have:=h.length;simp at this
 |_::_,[],h,_=>by have:=h.length;simp at this
 |r::rs,p::ps,h,n=>by
  obtain⟨h1,h2⟩:=rK.cons_iff.mp h;exact .cons (Uu h1 (n p (by simp))) (Ab h2 λq hq=>n q (mCo _ hq))
theorem flat_one(ps:List Addr):(ps.map λp=>[p]).flatten=ps:=by
 induction ps with
 |nil=>rfl
 |cons p ps ih=>rw[au,fCq,ih];rfl
theorem KU{te:TE}{k:MK}(hk:SK K te k):SK K (Mj (λxs H Q=>∃(a:Addr) (ps:List Addr) (rs:List (List Int)),xs=[.ref a]/\sS K H a (ps.map V.ref)/\rK H ps rs /\
  ∀p qs,H p=none->qs.Perm ps->rK (qP H p (.lst (qs.map V.ref))) qs (wX rs)->Q (.ref p) (qP H p (.lst (qs.map V.ref)))) (um te wV)) (zc k):=by
 intro H₀ Hf₀ Hf S σ H Fs av S' R e Q q;obtain⟨x,e1,e⟩:=oBq.mp e;refine hk R (a:=x.1) (S':=x.2) e1 _ λHf1 H1 Fs1 v F t1 R1 r1 o1=>?_
 split at e
 .rename_i avs hx;obtain⟨rs,e2,e⟩:=oMq.mp e;cases e;rw[hx,DJ e2]at r1;obtain⟨p0,vs,Gs,rfl,rfl,h1,h2,h3⟩:=r1.ow_inv;obtain⟨ps,rfl,rfl,hE,hn⟩:=vK h3;rw[flat_one]at o1;refine⟨p0,ps,rs,rfl,sS.of h1,hE,λp qs hp hq hE2=>?_⟩
  obtain⟨t4,R4,n1,n2,n3⟩:=R1.new (o:=.lst (qs.map V.ref)) hp;have pq:p∉qs:=λm=>hE.free (H:=H1) hp (hq.mem_iff.mp m)
  have hm:∀z∈qs,z∈p0::ps:=λz hz=>mCo _ (hq.mem_iff.mp hz)
  refine q _ _ _ (.ref p) (p::(qs.map λp=>[p]).flatten) (t1.trans t4) R4 (pT.news pD n1 (Ab hE2 λz hz=>hn z (hq.mem_iff.mp hz))) ?_
  rw[flat_one];refine⟨aq.mpr ⟨pq,hq.nodup_iff.mpr (aq.mp o1.nd).2⟩,λz hz=>?_,λz hz=>?_,λz hz=>?_⟩
  .rcases ae.mp hz with y|y
   .rw [y];exact n2
   .exact o1.fr z (hm z y)
  .rcases ae.mp hz with y|y
   .rw [y];exact n3
   .exact o1.out z (hm z y)
  .rcases ae.mp hz with y|y
   .rw [y];exact .inl (t1.sh.free hp)
   .exact o1.new z (hm z y)
 .cases e
def Pz:AV->Option D
 | .sh d=>if d.scal=true then some d else none
 |_=>none
def qj(f:MF) (a:ML):ME:=λS=>(a S).bind λx=>(f x.1).bind λr=>(Pz r).map λd=>(d,x.2)
theorem uu{f:MF}{ta:TA}{a:ML}(ha:QI K ta a):SR K (Kf (qN K f) [] E0 ta) (qj f a):=by
 intro H₀ Hf₀ Hf S σ H Fs d S' R e Q q;obtain⟨x,e1,e⟩:=oBq.mp e;obtain⟨r,e2,e⟩:=oBq.mp e;obtain⟨z,e3,e⟩:=oMq.mp e;cases e;refine ha R (ds:=x.1) (S':=x.2) e1 _ λHf1 H1 Fs1 vs t1 R1 r1=>?_
 rw[aNq];refine⟨H1,x.1,r,.refl _,r1,e2,λHf' H' v F s1 s2 s3 l rv nd fr=>?_⟩
 have t2:zb Hf1 H1 Fs1 Hf1 H' Fs1:=⟨.refl _,s2,λ_ h=>h,λb h g=>absurd h g⟩
 cases r with
 |sh d' =>
  simp only[Pz]at e3;split at e3
  .rename_i hs;cases e3;exact q _ _ _ v (t1.trans t2) (R1.laid s2) (rv.sh_inv.2.scal hs)
  .cases e3
 |_=>cases e3
end
section
variable (S:AS)
@[simp] theorem Wb (i:Nat):oy i S=(S[i]?.join).map λa=>(oP a,S):=rfl
@[simp] theorem Wo (i:Nat):oQ i S=(S[i]?.join).map λa=>(.sh (oP a),S.set i (some (.sh (oP a)))):=rfl
@[simp] theorem V2 (i:Nat):zi i S=(S[i]?.join).map λa=>(a,S.set i none):=rfl
@[simp] theorem Yx (k:MK):rOf k S=(k S).map λx=>(oP x.1,x.2):=rfl
@[simp] theorem Yj (m:ME):kSc m S=(m S).bind λx=>if x.1.scal then some (.sh x.1,x.2) else none:=rfl
@[simp] theorem Wa (k:MK):wu k S=(k S).map λx=>(.sh (oP x.1),x.2):=rfl
@[simp] theorem ZH (d:D):rC d S=if d.scal then some (d,S) else none:=rfl
@[simp] theorem X7 (f:D->D->Option D) (a b:ME):pK f a b S=(a S).bind λx=>(b x.2).bind λy=>(f x.1 y.1).map λd=>(d,y.2):=rfl
@[simp] theorem Yr (f:D->Option D) (a:ME):DV f a S=(a S).bind λx=>(f x.1).map λd=>(d,x.2):=rfl
@[simp] theorem WN (a:ME):Nb a S=(a S).bind λx=>(LC x.1).map λd=>(d,x.2):=rfl
@[simp] theorem U7 (a b:MT):D8 a b S=(a S).bind λx=>if x.1=true then b x.2 else some (false,x.2):=rfl
@[simp] theorem Vg (a:MT):uv a S=(a S).map λx=>(!x.1,x.2):=rfl
def Vh:D->Option Bool
 | .bl b=>some b
 |_=>none
@[simp] theorem YB (a:ME):rp a S=(a S).bind λx=>(Vh x.1).map λb=>(b,x.2):=by
 show (a S).bind _=_;congr 1;funext x;obtain⟨d,S'⟩:=x;cases d <;> rfl
@[simp] theorem Xp (a b:ME):DD a b S=(a S).bind λx=>(Vh x.1).bind λc=>if c=true then b x.2 else some (.bl false,x.2):=by
 show (a S).bind _=_;congr 1;funext x;obtain⟨d,S'⟩:=x;cases d <;> try rfl
 rename_i c;cases c <;> rfl
@[simp] theorem QH (b:Bool):Vh (.bl b)=some b:=rfl
@[simp] theorem W0:oW S=some ([],S):=rfl
@[simp] theorem U3 (k:MK) (r:MA):oH k r S=(k S).bind λx=>(r x.2).map λy=>(x.1::y.1,y.2):=rfl
@[simp] theorem UO:oC S=some ([],S):=rfl
@[simp] theorem QU (k:ME) (r:ML):ot k r S=(k S).bind λx=>(r x.2).map λy=>(x.1::y.1,y.2):=rfl
@[simp] theorem Xl (a:MA):rQ a S=(a S).bind λx=>vc (x.1.length<=rh) (some (.ow x.1,x.2)):=rfl
@[simp] theorem Ww (a b:ML):Da a b S=(a S).bind λx=>(b x.2).bind λy=>vc (x.1.length+y.1.length<=rh) (some (.ow ((x.1++y.1).map .sh),y.2)):=rfl
@[simp] theorem UY:zC S=some (none,S):=rfl
@[simp] theorem Ve (m:ME):wQ m S=(m S).bind λx=>(intOf x.1).map λi=>(some i,x.2):=by
 show (m S).bind _=_;congr 1;funext x;obtain⟨d,S'⟩:=x;cases d <;> rfl
@[simp] theorem LA (i:Int):intOf (.int i)=some i:=rfl
@[simp] theorem Yk (l:ML) (lo hi:MO):Oq l lo hi S=(l S).bind λx=>(lo x.2).bind λy=>(hi y.2).map λz=>(.ow ((zF x.1 y.1 z.1).map .sh),z.2):=rfl
@[simp] theorem X0 (l:ML) (b:ME):Qx l b S=(l S).bind λx=>(b x.2).bind λy=>(intOf y.1).bind λi=>(atI x.1 i).map λd=>(.sh d,y.2):=by
 show (l S).bind _=_;congr 1;funext x;show (b x.2).bind _=_;congr 1;funext y;obtain⟨d,S'⟩:=y;cases d <;> rfl
@[simp] theorem YC (f:List D->Option D) (a:ML):rP f a S=(a S).bind λx=>(f x.1).map λd=>(d,x.2):=rfl
@[simp] theorem Vv (f:MF) (a:MA):pH f a S=(a S).bind λx=>(f (x.1.map oP)).map λr=>(r,x.2):=rfl
@[simp] theorem UB (f:MF) (a:ML):qj f a S=(a S).bind λx=>(f x.1).bind λr=>(Pz r).map λd=>(d,x.2):=rfl
@[simp] theorem Uk:pU S=some (.nx S):=rfl
def Qj(o:Option Kd) (b:MS):Option Kd:=o.bind λo=>match o with
 | .nx S'=>b S'
 |o=>some o
@[simp] theorem PH (b:MS):Qj (some (.nx S)) b=b S:=rfl
@[simp] theorem NK (a:AV) (b:MS):Qj (some (.rt a)) b=some (.rt a):=rfl
@[simp] theorem WE (a b:MS):oE a b S=Qj (a S) b:=rfl
@[simp] theorem V3 (i:Nat) (k:MK):oS i k S=(k S).map λx=>.nx (x.2.set i (some x.1)):=rfl
@[simp] theorem Wt (k:MK):qa k S=(k S).map λx=>.rt x.1:=rfl
@[simp] theorem XU (c:MT) (a b:MS):wt c a b S=(c S).bind λx=>if x.1=true then a x.2 else b x.2:=rfl
@[simp] theorem WL (i:Nat) (k:MK):uV i k S=(qL S i).bind λ_=>(k S).bind λx=>(qL x.2 i).bind λavs=>vc (avs.length<rh) (some (.nx (x.2.set i (some (.ow (avs++[x.1])))))):=rfl
@[simp] theorem Xr (i:Nat) (l:ML):Lg i l S=(qL S i).bind λ_=>(l S).bind λx=>(qL x.2 i).bind λavs=>vc (avs.length+x.1.length<=rh) (some (.nx (x.2.set i (some (.ow (avs++x.1.map .sh)))))):=rfl
@[simp] theorem UE (i:Nat) (b:ME) (k:MK):vS i b k S=(wu k S).bind λx=>(wF x.2 i).bind λ_=>(b x.2).bind λy=>(wF y.2 i).bind λkvs=>(uz y.1).bind λkey =>
 vc (kvs.length<rh) (some (.nx (y.2.set i (some (.owd (xZ kvs key (oP x.1))))))):=rfl
def dictOf:D->Option (List (oU×D))
 | .dict kvs=>some kvs
 |_=>none
@[simp] theorem GL (kvs:List (oU×D)):dictOf (.dict kvs)=some kvs:=rfl
@[simp] theorem KI (i:Int):uz (.int i)=some (.inl i):=rfl
@[simp] theorem Pw (a b:ME):rY a b S=(a S).bind λx=>(b x.2).bind λy=>(dictOf y.1).bind λkvs=>(uz x.1).map λkey=>(.bl (!(getD kvs key).isSome),y.2):=by
 show (a S).bind _=_;congr 1;funext x;show (b x.2).bind _=_;congr 1;funext y;obtain⟨d,S'⟩:=y;cases d <;> rfl
@[simp] theorem Ul (a b:ME):xC a b S=(a S).bind λx=>(b x.2).bind λy=>(dictOf x.1).bind λkvs=>(uz y.1).bind λkey=>(getD kvs key).map λd=>(d,y.2):=by
 show (a S).bind _=_;congr 1;funext x;show (b x.2).bind _=_;congr 1;funext y;obtain⟨d,S'⟩:=x;cases d <;> rfl
@[simp] theorem UX:vi S=some (.owd [],S):=rfl
@[simp] theorem Wc (x:Nat) (k:MK) (body:MS):xg x k body S=(wu k S).bind λy=>(uc (oP y.1)).bind λds=>sN x body ds y.2:=rfl
@[simp] theorem SG (x:Nat) (a:ML) (body:MS):vM x a body S=(a S).bind λy=>(B1 y.1).bind λds=>sN x body ds y.2:=rfl
@[simp] theorem TC (x y:Nat) (k:MK) (body:MS):Oj x y k body S=(wu k S).bind λz=>(uc (oP z.1)).bind λds=>Bk x y body 0 ds z.2:=rfl
@[simp] theorem UM (src:MI) (fr:List Nat) (tf:MT) (te:MK):qM src fr tf te S=(src S).bind λy=>(fzAll fr y.2).bind λS2=>(FB S2 fr).bind λcap=>vc (y.1.length<=rh) ((qR tf te cap y.1).map λavs=>(.ow avs,S2)):=rfl
@[simp] theorem VW (k:MK):wm k S=(wu k S).bind λy=>(uc (oP y.1)).map λds=>(ds,y.2):=rfl
@[simp] theorem Yc (a:ML):QA a S=(a S).bind λy=>(B1 y.1).map λds=>(ds,y.2):=rfl
@[simp] theorem Mb:fzAll [] S=some S:=rfl
@[simp] theorem IY (j:Nat) (js:List Nat):fzAll (j::js) S=(S[j]?.join).bind λa=>fzAll js (S.set j (some (.sh (oP a)))):=rfl
@[simp] theorem On:FB S []=some []:=rfl
@[simp] theorem Kx (j:Nat) (js:List Nat):FB S (j::js)=(Uo S[j]?.join).bind λa=>(FB S js).map (some a :: ·):=rfl
@[simp] theorem U4 (l:ML):vJ l S=(l S).map λx=>(.ow (x.1.map .sh),x.2):=rfl
@[simp] theorem R9 (l:ML):yz l S=(l S).bind λx=>(rJ x.1).map λns=>(.ow ((qH ns).map λn=>.sh (.int n)),x.2):=rfl
def Vy:AV->Option (List AV)
 | .ow avs=>some avs
 |_=>none
@[simp] theorem SE (avs:List AV):Vy (.ow avs)=some avs:=rfl
@[simp] theorem OV (k:MK):zc k S=(k S).bind λx=>(Vy x.1).bind λavs=>(CQ avs).map λrs=>(.ow ((wX rs).map aI),x.2):=by
 show (k S).bind _=_;congr 1;funext x;obtain⟨d,S'⟩:=x;cases d <;> rfl
@[simp] theorem X2 (T:String) (f:D->List D->Option D) (a:ME) (as:ML):Xz T f a as S=(a S).bind λx=>if VO T x.1=true then (as x.2).bind λy=>(f x.1 y.1).map λd=>(d,y.2) else none:=rfl
def V0:D->Option (List D)
 | .list ds=>some ds
 |_=>none
def VM:AV->Option (List D)
 | .sh (.list ds)=>some ds
 | .ow avs=>some (avs.map oP)
 |_=>none
@[simp] theorem Ut (ds:List D):VM (.sh (.list ds))=some ds:=rfl
@[simp] theorem VA (avs:List AV):VM (.ow avs)=some (avs.map oP):=rfl
@[simp] theorem Yi (k:MK):lOf k S=(k S).bind λx=>(VM x.1).map λds=>(ds,x.2):=by
 show (k S).bind _=_;congr 1;funext x;obtain⟨a,S'⟩:=x;cases a with
 |sh d=>cases d <;> rfl
 |_=>rfl
end
@[simp] theorem Pa (ds:List D):(ds.map AV.sh).map oP=ds:=by
 rw[mPq];have:oP∘AV.sh=id:=by funext d;simp
 rw[this,dR]
def T4:AV->AV
 | .ow avs=>.ow ((avs.map oP).map .sh)
 |a=>a
@[simp] theorem VF (d:D):T4 (.sh d) = .sh d:=rfl
@[simp] theorem Pp (avs:List AV):T4 (.ow avs) = .ow ((avs.map oP).map .sh):=rfl
theorem CV{S:AS}{i:Nat}{a:AV}(h:S[i]?=some (some a)):S.set i (some a)=S:=by
 obtain⟨hk,ev⟩:=gSq.mp h;rw[←ev];exact gj hk
@[simp] theorem Ws (S:AS) (i:Nat):D6 i S=(S[i]?.join).bind λa=>(VM a).map λds=>(ds,S.set i (some (T4 a))):=by
 unfold D6;cases e:S[i]?.join with
 |none=>rfl
 |some a =>
  cases a with
  |sh d =>
   cases d with
   |list ds =>
    show some (ds,S)=some (ds,S.set i (some (.sh (.list ds))));rw[CV (qd e)]
   |_=>rfl
  |ow avs=>rfl
  |owd kvs=>rfl
  |owl kvs=>rfl
def Xs:AV->Option (List D)
 | .sh (.scr ns)=>some (ns.map .int)
 |a=>VM a
@[simp] theorem RH (ns:List Int):Xs (.sh (.scr ns))=some (ns.map .int):=rfl
@[simp] theorem Vn (ds:List D):Xs (.sh (.list ds))=some ds:=rfl
@[simp] theorem Oa (avs:List AV):Xs (.ow avs)=some (avs.map oP):=rfl
@[simp] theorem Wf (S:AS) (i:Nat):sR i S=(S[i]?.join).bind λa=>(Xs a).map λds=>(ds,S.set i (some (T4 a))):=by
 unfold sR;cases e:S[i]?.join with
 |none=>rfl
 |some a =>
  cases a with
  |sh d =>
   cases d with
   |list ds =>
    show some (ds,S)=some (ds,S.set i (some (.sh (.list ds))));rw[CV (qd e)]
   |scr ns =>
    show some (ns.map D.int,S)=some (ns.map D.int,S.set i (some (.sh (.scr ns))));rw[CV (qd e)]
   |_=>rfl
  |ow avs=>rfl
  |owd kvs=>rfl
  |owl kvs=>rfl
@[simp] theorem Mu (i:Int):(D.int i).scal=true:=rfl
@[simp] theorem Sl (i:Bool):(D.bl i).scal=true:=rfl
@[simp] theorem QB (i:String):(D.ty i).scal=true:=rfl
@[simp] theorem ND (i:Int):Pz (.sh (.int i))=some (.int i):=rfl
@[simp] theorem RU (i:Bool):Pz (.sh (.bl i))=some (.bl i):=rfl
@[simp] theorem RZ (i j:Int):DT (.int i) (.int j)=some (.bl (decide (i=j))):=rfl
@[simp] theorem RE (b:Bool):LC (.bl b)=some (.bl (!b)):=rfl
@[simp] theorem JY (i j:Int):Jq (.int i) (.int j)=some (.bl (!decide (i=j))):=rfl
@[simp] theorem KJ (ds:List D):ql [.list ds]=some (.int ds.length):=rfl
@[simp] theorem MC (ns:List Int):ql [.scr ns]=some (.int ns.length):=rfl
@[simp] theorem Qh (i:Int):Jl [.int i]=some (.int (if i<0 then -i else i)):=rfl
@[simp] theorem LH (ds:List D):zO [.list ds,.ty "list"]=some (.bl true):=by simp[zO,WR]
@[simp] theorem OJ (i:Int):zO [.int i,.ty "int"]=some (.bl true):=by simp[zO,WR]
@[simp] theorem Ma (i:Int):zO [.int i,.ty "bool"]=some (.bl false):=by simp[zO,WR]
@[simp] theorem E1 (ds:List D):uc (.list ds)=some ds:=rfl
@[simp] theorem O1 (ds:List D) (i:Int):G2 (.list ds) (.int i)=atI ds i:=rfl
@[simp] theorem Ra (ns:List Int) (i:Int):G2 (.scr ns) (.int i)=(atI ns i).map .int:=rfl
@[simp] theorem Su (d:D):Uo (some (.sh d))=some (.sh d):=rfl
@[simp] theorem NQ (ds:List D):VO "list" (.list ds)=true:=rfl
theorem Rv(S:AS) (i:Nat):qL S i=(S[i]?.join).bind Vy:=by
 unfold qL;cases S[i]?.join with
 |none=>rfl
 |some a=>cases a <;> rfl
def Ti:AV->Option (List (oU×D))
 | .owd kvs=>some kvs
 |_=>none
@[simp] theorem Lw (kvs:List (oU×D)):Ti (.owd kvs)=some kvs:=rfl
theorem Nf(S:AS) (i:Nat):wF S i=(S[i]?.join).bind Ti:=by
 unfold wF;cases S[i]?.join with
 |none=>rfl
 |some a=>cases a <;> rfl
theorem FT{x:Nat}{body:MS}(P:Nat->AS->Prop):∀{ds:List D}{S:AS}{k:Nat},P k S->(∀i d S,ds[i]?=some d->P (k+i) S->∃S',(body (S.set x (some (.sh d)))=some (.nx S')∨body (S.set x (some (.sh d)))=some (.ct S'))/\P (k+i+1) S')->∃S',sN x body ds S=some (.nx S')/\P (k+ds.length) S'
 | [],S,k,h0,_=>⟨S,rfl,h0⟩
 |d::ds,S,k,h0,hs=>by
  obtain⟨S',e,h1⟩:=hs 0 d S rfl h0;have hs':∀i d S,ds[i]?=some d->P (k+1+i) S->∃S',(body (S.set x (some (.sh d)))=some (.nx S')∨body (S.set x (some (.sh d)))=some (.ct S'))/\P (k+1+i+1) S':=λi d S h p=>by
   have:=hs (i+1) d S (by simpa using h) (by rw[show k+(i+1)=k+1+i by lia];exact p)
   rw[show k+(i+1)=k+1+i by lia]at this
   exact this
  obtain⟨S2,e2,h2⟩:=FT P (k:=k+1) h1 hs';refine⟨S2,?_,by rw[lCq,show k+(ds.length+1)=k+1+ds.length by lia];exact h2⟩
  show (body _).bind _=_;rcases e with e|e <;> (rw[e];exact e2)
theorem vk{x:Nat}{body:MS}(P:Nat->AS->Prop) {ds:List D}{S:AS}(h0:P 0 S) (hs:∀i d S,ds[i]?=some d->P i S->∃S',body (S.set x (some (.sh d)))=some (.nx S')/\P (i+1) S'):∃S',sN x body ds S=some (.nx S')/\P ds.length S':=by
 have:=FT (x:=x) (body:=body) P (ds:=ds) (k:=0) h0 λi d S h p=>by
  rw[bZ]at p ⊢;obtain⟨S',e,q⟩:=hs i d S h p;exact⟨S',.inl e,q⟩
 rw[bZ]at this;exact this
theorem Tn{x y:Nat}{body:MS}(P:Nat->AS->Prop):∀{ds:List D}{S:AS}{k:Nat},P k S->(∀i d S,ds[i]?=some d->P (k+i) S->∃S',body ((S.set x (some (.sh (.int (k+i:Nat))))).set y (some (.sh d)))=some (.nx S')/\P (k+i+1) S')->∃S',Bk x y body k ds S=some (.nx S')/\P (k+ds.length) S'
 | [],S,k,h0,_=>⟨S,rfl,h0⟩
 |d::ds,S,k,h0,hs=>by
  obtain⟨S',e,h1⟩:=hs 0 d S rfl h0;have hs':∀i d S,ds[i]?=some d->P (k+1+i) S->∃S',body ((S.set x (some (.sh (.int (k+1+i:Nat))))).set y (some (.sh d)))=some (.nx S')/\P (k+1+i+1) S':=λi d S h p=>by
   have:=hs (i+1) d S (by simpa using h) (by rw[show k+(i+1)=k+1+i by lia];exact p)
   rw[show k+(i+1)=k+1+i by lia]at this
   exact this
  obtain⟨S2,e2,h2⟩:=Tn P (k:=k+1) h1 hs';refine⟨S2,?_,by rw[lCq,show k+(ds.length+1)=k+1+ds.length by lia];exact h2⟩
  show (body ((S.set x (some (.sh (.int (k:Nat))))).set y (some (.sh d)))).bind _=_;rw[ir]at e;rw[e];exact e2
theorem sk{te:MK}{cap:AS}(g:D->AV):∀{ds:List D},(∀d∈ds,∃S',te (some (.sh d)::cap)=some (g d,S'))->qR qt te cap ds=some (ds.map g)
 | [],_=>rfl
 |d::ds,h=>by
  obtain⟨S',e⟩:=h d (by simp)
  show (te (some (.sh d)::cap)).bind (λa=>(qR qt te cap ds).map (a.1 :: ·))=_
  rw[e,sk g λx hx=>h x (mCo _ hx)]
  rfl
theorem yx{tf:MT}{te:MK}{cap:AS}(p:D->Bool) (g:D->AV):∀{ds:List D},(∀d∈ds,∃S1,tf (some (.sh d)::cap)=some (p d,S1)/\(p d=true->∃S',te S1=some (g d,S')))->qR tf te cap ds=some ((ds.filter p).map g)
 | [],_=>rfl
 |d::ds,h=>by
  obtain⟨S1,e1,e2⟩:=h d (by simp)
  have ih:=yx (tf:=tf) (te:=te) (cap:=cap) p g λx hx=>h x (mCo _ hx)
  show (tf (some (.sh d)::cap)).bind _=_;rw[e1];show (if p d=true then _ else _)=_
  by_cases c:p d=true
  .obtain ⟨S',e3⟩:=e2 c;rw[pN c,e3,eO c];show (qR tf te cap ds).map _=_;rw[ih];rfl
  .rw [pJ c,dD c,ih]
theorem A3{α β:Type}(f:α->β) (xs:List α) (lo hi:Option Int):zF (xs.map f) lo hi=(zF xs lo hi).map f:=by
 unfold zF;rw[lMq,iX,List.map_drop]
theorem K3{α:Type}(xs:List α) (i:Nat) (h:i<=xs.length):zF xs (some (i:Int)) none=xs.drop i:=by
 unfold zF;rw[HT.Cp,HT.FJ,eQ h,cA (by rw[aR];exact af _)]
theorem Kt{α:Type}(xs:List α) (i:Nat) (h:i<=xs.length):zF xs none (some (i:Int))=xs.take i:=by
 unfold zF;rw[HT.Cp,HT.FJ,eQ h,fI,jM]
theorem Oi{α:Type}(xs:List α) (i j:Nat):zF xs (some (i:Int)) (some (j:Int))=(xs.drop i).take (j-i):=by
 unfold zF;rw[HT.Cp,HT.Cp]
 by_cases h:i<=xs.length
 .rw [eQ h]
  by_cases h2:j<=xs.length
  .rw [eQ h2]
  .rw [ju (by lia),cA (by rw[aR];exact af _),cA (by rw[aR];lia)]
 .have e:min i xs.length=xs.length:=ju (by lia)
  rw[e,fS (af xs.length),fS (show xs.length<=i by lia)]
  simp
theorem J5{α:Type}{xs:List α}{i:Int}(h0:0<=i):atI xs i=xs[i.toNat]?:=by
 unfold atI GN;rw[pN h0]
 by_cases h:i<xs.length
 .rw [pN h];rfl
 .rw [pJ h,bc (by lia)]
  rfl
theorem QT{α β:Type}(f:α->β) (xs:List α) (i:Int):atI (xs.map f) i=(atI xs i).map f:=by
 unfold atI;rw[lMq];cases GN xs.length i with
 |none=>rfl
 |some j=>show (xs.map f)[j]?=_;rw[gMq];rfl
theorem JO{n:Nat}{i:Nat}(h:i<n):GN n (i:Int)=some i:=by
 unfold GN;rw[pN (by lia),pN (by lia)]
 simp
theorem Kc(ns:List Int):(ns.map D.int).map AV.sh=ns.map λn=>AV.sh (.int n):=by rw[mPq];rfl
theorem EJ(ns:List Int):(ns.map λn=>AV.sh (.int n)).map oP=ns.map D.int:=by rw[mPq];exact mCq λn _=>by simp
theorem QC(rs:List (List Int)):(rs.map aI).map oP=rs.map dI:=by
 rw[mPq];refine mCq λr _=>?_
 show oP (.ow (r.map λn=>AV.sh (.int n)))=_
 rw[qO,EJ]
theorem Rb(rs:List (List Int)):(rs.map dI).map AV.sh=rs.map λr=>AV.sh (dI r):=by rw[mPq];rfl
theorem Ku(rs:List (List Int)):(rs.map λr=>AV.sh (dI r)).map oP=rs.map dI:=by rw[mPq];exact mCq λn _=>by simp
theorem pI(ns:List Int):oP (aI ns)=dI ns:=by
 show oP (.ow (ns.map λn=>AV.sh (.int n)))=_
 rw[qO,EJ]
theorem QD(i j:Int):xx (.int i) (.int j)=some (.int (i+j)):=vP _
theorem QE(i j:Int):yu (.int i) (.int j)=some (.int (i-j)):=vP _
theorem Vd(i j:Int):S8 (.int i) (.int j)=some (.bl (decide (i<j))):=vP _
theorem Us(i j:Int):FA (.int i) (.int j)=some (.bl (decide (j<i))):=vP _
theorem Ue(i j:Int):XA (.int i) (.int j)=some (.bl (decide (j<=i))):=vP _
theorem Uh(i:Int):xk (.int i)=some (.int (-i)):=rfl
theorem Y9:B2 (.int 10) (.int 40)=some (.int (10 ^ 40)):=uR ⟨by decide,by decide,by decide⟩ _
theorem ZJ:B2 (.int 10) (.int 57)=some (.int (10 ^ 57)):=uR ⟨by decide,by decide,by decide⟩ _
theorem Qo{i j:Int}(h1:-(2 ^ 64)<i) (h2:i<2 ^ 64):BC (.int i) (.int j)=some (.int (i*j)):=uR (.inl ⟨h1,h2⟩) _
theorem JB{i j:Int}(h1:-(2 ^ 64)<j) (h2:j<2 ^ 64):BC (.int i) (.int j)=some (.int (i*j)):=uR (.inr ⟨h1,h2⟩) _
theorem qX{i j:Int}(h:0<j):sr (.int i) (.int j)=some (.int (i % j)):=uR h _
theorem xK{i j:Int}(h:0<j) (h2:j<1073741824):yq (.int i) (.int j)=some (.int (i / j)):=uR ⟨h,h2⟩ _
theorem WU:(0:Nat)<=rh:=by decide
theorem Xk:(1:Nat)<=rh:=by decide
theorem W3:(2:Nat)<=rh:=by decide
theorem tK{n:Nat}(h:n<=16777216):n<=rh:=h
theorem O5{n:Nat}(h:n<16777216):n<rh:=h
theorem vt{n:Nat}(h:n<1000000):B1 [.int (n:Int)]=some (pV 0 n):=by
 have e:B1 [.int (n:Int)]=some (pV 0 (n:Int).toNat):=uR ⟨by lia,by lia⟩ _
 rw[e,dq]
theorem yT(n:Nat):pV 0 n=(bN n).map λi:Nat=>D.int i:=by
 unfold pV;exact mCq λi _=>by rw[gI]
theorem VY(np n:Nat) (m:MS) (ds:List D):rB np n m ds=if ds.length=np then (m (ds.map (λd=>some (.sh d))++aB (n-ds.length) none)).bind λo=>match o with
  | .rt a=>some a
  | .nx _=>some (.sh .non)
  |_=>none
 else none:=rfl
theorem ZE{α:Type}{a b:α}{l:List α}:(a::b::l)[1]?=some b:=rfl
theorem XM{α:Type}{a b v:α}{l:List α}:(a::b::l).set 1 v=a::v::l:=rfl
theorem Zo{α:Type}{a b c:α}{l:List α}:(a::b::c::l)[2]?=some c:=rfl
theorem DW{α:Type}{a b c v:α}{l:List α}:(a::b::c::l).set 2 v=a::b::v::l:=rfl
theorem Zw{α:Type}{a b c d:α}{l:List α}:(a::b::c::d::l)[3]?=some d:=rfl
theorem XG{α:Type}{a b c d v:α}{l:List α}:(a::b::c::d::l).set 3 v=a::b::c::v::l:=rfl
theorem Zx{α:Type}{a b c d:α}{l:List α}{n:Nat}:(a::b::c::d::l)[n+4]?=l[n]?:=rfl
theorem XR{α:Type}{a b c d v:α}{l:List α}{n:Nat}:(a::b::c::d::l).set (n+4) v=a::b::c::d::l.set n v:=rfl
def zq:=aa @Z.vP (aa @Z.WU (aa @Z.Xk (aa @Z.W3 (aa @Z.Wb (aa @Z.Wo (aa @Z.V2 (aa @Z.Yx (aa @Z.Yj (aa @Z.Wa (aa @Z.ZH (aa @Z.X7 (aa @Z.Yr (aa @Z.WN (aa @Z.U7 (aa @Z.Vg (aa @Z.YB (aa @Z.Xp (aa @Z.QH (aa @Z.W0 (aa @Z.U3 (aa @Z.UO (aa @Z.QU (aa @Z.Xl (aa @Z.Ww (aa @Z.UY (aa @Z.Ve (aa @Z.LA (aa @Z.Yk (aa @Z.X0 (aa @Z.YC (aa @Z.Vv (aa @Z.UB (aa @Z.Uk (aa @Z.PH (aa @Z.NK (aa @Z.WE (aa @Z.V3 (aa @Z.Wt (aa @Z.XU (aa @Z.WL (aa @Z.Xr (aa @Z.UE (aa @Z.GL (aa @Z.KI (aa @Z.Pw (aa @Z.Ul (aa @Z.UX (aa @Z.Wc (aa @Z.SG (aa @Z.TC (aa @Z.UM (aa @Z.VW (aa @Z.Yc (aa @Z.Mb (aa @Z.IY (aa @Z.On (aa @Z.Kx (aa @Z.U4 (aa @Z.R9 (aa @Z.SE (aa @Z.OV (aa @Z.X2 (aa @Z.Ut (aa @Z.VA (aa @Z.Yi (aa @Z.Pa (aa @Z.VF (aa @Z.Pp (aa @Z.Ws (aa @Z.RH (aa @Z.Vn (aa @Z.Oa (aa @Z.Wf (aa @Z.Mu (aa @Z.Sl (aa @Z.QB (aa @Z.ND (aa @Z.RU (aa @Z.QD (aa @Z.QE (aa @Z.Vd (aa @Z.Us (aa @Z.Ue (aa @Z.Uh (aa @Z.Y9 (aa @Z.ZJ (aa @Z.Kc (aa @Z.EJ (aa @Z.QC (aa @Z.Rb (aa @Z.Ku (aa @Z.RZ (aa @Z.RE (aa @Z.JY (aa @Z.KJ (aa @Z.MC (aa @Z.Qh (aa @Z.LH (aa @Z.OJ (aa @Z.Ma (aa @Z.E1 (aa @Z.O1 (aa @Z.Ra (aa @Z.Su (aa @Z.NQ (aa @Z.Rv (aa @Z.Nf (aa @Z.Lw (aa @Z.rq (aa @Z.qO (aa @Z.vz (aa @Z.VY (aa @Z.uC (aa @Z.K0 (aa @List.getElem?_cons_zero.{0} (aa @Z.ZE (aa @Z.Zo (aa @Z.Zw (aa @Z.Zx (aa @List.set_cons_zero.{0} (aa @Z.XM (aa @Z.DW (aa @Z.XG (aa @Z.XR (aa @Option.join_some.{0} (aa @Option.map_some.{0, 0} (aa @Option.bind_some.{0, 0} (aa @List.length_cons.{0} (aa @List.length_nil.{0} (aa @List.map_cons.{0, 0} (aa @List.map_nil.{0, 0} (aa @List.nil_append.{0} (aa @List.cons_append.{0} (aa @List.length_map.{0, 0} (aa @Bool.not_true (aa @Bool.not_false (aa @Bool.false_eq_true (aa @decide_true (aa @decide_false (aa @Nat.zero_add (aa @List.replicate_zero.{0} @List.append_nil.{0})))))))))))))))))))))))))))))))))))))))))))))))))))))))))))))))))))))))))))))))))))))))))))))))))))))))))))))))))))))))))))))))))))))))))))))
theorem Q4{K:W.Frag}{f:MF}(h:∀ns:List Int,ns.length<=63->f [.scr ns]=some (.sh (.bl true))):∀vs H Q E,JT K vs H Q E->qN K f vs H Q E:=by
 rintro vs H Q E ⟨a,ns,rfl,hS,hl,q⟩;refine⟨H,[.scr ns],_,.refl _,.cons (.scr hS) .nil,h ns hl,λHf' H' v F _ _ _ _ r _ _=>?_⟩
 cases r.sh_inv.2;exact q H'
end Z
namespace Mr
open PySem PySem.Spec PyProof.Rows L2
section
variable {X:Cx}{tg:Expr}
def Ic{α:Type}(P:α->Prop):List α->Prop
 | []=>True
 |a::l=>P a/\Ic P l
theorem Ic.mem{α:Type}{P:α->Prop}:∀{l:List α},Ic P l->∀a∈l,P a
 | [],_,a,h=>by cases h
 |b::l,hp,a,h=>(ae.mp h).elim (λe=>e ▸ hp.1) (Ic.mem hp.2 a)
theorem tL.of{scope:lH}{cl:List (Str×Addr)}{x:Str}{N:List Str}{fr:List Nat}(h1:N.Nodup) (h2:N[0]?=some x) (h3:N.length=fr.length+1)
  (h4:Ic (λp=>X.env.cells.lookup p.1=some p.2) cl) (h5:Ic (λp=>(p.2 = .cell∨p.2 = .free)->∃c,cl.lookup p.1=some c) (mv scope X.env).names)
  (h6:Ic (λp=>X.N[p.1]?=some p.2/\X.env.scope.names.lookup p.2=some .cell/\(mv scope X.env).names.lookup p.2=some .cell) (fr.zip (N.drop 1))):tL X scope cl x N fr where
 names:=h1
 own:=h2
 len:=h3
 sub:=λy c e=>h4.mem (y,c) (PySem.mem_of_lookup e)
 has:=λy e=>by
  rcases e with e|e
  .exact h5.mem _ (PySem.mem_of_lookup e) (.inl rfl)
  .exact h5.mem _ (PySem.mem_of_lookup e) (.inr rfl)
 get:=λk j y e1 e2=>by
  have hm:(j,y)∈fr.zip (N.drop 1):=by
   refine mGq (i:=k) ?_;rw[eh];exact⟨e1,by rw[cZ,fc];exact e2⟩
  exact h6.mem _ hm
end
end Mr
namespace Z
open PySem L2 Mr
end Z
namespace Mr
open PySem PySem.W PySem.Spec PyProof.Rows L2
abbrev g2(K:W.Frag):TG:=Q8 K 2 (De (tW 0) (De (tW 1) RQ))
end Mr
namespace Mr
open PySem L2
end Mr
namespace Xe
open PySem PySem.Spec PySem.W PyProof.Rows L2 Mr
section
variable {X:Cx}
def WX(o:Obj) (d:Addr) (kvs:List (oU×V)):It :=
  ⟨λi H=>H d=some (.frz o (.dK kvs))/\∃p,kvs[i]?=some p,
   λi H x H'=>H'=H/\∃p,kvs[i]?=some p/\x=kV p.1,
   λi H=>H d=some (.frz o (.dK kvs))/\kvs.length<=i⟩
theorem KQ{P:kf}{w:ki}{K:Frag}{tg:Expr}(o:Obj) (d it:Addr) (kvs:List (oU×V)) (vs:List (oU×Value)) (ep:Nat) (hne:d≠it)
  (ho:∀h:Heap,h.get? d=some o->h.DictAt (qv P w) d vs ep) (kv:KV kvs vs):HZ P w K tg (WX o d kvs) [it] it (λi h=>h.IsKeyIter it d i vs.length ep) where
 mem:=by simp
 obj:=λi h st b hb=>by
  have e:b=it:=by simpa using hb
  subst e;obtain⟨o',e,c,dd⟩:=st;exact⟨o',e,λv z=>by rw[dd]at z;cases z⟩
 keep:=λi h h' st k=>by
  obtain⟨o',e,c,dd⟩:=st;exact⟨o',k it (by simp) _ e,c,dd⟩
 item:=by
  intro X hP hw hK hc i ou s σ H E I hf st hg;subst hP hw hK;obtain⟨hd,p,hp⟩:=hg;have e1:s.heap.get? d=some o:=(show qW X.prog X.w H s.heap d (.frz o (.dK kvs)) from I.hok d _ hd).1
  obtain⟨u,hx,ru⟩:=MR kv hp;obtain⟨f0,f1,f2,f3,f4,f5⟩:=hf it (by simp)
  refine wpAny_pyNext_dict_item st (ho _ e1) hx λkey h' hkey st' sb=>?_
  have I1:L2.Inv X ou σ H { s with heap:=h' }:=I.turned (t':=s.toks) (λb o hb e=>(sb.2 b hb).trans e) f0 f1 f3 f4 f5
  have rk:qp (kV p.1) key:=by
   rcases qF hkey with ⟨j,t,e,rfl⟩|⟨z,t,e,rfl⟩
   .rw [e];exact⟨t,rfl⟩
   .rw [e];exact⟨t,rfl⟩
  obtain⟨o',e,c,dd⟩:=id st';exact⟨key,rfl,JI (s:={ s with heap:=h' }) e c dd (by decide) ⟨_,H,I1,rk,⟨rfl,p,hp,rfl⟩,st',λb hb=>(hf b hb).1⟩⟩
 done:=by
  intro X hP hw hK hc i ou s σ H E I hf st hg;subst hP hw hK;obtain⟨hd,hl⟩:=hg;have e1:s.heap.get? d=some o:=(show qW X.prog X.w H s.heap d (.frz o (.dK kvs)) from I.hok d _ hd).1
  have l:=Paired.length kv;obtain⟨f0,f1,f2,f3,f4,f5⟩:=hf it (by simp)
  exact wpAny_pyNext_dict_end (I.ok.hd hc) st (ho _ e1) (bc (by lia)) λh' eb=>⟨rfl,I.turned (t':=s.toks) (λb o hb e=>eb b o hb e) f0 f1 f3 f4 f5⟩
 self:=λ_ _ _ _ _ st h=>wpAny_pyIter_keyiter st h
def Tu(te:TE):TI:=λσ H R=>te σ H λx H1=>∃d kvs,x = .ref d/\H1 d=some (.dK kvs)/\∀o,R (WX o d kvs) (qP H1 d (.frz o (.dK kvs)))
theorem QP{tg o:Expr}{te:TE}(ho:PE X o te):PI X tg o (Tu te):=by
 intro ou s σ H R I h;refine thn (ho ou s σ H _ I h) λv s1 hz1=>?_
 obtain⟨x,H1,I1,r1,d,kvs,ex,ha,q⟩:=hz1;subst ex;obtain rfl:=(show v=cj d from r1)
 obtain⟨hz,sa,vs,kv,dd⟩:=(show qW X.prog X.w H1 s1.heap d (.dK kvs) from I1.hok d _ ha)
 obtain⟨ep,ob,es,hob,rest⟩:=dd.dictAt;have da:∀h:Heap,h.get? d=some ob->h.DictAt (qv X.prog X.w) d vs ep:=λh e=>⟨ob,es,e,rest⟩
 have hlt:d<s1.heap.objs.size:=ao hob;refine wpAny_pyIter_dict sa (da _ hob) ?_;have kp:∀b u,s1.heap.get? b=some u->(s1.heap.push { cls:=.type "dict_keyiterator", data:=.fields #[.ref d,.int 0 0,.int vs.length 0,.int ep 0] }).get? b=some u:=λb u e=>ak _ e
 have I2:L2.Inv X ou σ (qP H1 d (.frz ob (.dK kvs))) { s1 with heap:=s1.heap.push { cls:=.type "dict_keyiterator", data:=.fields #[.ref d,.int 0 0,.int vs.length 0,.int ep 0] } } :=
  (I1.kept (t':=s1.toks) kp).write (x:=d) (e:=d) (o:=.frz ob (.dK kvs)) (t':=s1.toks) (by rw[ha];trivial) (.inl rfl) (λb u _ e=>e) ⟨_,kp _ _ hob⟩ ⟨kp _ _ hob,hz,sa,vs,kv,(da _ (kp _ _ hob)).dictOf⟩
 refine⟨s1.heap.objs.size,[s1.heap.objs.size],_,_,_,rfl,I2,KQ ob d _ kvs vs ep (aE hlt) da kv,?_,λb hb=>?_,q ob⟩
 .exact ⟨_,aX _ rfl,rfl,rfl⟩
 .have e:b=s1.heap.objs.size:=by simpa using hb
  subst e;exact I1.fpOk (af _) (by rw[oV (cD hlt)];exact I1.hok.fresh (af _))
end
end Xe
namespace Mr
open PySem PySem.Spec PyProof.Rows L2
end Mr
namespace Z
open PySem L2 Mr
theorem SC(c:MT) (body:MS) (n:Nat) (S:AS):qT c body (n+1) S=(c S).bind λx=>if x.1=true then (body x.2).bind λo=>match o with
   | .nx S'=>qT c body n S'
   | .ct S'=>qT c body n S'
   | .bk S'=>some (.nx S')
   | .rt a=>some (.rt a)
  else some (.nx x.2):=rfl
end Z
namespace Z
open PySem L2 Mr Xe
inductive XY where
 |ok (a:AV)|ex (c:Str) (fs:List (Str×Int))
abbrev Ow:=List D->Option XY
def ZM:XY->Option AV
 | .ok a=>some a
 |_=>none
def XZ(f:Ow):MF:=λds=>(f ds).bind ZM
inductive Sd where
 |ok (o:Kd)|ex (c:Str) (fs:List (Str×Int))
abbrev MX:=AS->Option Sd
def KG(m:MS):MX:=λS=>(m S).map .ok
def BY(a b:MX):MX:=λS=>(a S).bind λo=>match o with
 | .ok (.nx S')=>b S'
 |o=>some o
def WY(c:MT) (a b:MX):MX:=λS=>(c S).bind λx=>if x.1=true then a x.2 else b x.2
def IQ(c fld:Str) (a:ML):MX:=λS=>(a S).bind λx=>match x.1 with
 | [.int n]=>some (.ex c [(fld,n)])
 |_=>none
def LQ(np n:Nat) (m:MX):Ow:=λds=>if ds.length=np then (m (ds.map (λd=>some (.sh d))++aB (n-ds.length) none)).bind λo=>match o with
  | .ok (.rt a)=>some (.ok a)
  | .ok (.nx _)=>some (.ok (.sh .non))
  | .ex c fs=>some (.ex c fs)
  |_=>none
 else none
section
variable {K:W.Frag}{te:TE}{m:ME}{f:Str}
end
def kD:oU->D
 | .inl i=>.int i
 | .inr x=>.str x
theorem Sj{K:W.Frag}{H:Hp}(k:oU):rS K H (kD k) (kV k):=by
 cases k with
 |inl i=>exact .int
 |inr x=>exact .str
section
variable {K:W.Frag}{te tf:TE}{k:MK}{tb:TS}{body:MS}{x y:Nat}
theorem qf.fix{H₀ Hf₀ Hf H:Hp}{S:AS}{σ:St}{Fs:List (List Addr)}(R:qf K H₀ Hf₀ Hf S σ H Fs) {p:Addr}{o:HO}(h1:p∉Fs.flatten) (h2:Hf p=none) (h3:H₀ p=none):qf K H₀ Hf₀ (qP Hf p o) S σ (qP H p o) Fs:=by
 have s:qh Hf (qP Hf p o):=yW h2;refine⟨R.len,R.lenF,λi av e=>?_,R.emp,R.nd,R.fresh,λb u z=>?_,λb u z=>?_,λb z1 z2=>?_,R.sf.trans s⟩
 .obtain ⟨v,F,e1,e2,r⟩:=R.rep i av e;have hne:∀q∈F,q≠p:=λq hq z=>h1 (by rw[←z];exact mFq.mpr ⟨F,mGq e2,hq⟩)
  exact⟨v,F,e1,e2,r.keep s (λq hq=>oV (hne q hq)) λq hq=>by rw[oV (hne q hq)];exact(r.owned q hq).2⟩
 .by_cases hb:b=p
  .subst hb;rw[pD]at z ⊢;exact z
  .rw [oV hb]at z ⊢;exact R.sub b u z
 .have hb:b≠p:=λq=>by rw[q,h3]at z;cases z
  rw[oV hb];exact R.fr b u z
 .have hb:b≠p:=λq=>z2 (by rw[q];exact h3)
  rw[oV hb];exact R.lim b z1 z2
end
variable (S:AS)
def MU(x:Nat) (body:MX):List D->AS->Option Sd
 | [],S=>some (.ok (.nx S))
 |d::ds,S=>(body (S.set x (some (.sh d)))).bind λo=>match o with
  | .ok (.nx S')=>MU x body ds S'
  | .ok (.ct S')=>MU x body ds S'
  | .ok (.bk S')=>some (.ok (.nx S'))
  | .ok (.rt a)=>some (.ok (.rt a))
  | .ex c fs=>some (.ex c fs)
def Vb(x:Nat) (k:MK) (body:MX):MX:=λS=>(wu k S).bind λy=>(uc (oP y.1)).bind λds=>MU x body ds y.2
def O2(f:AV->Option Sd):XY->Option Sd
 | .ok r=>f r
 | .ex c fs=>some (.ex c fs)
def Jx(f:Ow) (a:MA):MX:=λS=>(a S).bind λx=>(f (x.1.map oP)).bind (O2 λ_=>some (.ok (.nx x.2)))
def XX(f:Ow) (a:MA):MX:=λS=>(a S).bind λx=>(f (x.1.map oP)).bind (O2 λr=>some (.ok (.rt r)))
def JK(c:Str):MX:=λ_=>some (.ex c [])
def XF:D->List D->Option D
 | .str a,[.str b]=>some (.bl (Txt.startswith a b))
 |_,_=>none
def Xu(x y:D):Option D:=match y with
 | .non=>(match x with|.non=>some (.bl true)|.int _=>some (.bl false)|.str _=>some (.bl false)|.bl _=>some (.bl false)|.list _=>some (.bl false)|.tup _=>some (.bl false)|_=>none)
 |_=>none
def uj:List D->Option (List Bool)
 | []=>some []
 | .bl b::ds=>(uj ds).map (b :: ·)
 |_=>none
def Ge:List D->Option D
 | [.list ds]=>(uj ds).map λbs=>.bl (bs.all id)
 |_=>none
theorem CL:∀{ds:List D}{bs:List Bool},uj ds=some bs->ds=bs.map .bl
 | [],bs,h=>by cases h;rfl
 |d::ds,bs,h=>by
  cases d with
  |bl b =>
   obtain⟨ms,h1,h2⟩:=oMq.mp (show (uj ds).map (b :: ·)=some bs from h)
   subst h2;rw[CL h1];rfl
  |_=>cases h
theorem Gk(bs:List Bool):uj (bs.map .bl)=some bs:=by
 induction bs with
 |nil=>rfl
 |cons b bs ih=>show (uj (bs.map .bl)).map (b :: ·)=_;rw[ih];rfl
theorem yA{K:W.Frag}{H:Hp}:∀{bs:List Bool}{vs:List V},qr K H (bs.map .bl) vs->vs=bs.map V.bl
 | [],vs,h=>h.nil_inv
 |b::bs,vs,h=>by
  obtain⟨v,ws,rfl,h1,h2⟩:=qr.cons_inv (d:=.bl b) (ds:=bs.map .bl) h;cases h1;rw[yA h2];rfl
section
variable {K:W.Frag}
theorem Mm:VI K (λxs H Q=>∃(a:Addr) (bs:List Bool),xs=[.ref a]/\sS K H a (bs.map V.bl)/\Q (.bl (bs.all id)) H) Ge:=by
 intro vs H Q ds d r e q;unfold Ge at e;split at e
 .obtain ⟨bs,e1,e⟩:=oMq.mp e;cases e;obtain⟨v,ws,rfl,h1,h2⟩:=r.cons_inv;rw[h2.nil_inv];rw[CL e1]at h1;obtain⟨p,us,rfl,h3,h4⟩:=h1.list_inv;rw[yA h4]at h3;exact⟨p,bs,rfl,sS.of h3,q _ .bl⟩
 .cases e
end
theorem Tv(ds:List D):Ge [.list ds]=(uj ds).map λbs=>.bl (bs.all id):=rfl
abbrev Ka:=IF O3 λi j=>.int (i / j)
def SM(K:W.Frag) (te:TE) (m:ME):Prop:=∀{H₀ Hf₀ Hf:Hp}{S:AS}{σ:St}{H:Hp}{Fs:List (List Addr)}{d:D}{S':AS},qf K H₀ Hf₀ Hf S σ H Fs->m S=some (d,S')->∀Q:VK,
 (∀Hf' H' Fs' v,qh Hf Hf'->qf K H₀ Hf₀ Hf' S' σ H' Fs'->rS K Hf' d v->Q v H')->te σ H Q
def Tt:AV->Option D
 | .sh d=>some d
 |_=>none
theorem OW{a:AV}{d:D}(h:Tt a=some d):a = .sh d:=by
 unfold Tt at h;split at h <;> cases h
 rfl
def vw(i:Nat) (b:ME):ME:=λS=>(qL S i).bind λ_=>(b S).bind λy=>(intOf y.1).bind λz=>(qL y.2 i).bind λavs=>vc (0<=z/\z<avs.length/\avs.length<=rh) ((avs[z.toNat]?.bind Tt).map λd=>(d,y.2.set i (some (.ow (avs.eraseIdx z.toNat)))))
def Dy(i:Nat):ME:=λS=>(qL S i).bind λavs=>(avs[avs.length-1]?.bind Tt).map λd=>(d,S.set i (some (.ow avs.dropLast)))
def Xc(kvs:List (oU×D)) (k:oU):List (oU×D):=kvs.filter λkv=>decide (kv.1≠k)
def YI(i:Nat) (b:ME):ME:=λS=>(wF S i).bind λ_=>(b S).bind λy=>(uz y.1).bind λkey=>(wF y.2 i).bind λkvs=>(getD kvs key).map λd=>(d,y.2.set i (some (.owd (Xc kvs key))))
section
variable {K:W.Frag}
theorem Q5:Fe K (rI O3 λi j=>.int (i / j)) Ka:=Hj λ_ _ _=>.int
theorem pW.erase{Hf H:Hp}{as:List AV}{vs:List V}{Gs:List (List Addr)}(r:pW K Hf H as vs Gs) (k:Nat):pW K Hf H (as.eraseIdx k) (vs.eraseIdx k) (Gs.eraseIdx k):=by
 obtain⟨h1,h2,h3⟩:=r;refine⟨by rw[ff,ff,h1],by rw[ff,ff,h2],λi b w G e1 e2 e3=>?_⟩
 rw[List.getElem?_eraseIdx]at e1 e2 e3;split at e1
 .rename_i q;rw[pN q]at e2 e3;exact h3 i b w G e1 e2 e3
 .rename_i q;rw[pJ q]at e2 e3;exact h3 (i+1) b w G e1 e2 e3
theorem HH{Gs:List (List Addr)}{k:Nat}(h:Gs[k]?=some []):(Gs.eraseIdx k).flatten=Gs.flatten:=by
 induction Gs generalizing k with
 |nil=>cases h
 |cons g r ih =>
  cases k with
  |zero =>
   simp at h;subst h;rfl
  |succ k =>
   rw[bO,fCq,fCq,ih (by simpa using h)]
theorem qf.lose{H₀ Hf₀ Hf H:Hp}{S:AS}{σ:St}{Fs:List (List Addr)}(R:qf K H₀ Hf₀ Hf S σ H Fs) {i k:Nat}{avs:List AV}{d:D}(h:S[i]?=some (some (.ow avs))) (hk:avs[k]?=some (.sh d)) :
  ∃p vs y F',σ[i]?=some (some (.ref p))/\H p=some (.lst vs)/\avs.length=vs.length/\vs[k]?=some y/\rS K Hf d y/\qf K H₀ Hf₀ Hf (S.set i (some (.ow (avs.eraseIdx k)))) σ (qP H p (.lst (vs.eraseIdx k))) (Fs.set i F'):=by
 obtain⟨p,vs,Gs,s1,s2,h1,h2,h3,h4,h5,h6⟩:=R.ow h;have lk:k<avs.length:=(gSq.mp hk).1;obtain⟨y,hy⟩:∃y,vs[k]?=some y:=⟨_,gEg (by rw[←h3.1];exact lk)⟩
 obtain⟨G,hG⟩:∃G,Gs[k]?=some G:=⟨_,gEg (by rw[←h3.2.1];exact lk)⟩
 obtain⟨hG0,ry⟩:=(h3.2.2 k _ _ _ hk hy hG).sh_inv;subst hG0;have hf:=HH hG;refine⟨p,vs,y,p::(Gs.eraseIdx k).flatten,s1,h1,h3.1,hy,ry,R.turn s1 s2 (by simp) (pT.news pD h2 ((h3.keepUpd h4).erase k)) ?_ ?_⟩
 .rw [hf];exact aq.mpr ⟨h4,h5⟩
 .rw [hf];exact h6
theorem Dk{i:Nat}{tb:TE}{b:ME}(hb:SR K tb b):SM K (Nk K "list" NJ (wR i) (um tb wV)) (vw i b):=by
 intro H₀ Hf₀ Hf S σ H Fs d S' R e Q q;obtain⟨a0,e0,e⟩:=oBq.mp e;obtain⟨y,e1,e⟩:=oBq.mp e;obtain⟨z,e2,e⟩:=oBq.mp e;obtain⟨avs,e3,e⟩:=oBq.mp e;rcases pO e with ⟨⟨z0,z1,z2⟩,e⟩|e
 .obtain ⟨d',e4,e⟩:=oMq.mp e;cases e;obtain⟨a,e4,e5⟩:=oBq.mp e4;have e5:=OW e5;subst e5;obtain⟨p,vs,Gs,s1,_,h1,_⟩:=R.ow (qb e0);refine⟨.ref p,s1,.inl ⟨rfl,vs,sS.of h1⟩,hb R (d:=y.1) (S':=y.2) e1 _ λHf1 H1 Fs1 v t1 R1 r1=>?_⟩
  obtain⟨p',vs',w,F',s1',hp,hl,hw,rw',R2⟩:=R1.lose (qb e3) e4;rw[s1]at s1';cases s1';have hv:v = .int z:=by
   have:y.1 = .int z:=by
    revert e2
    unfold intOf;split <;> intro e2 <;> cases e2
    assumption
   rw[this]at r1;cases r1;rfl
  subst hv;have hz:(avs.length:Int)<=16777216:=by
   have:avs.length<=16777216:=z2;lia
  refine⟨p,vs',z,z.toNat,w,rfl,rfl,hp,by lia,by lia,?_,hw,q _ _ _ _ t1.sf R2 rw'⟩
  rw[←hl];unfold nB;have n1:¬ z<0:=by lia
  have n2:(decide (0<=z) && decide (z<(avs.length:Int)))=true:=by
   rw[decide_eq_true z0,decide_eq_true z1];rfl
  simp only[n1,if_false];exact pN n2
 .cases e
theorem Uw{i:Nat}:SM K (Nk K "list" Va (wR i) wV) (Dy i):=by
 intro H₀ Hf₀ Hf S σ H Fs d S' R e Q q;obtain⟨avs,e0,e⟩:=oBq.mp e;obtain⟨d',e4,e⟩:=oMq.mp e;cases e;obtain⟨a,e4,e5⟩:=oBq.mp e4;have e5:=OW e5;subst e5;obtain⟨p,vs,w,F',s1,hp,hl,hw,rw',R2⟩:=R.lose (qb e0) e4;refine⟨.ref p,s1,.inl ⟨rfl,vs,sS.of hp⟩,p,vs,w,rfl,rfl,hp,by rw[←hl];exact hw,?_⟩
 rw[zU,hl,zU]at R2;exact q _ _ _ _ (.refl _) R2 rw'
def EA(i:Nat) (m:ME):MS:=λS=>(m S).map λx=>.nx (x.2.set i (some (.sh x.1)))
theorem RI{i:Nat}{te:TE}{m:ME}(h:SM K te m):SS K (IW te (tW i)) (EA i m):=by
 intro H₀ Hf₀ Hf S σ H Fs o R e D hd;obtain⟨x,e1,e⟩:=oMq.mp e;cases e;refine h R (d:=x.1) (S':=x.2) e1 _ λHf1 H1 Fs1 v t1 R1 r1=>?_
 exact hd _ _ _ _ t1 (R1.setD i r1)
def N4(i:Nat) (m:ME):MS:=λS=>(qL S i).bind λ_=>(m S).bind λx=>(qL x.2 i).bind λavs=>vc (avs.length<rh) (some (.nx (x.2.set i (some (.ow (avs++[.sh x.1]))))))
theorem QG{i:Nat}{te:TE}{m:ME}(hk:SM K te m):SS K (AB (Nk K "list" wz (wR i) (um te wV))) (N4 i m):=by
 intro H₀ Hf₀ Hf S σ H Fs o R e D h;obtain⟨a0,e0,e⟩:=oBq.mp e;obtain⟨x,e1,e⟩:=oBq.mp e;obtain⟨avs,e2,e⟩:=oBq.mp e;rcases pO e with ⟨hl,e⟩|e
 .cases e;obtain⟨p,vs,Gs,s1,_,h1,_⟩:=R.ow (qb e0);refine⟨.ref p,s1,.inl ⟨rfl,vs,sS.of h1⟩,hk R (d:=x.1) (S':=x.2) e1 _ λHf1 H1 Fs1 v t1 R1 r1=>?_⟩
  obtain⟨p',vs',Gs',s1',s2',h1',h2',h3',h4',h5',h6'⟩:=R1.ow (qb e2);rw[s1]at s1';cases s1';refine⟨p,vs',v,rfl,rfl,h1',by rw[ud,←h3'.1];exact hl,h _ _ _ _ t1 (R1.turn s1 s2' (by simp) (F':=p::(Gs'++[[]]).flatten) (pT.news pD h2' ((h3'.keepUpd h4').snoc (.sh r1))) ?_ λq hq=>?_)⟩
  .rw [fAq,bo,aNq];exact aq.mpr ⟨h4',h5'⟩
  .rw [fAq,bo,aNq]at hq;exact h6' q hq
 .cases e
def Vo(i:Nat) (b:ME) (m:ME):MS:=λS=>(m S).bind λx=>(wF x.2 i).bind λ_=>(b x.2).bind λy=>(wF y.2 i).bind λkvs=>(uz y.1).bind λkey =>
 vc (kvs.length<rh) (some (.nx (y.2.set i (some (.owd (xZ kvs key x.1))))))
end
theorem Vp(d:D):Tt (.sh d)=some d:=rfl
theorem Ot(S:AS) (i:Nat) (b:ME):vw i b S=(qL S i).bind λ_=>(b S).bind λy=>(intOf y.1).bind λz=>(qL y.2 i).bind λavs=>vc (0<=z/\z<avs.length/\avs.length<=rh) ((avs[z.toNat]?.bind Tt).map λd=>(d,y.2.set i (some (.ow (avs.eraseIdx z.toNat))))):=rfl
theorem UU(S:AS) (i:Nat):Dy i S=(qL S i).bind λavs=>(avs[avs.length-1]?.bind Tt).map λd=>(d,S.set i (some (.ow avs.dropLast))):=rfl
theorem Uy(S:AS) (i:Nat) (m:ME):EA i m S=(m S).map λx=>.nx (x.2.set i (some (.sh x.1))):=rfl
theorem T5(S:AS) (i:Nat) (m:ME):N4 i m S=(qL S i).bind λ_=>(m S).bind λx=>(qL x.2 i).bind λavs=>vc (avs.length<rh) (some (.nx (x.2.set i (some (.ow (avs++[.sh x.1])))))):=rfl
def Zs:=aa @Vp (aa @Ot (aa @UU (aa @Uy @T5)))
def W9(x y:D):Option D:=match x with
 | .tup _=>UV x y
 |_=>G2 x y
def Tc:MF:=λ_=>none
def Zq:D->String->Option D
 | .int _,T=>if T = "list" ∨ T = "tuple" ∨ T = "str" then some (.bl false) else none
 | .str _,T=>if T = "list" ∨ T = "tuple" then some (.bl false) else none
 | .non,T=>if T = "list" ∨ T = "tuple" then some (.bl false) else none
 | .list _,T=>if T = "tuple" then some (.bl false) else none
 | .tup _,T=>if T = "list" then some (.bl false) else none
 |_,_=>none
def Ya:List D->Option D
 | [x,.ty T]=>Zq x T
 |_=>none
def D1(ds:List D):Option D:=match zO ds with
 |some d=>some d
 |none=>Ya ds
section
variable {K:W.Frag}{H₀ Hf₀ Hf H:Hp}{S:AS}{σ:St}{Fs:List (List Addr)}{te tb:TE}{k:MK}{b:ME}
theorem qf.poke(R:qf K H₀ Hf₀ Hf S σ H Fs) {p:Addr}{o:HO}(pn:Hf p=none) (p0:H₀ p=none) (pf:p∉Fs.flatten):qf K H₀ Hf₀ Hf S σ (qP H p o) Fs:=by
 refine⟨R.len,R.lenF,λj a ej=>?_,R.emp,R.nd,R.fresh,λb u e=>?_,λb u e=>?_,R.lim,R.sf⟩
 .obtain ⟨w,G,f1,f2,q⟩:=R.rep j a ej;refine⟨w,G,f1,f2,q.keep (.refl _) (λc hc=>oV λe=>pf ?_) λc hc=>(q.owned c hc).2⟩
  subst e;exact pS f2 hc
 .rw [oV λz=>by rw[z,pn]at e;cases e]
  exact R.sub b u e
 .rw [oV λz=>by rw[z,p0]at e;cases e]
  exact R.fr b u e
theorem zb.stays{Hf' H':Hp}{Fs':List (List Addr)}(t:zb Hf H Fs Hf' H' Fs') {p:Addr}(pn:Hf p=none) (ph:H p≠none) (pf:p∉Fs.flatten):Hf' p=none/\p∉Fs'.flatten:=by
 refine⟨?_,λm=>pf (t.own p m)⟩
 by_cases h:Hf' p=none
 .exact h
 .exact ((t.gr p pn h).elim (λe=>absurd e ph) λm=>absurd m pf)
def Jj(b:ME) (k:MK):MK:=λS=>(b S).bind λy=>(wu k y.2).bind λx=>(uz y.1).map λkey=>(.owd [(key,oP x.1)],x.2)
theorem Qd(hb:SR K tb b) (hk:SK K te k):SK K (Ts [(tb,te)]) (Jj b k):=by
 intro H₀ Hf₀ Hf S σ H Fs av S' R e Q q;obtain⟨y,e1,e⟩:=oBq.mp e;obtain⟨x,e2,e⟩:=oBq.mp e;obtain⟨key,e3,e⟩:=oMq.mp e;cases e;have hk':SK K te (wu k):=SK.frz hk;intro p hp;obtain⟨t0,R0,n1,n2,n3⟩:=R.new (o:=.dK []) hp;have own0:=yt.one R hp;refine hb R0 (d:=y.1) (S':=y.2) e1 _ λHf1 H1 Fs1 w t1 R1 r1=>?_
 have p0:qP H p (HO.dK []) p=some (.dK []):=pD;have p1:H1 p=some (.dK []):=t1.sh p _ p0;obtain⟨a1,a2⟩:=t1.stays n1 (by rw[p0];simp) n3
 refine hk' R1 (a:=x.1) (S':=x.2) e2 _ λHf2 H2 Fs2 v F t2 R2 r2 o2=>?_
 have p2:H2 p=some (.dK []):=t2.sh p _ p1;obtain⟨b1,b2⟩:=t2.stays a1 (by rw[p1];simp) a2
 obtain⟨x1,hx1⟩:∃d,x.1 = .sh d:=by
  obtain⟨w,_,e⟩:=oMq.mp e2;rw[←e];exact⟨_,rfl⟩
 rw[hx1]at r2;have rv:=r2.sh_inv.2;have hw:=vA e3 r1;subst hw;refine⟨p2,[(key,v)],rfl,by simp,?_⟩
 have t12:=(t0.trans t1).trans t2;have hs:qh H (qP H2 p (HO.dK (Bf [] [(key,v)]))):=λc u e=>by
  rw[oV λz=>by rw[z,hp]at e;cases e]
  exact t12.sh c u e
 refine q Hf2 _ Fs2 (.ref p) [p] ⟨t12.sf,hs,t12.own,t12.gr⟩ (R2.poke b1 n2 b2) (.owd pD b1 ⟨rfl,λi d u h1 h2=>?_⟩) ⟨by simp,λc h=>by rw[mSq.mp h];exact n2,λc h=>by rw[mSq.mp h];exact b2,λc h=>by rw[mSq.mp h];exact .inl hp⟩
 match i,h1,h2 with
 |0,h1,h2 =>
  cases h1;cases h2;rw[hx1,rq];exact rv
 |i+1,h1,_=>simp at h1
theorem EY{i:Nat}:SM K (WV K "list" Va (wR i)) (Dy i):=Uw
def zz:List (oU×D)->Option (List Int)
 | []=>some []
 | (.inl i,_)::r=>(zz r).map (i :: ·)
 |_=>none
theorem He:∀{kvs:List (oU×D)}{ns:List Int},zz kvs=some ns->kvs.map (·.1)=ns.map aH
 | [],ns,h=>by cases h;rfl
 | (.inl i,d)::r,ns,h=>by
  obtain⟨ms,h1,h2⟩:=oMq.mp (show (zz r).map (i :: ·)=some ns from h)
  subst h2;rw[au,au,He h1]
 | (.inr _,_)::_,_,h=>by cases h
def E7(a:ME):MK:=λS=>(a S).bind λx=>match x.1 with
 | .dict kvs=>(zz kvs).map λns=>(.ow ((qH ns).map λn=>.sh (.int n)),x.2)
 |_=>none
theorem Pu(hb:SR K te b):SK K (Mj (λxs H Q=>∃(a:Addr) (kvs:List (oU×V)) (ns:List Int),xs=[.ref a]/\H a=some (.dK kvs)/\kvs.map (·.1)=ns.map aH/\∀p,H p=none->Q (.ref p) (qP H p (.lst ((qH ns).map V.int)))) (um te wV)) (E7 b):=by
 intro H₀ Hf₀ Hf S σ H Fs av S' R e Q q;obtain⟨x,e1,e⟩:=oBq.mp e;obtain⟨x1,x2⟩:=x;cases x1 with
 |dict kvs =>
  obtain⟨ns,e2,e⟩:=oMq.mp (show (zz kvs).map (λns=>(AV.ow ((qH ns).map λn=>.sh (.int n)),x2))=some (av,S') from e)
  cases e;refine hb R (d:=.dict kvs) (S':=S') e1 _ λHf1 H1 Fs1 w t1 R1 r1=>?_
  obtain⟨p1,vs,rfl,h1,h2⟩:=r1.dict_inv;refine⟨p1,vs,ns,rfl,h1,by rw[←h2.1];exact He e2,λp hp=>?_⟩
  obtain⟨t4,R4,n1,n2,n3⟩:=R1.new (o:=.lst ((qH ns).map V.int)) hp;rw[yB]at q;exact q _ _ _ (.ref p) [p] (t1.trans t4) R4 (pT.new pD n1 (tV _)) ((yt.one R1 hp).back t1)
 |_=>cases e
end
theorem Rf(S:AS) (b:ME) (k:MK):Jj b k S=(b S).bind λy=>(wu k y.2).bind λx=>(uz y.1).map λkey=>(.owd [(key,oP x.1)],x.2):=rfl
def TB:D->AS->Option (AV×AS)
 | .dict kvs,S=>(zz kvs).map λns=>(.ow ((qH ns).map λn=>.sh (.int n)),S)
 |_,_=>none
theorem RT(S:AS) (a:ME):E7 a S=(a S).bind λx=>TB x.1 x.2:=by
 unfold E7;congr 1;funext x;obtain⟨x1,x2⟩:=x;cases x1 <;> rfl
theorem Vs(kvs:List (oU×D)) (S:AS):TB (.dict kvs) S=(zz kvs).map λns=>(.ow ((qH ns).map λn=>.sh (.int n)),S):=rfl
theorem Ej{α:Type}(f:α->Int) (g:α->D):∀l:List α,zz (l.map λx=>(aH (f x),g x))=some (l.map f)
 | []=>rfl
 |x::l=>by
  show (zz (l.map λx=>(aH (f x),g x))).map (f x :: ·)=_
  rw[Ej f g l];rfl
def ZI:=aa @Rf (aa @RT @Vs)
def NU:D->Option V
 | .non=>some .non
 | .bl b=>some (.bl b)
 | .int i=>some (.int i)
 | .str s=>some (.str s)
 |_=>none
def Br:List D->Option (List V)
 | []=>some []
 |d::ds=>(NU d).bind λv=>(Br ds).map (v :: ·)
def UQ:D->Option (List D)
 | .list ds=>some ds
 | .tup ds=>some ds
 |_=>none
def Gq(neg:Bool) (x y:D):Option D:=(NU x).bind λv=>(UQ y).bind λds=>(Br ds).map λvs=>.bl (if neg then !VJ v vs else VJ v vs)
section
variable {K:W.Frag}{te:TE}
theorem ED{H:Hp}{d:D}{v w:V}(e:NU d=some v) (r:rS K H d w):w=v/\zB v=true:=by
 cases d <;> first|(cases e;cases r;exact⟨rfl,rfl⟩)|cases e
theorem yS{H:Hp}:∀{ds:List D}{vs ws:List V},Br ds=some vs->qr K H ds ws->ws=vs/\vs.all zB=true
 | [],vs,ws,e,r=>by
  cases e;exact⟨r.nil_inv,rfl⟩
 |d::ds,vs,ws,e,r=>by
  obtain⟨v,e1,e⟩:=oBq.mp e;obtain⟨us,e2,rfl⟩:=oMq.mp e;obtain⟨w,ws',rfl,r1,r2⟩:=r.cons_inv;obtain⟨rfl,f1⟩:=ED e1 r1;obtain⟨rfl,f2⟩:=yS e2 r2;exact⟨rfl,by rw[iV,f1,f2];rfl⟩
theorem P4(neg:Bool):Fe K (Yh K neg) (Gq neg):=by
 intro x y H Q dx dy d rx ry e q;obtain⟨v,e1,e⟩:=oBq.mp e;obtain⟨ds,e2,e⟩:=oBq.mp e;obtain⟨vs,e3,e⟩:=oMq.mp e;subst e;obtain⟨rfl,f1⟩:=ED e1 rx;cases dy with
 |list xs =>
  cases e2;obtain⟨p,us,rfl,h1,h2⟩:=ry.list_inv;obtain⟨rfl,f2⟩:=yS e3 h2;exact⟨p,us,rfl,.inl (sS.of h1),f1,f2,q _ .bl⟩
 |tup xs =>
  cases e2;obtain⟨p,us,rfl,h1,h2⟩:=ry.tup_inv;obtain⟨rfl,f2⟩:=yS e3 h2;exact⟨p,us,rfl,.inr (Jo.of h1),f1,f2,q _ .bl⟩
 |_=>cases e2
end
theorem GF(ns:List Int):Br (ns.map D.int)=some (ns.map V.int):=by
 induction ns with
 |nil=>rfl
 |cons n ns ih=>rw[au,Br,ih];rfl
theorem Ni(i:Int) (ns:List Int):VJ (.int i) (ns.map V.int)=decide (i∈ns):=by
 unfold VJ
 induction ns with
 |nil=>rfl
 |cons n ns ih =>
  rw[au,ee,ih];show (n == i || decide (i∈ns))=_
  by_cases h:i=n
  .subst h;simp
  .have h':¬ n=i:=λz=>h z.symm
   simp[h,h']
theorem OC(neg:Bool) (i:Int) (ns:List Int):Gq neg (.int i) (.list (ns.map D.int))=some (.bl (if neg then !decide (i∈ns) else decide (i∈ns))):=by
 show (Br (ns.map D.int)).map _=_;rw[GF,cf,Ni]
section
variable {K:W.Frag}{H₀ Hf₀ Hf Hf' H H':Hp}{S S':AS}{σ σ':St}{Fs Fs':List (List Addr)}
theorem Fd.same(s:qh H H'):∀{path:List Nat}{v w:V},Fd H v path w->Fd H' v path w
 | [],v,w,h=>h
 |j::js,v,w,⟨p,vs,u,h1,h2,h3,h4⟩=>⟨p,vs,u,h1,s _ _ h2,h3,Fd.same s h4⟩
theorem Fd.one:∀{path:List Nat}{v w w':V},Fd H v path w->Fd H v path w'->w=w'
 | [],v,w,w',h,h'=>h.symm.trans h'
 |j::js,v,w,w',hz,hy=>by
  obtain⟨p,vs,u,h1,h2,h3,h4⟩:=hz;obtain⟨p',vs',u',g1,g2,g3,g4⟩:=hy;rw[h1]at g1;cases g1;rw[h2]at g2;cases g2;rw[h3]at g3;cases g3;exact h4.one g4
theorem Fd.snoc:∀{path:List Nat}{v:V}{p:Addr}{vs:List V}{n:Nat}{u:V},Fd H v path (.ref p)->H p=some (.lst vs)->vs[n]?=some u->Fd H v (path++[n]) u
 | [],v,p,vs,n,u,h,h1,h2=>⟨p,vs,u,h,h1,h2,rfl⟩
 |j::js,v,p,vs,n,u,⟨p',vs',u',g1,g2,g3,g4⟩,h1,h2=>⟨p',vs',u',g1,g2,g3,g4.snoc h1 h2⟩
theorem Fd.kept:∀{path:List Nat}{av:AV}{v w:V}{F:List Addr}{as:List AV},pT K Hf H av v F->qu av path=some as->Fd H v path w->(∀q∈F,H' q=H q)->Fd H' v path w
 | [],av,v,w,F,as,_,_,h,_=>h
 |j::js,av,v,w,F,as,r,e,hz,hk=>by
  obtain⟨p,vs,u,h1,h2,h3,h4⟩:=hz;cases av with
  |ow avs =>
   obtain⟨p',vs',Gs,e1,e2,e3,e4,e5⟩:=r.ow_inv;rw[h1]at e1;cases e1;rw[h2]at e3;cases e3;obtain⟨a,ea,e⟩:=oBq.mp (show (avs[j]?).bind (λa=>qu a js)=some as from e)
   have hj:j<avs.length:=(gSq.mp ea).1;have hG:=gEg (e5.2.1 ▸ hj);have rj:=e5.2.2 j a u _ ea h3 hG;refine⟨p,vs,u,h1,by rw[hk p (by rw[e2];simp)];exact h2,h3,h4.kept rj e λq hq=>hk q ?_⟩
   rw[e2];exact mCo _ (pS hG hq)
  |_=>cases e
def VZ(H₀ H:Hp) (F:List Addr):Hp:=λb=>if b∈F then H b else H₀ b
theorem DI{F:List Addr}{b:Addr}(h:b∈F):VZ H₀ H F b=H b:=pN h
theorem yd{F:List Addr}{b:Addr}(h:b∉F):VZ H₀ H F b=H₀ b:=pJ h
theorem qf.frame(R:qf K H₀ Hf₀ Hf S σ H Fs) {i:Nat}{F:List Addr}(s2:Fs[i]?=some F):qf K (VZ H₀ H F) Hf₀ Hf (S.set i none) σ H (Fs.set i []):=by
 have R1:=R.kill i;have hF:∀q∈F,q∈Fs.flatten:=λq hq=>pS s2 hq
 refine⟨R1.len,R1.lenF,R1.rep,R1.emp,R1.nd,λp hp=>?_,R1.sub,λb u e=>?_,λb h1 h2=>?_,R1.sf⟩
 .have hn:p∉F:=λz=>ug R.nd s2 z hp
  rw[yd hn];exact R1.fresh p hp
 .by_cases hb:b∈F
  .rw [DI hb]at e;exact e
  .rw [yd hb]at e;exact R.fr b u e
 .by_cases hb:b∈F
  .exact (R.mem (hF b hb)).2
  .rw [yd hb]at h2;exact R.lim b h1 h2
theorem zG{α:Type}{l:List α}{i:Nat}{a:α}(h:l[i]?=some a):l.set i a=l:=by
 obtain⟨hk,ev⟩:=gSq.mp h;rw[←ev];exact gj hk
theorem qf.unframe(R:qf K H₀ Hf₀ Hf S σ H Fs) {i:Nat}{av:AV}{v:V}{F:List Addr}(s2:Fs[i]?=some F) (r:pT K Hf H av v F) (nd:F.Nodup) (h0:∀q∈F,H₀ q=none)
  (R':qf K (VZ H₀ H F) Hf₀ Hf' S' σ' H' Fs') (e':S'[i]?=some none) (s1:σ'[i]?=some (some v)) (sf:qh Hf Hf') :
  (∀q∈F,H' q=H q)/\pT K Hf' H' av v F/\qf K H₀ Hf₀ Hf' (S'.set i (some av)) σ' H' (Fs'.set i F):=by
 have hk:∀q∈F,H' q=H q:=λq hq=>by
  have hn:=(R.mem (pS s2 hq)).1;cases hu:H q with
  |none=>exact absurd hu hn
  |some u=>exact R'.fr q u (by rw[DI hq];exact hu)
 have hf:∀q∈F,Hf' q=none:=λq hq=>by
  have hm:=R.mem (pS s2 hq);refine R'.lim q ?_ (by rw[DI hq];exact hm.1)
  cases hz:Hf₀ q with
  |none=>rfl
  |some u=>rw[R.sf q u hz]at hm;exact absurd hm.2 (by simp)
 have r':=r.keep sf hk hf;refine⟨hk,r',?_⟩;have R1:qf K H₀ Hf₀ Hf' (S'.set i none) σ' H' (Fs'.set i []):=by
  rw[zG e',zG (R'.emp i e')];refine⟨R'.len,R'.lenF,R'.rep,R'.emp,R'.nd,λp hp=>?_,R'.sub,λb u e=>?_,λb h1 h2=>?_,R'.sf⟩
  .have:=R'.fresh p hp
   by_cases hb:p∈F
   .exact h0 p hb
   .rwa [yd hb]at this
  .refine R'.fr b u ?_;rw[yd λz=>by rw[h0 b z]at e;cases e]
   exact e
  .refine R'.lim b h1 ?_;rw[yd λz=>h2 (h0 b z)]
   exact h2
 refine R1.again (F:=F) s1 r' nd λq hq=>⟨h0 q hq,λm=>?_⟩
 rw[zG (R'.emp i e')]at m;have:=R'.fresh q m;rw[DI hq]at this;exact(R.mem (pS s2 hq)).1 this
end
abbrev MP:=AS->Option (List Nat×AS)
def NV(i:Nat):MP:=λS=>(qL S i).map λ_=>([],S)
def V6(i:Nat) (pf:MP) (b:ME):MP:=λS=>(pf S).bind λx=>(b x.2).bind λy=>(intOf y.1).bind λj=>(qL y.2 i).bind λavs=>(qu (.ow avs) x.1).bind λas=>(GN as.length j).map λn=>(x.1++[n],y.2)
def V5(K:W.Frag) (i:Nat) (te:TE) (pf:MP):Prop:=∀{H₀ Hf₀ Hf:Hp}{S:AS}{σ:St}{H:Hp}{Fs:List (List Addr)}{path:List Nat}{S':AS},qf K H₀ Hf₀ Hf S σ H Fs->pf S=some (path,S')->∀Q:VK,
 (∀Hf' H' Fs' v w,zb Hf H Fs Hf' H' Fs'->qf K H₀ Hf₀ Hf' S' σ H' Fs'->σ[i]?=some (some v)->Fd H' v path w->Q w H')->te σ H Q
section
variable {K:W.Frag}
theorem Kp(i:Nat):V5 K i (wR i) (NV i):=by
 intro H₀ Hf₀ Hf S σ H Fs path S' R e Q q;obtain⟨avs,e1,e⟩:=oMq.mp e;cases e;obtain⟨p,vs,Gs,s1,_⟩:=R.ow (qb e1);exact⟨_,s1,q _ _ _ _ _ .refl R s1 rfl⟩
theorem Ay{H₀ Hf₀ Hf H:Hp}{S:AS}{σ:St}{Fs:List (List Addr)}{i:Nat}{avs as:List AV}{path:List Nat}{v w:V}(R:qf K H₀ Hf₀ Hf S σ H Fs) (e:S[i]?=some (some (.ow avs))) (s1:σ[i]?=some (some v)) (en:qu (.ow avs) path=some as) (h:Fd H v path w) :
  ∃p vs,w = .ref p/\H p=some (.lst vs)/\vs.length=as.length:=by
 obtain⟨v',F,t1,t2,r,nd,_⟩:=R.move e;rw[s1]at t1;cases t1;obtain⟨p,vs,Gs,g1,g2,g3,g4,_⟩:=r.path nd en;exact⟨p,vs,h.one g1,g2,g4.1.symm⟩
theorem MQ{i:Nat}{te tb:TE}{pf:MP}{b:ME}(hp:V5 K i te pf) (hb:SR K tb b):V5 K i (Qs (RC K) te tb) (V6 i pf b):=by
 intro H₀ Hf₀ Hf S σ H Fs path S' R e Q q;obtain⟨x,e1,e⟩:=oBq.mp e;obtain⟨y,e2,e⟩:=oBq.mp e;obtain⟨j,e3,e⟩:=oBq.mp e;obtain⟨avs,e4,e⟩:=oBq.mp e;obtain⟨as,e5,e⟩:=oBq.mp e;obtain⟨n,e6,e⟩:=oMq.mp e;cases e;refine hp R (path:=x.1) (S':=x.2) e1 _ λHf1 H1 Fs1 v w t1 R1 s1 a1=>hb R1 (d:=y.1) (S':=y.2) e2 _ λHf2 H2 Fs2 u t2 R2 r2=>?_
 have hy:y.1 = .int j:=by
  cases hx:y.1 <;> rw[hx]at e3 <;> first|(cases e3;rfl)|cases e3
 rw[hy]at r2;cases r2;have a2:=a1.same t2.sh;obtain⟨p,vs,rfl,h1,h2⟩:=Ay R2 (qb e4) s1 e5 a2;have hix:=e6;obtain⟨_,hn,_⟩:=Js e6;have hn':n<vs.length:=by rw[h2];exact hn
 obtain⟨u,hv⟩:∃u,vs[n]?=some u:=⟨_,gEg hn'⟩;refine⟨p,vs,j,u,rfl,rfl,sS.of h1,?_,q _ _ _ v _ (t1.trans t2) R2 s1 (a2.snoc h1 hv)⟩;unfold atI;rw[h2,e6];exact hv
end
section
variable {K:W.Frag}
theorem qf.grow{H₀ Hf₀ Hf H:Hp}{S:AS}{σ:St}{Fs:List (List Addr)}{i:Nat}{avs as:List AV}{path:List Nat}{v:V}{p:Addr}(R:qf K H₀ Hf₀ Hf S σ H Fs) (e:S[i]?=some (some (.ow avs))) (s1:σ[i]?=some (some v)) (en:qu (.ow avs) path=some as) (h:Fd H v path (.ref p)) :
  ∃vs,H p=some (.lst vs)/\as.length=vs.length/\∀(bs:List AV) (ws:List V) (Gs:List (List Addr)),pW K Hf H bs ws Gs->Gs.flatten.Nodup->(∀q∈Gs.flatten,H₀ q=none/\q∉Fs.flatten) ->
   ∃Fs',qf K H₀ Hf₀ Hf (S.set i (some (putAt (.ow avs) path (as++bs)))) σ (qP H p (.lst (vs++ws))) Fs':=by
 obtain⟨v',F,t1,t2,r,nd,oo,_⟩:=R.move e;rw[s1]at t1;cases t1;obtain⟨p',vs,Es,g1,g2,g3,g4,g5,g6,g6',g7,g8⟩:=r.path nd en;have hpp:V.ref p=V.ref p':=h.one g1;cases hpp;refine⟨vs,g2,g4.1,λbs ws Gs rb nG oG=>?_⟩
 have pG:p∉Gs.flatten:=λm=>(oG p m).2 (pS t2 g5)
 have hfl:(Es++Gs).flatten=Es.flatten++Gs.flatten:=fAq;obtain⟨F',k1,k2,k3⟩:=g8 (as++bs) (vs++ws) (Es++Gs) ((g4.keepUpd g6).append (rb.keepUpd pG)) (by
  rw[hfl];refine aq.mpr ⟨λm=>(mAq.mp m).elim g6 pG,nAq.mpr ⟨g6',nG,λa ha b hb z=>(oG b hb).2 (pS t2 (g7 b (z ▸ ha)))⟩⟩) (λq hq=>by
  rw[hfl]at hq;exact(mAq.mp hq).imp id λm z=>(oG q m).2 (pS t2 z))
 refine⟨_,R.turnAny s1 t2 g5 k1 k2 λq hq=>?_⟩
 rcases k3 q hq with z|z
 .exact oo q z
 .rw [hfl]at z;rcases mAq.mp z with z|z
  .exact oo q (g7 q z)
  .exact ⟨(oG q z).1,λm=>(oG q z).2 (qD m)⟩
def Y8(i:Nat) (pf:MP) (k:MK):MS:=λS=>(pf S).bind λx=>(qL x.2 i).bind λa0=>(qu (.ow a0) x.1).bind λ_=>(k x.2).bind λy=>(qL y.2 i).bind λavs=>(qu (.ow avs) x.1).bind λas=>vc (as.length<rh) (some (.nx (y.2.set i (some (putAt (.ow avs) x.1 (as++[y.1]))))))
def YW(i:Nat) (pf:MP) (l:ML):MS:=λS=>(pf S).bind λx=>(qL x.2 i).bind λa0=>(qu (.ow a0) x.1).bind λ_=>(l x.2).bind λy=>(qL y.2 i).bind λavs=>(qu (.ow avs) x.1).bind λas=>vc (as.length+y.1.length<=rh) (some (.nx (y.2.set i (some (putAt (.ow avs) x.1 (as++y.1.map .sh))))))
def YR(x i:Nat) (path:List Nat) (S:AS) (σ:St) (H:Hp):Prop:=∃v p avs as,S[i]?=some (some (.ow avs))/\qu (.ow avs) path=some as/\σ[x]?=some (some (.ref p))/\σ[i]?=some (some v)/\Fd H v path (.ref p)
def PY(K:W.Frag) (x i:Nat) (t:TS) (m:List Nat->MS):Prop:=∀{path:List Nat}{H₀ Hf₀ Hf:Hp}{S:AS}{σ:St}{H:Hp}{Fs:List (List Addr)}{o:Kd},qf K H₀ Hf₀ Hf S σ H Fs->YR x i path S σ H->m path S=some o->∀D:zj,DL K H₀ Hf₀ Hf D o->t D σ H
def So(x i:Nat) (pf:MP) (m:List Nat->MS):MS:=λS=>(pf S).bind λy=>(qL y.2 i).bind λavs=>(qu (.ow avs) y.1).bind λ_=>vc (x≠i/\x<y.2.length) (m y.1 (y.2.set x none))
theorem TU{x i:Nat}{te:TE}{pf:MP}{t:TS}{m:List Nat->MS}(hp:V5 K i te pf) (hm:PY K x i t m):SS K (Oy (IW te (tW x)) t) (So x i pf m):=by
 intro H₀ Hf₀ Hf S σ H Fs o R e D h;obtain⟨y,e1,e⟩:=oBq.mp e;obtain⟨avs,e2,e⟩:=oBq.mp e;obtain⟨as,e3,e⟩:=oBq.mp e;rcases pO e with ⟨⟨hne,hlt⟩,e⟩|e
 .refine hp R (path:=y.1) (S':=y.2) e1 _ λHf1 H1 Fs1 v w t1 R1 s1 a1=>?_
  obtain⟨p,vs,rfl,h1,h2⟩:=Ay R1 (qb e2) s1 e3 a1;have R2:=(R1.kill x).any (V.ref p);refine hm R2 ⟨v,p,avs,as,?_,e3,?_,?_,a1⟩ e D (h.mono t1.sf)
  .rw [aA hne];exact qb e2
  .exact aC (by rw[←R1.len];exact hlt)
  .rw [aA hne];exact s1
 .cases e
theorem Ta{x i:Nat}{t:TS}{m:MS}(h:SS K t m):PY K x i t (λ_=>m):=λR _ e D o=>h R e D o
theorem Vr{x i:Nat}{t u:TS}{a:List Nat->MS}{b:MS}(ha:PY K x i t a) (hb:SS K u b):PY K x i (Oy t u) (λpath=>oE (a path) b):=by
 intro path H₀ Hf₀ Hf S σ H Fs o R A e D h;obtain⟨y,e1,e⟩:=oBq.mp e;refine ha R A e1 _ ?_;cases y with
 |nx S'=>exact λHf' σ' H' Fs' s R'=>hb R' e D (h.mono s)
 |rt a=>cases e;exact h
 |bk a=>cases e;exact h
 |ct a=>cases e;exact h
def GH(i:Nat) (c:MT) (a b:List Nat->MS):List Nat->MS:=λpath S=>(c S).bind λy=>(qL y.2 i).bind λavs=>(qu (.ow avs) path).bind λ_=>if y.1=true then a path y.2 else b path y.2
theorem Ph{x i:Nat}{c:TT}{m:MT}{t u:TS}{a b:List Nat->MS}(hc:Ho K c m) (ha:PY K x i t a) (hb:PY K x i u b):PY K x i (Q0 c t u) (GH i m a b):=by
 intro path H₀ Hf₀ Hf S σ H Fs o R A e D h;obtain⟨y,e1,e⟩:=oBq.mp e;obtain⟨avs,e2,e⟩:=oBq.mp e;obtain⟨as,e3,e⟩:=oBq.mp e;obtain⟨v,p,_,_,_,_,s2,s1,at0⟩:=A;refine hc R (b:=y.1) (S':=y.2) e1 _ λHf1 H1 Fs1 t1 R1=>?_
 have A1:YR x i path y.2 σ H1:=⟨v,p,avs,as,qb e2,e3,s2,s1,at0.same t1.sh⟩;split at e
 .rename_i hx;rw[hx];exact IR (ha R1 A1 e D (h.mono t1.sf))
 .rename_i hx;rw[dG]at hx;rw[hx];exact Jn (hb R1 A1 e D (h.mono t1.sf))
def JX(i:Nat) (k:MK):List Nat->MS:=λpath S=>(k S).bind λy=>(qL y.2 i).bind λavs=>(qu (.ow avs) path).bind λas=>vc (as.length<rh) (some (.nx (y.2.set i (some (putAt (.ow avs) path (as++[y.1]))))))
theorem Ud{x i:Nat}{te:TE}{k:MK}(hk:SK K te k):PY K x i (AB (Nk K "list" wz (wR x) (um te wV))) (JX i k):=by
 intro path H₀ Hf₀ Hf S σ H Fs o R A e D h;obtain⟨y,e4,e⟩:=oBq.mp e;obtain⟨avs,e5,e⟩:=oBq.mp e;obtain⟨as,e6,e⟩:=oBq.mp e;rcases pO e with ⟨hl,e⟩|e
 .cases e;obtain⟨v,p,a0,n0,e2,e3,s2,s1,at0⟩:=A;obtain⟨p',vs,hp,h1,h2⟩:=Ay R e2 s1 e3 at0;cases hp;refine⟨.ref p,s2,.inl ⟨rfl,vs,sS.of h1⟩,hk R (a:=y.1) (S':=y.2) e4 _ λHf2 H2 Fs2 u F t2 R2 r2 o2=>?_⟩
  obtain⟨vs',g1,g2,g3⟩:=R2.grow (qb e5) s1 e6 (at0.same t2.sh);obtain⟨Fs',R3⟩:=g3 [y.1] [u] [F] (pW.nil.snoc r2) (by rw[bo];exact o2.nd) (λq hq=>by rw[bo]at hq;exact⟨o2.fr q hq,o2.out q hq⟩)
  exact⟨p,vs',u,rfl,rfl,g1,by rw[ud,←g2];exact hl,h _ _ _ _ t2.sf R3⟩
 .cases e
def YU(i:Nat) (l:ML):List Nat->MS:=λpath S=>(l S).bind λy=>(qL y.2 i).bind λavs=>(qu (.ow avs) path).bind λas=>vc (as.length+y.1.length<=rh) (some (.nx (y.2.set i (some (putAt (.ow avs) path (as++y.1.map .sh))))))
def EI(i:Nat) (mm:ME):List Nat->MS:=λpath S=>(qL S i).bind λavs=>(qu (.ow avs) path).bind λas=>(mm (S.set i none)).bind λy=>vc (y.2[i]?=some none/\as.length<rh) (some (.nx (y.2.set i (some (putAt (.ow avs) path (as++[.sh y.1]))))))
theorem Q3{x i:Nat}{te:TE}{mm:ME}(hk:SM K te mm):PY K x i (AB (Nk K "list" wz (wR x) (um te wV))) (EI i mm):=by
 intro path H₀ Hf₀ Hf S σ H Fs o R A e D h;obtain⟨avs,e2,e⟩:=oBq.mp e;obtain⟨as,e3,e⟩:=oBq.mp e;obtain⟨y,e4,e⟩:=oBq.mp e;rcases pO e with ⟨⟨hn,hl⟩,e⟩|e
 .cases e;obtain⟨v,p,a0,n0,_,_,s2,s1,at0⟩:=A;have e2':=qb e2;obtain⟨p',vs,hp,h1,h2⟩:=Ay R e2' s1 e3 at0;cases hp;obtain⟨v',F,t1,t2,r,nd,oo,_⟩:=R.move e2';rw[s1]at t1;cases t1;refine⟨.ref p,s2,.inl ⟨rfl,vs,sS.of h1⟩,hk (R.frame t2) (d:=y.1) (S':=y.2) e4 _ λHf2 H2 Fs2 u t3 R2 r2=>?_⟩
  obtain⟨k1,k2,R3⟩:=R.unframe t2 r nd (λq hq=>(oo q hq).1) R2 hn s1 t3
  have hlt:i<y.2.length:=(gSq.mp hn).1;have e5:(y.2.set i (some (.ow avs)))[i]?=some (some (.ow avs)):=aC hlt;obtain⟨vs',g1,g2,g3⟩:=R3.grow e5 s1 e3 (at0.kept r e3 k1);obtain⟨Fs',R4⟩:=g3 [.sh y.1] [u] [[]] (pW.nil.snoc (.sh r2)) (by simp) (λq hq=>by simp at hq)
  rw[dC]at R4;exact⟨p,vs',u,rfl,rfl,g1,by rw[ud,←g2];exact hl,h _ _ _ _ t3 R4⟩
 .cases e
def TF(K:W.Frag) (J:List Nat) (t:TS) (m:MS):Prop:=∀{H₀ Hf₀ Hf:Hp}{S:AS}{σ:St}{H:Hp}{Fs:List (List Addr)}{S':AS},qf K H₀ Hf₀ Hf S σ H Fs->m S=some (.nx S')->∀D:zj,(∀Hf' σ' H' Fs',qh Hf Hf'->qf K H₀ Hf₀ Hf' S' σ' H' Fs'->(∀j∈J,σ'[j]?=σ[j]?)->D.nx σ' H')->t D σ H
theorem MZ{J:List Nat}{t:TS}(h:∀D σ H,D.nx σ H->t D σ H):TF K J t pU:=by
 intro H₀ Hf₀ Hf S σ H Fs S' R e D q;cases e;exact h _ _ _ (q _ _ _ _ (.refl _) R λ_ _=>rfl)
theorem Kk{J:List Nat}{y:Nat}{te:TE}{k:MK}(hk:SK K te k) (hJ:y∉J):TF K J (IW te (tW y)) (oS y k):=by
 intro H₀ Hf₀ Hf S σ H Fs S' R e D q;obtain⟨x,e1,e⟩:=oMq.mp e;cases e;refine hk R (a:=x.1) (S':=x.2) e1 _ λHf1 H1 Fs1 v F t1 R1 r1 o1=>?_
 exact q _ _ _ _ t1.sf (R1.set y r1 o1.nd λq hq=>⟨o1.fr q hq,o1.out q hq⟩) λj hj=>aA (show y≠j from λz=>hJ (by rw[z];exact hj))
theorem NR{J:List Nat}{y:Nat}{te:TE}{m:ME}(hk:SM K te m) (hJ:y∉J):TF K J (IW te (tW y)) (EA y m):=by
 intro H₀ Hf₀ Hf S σ H Fs S' R e D q;obtain⟨x,e1,e⟩:=oMq.mp e;cases e;refine hk R (d:=x.1) (S':=x.2) e1 _ λHf1 H1 Fs1 v t1 R1 r1=>?_
 exact q _ _ _ _ t1 (R1.setD y r1) λj hj=>aA (show y≠j from λz=>hJ (by rw[z];exact hj))
theorem VD{J:List Nat}{c:TT}{m:MT}{t u:TS}{a b:MS}(hc:Ho K c m) (ha:TF K J t a) (hb:TF K J u b):TF K J (Q0 c t u) (wt m a b):=by
 intro H₀ Hf₀ Hf S σ H Fs S' R e D q;obtain⟨x,e1,e⟩:=oBq.mp e;refine hc R (b:=x.1) (S':=x.2) e1 _ λHf1 H1 Fs1 t1 R1=>?_
 split at e
 .rename_i hx;rw[hx];exact IR (ha R1 e D λHf' σ' H' Fs' s R' j=>q _ _ _ _ (t1.sf.trans s) R' j)
 .rename_i hx;rw[dG]at hx;rw[hx];exact Jn (hb R1 e D λHf' σ' H' Fs' s R' j=>q _ _ _ _ (t1.sf.trans s) R' j)
def Fo(i:Nat) (a:MS) (m:List Nat->MS):List Nat->MS:=λpath S=>(qL S i).bind λavs=>(a (S.set i none)).bind λo=>match o with
 | .nx S1=>vc (S1[i]?=some none) (m path (S1.set i (some (.ow avs))))
 |_=>none
theorem Iy{x i:Nat}{t u:TS}{a:MS}{m:List Nat->MS}(ha:TF K [x,i] t a) (hm:PY K x i u m):PY K x i (Oy t u) (Fo i a m):=by
 intro path H₀ Hf₀ Hf S σ H Fs o R A e D h;obtain⟨avs,e2,e⟩:=oBq.mp e;obtain⟨oo,e3,e⟩:=oBq.mp e;cases oo with
 |nx S1 =>
  rcases pO (show vc (S1[i]?=some none) (m path (S1.set i (some (.ow avs))))=some o from e) with ⟨hn,e⟩|e
  .obtain ⟨v,p,a0,n0,e2',e4,s2,s1,at0⟩:=A;have e5:=qb e2;rw[e5]at e2';cases e2';obtain⟨v',F,t1,t2,r,nd,ow,_⟩:=R.move e5;rw[s1]at t1;cases t1;refine ha (R.frame t2) e3 _ λHf' σ' H' Fs' s R' hJ=>?_
   have j1:σ'[x]?=σ[x]?:=hJ x (by simp)
   have j2:σ'[i]?=σ[i]?:=hJ i (by simp)
   obtain⟨k1,k2,R3⟩:=R.unframe t2 r nd (λq hq=>(ow q hq).1) R' hn (j2.trans s1) s
   have hlt:i<S1.length:=(gSq.mp hn).1;exact hm R3 ⟨v,p,avs,n0,aC hlt,e4,j1.trans s2,j2.trans s1,at0.kept r e4 k1⟩ e D (h.mono s)
  .cases e
 |_=>cases e
end
theorem W8(S:AS) (i:Nat):NV i S=(qL S i).map λ_=>([],S):=rfl
theorem Yl(S:AS) (i:Nat) (pf:MP) (b:ME):V6 i pf b S=(pf S).bind λx=>(b x.2).bind λy=>(intOf y.1).bind λj=>(qL y.2 i).bind λavs=>(qu (.ow avs) x.1).bind λas=>(GN as.length j).map λn=>(x.1++[n],y.2):=rfl
theorem Xh(S:AS) (x i:Nat) (pf:MP) (m:List Nat->MS):So x i pf m S=(pf S).bind λy=>(qL y.2 i).bind λavs=>(qu (.ow avs) y.1).bind λ_=>vc (x≠i/\x<y.2.length) (m y.1 (y.2.set x none)):=rfl
theorem W6(S:AS) (i:Nat) (c:MT) (a b:List Nat->MS) (path:List Nat):GH i c a b path S=(c S).bind λy=>(qL y.2 i).bind λavs=>(qu (.ow avs) path).bind λ_=>if y.1=true then a path y.2 else b path y.2:=rfl
theorem UF(S:AS) (i:Nat) (k:MK) (path:List Nat):JX i k path S=(k S).bind λy=>(qL y.2 i).bind λavs=>(qu (.ow avs) path).bind λas=>vc (as.length<rh) (some (.nx (y.2.set i (some (putAt (.ow avs) path (as++[y.1])))))):=rfl
theorem Sk(S:AS) (i:Nat) (mm:ME) (path:List Nat):EI i mm path S=(qL S i).bind λavs=>(qu (.ow avs) path).bind λas=>(mm (S.set i none)).bind λy=>vc (y.2[i]?=some none/\as.length<rh) (some (.nx (y.2.set i (some (putAt (.ow avs) path (as++[.sh y.1])))))):=rfl
def Wu(i:Nat) (avs:List AV) (m:List Nat->MS) (path:List Nat):Kd->Option Kd
 | .nx S1=>vc (S1[i]?=some none) (m path (S1.set i (some (.ow avs))))
 |_=>none
theorem W5(S:AS) (i:Nat) (a:MS) (m:List Nat->MS) (path:List Nat):Fo i a m path S=(qL S i).bind λavs=>(a (S.set i none)).bind (Wu i avs m path):=by
 unfold Fo;congr 1
theorem Rr(i:Nat) (avs:List AV) (m:List Nat->MS) (path:List Nat) (S1:AS):Wu i avs m path (.nx S1)=vc (S1[i]?=some none) (m path (S1.set i (some (.ow avs)))):=rfl
theorem IS(avs:List AV):qu (.ow avs) []=some avs:=rfl
theorem GK(avs:List AV) (j:Nat) (js:List Nat):qu (.ow avs) (j::js)=(avs[j]?).bind λa=>qu a js:=rfl
theorem HV{avs:List AV}{j:Nat}{js:List Nat}{as:List AV}{a:AV}(h:avs[j]?=some a):putAt (.ow avs) (j::js) as = .ow (avs.set j (putAt a js as)):=by
 show (match avs[j]? with|some a=>_|none=>_)=_
 rw[h]
def Zk:=aa @W8 (aa @Yl (aa @Xh (aa @W6 (aa @UF (aa @Sk (aa @W5 (aa @Rr @IS)))))))
section
variable {K:W.Frag}
def FC(m:ME):MS:=λS=>(m S).map λx=>.nx x.2
theorem Oo{te:TE}{m:ME}(h:SM K te m):SS K (AB te) (FC m):=by
 intro H₀ Hf₀ Hf S σ H Fs o R e D hd;obtain⟨x,e1,e⟩:=oMq.mp e;cases e;exact h R (d:=x.1) (S':=x.2) e1 _ λHf1 H1 Fs1 v t1 R1 r1=>hd _ _ _ _ t1 R1
def Zn(i:Nat):MS:=λS=>(qL S i).map λavs=>.nx (S.set i (some (.ow avs.reverse)))
end
theorem Sv(S:AS) (m:ME):FC m S=(m S).map λx=>.nx x.2:=rfl
def ZD:=@Sv
section
variable {K:W.Frag}
theorem rS.fd_inv{H:Hp}{ds:List (oU×D)}{v:V}(h:rS K H (.fd ds) v):∃p o kvs,v = .ref p/\H p=some (.frz o (.dK kvs))/\tN K H ds kvs:=by
 cases h with
 |fd h l e=>exact⟨_,_,_,rfl,h,l,e⟩
def RK:D->Option (List (oU×D))
 | .fd kvs=>some kvs
 |_=>none
theorem RA{d:D}{kvs:List (oU×D)}(h:RK d=some kvs):d = .fd kvs:=by
 cases d <;> first|(cases h;rfl)|cases h
def DF(a b:ME):ME:=λS=>(a S).bind λx=>(b x.2).bind λy=>(RK x.1).bind λkvs=>(uz y.1).bind λkey=>(getD kvs key).map λd=>(d,y.2)
theorem Oh{ta tb:TE}{a b:ME}(ha:SR K ta a) (hb:SR K tb b):SR K (OX ta tb) (DF a b):=by
 intro H₀ Hf₀ Hf S σ H Fs d S' R e Q q;obtain⟨x,e1,e⟩:=oBq.mp e;obtain⟨y,e2,e⟩:=oBq.mp e;obtain⟨kvs,e3,e⟩:=oBq.mp e;obtain⟨key,e4,e⟩:=oBq.mp e;obtain⟨d',e5,e⟩:=oMq.mp e;cases e;refine ha R (d:=x.1) (S':=x.2) e1 _ λHf1 H1 Fs1 v1 t1 R1 r1=>hb R1 (d:=y.1) (S':=y.2) e2 _ λHf2 H2 Fs2 v2 t2 R2 r2=>?_
 rw[RA e3]at r1;obtain⟨p,o,vs,rfl,h1,h2⟩:=(r1.mono t2.sh).fd_inv;have g:=AH (key:=key) h2;rw[e5]at g;obtain⟨v,g1,g2⟩:=g;exact⟨p,v,rfl,by rw[vA e4 r2,←g1];exact .inl ⟨vs,key,.inr ⟨o,h1⟩,rfl,rfl⟩,q _ _ _ _ (t1.trans t2) R2 g2⟩
theorem Pf{ob:Obj}{d:Addr}{kvs:List (oU×V)}{i1:Nat}{tb:TS}{D:zj}{σ:St}{H:Hp}(Pv:Nat->St->Hp->Prop) (h0:Pv 0 σ H) (hl:∀i σ H,Pv i σ H->H d=some (.frz ob (.dK kvs)))
  (hs:∀i p σ H,kvs[i]?=some p->Pv i σ H->tb { D with nx:=Pv (i+1),ct:=Pv (i+1),bk:=D.nx } (σ.set i1 (some (kV p.1))) H) (hd:∀σ H,Pv kvs.length σ H->D.nx σ H) :
  ∃W:Nat->Nat->St->Hp->Prop,(∃m,W 0 m σ H)/\∀i m σ H,W i m σ H ->
   ((WX ob d kvs).stop i H/\D.nx σ H)∨((WX ob d kvs).go i H/\∃N:St->Hp->Prop,(∀σ' H',N σ' H'->∃m',m'<m/\W (i+1) m' σ' H')/\∀x H',(WX ob d kvs).yld i H x H'->tW i1 x σ H' λσ2 H2=>tb { D with nx:=N,ct:=N,bk:=D.nx } σ2 H2):=by
 refine⟨λi m σ H=>m=kvs.length-i/\i<=kvs.length/\Pv i σ H,⟨kvs.length,by simp,bp _,h0⟩,?_⟩
 rintro i m σ H ⟨rfl,hi,p⟩;have q:=hl i σ H p
 by_cases hlt:i<kvs.length
 .refine .inr ⟨⟨q,kvs[i],by simp[hlt]⟩,Pv (i+1),λσ' H' p'=>⟨kvs.length-(i+1),by lia,rfl,hlt,p'⟩,λv H' y=>?_⟩
  obtain⟨rfl,x,hx,rfl⟩:=y;exact hs i x σ H' hx p
 .have e:i=kvs.length:=by lia
  subst e;exact .inl ⟨⟨q,af _⟩,hd σ H p⟩
def GQ(x i:Nat) (body:MS):MS:=λS=>(wF S i).bind λkvs=>vc (x≠i) (sN x body (kvs.map λp=>kD p.1) (S.set i (some (.sh (.fd kvs)))))
theorem Ss{x i:Nat}{tb:TS}{body:MS}(hb:SS K tb body):SS K (Nc (Tu (wR i)) (tW x) tb) (GQ x i body):=by
 intro H₀ Hf₀ Hf S σ H Fs o R e D h;obtain⟨ds,e1,e⟩:=oBq.mp e;rcases pO e with ⟨hne,e⟩|e
 .have e1':=zV e1;obtain⟨p,kvs,s1,s2,h1,h2,h3,h4,h5⟩:=R.owd e1';refine⟨_,s1,p,kvs,rfl,h1,λob=>?_⟩
  obtain⟨v,F,t1,t2,r,nd,oo,R1⟩:=R.move e1';rw[s2]at t2;cases t2;have R2:=qf.fix R1 (p:=p) (o:=.frz ob (.dK kvs)) h5 h2 h4;have s3:qh Hf (qP Hf p (.frz ob (.dK kvs))):=yW h2;have h3':tN K (qP Hf p (.frz ob (.dK kvs))) ds kvs:=⟨h3.1,λi d v a b=>(h3.2 i d v a b).mono s3⟩
  have R3:qf K H₀ Hf₀ (qP Hf p (.frz ob (.dK kvs))) (S.set i (some (.sh (.fd ds)))) σ (qP H p (.frz ob (.dK kvs))) (Fs.set i []) :=
   R2.again (F:=[]) s1 (.sh (.fd pD h3'.1 h3'.2)) aU λq hq=>by cases hq
  have hlen:ds.length=kvs.length:=by have:=congrArg cm h3.1;simpa using this
  refine Pf (λn σ' H'=>∃Hf' S' Fs',qf K H₀ Hf₀ Hf' S' σ' H' Fs'/\qh (qP Hf p (.frz ob (.dK kvs))) Hf'/\sN x body ((ds.map λp=>kD p.1).drop n) S'=some o) ⟨_,_,_,R3,.refl _,e⟩
   (λn σ' H' ⟨Hf',S',Fs',R',s',_⟩=>R'.sub _ _ (s' _ _ pD)) ?_ ?_
  .rintro n w σ' H' hw ⟨Hf',S',Fs',R',s',e'⟩;have hn:n<ds.length:=by rw[hlen];exact(gSq.mp hw).1
   have hk:(ds.map λp=>kD p.1)[n]?=some (kD w.1):=by
    have:=congrArg (λl=>l[n]?) h3.1
    simp only[gMq,hw,cf]at this;rw[gMq];cases hd:ds[n]? with
    |none=>rw[hd]at this;cases this
    |some dd =>
     rw[hd]at this;rw[cf,show dd.1=w.1 from aD.inj this]
   have hlt:n<(ds.map λp=>kD p.1).length:=by rw[lMq];exact hn
   rw[aZ hlt,(gSq.mp hk).2]at e';obtain⟨o2,e3,e4⟩:=oBq.mp e';refine hb (R'.setD x (Sj w.1)) e3 _ ?_;cases o2 with
   |nx S2=>exact λHf2 σ2 H2 Fs2 s4 R4=>⟨Hf2,S2,Fs2,R4,s'.trans s4,e4⟩
   |ct S2=>exact λHf2 σ2 H2 Fs2 s4 R4=>⟨Hf2,S2,Fs2,R4,s'.trans s4,e4⟩
   |bk S2=>cases e4;exact λHf2 σ2 H2 Fs2 s4 R4=>h _ _ _ _ ((s3.trans s').trans s4) R4
   |rt a=>cases e4;exact h
  .rintro σ' H' ⟨Hf',S',Fs',R',s',e'⟩;rw[←hlen,show ds.length=(ds.map λp=>kD p.1).length from (lMq _).symm,eJ]at e'
   cases e';exact h _ _ _ _ (s3.trans s') R'
 .cases e
end
theorem QW(kvs:List (oU×D)):RK (.fd kvs)=some kvs:=rfl
theorem Sh(S:AS) (a b:ME):DF a b S=(a S).bind λx=>(b x.2).bind λy=>(RK x.1).bind λkvs=>(uz y.1).bind λkey=>(getD kvs key).map λd=>(d,y.2):=rfl
theorem UI(S:AS) (x i:Nat) (body:MS):GQ x i body S=(wF S i).bind λkvs=>vc (x≠i) (sN x body (kvs.map λp=>kD p.1) (S.set i (some (.sh (.fd kvs))))):=rfl
def Zt:=aa @QW (aa @Sh @UI)
end Z
namespace Mr
open PySem PySem.Spec PyProof.Rows L2
end Mr
namespace Z
open PySem L2 Mr
def Xg(l:ML):MK:=λS=>(l S).map λx=>(.ow (x.1.reverse.map .sh),x.2)
mutual
def OU:AV->Bool
 | .sh d=>d.scal
 | .ow l=>OI l
 | .owd kvs=>kvs.all λp=>p.2.scal
 | .owl _=>true
def OI:List AV->Bool
 | []=>true
 |a::l=>OU a && OI l
end
def U8(f:MF) (a:ML):MK:=λS=>(a S).bind λx=>(f x.1).bind λr=>if OU r=true then some (r,x.2) else none
end Z
namespace Xe
open PySem PySem.Spec PySem.W PyProof.Rows L2 Mr
end Xe
namespace Z
open PySem L2 Mr Xe
end Z
namespace HT
open PySem PyProof.Rows
open PySem.SeqAt
open PySem.AutoSeq1 (wpAny_loadPart')
open PySem.MeetsSeq PySem.MeetsSeq2 PySem.MeetsSeq3
end HT
namespace Mr
open PySem PySem.Spec PyProof.Rows L2
end Mr
namespace Z
open PySem L2 Mr
end Z
namespace Z
open PySem L2 Mr Xe
end Z
namespace Xe
open PySem PySem.Spec PySem.W PyProof.Rows L2 Mr
end Xe
namespace Z
open PySem L2 Mr Xe
end Z
namespace Mr
open PySem PySem.Spec PySem.W PyProof.Rows L2 HT
end Mr
namespace Z
open PySem L2 Mr Xe
end Z
namespace Z
open PySem PySem.Spec PySem.W PyProof.Rows L2 Mr Xe
end Z
namespace Mr
open PySem L2
open PySem.Spec PyProof.Rows
section
variable {X:Cx}
end
end Mr
namespace Z
open PySem L2 Mr Xe
def Sn(f:D->D->Option D) (m b:ME):ME:=λS=>(m S).bind λx=>(b x.2).bind λy=>(f x.1 y.1).bind λd=>if d.scal then some (d,y.2) else none
def Zp(i:Nat) (g:Int->Int->Int) (b:ME):MS:=λS=>(oy i S).bind λx=>(intOf x.1).bind λa=>(b x.2).bind λy=>(intOf y.1).map λc=>.nx (y.2.set i (some (.sh (.int (g a c)))))
def HY(i:Nat) (pf:MP) (mm:ME):MS:=λS=>(pf S).bind λx=>(qL x.2 i).bind λavs=>(qu (.ow avs) x.1).bind λas=>(mm (x.2.set i none)).bind λy=>vc (y.2[i]?=some none/\as.length<rh) (some (.nx (y.2.set i (some (putAt (.ow avs) x.1 (as++[.sh y.1]))))))
def Y4(g:MF) (f:Ow) (a:MA):MX:=λS=>(a S).bind λx=>(f (x.1.map oP)).bind (O2 λr=>(g [oP r]).map λz=>.ok (.rt z))
section
variable {K:W.Frag}
theorem V7{r:R2}{f:D->D->Option D}{ta tb:TE}{m b:ME}(hr:Fe K r f) (ha:SM K ta m) (hb:SR K tb b):SM K (Qs r ta tb) (Sn f m b):=by
 intro H₀ Hf₀ Hf S σ H Fs d S' R e Q q;obtain⟨x,e1,e⟩:=oBq.mp e;obtain⟨y,e2,e⟩:=oBq.mp e;obtain⟨z,e3,e⟩:=oBq.mp e;split at e
 .rename_i hs;cases e;refine ha R (d:=x.1) (S':=x.2) e1 _ λHf1 H1 Fs1 v1 t1 R1 r1=>hb R1 (d:=y.1) (S':=y.2) e2 _ λHf2 H2 Fs2 v2 t2 R2 r2=>?_
  exact hr ((r1.mono R1.sub).mono t2.sh) r2 e3 λv rv=>q _ _ _ v (t1.trans t2.sf) R2 (rv.scal hs)
 .cases e
theorem Nn{i:Nat}{tp te:TE}{pf:MP}{mm:ME}(hp:V5 K i tp pf) (hk:SM K te mm):SS K (AB (Nk K "list" wz tp (um te wV))) (HY i pf mm):=by
 intro H₀ Hf₀ Hf S σ H Fs o R e D h;obtain⟨x,e1,e⟩:=oBq.mp e;obtain⟨avs,e2,e⟩:=oBq.mp e;obtain⟨as,e3,e⟩:=oBq.mp e;obtain⟨y,e4,e⟩:=oBq.mp e;rcases pO e with ⟨⟨hn,hl⟩,e⟩|e
 .cases e;refine hp R (path:=x.1) (S':=x.2) e1 _ λHf1 H1 Fs1 v w t1 R1 s1 at0=>?_
  have e2':=qb e2;obtain⟨p,vs,rfl,h1,h2⟩:=Ay R1 e2' s1 e3 at0;obtain⟨v',F,u1,u2,r,nd,oo,_⟩:=R1.move e2';rw[s1]at u1;cases u1;refine⟨.inl ⟨rfl,vs,sS.of h1⟩,hk (R1.frame u2) (d:=y.1) (S':=y.2) e4 _ λHf2 H2 Fs2 u t3 R2 r2=>?_⟩
  obtain⟨k1,k2,R3⟩:=R1.unframe u2 r nd (λq hq=>(oo q hq).1) R2 hn s1 t3
  have hlt:i<y.2.length:=(gSq.mp hn).1;have e5:(y.2.set i (some (.ow avs)))[i]?=some (some (.ow avs)):=aC hlt;obtain⟨vs',g1,g2,g3⟩:=R3.grow e5 s1 e3 (at0.kept r e3 k1);obtain⟨Fs',R4⟩:=g3 [.sh y.1] [u] [[]] (pW.nil.snoc (.sh r2)) (by simp) (λq hq=>by simp at hq)
  rw[dC]at R4;exact⟨p,vs',u,rfl,rfl,g1,by rw[ud,←g2];exact hl,h _ _ _ _ (t1.sf.trans t3) R4⟩
 .cases e
end
theorem Xx(S:AS) (f:D->D->Option D) (m b:ME):Sn f m b S=(m S).bind λx=>(b x.2).bind λy=>(f x.1 y.1).bind λd=>if d.scal then some (d,y.2) else none:=rfl
theorem Rh(S:AS) (i:Nat) (pf:MP) (mm:ME):HY i pf mm S=(pf S).bind λx=>(qL x.2 i).bind λavs=>(qu (.ow avs) x.1).bind λas=>(mm (x.2.set i none)).bind λy=>vc (y.2[i]?=some none/\as.length<rh) (some (.nx (y.2.set i (some (putAt (.ow avs) x.1 (as++[.sh y.1])))))):=rfl
def Zj:=aa @Xx @Rh
def Qz:=aa zq (aa Zs (aa ZI (aa Zk (aa ZD (aa Zt (Zj))))))
end Z
local macro_rules | `(tactic| simp_arith [$ls,*]) => `(tactic| simp -implicitDefEqProofs only [Z.Qz,cU,cV,cv,cw,bL,↓reduceIte,reduceCtorEq,$ls,*])
namespace Z
open PySem PySem.Spec PySem.W PyProof.Rows L2 Mr Xe
end Z
namespace Z
open PySem L2 Mr Xe
end Z
namespace HT
open PySem PyProof.Rows
open PySem.SeqAt
open PySem.AutoSeq1 (wpAny_loadPart')
open PySem.MeetsSeq PySem.MeetsSeq2 PySem.MeetsSeq3
end HT
namespace Mr
open PySem L2
open PySem.Spec PyProof.Rows
end Mr
namespace Z
open PySem L2 Mr Xe
end Z
namespace Mr
open PySem PySem.Calls PySem.Spec PyProof.Rows L2
end Mr
namespace Z
open PySem L2 Mr Xe
end Z
namespace Mo
open PySem PyProof.Rows Mr
theorem KC:entryFor table "zip.__getattribute__" = some Builtin.«object.__getattribute__»:=entryFor_alias (id' := "object.__getattribute__") (by kernel_rfl) (by decide +kernel) (by decide +kernel) (by kernel_rfl)
theorem PM:ni (.type "zip") "__getattr__" = pure none:=by rw[typeLookup_type,mV];kernel_rfl
theorem HR:ni (.type "zip") "keys" = pure none:=by rw[typeLookup_type,mV];kernel_rfl
section
variable {prog:kf}{w:ki}{A:Around}{E:Value->Shared->Prop}{s:Shared}
theorem Hh(z:Addr) (fs:Array Value) (u:Tok):Meets (Builtin.«object.__getattribute__» ⟨[.ref z,.str "keys" u],[]⟩) (λA R s=>s.heap.get? z=some { cls:=.type "zip", dict:=none,data:=.fields fs,slots:=#[] }/\raisesAttr (.ref z) "keys" A R s) :=
 Meets.of_wp λprog w A R s hs=>by
  obtain⟨hp,g,d,tk,os⟩:=s;obtain⟨hx,hs⟩:=hs;have hT:(⟨hp,g,d,tk,os⟩:Shared).TypeIs (.ref z) "zip" := ⟨_,hx,rfl⟩;have hm:=HR;have hname:(["__module__", "__name__", "__qualname__", "__doc__", "__annotations__"]:List Str).contains "keys" = false:=by decide +kernel
  unfold Builtin.«object.__getattribute__»
  repeat (any_goals (first|assumption|wp_step))
  exact wpAny_raiseAttrError hs.1 hs.2 (attrMsg_fits (by decide +kernel) (by size_fits))
end
section
variable {prog:kf}{w:ki}{A:Around}{E:Value->Shared->Prop}{s:Shared}
theorem SJ{z:Addr}{fs:Array Value}{u:Tok}{Q:Value->Shared->Prop}(hx:s.heap.get? z=some { cls:=.type "zip", dict:=none,data:=.fields fs,slots:=#[] }) (hA:A.handled=none)
  (h:∀h' tk e,Heap.NewExcOf s.heap h' e "AttributeError" -> E (.ref e) { s with heap:=h',toks:=tk }):kc (jY prog w) A (getAttrBy (.ref z) (.str "keys" u) false) Q E s:=by
 obtain⟨hp,g,d,tk,os⟩:=s;have hT:∀tk',(⟨hp,g,d,tk',os⟩:Shared).TypeIs (.ref z) "zip" := λ_=>⟨_,hx,rfl⟩
 have f1:=sub_AttributeError;have f3:=F.slot_zip_getattribute.lookup;have f4:=F.slot_zip_getattribute.bind (.ref z);have f5:=PM;unfold getAttrBy
 repeat (any_goals (first|assumption|exact hT _|((with_reducible show kc _ _ (call (Value.builtin "zip.__getattribute__") _ _) _ _ _);refine lC F.slot_zip_getattribute (hT _) KC (F.args_zip_getattribute_2 _ _) (Hh z fs _) ⟨hx,hA,λh' tk' e hx'=>?_⟩)|wp_step))
 obtain⟨t',u',he⟩:=hx'.there;show kc _ _ (getattributeRaised _ _ _ _ _ _ _) _ _ _;unfold getattributeRaised
 repeat (any_goals (first|assumption|wp_step))
 exact h _ _ _ hx'.of
theorem R5{z:Addr}{fs:Array Value}{Q:Option Value->Shared->Prop}(hx:s.heap.get? z=some { cls:=.type "zip", dict:=none,data:=.fields fs,slots:=#[] }) (hA:A.handled=none)
  (h:∀h' tk,(∀b o,s.heap.get? b=some o->h'.get? b=some o)->Q none { s with heap:=h',toks:=tk }):kc (jY prog w) A (getAttr? (.ref z) "keys") Q E s:=by
 unfold getAttr? getAttrBy?;obtain⟨hp,g,d,tk,os⟩:=s;have f1:=sub_AttributeError
 repeat (any_goals (first|assumption|(with_reducible refine SJ (fs:=fs) ?_ ?_ ?_)|wp_step))
 intro h' tk' e q;obtain⟨o,k,he,hc,_⟩:=q.there;refine jU (wpAny_isInstance (T := "AttributeError") (b:=true) ⟨_,he,hc⟩ f1 ?_);exact jX (h h' tk' q.keeps)
end
abbrev TJ(h:Heap) (z TI TO T:Addr) (b:Bool):Prop:=h.get? z=some { cls:=.type "zip", dict:=none,data:=.fields #[rawInt T,.bool b,.bool false,.ref TI,.ref TO],slots:=#[] }
section
variable {prog:kf}{w:ki}{A:Around}{E:Value->Shared->Prop}{s:Shared}
theorem GS{a:Addr}{o:Obj}{Q:Option Obj->Shared->Prop}(ho:s.heap.get? a=some o) (h:Q (some o) s):kc (jY prog w) A (loadIfAlive a) Q E s:=λΓ p hΓ=>by
 unfold loadIfAlive;rw[Sem.wp_loadIfAlive,ho];exact h
theorem Gc{z TI TO T:Addr}{b:Bool}{o:Obj}{Q:Bool->Shared->Prop}(hz:TJ s.heap z TI TO T b) (ho:s.heap.get? T=some o)
  (h:∀h',TJ h' z TI TO T true->cC z s.heap h'->Q false { s with heap:=h' }):kc (jY prog w) A (Builtin.SmallTypes.ownedTupleIsFree (.ref z)) Q E s:=by
 unfold Builtin.SmallTypes.ownedTupleIsFree;refine jU (lJ hz rfl (x:=rawInt T) rfl ?_);refine jU (GS (a:=T) ho ?_);refine jU (lJ hz rfl (x:=.bool b) rfl ?_);cases b with
 |true=>exact jU (jX (jX (h s.heap hz ⟨rfl,λ_ _=>rfl⟩)))
 |false =>
  refine jU ?_;exact wpAny_setField_rec hz (by simp) λh1 hz1 hs1=>jX (h h1 hz1 hs1)
theorem WD{z TI TO i1 i2 l1 l2 T:Addr}{b:Bool}{o:Obj}{k:Nat}{xs ys:Array Value}{x y:Value}{Q:Value->Shared->Prop}(D:mq z TI TO i1 i2 l1 l2) (hz:TJ s.heap z TI TO T b) (ho:s.heap.get? T=some o)
  (hTI:mL s.heap TI (.ref i1) (.ref i2)) (h1:s.heap.IsListIter i1 l1 k) (h2:s.heap.IsListIter i2 l2 k) (hl1:s.heap.IsList l1 xs) (hl2:s.heap.IsList l2 ys) (hx:xs[k]?=some x) (hy:ys[k]?=some y)
  (hQ:∀h',TJ h' z TI TO T true->h'.IsListIter i1 l1 (k+1)->h'.IsListIter i2 l2 (k+1)->mL h' s.heap.objs.size x y->h'.objs.size=s.heap.objs.size+1->(∀c o,c≠z->c≠i1->c≠i2->s.heap.get? c=some o->h'.get? c=some o)->Q (.ref s.heap.objs.size) { s with heap:=h' }) :
  kc (jY prog w) A (Builtin.«zip.__next__» ⟨[.ref z],[]⟩) (λfin s'=>∃v,fin = .done (.ret v)/\Q v s') E s:=by
 show kc _ _ (field (.ref z) 2 >>= _) _ _ _;refine jU (lJ hz rfl (x:=.bool false) rfl ?_);show kc _ _ (field (.ref z) 3 >>= _) _ _ _;refine jU (lJ hz rfl (x:=.ref TI) rfl ?_);refine jU (mW hTI rfl ?_);show kc _ _ (Builtin.SmallTypes.ownedTupleIsFree (.ref z) >>= _) _ _ _;refine jU (Gc hz ho λg1 hz1 s1=>?_)
 simp only[de,if_false];refine jU ?_;rw[je];simp only[jA,jG];refine jU (jU (kr ?_));show kc _ _ (Builtin.SmallTypes.nextOf (.ref i1) >>= _) _ _ _;refine jU (mR (h1.extBut s1.extBut D.i1z) (hl1.extBut s1.extBut D.l1z) hx λg2 q2 s2=>jX ?_)
 refine jX ?_;refine jU (jU (kr ?_));show kc _ _ (Builtin.SmallTypes.nextOf (.ref i2) >>= _) _ _ _;refine jU (mR ((h2.extBut s1.extBut D.i2z).extBut s2.extBut D.i12.symm) ((hl2.extBut s1.extBut D.l2z).extBut s2.extBut D.l2i1) hy λg3 q3 s3=>jX ?_)
 refine jX (jX ?_);refine jU (wpAny_newTuple ?_ (by show 2<=ke;rw[kO];decide))
 have hsz:g3.objs.size=s.heap.objs.size:=by rw[s3.1,s2.1,s1.1]
 have hz3:TJ g3 z TI TO T true:=s3.extBut _ _ D.i2z.symm (s2.extBut _ _ D.i1z.symm hz1);have h13:g3.IsListIter i1 l1 (k+1):=q2.extBut s3.extBut D.i12;have kp:∀c o,c≠z->c≠i1->c≠i2->s.heap.get? c=some o->g3.get? c=some o:=λc o c1 c2 c3 e=>s3.extBut _ _ c3 (s2.extBut _ _ c2 (s1.extBut _ _ c1 e))
 refine jX ⟨_,rfl,?_⟩;show Q (.ref g3.objs.size) _;rw[hsz];exact hQ _ (ak _ hz3) (h13.at λo e=>ak _ e) (q3.at λo e=>ak _ e) (by rw[←hsz];exact aX _ rfl) (by rw[gP,hsz]) λc o c1 c2 c3 e=>ak _ (kp c o c1 c2 c3 e)
end
section
variable {prog:kf}{w:ki}{A:Around}{E:Value->Shared->Prop}{s:Shared}
theorem Wj{z TI TO i1 i2 l1 l2 T:Addr}{b:Bool}{o:Obj}{k:Nat}{xs:Array Value}{Q:Fin->Shared->Prop}(hh:A.handled=none) (D:mq z TI TO i1 i2 l1 l2) (hz:TJ s.heap z TI TO T b) (ho:s.heap.get? T=some o)
  (hTI:mL s.heap TI (.ref i1) (.ref i2)) (h1:s.heap.IsListIter i1 l1 k) (hl1:s.heap.IsList l1 xs) (hx:xs[k]?=none)
  (hE:∀h' e,(∀c o,c≠z->c≠i1->s.heap.get? c=some o->h'.get? c=some o)->(∃o,h'.get? e=some o/\o.cls = .type "StopIteration")->E (.ref e) { s with heap:=h' }) :
  kc (jY prog w) A (Builtin.«zip.__next__» ⟨[.ref z],[]⟩) Q E s:=by
 show kc _ _ (field (.ref z) 2 >>= _) _ _ _;refine jU (lJ hz rfl (x:=.bool false) rfl ?_);show kc _ _ (field (.ref z) 3 >>= _) _ _ _;refine jU (lJ hz rfl (x:=.ref TI) rfl ?_);refine jU (mW hTI rfl ?_);show kc _ _ (Builtin.SmallTypes.ownedTupleIsFree (.ref z) >>= _) _ _ _;refine jU (Gc hz ho λg1 hz1 s1=>?_)
 simp only[de,if_false];refine jU ?_;rw[je];simp only[jA,jG];refine jU (jU (kr ?_));show kc _ _ (Builtin.SmallTypes.nextOf (.ref i1) >>= _) _ _ _;refine jU (wpAny_nextOf_list_end hh (h1.extBut s1.extBut D.i1z) (hl1.extBut s1.extBut D.l1z) hx λg2 e s2 he=>?_)
 exact hE g2 e (λc o c1 c2 q=>s2 _ _ c2 (s1.extBut _ _ c1 q)) he
structure QN (h:Heap) (z TI TO i1 i2 l1 l2 d:Addr) (k:Nat) (xs ys:Array Value):Prop where
 f:IsZip h z TI TO .none∨∃T b o,TJ h z TI TO T b/\h.get? T=some o/\T≠z/\T≠TO/\T≠i1/\T≠i2/\T≠d
 ti:mL h TI (.ref i1) (.ref i2)
 to:∃a b,mL h TO a b
 h1:h.IsListIter i1 l1 k
 h2:h.IsListIter i2 l2 k
 l1:h.IsList l1 xs
 l2:h.IsList l2 ys
theorem QN.ty{z TI TO i1 i2 l1 l2 d:Addr}{k:Nat}{xs ys:Array Value}(S:QN s.heap z TI TO i1 i2 l1 l2 d k xs ys):s.TypeIs (.ref z) "zip" := by
 rcases S.f with h|⟨_,_,_,h,_⟩
 .exact ⟨_,h,rfl⟩
 .exact ⟨_,h,rfl⟩
theorem VQ{z TI TO i1 i2 l1 l2 d:Addr}{k:Nat}{xs ys:Array Value}{x y:Value}{Q:Option Value->Shared->Prop}(D:mq z TI TO i1 i2 l1 l2) (hd:d<s.heap.objs.size) (S:QN s.heap z TI TO i1 i2 l1 l2 d k xs ys) (hx:xs[k]?=some x) (hy:ys[k]?=some y)
  (hQ:∀h' T,QN h' z TI TO i1 i2 l1 l2 d (k+1) xs ys->mL h' T x y->(∀c o,c≠z->c≠TO->c≠i1->c≠i2->s.heap.get? c=some o->h'.get? c=some o)->Q (some (.ref T)) { s with heap:=h' }) :
  kc (jY prog w) A (lO (.ref z)) Q E s:=by
 obtain⟨a,b,hTO⟩:=S.to;have l1ne:l1≠z/\l1≠TO/\l1≠i1/\l1≠i2:=⟨D.l1z,D.l1TO,D.l1i1,D.l1i2⟩;have zl:z<s.heap.objs.size:=by
  rcases S.f with h|⟨_,_,_,h,_⟩
  .exact ao h
  .exact ao h
 have i1l:i1<s.heap.objs.size:=by obtain⟨_,q,_⟩:=S.h1;exact ao q
 have i2l:i2<s.heap.objs.size:=by obtain⟨_,q,_⟩:=S.h2;exact ao q
 have TOl:TO<s.heap.objs.size:=ao hTO;rcases S.f with hz|⟨T,f1,o,hz,ho,n1,n2,n3,n4,n5⟩
 .refine wpAny_pyNext_zip_item D hz S.ti hTO S.h1 S.h2 S.l1 S.l2 hx hy λh' a1 a2 a3 a4 a5 a6 a7=>hQ h' _ ⟨.inr ⟨_,_,_,a1,a5,cD zl,cD TOl,cD i1l,cD i2l,cD hd⟩,a7 _ _ D.TIz D.TITO D.TIi1 D.TIi2 S.ti,⟨_,_,a2⟩,a3,a4,S.l1.at λo q=>a7 _ _ D.l1z D.l1TO D.l1i1 D.l1i2 q,S.l2.at λo q=>a7 _ _ D.l2z D.l2TO D.l2i1 D.l2i2 q⟩ a5 a7
 .have hT:=S.ty;unfold lO;refine jU (nq (mM (name:=Str.ofString "__next__") hT F.slot_zip_next (lU F.slot_zip_next hT F.entry_zip_next (WD D hz ho S.ti S.h1 S.h2 S.l1 S.l2 hx hy λh' a1 a3 a4 a5 a6 a7=>jX (hQ h' _ ?_ a5 λc o c1 _ c3 c4 q=>a7 c o c1 c3 c4 q)) (F.args_zip_next_1 _))))
  exact⟨.inr ⟨T,true,o,a1,a7 _ _ n1 n3 n4 ho,n1,n2,n3,n4,n5⟩,a7 _ _ D.TIz D.TIi1 D.TIi2 S.ti,⟨a,b,a7 _ _ D.TOz D.TOi1 D.TOi2 hTO⟩,a3,a4,S.l1.at λo q=>a7 _ _ D.l1z D.l1i1 D.l1i2 q,S.l2.at λo q=>a7 _ _ D.l2z D.l2i1 D.l2i2 q⟩
theorem Xv{z TI TO i1 i2 l1 l2 d:Addr}{k:Nat}{xs ys:Array Value}{Q:Option Value->Shared->Prop}(hh:A.handled=none) (D:mq z TI TO i1 i2 l1 l2) (S:QN s.heap z TI TO i1 i2 l1 l2 d k xs ys) (hx:xs[k]?=none)
  (hQ:∀h',(∀c o,c≠z->c≠TO->c≠i1->c≠i2->s.heap.get? c=some o->h'.get? c=some o)->Q none { s with heap:=h' }) :
  kc (jY prog w) A (lO (.ref z)) Q E s:=by
 obtain⟨a,b,hTO⟩:=S.to;rcases S.f with hz|⟨T,f1,o,hz,ho,_⟩
 .exact wpAny_pyNext_zip_end hh D hz S.ti hTO S.h1 S.h2 S.l1 S.l2 (.inl hx) hQ
 .have hT:=S.ty;unfold lO;refine jU (nq (mM (name:=Str.ofString "__next__") hT F.slot_zip_next (lU F.slot_zip_next hT F.entry_zip_next (Wj hh D hz ho S.ti S.h1 S.l1 hx λh' e hk he=>?_) (F.args_zip_next_1 _))))
  obtain⟨oe,h3,h4⟩:=he;refine jU (wpAny_isInstance (T := "StopIteration") (b:=true) ⟨oe,h3,h4⟩ isSubtype_stop ?_);exact jX (hQ _ λc o c1 _ c3 _ q=>hk c o c1 c3 q)
theorem Er:entryFor table "dict.update.loop" = some Builtin.«dict.update.loop»:=entryFor_of_tree (by kernel_rfl)
theorem ze:plainId "dict.update.loop" = true:=by decide +kernel
end
section
variable {K:Type} [DecidableEq K]
def fz(ks:List K) (ws:List Value) (j:Nat):List (K×Value):=((ks.zip ws).take j).foldl (λm p=>mn m p.1 p.2) []
theorem RW{ks:List K}{ws:List Value}{j:Nat}{k:K}{v:Value}(h1:ks[j]?=some k) (h2:ws[j]?=some v):fz ks ws (j+1)=mn (fz ks ws j) k v:=by
 unfold fz;have:(ks.zip ws)[j]?=some (k,v):=eh.mpr ⟨h1,h2⟩;rw[cB,this,Option.toList_some,eZ];rfl
theorem IX(m:List (K×Value)) (k:K) (v:Value):(mn m k v).length<=m.length+1:=by
 unfold mn;split
 .rw [lMq];lia
 .rw [lAq];exact af _
theorem fold_len:∀(l:List (K×Value)) (m:List (K×Value)),(l.foldl (λm p=>mn m p.1 p.2) m).length<=m.length+l.length
 | [],m=>af _
 |p::l,m=>by
  have:=fold_len l (mn m p.1 p.2);have:=IX m p.1 p.2;rw[bD,lCq];lia
theorem TM(ks:List K) (ws:List Value) (j:Nat):(fz ks ws j).length<=j:=by
 have:=fold_len ((ks.zip ws).take j) [];have h2:((ks.zip ws).take j).length<=j:=by rw[lTq];lia
 unfold fz;rw[dX]at this;lia
end
section
variable {prog:kf}{w:ki}{A:Around}{E:Value->Shared->Prop}{s:Shared}{K:Type} [DecidableEq K] {knd:KeyKind prog w K}{R:Result->Shared->Prop}{z TI TO i1 i2 l1 l2 d:Addr}{us ws:List Value}{ks:List K}
theorem QN.keep{h h':Heap}{k:Nat}{xs ys:Array Value}(S:QN h z TI TO i1 i2 l1 l2 d k xs ys) (nd:∀c∈[z,TI,TO,i1,i2,l1,l2],c≠d) (kp:Heap.ExtBut d h h'):QN h' z TI TO i1 i2 l1 l2 d k xs ys:=by
 have q:=λc hc o=>kp c o (nd c hc)
 obtain⟨a,b,hTO⟩:=S.to;refine⟨?_,q TI (by simp) _ S.ti,⟨a,b,q TO (by simp) _ hTO⟩,S.h1.at λo e=>q i1 (by simp) o e,S.h2.at λo e=>q i2 (by simp) o e,S.l1.at λo e=>q l1 (by simp) o e,S.l2.at λo e=>q l2 (by simp) o e⟩
 rcases S.f with hz|⟨T,f1,o,hz,ho,n1,n2,n3,n4,n5⟩
 .exact .inl (q z (by simp) _ hz)
 .exact .inr ⟨T,f1,o,q z (by simp) _ hz,kp _ _ n5 ho,n1,n2,n3,n4,n5⟩
theorem QF(hh:A.handled=none) (D:mq z TI TO i1 i2 l1 l2) (nd:∀c∈[z,TI,TO,i1,i2,l1,l2],c≠d) (hk:∀(j:Nat) (u:Value),us[j]?=some u->∃k,ks[j]?=some k/\knd.is k u=true) (hlen:us.length=ws.length) (hsz:us.length<=ke) :
  ∀(m j:Nat) (i:Int) (s:Shared),us.length-j=m->j<=us.length->QN s.heap z TI TO i1 i2 l1 l2 d j us.toArray ws.toArray->s.heap.DictOf knd d (fz ks ws j) ->
   (∀h' tk,h'.DictOf knd d (fz ks ws us.length)->(∀b o,b≠z->b≠TO->b≠i1->b≠i2->b≠d->s.heap.get? b=some o->h'.get? b=some o)->R (.ok (.ret .none)) { s with heap:=h',toks:=tk }) ->
   lD (jY prog w) A (.builtin "dict.update.loop" ⟨[.ref d,.ref z,.int i 0,.none],[]⟩) R s:=by
 have vl:us.toArray.size=us.length:=aG ..;intro m
 induction m with
 |zero =>
  intro j i s hm hj S dd hR;have hjn:j=us.length:=by lia
  refine ku Er ?_;rw[Around.under_plainId ze _];show kc _ A.in1 (lO (.ref z) >>= _) _ _ s;refine jU (Xv hh D S (by simp;lia) λh' kp=>?_)
  show kc _ A.in1 (Builtin.Dict.addKeywords d [] >>= _) _ _ _;refine jU (jX (jX (hR h' s.toks ?_ λb o b1 b2 b3 b4 _ e=>kp b o b1 b2 b3 b4 e)))
  subst hjn;obtain⟨o,es,ep,ho,r⟩:=dd;exact⟨o,es,ep,kp d o (nd z (by simp)).symm (nd TO (by simp)).symm (nd i1 (by simp)).symm (nd i2 (by simp)).symm ho,r⟩
 |succ m ih =>
  intro j i s hm hj S dd hR;obtain⟨u,hu⟩:∃u,us[j]?=some u:=⟨_,gEg (by lia)⟩
  obtain⟨v,hv⟩:∃v,ws[j]?=some v:=⟨_,gEg (by lia)⟩
  obtain⟨k,hk1,hk2⟩:=hk j u hu;refine ku Er ?_;rw[Around.under_plainId ze _];show kc _ A.in1 (lO (.ref z) >>= _) _ _ s;have hdl:d<s.heap.objs.size:=by obtain⟨_,_,_,ho,_⟩:=dd;exact ao ho
  refine jU (VQ D hdl S (x:=u) (y:=v) (by simpa using hu) (by simpa using hv) λh' T S' hT kp=>?_)
  have dd':h'.DictOf knd d (fz ks ws j):=by
   obtain⟨o,es,ep,ho,r⟩:=dd;exact⟨o,es,ep,kp d o (nd z (by simp)).symm (nd TO (by simp)).symm (nd i1 (by simp)).symm (nd i2 (by simp)).symm ho,r⟩
  refine jU (kr ?_);have tT:Shared.TypeIs { s with heap:=h' } (.ref T) "tuple" := ⟨_,hT,rfl⟩
  refine jU (wpAny_tryCatch ?_);unfold Builtin.Dict.pairItems;refine jU (nv tT ?_);rw[pN (by decide)]
  refine jU (mW hT rfl ?_);refine jX ?_;refine kr ?_;refine wpAny_dictSet_pairs (hsz:=by have:=TM ks ws j;lia) hk2 dd' λh2 dd2 sb=>?_
  rw[←RW hk1 hv]at dd2;refine jX ⟨kY ze _,ih (j+1) (i+1) _ (by lia) (by lia) (S'.keep nd sb.extBut) dd2 λh3 tk3 dd3 kp3=>?_⟩
  exact hR h3 tk3 dd3 λb o b1 b2 b3 b4 b5 e=>kp3 b o b1 b2 b3 b4 b5 (sb.extBut b o b5 (kp b o b1 b2 b3 b4 e))
end
section
variable {prog:kf}{w:ki}{A:Around}{E:Value->Shared->Prop}{s:Shared}{K:Type} [DecidableEq K] {knd:KeyKind prog w K}{z TI TO i1 i2 l1 l2:Addr}{us ws:List Value}{ks:List K}
theorem Sz{Q:Value->Shared->Prop}(hh:A.handled=none) (D:mq z TI TO i1 i2 l1 l2) (hz:IsZip s.heap z TI TO .none) (hTI:mL s.heap TI (.ref i1) (.ref i2)) (hTO:∃a b,mL s.heap TO a b) (h1:s.heap.IsListIter i1 l1 0) (h2:s.heap.IsListIter i2 l2 0) (hl1:s.heap.IsList l1 us.toArray) (hl2:s.heap.IsList l2 ws.toArray)
  (hk:∀(j:Nat) (u:Value),us[j]?=some u->∃k,ks[j]?=some k/\knd.is k u=true) (hlen:us.length=ws.length) (hsz:us.length<=ke)
  (h:∀h' tk,h'.DictOf knd s.heap.objs.size (fz ks ws us.length)->(∀b o,b≠z->b≠TO->b≠i1->b≠i2->s.heap.get? b=some o->h'.get? b=some o)->Q (.ref s.heap.objs.size) { s with heap:=h',toks:=tk }) :
  kc (jY prog w) A (call (.type "dict") [.ref z]) Q E s:=by
 refine callType_codes (Q₁:=λobj s₁=>obj = .ref s.heap.objs.size/\s₁={ s with heap:=s.heap.push { cls:=.type "dict", data:=.dict #[] } }) F.kt_called_dict (F.kt_typeCall_dict_1 _) F.entry_dict_init (kt_code_dict_new _ ⟨rfl,rfl⟩) ?_
 rintro obj s₁ ⟨rfl,rfl⟩;have hnew:(s.heap.push { cls:=.type "dict", data:=.dict #[] }).DictOf knd s.heap.objs.size []:=fY.new s.heap;refine⟨hnew.typeIs,F.args_dict_init_2 _ _,?_⟩;have up:∀b o,s.heap.get? b=some o->(s.heap.push { cls:=.type "dict", data:=.dict #[] }).get? b=some o:=λb o e=>ak _ e
 have hT:Shared.TypeIs { s with heap:=s.heap.push { cls:=.type "dict", data:=.dict #[] } } (.ref z) "zip" := ⟨_,up _ _ hz,rfl⟩
 unfold Builtin.«dict.__init__»;refine jU ?_;unfold Builtin.Dict.selfAndRest;refine jU (mT hnew.typeIs ?_);show kc _ _ (pure (s.heap.objs.size,[cj z])) _ _ _;refine jX ?_;show kc _ _ (Builtin.Dict.updateFrom "dict.__init__" s.heap.objs.size (.ref z) [] .none) _ _ _;unfold Builtin.Dict.updateFrom;refine jU (nv hT ?_);rw[pN (by decide)]
 refine jU (R5 (up _ _ hz) (by simp[hh]) λh3 tk3 kp3=>?_)
 rw[pN (by rfl)]
 refine jU (mj ?_);have kp:∀b o,s.heap.get? b=some o->h3.get? b=some o:=λb o e=>kp3 b o (up b o e)
 refine jU (wpAny_pyIter_zip (kp _ _ hz) ?_);obtain⟨ta,tb,hTO⟩:=hTO;have lt:∀c∈[z,TI,TO,i1,i2,l1,l2],c≠s.heap.objs.size:=λc hc=>by
  refine aE ?_;simp only[ae,gf,or_false]at hc;rcases hc with rfl|rfl|rfl|rfl|rfl|rfl|rfl
  .exact ao hz
  .exact ao hTI
  .exact ao hTO
  .obtain ⟨_,q,_⟩:=h1;exact ao q
  .obtain ⟨_,q,_⟩:=h2;exact ao q
  .obtain ⟨_,q,_⟩:=hl1;exact ao q
  .obtain ⟨_,q,_⟩:=hl2;exact ao q
 have dd3:h3.DictOf knd s.heap.objs.size (fz ks ws 0):=by
  obtain⟨o,es,ep,ho,r⟩:=hnew;exact⟨o,es,ep,kp3 _ _ ho,r⟩
 refine jX ⟨kY ze _,QF (by simp[hh]) D lt hk hlen hsz us.length 0 0 _ (jM _) (bp _) ⟨.inl (kp _ _ hz),kp _ _ hTI,⟨_,_,kp _ _ hTO⟩,h1.at λo e=>kp _ o e,h2.at λo e=>kp _ o e,hl1.at λo e=>kp _ o e,hl2.at λo e=>kp _ o e⟩ dd3 λh4 tk4 dd4 kp4=>⟨rfl,h h4 tk4 dd4 λb o b1 b2 b3 b4 e=>kp4 b o b1 b2 b3 b4 (aE (ao e)) (kp b o e)⟩⟩
end
end Mo
namespace Mr
open PySem PySem.W PySem.Spec PyProof.Rows L2 Mo
def fv(ns ms:List Int):List (oU×V):=(ns.zip ms).foldl (λm p=>wq m (.inl p.1) (.int p.2)) []
theorem Jy:∀(ns ms:List Int) (ws:List Value) (m:List (oU×V)) (m':List (oU×Value)),pY (ms.map V.int) ws->KV m m'->KV ((ns.zip ms).foldl (λm p=>wq m (.inl p.1) (.int p.2)) m) (((ns.map aH).zip ws).foldl (λ(m:List (oU×Value)) p=>mn m p.1 p.2) m')
 | [],ms,ws,m,m',_,h=>by simpa using h
 |n::ns,[],ws,m,m',hv,h=>by
  cases hv;simpa using h
 |n::ns,k::ms,ws,m,m',hv,h=>by
  cases hv with
  |cons r t =>
   rw[au,gR,gR,bD,bD];exact Jy ns ms _ _ _ t (h.put _ r)
theorem Uj(ns ms:List Int):(fv ns ms).length<=ns.length:=by
 have key:∀(l:List (Int×Int)) (m:List (oU×V)),(l.foldl (λm p=>wq m (.inl p.1) (.int p.2)) m).length<=m.length+l.length:=by
  intro l
  induction l with
  |nil=>exact λm=>af _
  |cons p l ih =>
   intro m;have:=ih (wq m (.inl p.1) (.int p.2));have:=wJ m (aH p.1) (V.int p.2);rw[bD,lCq];lia
 have:=key (ns.zip ms) [];rw[dX,iD]at this;unfold fv;lia
section
variable {X:Cx}
def Zc(K:W.Frag) (xs:List V) (H:Hp) (Q:VK):Prop:=∃a b ns ms,xs=[.ref a,.ref b]/\sS K H a (ns.map V.int)/\sS K H b (ms.map V.int)/\ns.length=ms.length/\∀l,H l=none->Q (.ref l) (qP H l (.dK (fv ns ms)))
theorem Wh{e f:Expr}{ta:TA}{p0 p pos0 pos:Pos}(hc:X.calm=true) (gl:Gl X "dict") (ml:X.mg "dict" = none) (hg:Gl X "zip") (hm:X.mg "zip" = none) (ha:PA X [e,f] ta)
  (he:ko [.Call (.Name "zip" p) [e,f] [] pos] X.env=(false,eval (.Call (.Name "zip" p) [e,f] [] pos) X.env)::ko [] X.env:=by rfl) (hs:ko [e,f] X.env=[(false,eval e X.env),(false,eval f X.env)]:=by rfl) (hs2:ko [f] X.env=[(false,eval f X.env)]:=by rfl) :
  PE X (.Call (.Name "dict" p0) [.Call (.Name "zip" p) [e,f] [] pos] [] pos0) (Mj (Zc X.K) ta):=by
 intro ou s σ H Q I h;refine kR (yj I gl ml boot_dict ?_ (by decide) (by decide))
 refine bX ?_ he (by rfl)
 rw[he];show kc _ _ (spliced ((false,eval (.Call (.Name "zip" p) [e,f] [] pos) X.env)::kZ pos0 (ko [] X.env))) _ _ s;refine Calls.spliced_cons ?_;refine Call_ (yj I hg hm boot_zip (bX (thn (ha pos ou s σ H _ I h) λus s1 hz1=>?_) (by rw[hs,hs2]) (by rw[hs2];rfl)))
 obtain⟨vs,H1,I1,r1,q1⟩:=hz1;obtain⟨a,b,ns,ms,e1,hq1,hq2,hl,q⟩:=q1;subst e1;obtain⟨u,v,rfl,ru,rv⟩:=SV r1;cases ru;cases rv;obtain⟨its1,v1,p1,z1⟩:=I1.list hq1;obtain⟨its2,v2,p2,z2⟩:=I1.list hq2;have n1:=v1.length;have n2:=v2.length;rw[lMq]at n1 n2 z1;have al:a<s1.heap.objs.size:=let ⟨_,ho,_⟩:=p1.isList;ao ho
 have bl:b<s1.heap.objs.size:=let ⟨_,ho,_⟩:=p2.isList;ao ho
 refine call_zip_2 p1.isList p2.isList λg hz hTI hTO h1 h2 hsz hk=>Calls.spliced_nil ?_
 have zD:=Xt s1.heap.objs.size;have D:mq (s1.heap.objs.size+4) (s1.heap.objs.size+2) (s1.heap.objs.size+3) s1.heap.objs.size (s1.heap.objs.size+1) a b:=zipApart_new al bl;refine Sz (s:={ s1 with heap:=g }) (knd:=qv X.prog X.w) (ks:=ns.map aH) (I1.ok.hd hc) D hz hTI ⟨_,_,hTO⟩ h1 h2 (p1.isList.at λo e=>hk _ o e) (p2.isList.at λo e=>hk _ o e) (λj u hu=>?_) (by lia) (by lia) λh' tk dd kp=>?_
 .have hj:j<ns.length:=by have:=(gSq.mp hu).1;lia
  obtain⟨u',hu',ru⟩:=v1.get (i:=j) (x:=.int ns[j]) (by rw[gMq,gEg hj];rfl)
  rw[hu]at hu';cases hu';obtain⟨t,rfl⟩:=ru;exact⟨.inl ns[j],by rw[gMq,gEg hj];rfl,Ex _ t⟩
 .have hsz':({ s1 with heap:=g }:Shared).heap.objs.size=s1.heap.objs.size+5:=hsz
  rw[hsz']at dd;have kv:KV (fv ns ms) (fz (ns.map aH) its2 its1.length):=by
   have:=Jy ns ms its2 [] [] v2 .nil;unfold fz;rw[cA (by rw[iD,lMq];lia)]
   exact this
  refine⟨.ref (s1.heap.objs.size+5),qP H1 (s1.heap.objs.size+5) (.dK (fv ns ms)),I1.laid (t':=tk) (λb o e=>?_) (jw _ _) (EO (by have:=Uj ns ms;lia) (beq_eq_false_iff_ne.mpr (cD (gk 5 I1.big))) kv dd),by rw[hsz'];rfl,q _ (I1.hok.fresh (jw _ _))⟩
  have lt:b<s1.heap.objs.size:=ao e;exact kp b o (aE (gk 4 lt)) (aE (gk 3 lt)) (aE lt) (aE (gk 1 lt)) (hk b o e)
end
end Mr
namespace Z
open PySem L2 Mr
def dz(ns ms:List Int):List (oU×D):=(ns.zip ms).foldl (λm p=>xZ m (.inl p.1) (.int p.2)) []
def R6:List D->Option (List (oU×D))
 | [.list as,.list bs]=>(rJ as).bind λns=>(rJ bs).bind λms=>if ns.length=ms.length then some (dz ns ms) else none
 |_=>none
def YA(m:ML):MK:=λS=>(m S).bind λx=>(R6 x.1).map λkvs=>(.owd kvs,x.2)
theorem X6(m:ML) (S:AS):YA m S=(m S).bind λx=>(R6 x.1).map λkvs=>(.owd kvs,x.2):=rfl
theorem KR{ns ms:List Int}(h:ns.length=ms.length):R6 [.list (ns.map D.int),.list (ms.map D.int)]=some (dz ns ms):=by
 show ((rJ (ns.map D.int)).bind λns=>(rJ (ms.map D.int)).bind λms=>if ns.length=ms.length then some (dz ns ms) else none)=_
 rw[uC,uC];simp[h]
section
variable {K:W.Frag}{ta:TA}{m:ML}
theorem TZ{Hf:Hp}(ns ms:List Int):tN K Hf (dz ns ms) (fv ns ms):=by
 have key:∀(l:List (Int×Int)) (d:List (oU×D)) (k:List (oU×V)),tN K Hf d k->tN K Hf (l.foldl (λm p=>xZ m (.inl p.1) (.int p.2)) d) (l.foldl (λm p=>wq m (.inl p.1) (.int p.2)) k):=by
  intro l
  induction l with
  |nil=>exact λd k h=>h
  |cons p l ih=>exact λd k h=>ih _ _ (Gb h .int)
 exact key _ _ _ ⟨rfl,λi d v h=>by simp at h⟩
theorem WS(hm:QI K ta m):SK K (Mj (Zc K) ta) (YA m):=by
 intro H₀ Hf₀ Hf S σ H Fs av S' R e Q q;obtain⟨x,e1,e⟩:=oBq.mp e;obtain⟨kvs,e2,e⟩:=oMq.mp e;cases e;refine hm R (ds:=x.1) (S':=x.2) e1 _ λHf1 H1 Fs1 vs t1 R1 r1=>?_
 have sh:∃ns ms,x.1=[.list (ns.map D.int),.list (ms.map D.int)]/\ns.length=ms.length/\kvs=dz ns ms:=by
  unfold R6 at e2;split at e2
  .rename_i as bs hx;obtain⟨ns,f1,f2⟩:=oBq.mp e2;obtain⟨ms,f3,f4⟩:=oBq.mp f2;split at f4
   .rename_i hl;cases f4;exact⟨ns,ms,by rw[hx,uO f1,uO f3],hl,rfl⟩
   .cases f4
  .cases e2
 obtain⟨ns,ms,hx,hl,rfl⟩:=sh;rw[hx]at r1;obtain⟨va,w1,rfl,ra,r2⟩:=r1.cons_inv;obtain⟨vb,w2,rfl,rb,r3⟩:=r2.cons_inv;have:=r3.nil_inv;subst this;obtain⟨a,us1,rfl,g1,g2⟩:=ra.list_inv;obtain⟨b,us2,rfl,g3,g4⟩:=rb.list_inv;have u1:=rO g2;have u2:=rO g4;subst u1;subst u2;refine⟨a,b,ns,ms,rfl,sS.of g1,sS.of g3,hl,λl hn=>?_⟩
 obtain⟨t4,R4,n1,n2,n3⟩:=R1.new (o:=.dK (fv ns ms)) hn;exact q _ _ _ (.ref l) [l] (t1.trans t4) R4 (.owd pD n1 (TZ ns ms)) ((yt.one R1 hn).back t1)
end
end Z
namespace Ms
open PySem
def Up(xs:Array Nat):Prop:=∀a b u v:Nat,xs[a]?=some u->xs[b]?=some v->a<b->u<v
theorem Up.list{xs:Array Nat}(h:xs.toList.Pairwise (· < ·)):Up xs:=λa b u v ha hb hl=>by
 rw[←az]at ha hb;obtain⟨la,ea⟩:=gSq.mp ha;obtain⟨lb,eb⟩:=gSq.mp hb;have:=bR.mp h a b la lb hl;rw[ea,eb]at this;exact this
theorem Up.pw{xs:Array Nat}(h:Up xs):xs.toList.Pairwise (· < ·):=bR.mpr λa b la lb hl=>h a b _ _ (by rw[←az];exact gEg la) (by rw[←az];exact gEg lb) hl
theorem Dv{xs:Array Nat}{j:Nat}(hs:Up xs):∀(fuel lo hi:Nat),hi-lo<=fuel->lo<=hi->hi<=xs.size->(∀k v,xs[k]?=some v->k<lo->v<j)->(∀k v,xs[k]?=some v->hi<=k->j<=v) ->
  ∃i,SetTable.below.go xs j fuel lo hi=i/\i<=xs.size/\(∀k v,xs[k]?=some v->k<i->v<j)/\∀k v,xs[k]?=some v->i<=k->j<=v
 |0,lo,hi,hf,hl,hh,h1,h2=>⟨lo,by rw[SetTable.below.go],by lia,h1,λk v e hk=>h2 k v e (by lia)⟩
 |fuel+1,lo,hi,hf,hl,hh,h1,h2=>by
  rw[SetTable.below.go]
  by_cases c:lo<hi
  .rw [pN c];have hm:(lo+hi) / 2<xs.size:=by lia
   have em:xs[(lo+hi) / 2]?=some (xs[(lo+hi) / 2]'hm):=ai hm;have eg:xs.getD ((lo+hi) / 2) j=xs[(lo+hi) / 2]'hm:=by simp[il,hm]
   show ∃i,(if xs.getD ((lo+hi) / 2) j<j then SetTable.below.go xs j fuel ((lo+hi) / 2+1) hi else SetTable.below.go xs j fuel lo ((lo+hi) / 2))=i/\_
   rw[eg]
   by_cases d:xs[(lo+hi) / 2]'hm<j
   .rw [pN d];refine Dv hs fuel _ _ (by lia) (by lia) hh (λk v e hk=>?_) h2
    by_cases q:k=(lo+hi) / 2
    .subst q;rw[em]at e;cases e;exact d
    .exact jg (hs _ _ _ _ e em (by lia)) d
   .rw [pJ d];refine Dv hs fuel _ _ (by lia) (by lia) (by lia) h1 λk v e hk=>?_
    by_cases q:k=(lo+hi) / 2
    .subst q;rw[em]at e;cases e;lia
    .have:=hs _ _ _ _ em e (by lia)
     lia
  .rw [pJ c];exact⟨lo,rfl,by lia,h1,λk v e hk=>h2 k v e (by lia)⟩
theorem FQ{xs:Array Nat}(hs:Up xs) (j:Nat):SetTable.below xs j<=xs.size/\(∀k v,xs[k]?=some v->k<SetTable.below xs j->v<j)/\∀k v,xs[k]?=some v->SetTable.below xs j<=k->j<=v:=by
 obtain⟨i,e,h1,h2,h3⟩:=Dv (j:=j) hs xs.size 0 xs.size (by lia) (bp _) (af _) (λk v _ hk=>absurd hk (cQ _)) (λk v e hk=>by
  have:=(bf.mp e).1;lia)
 have:SetTable.below xs j=i:=e;rw[this];exact⟨h1,h2,h3⟩
theorem LG{xs:Array Nat}(hs:Up xs) {j:Nat}(hn:∀k:Nat,xs[k]? ≠ some j):Up (SetTable.insertAt xs (SetTable.below xs j) j):=by
 refine Up.list ?_;rw[SetTable.toList_insertAt];obtain⟨h1,h2,h3⟩:=FQ hs j;generalize SetTable.below xs j=b at h1 h2 h3;have hp:=hs.pw;rw[aO];refine⟨hp.sublist (bC _ _),cg.mpr ⟨λv hv=>?_,hp.sublist (bV _ _)⟩,λu hu v hv=>?_⟩
 .obtain ⟨k,hk⟩:=ar.mp hv;rw[cZ,az]at hk;have a:=h3 _ v hk (by lia)
  have:v≠j:=λz=>hn _ (z ▸ hk)
  lia
 .obtain ⟨k,hk⟩:=ar.mp hu;rw[jd]at hk;split at hk
  .rename_i q;rw[az]at hk;have a:=h2 k u hk q;rcases ae.mp hv with z|z
   .rw [z];exact a
   .obtain ⟨k2,hk2⟩:=ar.mp z;rw[cZ,az]at hk2;exact hs _ _ _ _ hk hk2 (by lia)
  .cases hk
theorem U1:Up #[]:=λa b u v h=>by simp at h
theorem NM(n:Nat):Up (Array.range n):=λa b u v ha hb hl=>by
 rw[Array.getElem?_range]at ha hb;split at ha <;> split at hb
 .cases ha;cases hb;exact hl
 .cases hb
 .cases ha
 .cases ha
structure Tb (led:Bool) (t:SetTable):Prop where
 up:Up t.place
 dm:t.dummies=#[]
 led:t.led=led
theorem Tb.fresh(led:Bool):Tb led (.fresh 0 0 led):=⟨U1,rfl,rfl⟩
theorem Tb.standIn{led:Bool}{t:SetTable}(h:Tb led t) (n:Nat):Tb led (t.standIn n):=⟨NM n,rfl,h.led⟩
theorem Tb.orStandIn{led:Bool}{t:SetTable}(h:Tb led t) (n:Nat):Tb led (t.orStandIn n):=by
 unfold SetTable.orStandIn;split
 .exact h
 .exact h.standIn n
theorem Tb.plain{led:Bool}{t:SetTable}(h:Tb led t) (b:Bool):Tb led { t with plain:=b }:=⟨h.up,h.dm,h.led⟩
theorem Dx{t:SetTable}(hd:t.dummies=#[]) {h:Int}:∀(fuel:Nat) (p:SetTable.Probe) (m:SetTable.Met),p.dummy=none->SetTable.probe.go t (λ_=>h+1) h fuel p=some m->∃j,m = .empty j none/\t.slot j = .empty
 |0,p,m,_,e=>by rw[SetTable.probe.go]at e;cases e
 |fuel+1,p,m,hp,e=>by
  rw[SetTable.probe.go]at e;have adv:(t.advance p).dummy=none:=by
   unfold SetTable.advance;split <;> exact hp
  cases hs:t.slot p.j with
  |empty =>
   rw[hs]at e;cases e;exact⟨p.j,by rw[hp],hs⟩
  |dummy =>
   exfalso;unfold SetTable.slot at hs;simp only at hs;split at hs
   .cases hs
   .split at hs
    .rename_i q;unfold SetTable.has at q;rw[hd]at q;simp at q
    .cases hs
  |live i =>
   rw[hs]at e;have:((h+1:Int) == h)=false:=by
    rw[beq_eq_false_iff_ne];lia
   simp only[this,de,if_false]at e;exact Dx hd fuel _ m adv e
theorem LY{t:SetTable}(hs:Up t.place) {j:Nat}(h:t.slot j = .empty):∀k:Nat,t.place[k]? ≠ some j:=by
 intro k hk;obtain⟨h1,h2,h3⟩:=FQ hs j;unfold SetTable.slot at h;simp only at h;have hi:=(bf.mp hk).1;have e:k=SetTable.below t.place j:=by
  rcases gX k (SetTable.below t.place j) with c|c|c
  .have:=h2 k j hk c;lia
  .exact c
  .have hb:=ai (jg c hi);have a:=h3 _ _ hb (af _);have:=hs _ _ _ _ hb hk c;lia
 rw[←e,hk]at h;simp at h
theorem UG{led:Bool}{t:SetTable}(h:Tb led t) (es:Array (Int×Value)) (hh:Int) (x:Value):Tb led (layNew t es hh x).2.1:=by
 unfold layNew;split
 .rename_i slot wd e;refine Tb.orStandIn ?_ _;unfold SetTable.freeSlot at e;split at e
  .rename_i j d em;obtain⟨j',e1,e2⟩:=Dx h.dm _ _ _ rfl em;cases e1;cases e;have hf:=LY h.up e2;refine⟨LG h.up hf,?_,h.led⟩;show (if SetTable.has t.dummies j then SetTable.eraseAt t.dummies (SetTable.below t.dummies j) else t.dummies)=#[]
   rw[h.dm];have:SetTable.has #[] j=false:=by simp[SetTable.has]
   rw[this];rfl
  .cases e
 .exact h.standIn _
theorem NC{led:Bool}{t:SetTable}(h:Tb led t) (es:Array (Int×Value)) (n:Nat):Tb led (mK t es n).2.1:=by
 unfold mK;split
 .rename_i t' order e;dsimp only;split
  .unfold SetTable.relaid SetTable.laid at e;obtain⟨ow,e1,e2⟩:=oBq.mp e;cases e2;refine⟨Up.list ?_,rfl,h.led⟩;show (((bN _).filterMap λj=>(ow.getD j none).map λx=>(j,x)).map (·.1)).Pairwise (· < ·)
   rw[bg,List.pairwise_filterMap];refine aY.imp ?_ eT;intro a b hab x hx y hy;obtain⟨_,_,rfl⟩:=oMq.mp hx;obtain⟨_,_,rfl⟩:=oMq.mp hy;exact hab
  .exact h.standIn _
 .exact h.standIn _
end Ms
namespace Ms
open PySem PyProof.Rows Mr
def SI(prog:kf) (w:ki) (h:Heap) (a:Addr) (F:List Int):Prop :=
 ∃o es ep t,h.get? a=some o/\o.ExactSet/\o.data = .set es ep t/\ElemsOf (kQ prog w) es.toList/\(∀e∈es.toList,∃k u,e.2 = .int k u)/\(es.toList.map λe=>Mr.intOf e.2).Perm F/\es.size<kS/\t.fits es.size=true/\Tb (!w.params.followText "set-order") t
def wU(F:List Int) (k:Int):List Int:=if k∈F then F else F++[k]
section
variable {prog:kf}{w:ki}{A:Around}{E:Value->Shared->Prop}{s:Shared}
theorem SI.keep{h h':Heap}{a:Addr}{F:List Int}(x:SI prog w h a F) (k:∀o,h.get? a=some o->h'.get? a=some o):SI prog w h' a F:=by
 obtain⟨o,es,ep,t,ho,r⟩:=x;exact⟨o,es,ep,t,k o ho,r⟩
theorem G1{h:Heap}{a:Addr}{o:Obj}{es:Array (Int×Value)}{ep:Nat}{t:SetTable}(ho:h.get? a=some o) (hd:o.data = .set es ep t) (es':Array (Int×Value)) (t':SetTable) :
  (h.update a (Obj.putSet es' t')).get? a=some { o with data:=.set es' (ep+1) t' }:=by
 have:=iG (Obj.putSet es' t') ho (by rw[putSet_of es' t' hd];rfl)
 rw[putSet_of es' t' hd]at this;exact this
theorem TQ{a:Addr}{F:List Int}{k:Int}{u:Tok}{Q:Bool->Shared->Prop}(hS:SI prog w s.heap a F) (hroom:F.length+1<kS)
  (h:∀b h',cC a s.heap h'->SI prog w h' a (wU F k)->Q b { s with heap:=h' }) :
  kc (jY prog w) A (setAddHashed a (.int k u) ((kQ prog w).hash k)) Q E s:=by
 obtain⟨o,es,ep,t,ho,hex,hd,hel,hin,hp,hb,hf,hT⟩:=hS;have hkey:=nj prog w k u;have hsz:es.size=F.length:=by
  have:=hp.length_eq
  rwa [lMq,ax]at this
 have his:∀e∈es.toList,(kQ prog w).is k e.2=true->Mr.intOf e.2=k:=λe he hk=>by
  obtain⟨m,v,ev⟩:=hin e he;rw[ev]at hk ⊢;exact(kQ prog w).inj _ _ _ (nj prog w m v) hk
 unfold setAddHashed setAddHashedIn;refine kr (jU (wpAny_setState_of ho hd hf ?_));dsimp only;rw[byScan_of (knd:=kQ prog w) rfl hb hel];simp only[↓reduceIte];unfold setAddByScan;refine jU ?_;refine jU (mj ?_);refine jU (wpAny_setScan_of hkey ho hd hf hel ?_);cases hr:iY (λe=>(kQ prog w).is k e.2) es.toList with
 |some j =>
  dsimp only;obtain⟨hj,hpj,_⟩:=List.findIdx?_eq_some_iff_getElem.mp hr;have hm:k∈F:=hp.mem_iff.mp (mMq.mpr ⟨_,gRq hj,his _ (gRq hj) hpj⟩);refine jX (jX ?_);have e:s={ s with heap:=s.heap }:=by cases s;rfl
  rw[e];refine h _ s.heap (cC.refl a s.heap) ?_;unfold wU;rw[pN hm];exact⟨o,es,ep,t,ho,hex,hd,hel,hin,hp,hb,hf,hT⟩
 |none =>
  dsimp only;have hm:k∉F:=λz=>by
   obtain⟨e,he,ek⟩:=mMq.mp (hp.mem_iff.mpr z);have:=gZ.mp hr e he;obtain⟨m,v,ev⟩:=hin e he;rw[ev]at ek this;have ek':m=k:=ek;rw[ek',nj]at this;cases this
  have hgw:∀(b:Bool) {z:Shared}{Q':Unit->Shared->Prop},Q' () z->kc (jY prog w) A (match b with|true=>rule "set.scan.the-table-gave-way" |false=>pure ()) Q' E z:=λb z Q' hq=>by cases b <;> first|exact jX hq|exact mj hq
  have hperm:=layNew_perm t es ((kQ prog w).hash k) (.int k u);have hfits:=layNew_fits t es ((kQ prog w).hash k) (.int k u);have hT1:=UG hT es ((kQ prog w).hash k) (.int k u);generalize hL:layNew t es ((kQ prog w).hash k) (.int k u)=L at hperm hfits hT1 ⊢;obtain⟨es1,t1,wasDummy,gave⟩:=L;dsimp only at hperm hfits hT1 ⊢;rw[dv]at hperm;have hel1:ElemsOf (kQ prog w) es1.toList:=(hel.push hkey rfl).perm hperm;have hin1:∀e∈es1.toList,∃k u,e.2 = .int k u:=λe he=>by
   rcases mAq.mp (hperm.mem_iff.mp he) with z|z
   .exact hin e z
   .rw [mSq.mp z];exact⟨k,u,rfl⟩
  have hp1:(es1.toList.map λe=>Mr.intOf e.2).Perm (wU F k):=by
   unfold wU;rw[pJ hm];refine(hperm.map _).trans ?_;rw[mBq];exact hp.append_right _
  have hz1:es1.size=es.size+1:=by
   have:=hperm.length_eq
   rwa [lAq,ax,ax]at this
  have hb1:es1.size<kS:=by rw[hz1,hsz];exact hroom
  refine jU (hgw _ ?_);have fin:∀{t2:SetTable},t2.fits es1.size=true->Tb (!w.params.followText "set-order") t2->∀{R:Option Bool->Shared->Prop},(∀h',cC a s.heap h'->SI prog w h' a (wU F k)->R (some true) { s with heap:=h' }) ->
    kc (jY prog w) A (do
     storeSet a es1 t2
     if (!wasDummy && t2.tooFull)=true then do
       (match (mK t2 es1 (SetTable.grown es1.size)).2.2 with|true=>rule "set.scan.the-table-gave-way" |false=>pure ())
       storeSet a (mK t2 es1 (SetTable.grown es1.size)).1 (mK t2 es1 (SetTable.grown es1.size)).2.1
       pure (some true)
      else pure (some true)) R E s:=by
   intro t2 hf2 hT2 R hR;refine jU (wpAny_storeSet_of ho hd ?_ (fits_of_scanBound hb1));have g1:=G1 ho hd es1 t2;have sb1:=cC.update s.heap a (Obj.putSet es1 t2);split
   .have q1:=relayAll_perm t2 es1 (SetTable.grown es1.size);have q2:=relayAll_fits t2 es1 (SetTable.grown es1.size);have q3:=NC hT2 es1 (SetTable.grown es1.size);generalize mK t2 es1 (SetTable.grown es1.size)=V at q1 q2 q3 ⊢;obtain⟨es2,t3,gv⟩:=V;dsimp only at q1 q2 q3 ⊢;have hz2:es2.size=es1.size:=by
     have:=q1.length_eq
     rwa [ax,ax]at this
    refine jU (hgw _ ?_);refine jU (wpAny_storeSet_of g1 rfl ?_ (fits_of_scanBound (by rw[hz2];exact hb1)))
    have g2:=G1 g1 rfl es2 t3;exact jX (hR _ (sb1.trans (cC.update _ a _)) ⟨_,es2,_,t3,g2,hex,rfl,hel1.perm q1,λe he=>hin1 e (q1.mem_iff.mp he),(q1.map _).trans hp1,by rw[hz2];exact hb1,q2,q3⟩)
   .exact jX (hR _ sb1 ⟨_,es1,_,t2,g1,hex,rfl,hel1,hin1,hp1,hb1,hf2,hT2⟩)
  split
  .refine jU ?_;rw[hashByValue_scannable 8 (x:=.int k u) rfl];refine jX ?_;refine fin ?_ ?_ λh' sb hS'=>?_
   .split
    .exact hfits
    .exact SetTable.fits_plain_off hfits
   .split
    .exact hT1
    .exact hT1.plain false
   .dsimp only;exact jX (h _ h' sb hS')
  .refine jU (jX ?_);simp only[↓reduceIte];refine fin hfits hT1 λh' sb hS'=>?_
   dsimp only;exact jX (h _ h' sb hS')
end
def dd(ns:List Int):List Int:=ns.foldl wU []
theorem Km(ns:List Int) (k:Int):dd (ns++[k])=wU (dd ns) k:=by
 unfold dd;rw[eZ];rfl
theorem M1(F:List Int) (k:Int):(wU F k).length<=F.length+1:=by
 unfold wU;split
 .lia
 .simp
theorem Ol{F:List Int}{k x:Int}:x∈wU F k↔x∈F∨x=k:=by
 unfold wU;split
 .rename_i h;exact⟨.inl,λq=>q.elim id λq=>q ▸ h⟩
 .simp
theorem Rp{F:List Int}{k:Int}(h:F.Nodup):(wU F k).Nodup:=by
 unfold wU;split
 .exact h
 .rename_i q;rw[nAq];exact⟨h,by simp,λx hx y hy z=>q (by rw[mSq.mp hy]at z;rw[←z];exact hx)⟩
theorem AZ:∀(ns F:List Int),(ns.foldl wU F).length<=F.length+ns.length/\(∀x,x∈ns.foldl wU F↔x∈F∨x∈ns)/\(F.Nodup->(ns.foldl wU F).Nodup)
 | [],F=>⟨by simp,by simp,λh=>h⟩
 |n::ns,F=>by
  obtain⟨h1,h2,h3⟩:=AZ ns (wU F n);have:=M1 F n;rw[bD,lCq];refine⟨by lia,λx=>?_,λh=>h3 (Rp h)⟩
  rw[h2 x,Ol,ae,or_assoc]
theorem Hu(ns:List Int):(dd ns).length<=ns.length:=by
 have:=(AZ ns []).1;simpa [dd] using this
theorem zY{ns:List Int}{x:Int}:x∈dd ns↔x∈ns:=by
 have:=(AZ ns []).2.1 x;simpa [dd] using this
theorem JA(ns:List Int):(dd ns).Nodup:=(AZ ns []).2.2 aU
section
variable {prog:kf}{w:ki}{A:Around}{E:Value->Shared->Prop}{s:Shared}{R:Result->Shared->Prop}{l I S:Addr}{vs:List Value}{ns:List Int}
theorem N3(hh:A.handled=none) (hi:kz vs ns) (hlI:l≠I) (hSI:S≠I) (hSl:S≠l) (hb:ns.length+1<kS):∀(k j:Nat) (z:Shared),vs.length-j=k->j<=vs.length->z.heap.IsListIter I l j->z.heap.IsList l vs.toArray->SI prog w z.heap S (dd (ns.take j)) ->
  (∀h' tk,SI prog w h' S (dd ns)->(∀b o,b≠I->b≠S->z.heap.get? b=some o->h'.get? b=some o)->R (.ok (.ret .none)) { z with heap:=h',toks:=tk }) ->
  lD (jY prog w) A (.builtin "set.update.loop" ⟨[.ref S,.ref I],[]⟩) R z:=by
 have W:=Walks.list (prog:=prog) (w:=w) (A:=A.in1) hh I l hlI vs.toArray;have vl:vs.toArray.size=vs.length:=aG ..;have hln:=hi.length;intro k
 induction k with
 |zero =>
  intro j z hk hj hst hL hS hR;have hjn:j=vs.toArray.size:=by rw[vl];lia
  refine ku PyProof.Rows.F.entry_set_update_loop ?_;rw[Around.under_plainId PyProof.Rows.F.plain_set_update_loop _];show kc _ A.in1 (lO (.ref I) >>= _) _ _ z;refine jU (W.done z _ _ ⟨hjn ▸ hst,hL⟩ λh' tk kp=>?_)
  show kc _ A.in1 (ret iU) _ _ _;refine jX (hR h' tk ?_ λb o nI _ e=>kp b o (by simpa using nI) e)
  rw[cA (by lia)]at hS
  exact hS.keep λo e=>kp S o (by simpa using hSI) e
 |succ k ih =>
  intro j z hk hj hst hL hS hR;have hlt:j<vs.toArray.size:=by rw[vl];lia
  refine ku PyProof.Rows.F.entry_set_update_loop ?_;rw[Around.under_plainId PyProof.Rows.F.plain_set_update_loop _];show kc _ A.in1 (lO (.ref I) >>= _) _ _ z;refine jU (W.item j z _ _ hlt ⟨hst,hL⟩ λv h' tk hP DW kp=>?_)
  obtain⟨n,hn⟩:∃n,ns[j]?=some n:=⟨_,gEg (by lia)⟩
  obtain⟨u,hu⟩:=hi.get j n hn;have hv:vs[j]?=some v:=by simpa using hP
  rw[hu]at hv;cases hv;have hS':SI prog w h' S (dd (ns.take j)):=hS.keep λo e=>kp S o (by simpa using hSI) e
  show kc _ A.in1 (holding [gV n u] (setAdd S (.int n u)) >>= _) _ _ _;refine jU (kr ?_);unfold setAdd;refine kr ?_;refine jU ((kQ prog w).pyHash (k:=n) (nj _ _ _ _) ?_);have hrm:(dd (ns.take j)).length+1<kS:=by
   have a:=Hu (ns.take j);rw[lTq]at a;lia
  refine TQ hS' hrm λb h2 sb hS2=>?_
  have ht:ns.take (j+1)=ns.take j++[n]:=by rw[cB,hn];rfl
  rw[←Km,←ht]at hS2;refine jX ⟨kY PyProof.Rows.F.plain_set_update_loop _,ih (j+1) _ (by lia) (by lia) (DW.1.extBut sb.extBut (Ne.symm hSI)) (DW.2.extBut sb.extBut (Ne.symm hSl)) hS2 λh3 tk3 hS3 kp3=>?_⟩
  exact hR h3 tk3 hS3 λb o nI nS e=>kp3 b o nI nS (sb.extBut b o nS (kp b o (by simpa using nI) e))
theorem M9(a:Value) {Q1:Value->Shared->Prop}
  (h:Q1 (.ref s.heap.objs.size) { s with heap:=s.heap.push { cls:=.type "set", dict:=none,data:=.set #[] 0 (.fresh 0 0 (!w.params.followText "set-order")) } }) :
  lD (jY prog w) A (.call (.builtin "set.__new__") ⟨[.type "set", a],[]⟩) (wants Q1 E) s:=by
 refine codeAny_of_tree ?_;show kc _ A.in1 (do checkBuiltinCall "set.__new__" ⟨[.type "set", a],[]⟩;again (.builtin "set.__new__" ⟨[.type "set", a],[]⟩)) _ _ s
 refine jU (wpAny_of_eq (PySem.F.newCall_set_1 a) (jX ⟨kY iH _,ku PySem.F.entry_set_new ?_⟩));rw[Around.under_plainId iH _];unfold Builtin.«set.__new__» Builtin.Frozenset.newClass;have hsub:=sub_set_self;obtain⟨hp,g,d,tk,os⟩:=s;dsimp only
 wp_walk
 refine wpAny_askSetting (jX ?_);dsimp only;simp only[newObj];refine jU (wpAny_alloc (jX ?_));exact jX h
theorem SI.fresh{h:Heap}{a:Addr}(ho:h.get? a=some { cls:=.type "set", dict:=none,data:=.set #[] 0 (.fresh 0 0 (!w.params.followText "set-order")) }):SI prog w h a [] :=
 ⟨_,#[],0,_,ho,⟨rfl,rfl,rfl⟩,rfl,λe he=>by simp at he,λe he=>by simp at he,.refl _,by unfold kS;decide,rfl,Tb.fresh _⟩
theorem NT{Q:Value->Shared->Prop}(hh:A.handled=none) (hl:s.heap.IsList l vs.toArray) (hi:kz vs ns) (hb:ns.length+1<kS)
  (h:∀(h':Heap) (tk:Nat),SI prog w h' s.heap.objs.size (dd ns)->(∀b o,s.heap.get? b=some o->h'.get? b=some o)->Q (.ref s.heap.objs.size) { s with heap:=h',toks:=tk }) :
  kc (jY prog w) A (call (.type "set") [.ref l]) Q E s:=by
 obtain⟨c,tl,hmro⟩:=cI.mro;have hmade:=cI.made;have hsub:=cI.sub;refine wpAny_call (codeAny_of_tree ?_);show kc _ _ (callAny (.type "set") _) _ _ _;refine jX ⟨Code.quiet_builtin _ (by decide +kernel),ku PySem.F.entry_type_call ?_⟩
 rw[Around.under_plain (weight_type_call_type "set" [.ref l] []) rfl];have h1:=cI.notType;have h2:=cI.canCreate;have hct:=PySem.F.typeCall_set_1 (.ref l)
 repeat (any_goals (first|assumption|wp_step))
 generalize hg1:s.heap.push { cls:=.type "set", dict:=none,data:=.set #[] 0 (.fresh 0 0 (!w.params.followText "set-order")) }=g1;have z1:g1.objs.size=s.heap.objs.size+1:=by rw[←hg1];exact gP ..
 have k1:∀b o,s.heap.get? b=some o->g1.get? b=some o:=λb o e=>by rw[←hg1];exact ak _ e
 have o1:g1.get? s.heap.objs.size=some { cls:=.type "set", dict:=none,data:=.set #[] 0 (.fresh 0 0 (!w.params.followText "set-order")) }:=by rw[←hg1];exact aX _ rfl
 refine mi (M9 (.ref l) (E:=E) (Q1:=λobj z=>obj = .ref s.heap.objs.size/\z={ s with heap:=g1 }) ⟨rfl,by rw[hg1]⟩) λr z hr=>?_
 cases r with
 |error e=>exact hr
 |ok fl =>
  cases fl with
  |ret obj =>
   obtain⟨rfl,rfl⟩:=hr;have hT:Shared.TypeIs { s with heap:=g1 } (.ref s.heap.objs.size) "set" := ⟨_,o1,rfl⟩
   have hli:=cI.init.lookup;have hbi:=cI.init.bind (.ref s.heap.objs.size)
   repeat (any_goals (first|assumption|wp_step))
   refine mi (codeAny_call_builtin (R:=wants (λr y=>r = .none/\∃h' tk,y={ s with heap:=h',toks:=tk }/\SI prog w h' s.heap.objs.size (dd ns)/\∀b o,s.heap.get? b=some o->h'.get? b=some o) E) cI.init.plain PySem.F.entry_set_init (check_set_init_1 hT ?_)) λr2 y hr2=>?_
   .obtain ⟨⟨oc,od,odt,osl⟩,hol,hcl,nl,hdl⟩:=hl;simp only at hcl hdl;subst hcl;subst hdl;have hol1:=k1 l _ hol;have n1:=PySem.F.sub_list_set;have n2:=PySem.F.sub_list_frozenset;have n3:(fP "list" == fP "dict")=false:=by decide
    have hl1:g1.IsList l vs.toArray:=⟨_,hol1,rfl,nl,rfl⟩;unfold Builtin.«set.__init__» noKeywords Builtin.Frozenset.updateFrom;generalize hPI:pyIter=PI
    wp_walk
    subst hPI;refine mD hl1 ?_;refine jU (wpAny_runValue ?_);have hlS:l<s.heap.objs.size:=ao hol;have hh3:A.in1.in1.handled=none:=by simp[hh]
    have lI:l≠g1.objs.size:=by rw[z1];exact aE (bU hlS)
    have sI:s.heap.objs.size≠g1.objs.size:=by rw[z1];exact aE (fg _)
    refine N3 (prog:=prog) (w:=w) (vs:=vs) (ns:=ns) hh3 hi lI sI (cD hlS) hb _ 0 _ rfl (bp _) ⟨_,aX _ rfl,rfl,rfl⟩ (hl1.push _) (SI.fresh (ak _ o1)) λh' tk hS kp=>?_
    show kc _ _ _ _ _ _;refine jX ?_;show kc _ _ (ret iU) _ _ _;refine jX ⟨rfl,h',tk,rfl,hS,λb o e=>kp b o ?_ ?_ (ak _ (k1 b o e))⟩
    .have:=ao e;rw[z1];exact aE (bU this)
    .exact aE (ao e)
   .cases r2 with
    |error e=>exact hr2
    |ok fl2 =>
     cases fl2 with
     |ret r =>
      obtain⟨rfl,h',tk,rfl,hS',hk'⟩:=hr2
      repeat (any_goals (first|assumption|wp_step))
      exact h _ _ hS' hk'
     |_=>exact hr2.elim
  |_=>exact hr.elim
end
def SA(h:Heap) (a:Addr) (es:Array (Int×Value)) (ep:Nat) (t:SetTable):Prop:=∃o,h.get? a=some o/\o.ExactSet/\o.data = .set es ep t
end Ms
namespace Ms
open PySem PySem.W PyProof.Rows Mr MrS
end Ms
namespace Mr
open PySem PySem.Spec PyProof.Rows L2
end Mr
namespace Z
open PySem L2 Mr Xe
def pairsOf:List D->Option (List (D×D))
 | []=>some []
 | .tup [a,b]::r=>(pairsOf r).map ((a,b) :: ·)
 |_=>none
end Z
namespace Mr
open PySem PySem.Spec PyProof.Rows L2
end Mr
namespace Z
open PySem L2 Mr
end Z
namespace Mr
open PySem L2
theorem Bg{prog:kf}{w:ki}{K:Type} [DecidableEq K] {knd:KeyKind prog w K}{A:Around}{E:Value->Shared->Prop}{s:Shared}{d:Addr}{k:K}{key dflt:Value}{kvs:List (K×Value)}{Q:Value->Shared->Prop}
  (hk:knd.is k key=true) (dd:fY knd s.heap d kvs) (hz:kvs.length<=ke)
  (there:∀v,kP kvs k=some v->Q v { s with toks:=s.toks+1 })
  (new:kP kvs k=none->∀h',fY knd h' d (kvs++[(k,dflt)])->cC d s.heap h'->Q dflt { s with heap:=h',toks:=s.toks+1 }) :
  kc (jY prog w) A (dictSetDefault d key dflt) Q E s:=by
 obtain⟨o,es,ep,ho,hx,hd,hkeys,hp,hn⟩:=dd;unfold dictSetDefault;refine kr (jU (knd.pyHash hk ?_));refine jU (wpAny_dictFind_of hk ho hd hkeys ?_);have hf:Array.findIdx? (λe=>knd.is k e.key) es=iY (λe=>knd.is k e.key) es.toList:=by
  cases es;exact(List.findIdx?_toArray ..)
 rw[hf];cases e:iY (λe=>knd.is k e.key) es.toList with
 |some i =>
  obtain⟨x,h1,h2,h3⟩:=hp.at e;refine jU (wpAny_dictEntries ho hd ?_);rw[←az,h1];exact jU (mj (jX (there _ h3)))
 |none =>
  have hz':es.size<=ke:=by rw[←ax,hp.length];exact hz
  have h1:=hp.findIdx k;rw[e]at h1;have h2:=gZ.mp h1.symm;have hv:kP kvs k=none:=by
   unfold kP;rw[List.find?_eq_none.mpr λx hx=>by rw[h2 x hx];decide]
   rfl
  refine jU (mj (jU (wpAny_updateDictKeys ho hd ?_ hz' (by simp))))
  refine jX (new hv _ ⟨_,_,_,iG _ ho ?_,hx.mapDictKeys _,Obj.data_mapDictKeys hd _,hkeys.push hk dflt,?_,?_⟩ (cC.update _ _ _))
  .have hq:=Obj.data_mapDictKeys hd (λx=>x.push { hash:=knd.hash k,key:=key,val:=dflt })
   generalize Obj.mapDictKeys (λx=>x.push { hash:=knd.hash k,key:=key,val:=dflt }) o=o' at hq ⊢
   obtain⟨c,d',dt,sl⟩:=o';cases hq;rfl
  .rw [dv];exact hp.append hk _ _
  .rw [mBq,nAq];refine⟨hn,by simp,λa ha b hb=>?_⟩
   obtain⟨x,hx,rfl⟩:=mMq.mp ha;rw[mSq.mp hb];exact of_decide_eq_false (h2 x hx)
theorem Ba{prog:kf}{w:ki}{K:Type} [DecidableEq K] (knd:KeyKind prog w K) {k:K}{key:Value}(d:Addr) (hk:knd.is k key=true) (hs:(d == kL)=false) (dflt:Value) :
  MeetsIn prog w (Builtin.«dict.setdefault» { pos:=[.ref d,key,dflt] }) λ_ R s=>∃kvs:List (K×Value),fY knd s.heap d kvs/\kvs.length<=ke/\(∀v,kP kvs k=some v->R (.ok (.ret v)) { s with toks:=s.toks+1 }) /\
   (kP kvs k=none->∀h',fY knd h' d (kvs++[(k,dflt)])->cC d s.heap h'->R (.ok (.ret dflt)) { s with heap:=h',toks:=s.toks+1 }):=by
 rintro A R s ⟨kvs,dd,hz,h1,h2⟩;unfold Builtin.«dict.setdefault» Builtin.Dict.keyAndDefault;refine jU (jU (mT dd.typeIs ?_));refine jU (jX ?_);refine jU (jU (jX ?_));dsimp only;refine jU (jX ?_);refine jX ?_;dsimp only;refine jU (jX ?_);refine jX ?_;dsimp only;rw[pJ (by rw[hs];decide)]
 exact jU (Bg hk dd hz (λv hv=>jX (h1 v hv)) λhv h' d' sb=>jX (h2 hv h' d' sb))
section
variable {X:Cx}{ou:List (Addr×Obj)}{σ:St}{H:Hp}{s:Shared}{a:Addr}{kvs:List (oU×V)}{k:oU}{u r:Value}{v:V}{A:Around}{E:Value->Shared->Prop}
theorem NP{Q:Value->Shared->Prop}(I:Inv X ou σ H s) (e:H a=some (.dK kvs)) (ry:qp (kV k) u) (rv:qp v r) (l:kvs.length<ke)
  (there:∀v',uy kvs k=some v'->∀w' s',Inv X ou σ H s'->qp v' w'->Q w' s')
  (new:uy kvs k=none->∀s',Inv X ou σ (qP H a (.dK (kvs++[(k,v)]))) s'->Q r s') :
  kc (jY X.prog X.w) A (call (.builtin "dict.setdefault") [.ref a,u,r]) Q E s:=by
 obtain⟨z,hd,vs,rel,dd⟩:=M5 I.hok e;have hv:=rel.val k;refine call_meetsIn gM dd.typeIs PySem.F.entry_dict_setdefault (PySem.F.args_dict_setdefault_3 _ _ _) (Ba (qv X.prog X.w) a (D7 ry) hd r)
  ⟨vs,dd,by rw[←rel.length];exact z,λw' hw=>?_,λhn h' dd' hs=>new ?_ _ ?_⟩
 .cases q:uy kvs k with
  |none=>rw[q]at hv;rw[An.none_of hv]at hw;cases hw
  |some v' =>
   rw[q,hw]at hv;exact there v' q w' _ (I.tok _) hv
 .cases q:uy kvs k with
  |none=>rfl
  |some v' =>
   rw[q]at hv;obtain⟨y,h1,_⟩:=An.some_of hv;rw[hn]at h1;cases h1
 .have he:∃q,h'.get? a=some q:=let ⟨q,_,_,hq,_⟩:=dd';⟨q,hq⟩
  refine Cb I (by rw[e];exact True.intro) hs he (EO (by rw[lAq];exact l) hd ?_ dd')
  exact Paired.snoc rel ⟨rfl,rv⟩
end
end Mr
namespace Mr
open PySem PySem.Spec PyProof.Rows L2
def Ko(td ty tx:TE):TE:=λσ H Q=>td σ H λx H1=>∃a,x = .ref a/\Y7 H1 a/\ty σ H1 λy H2=>tx σ H2 λz H3=>∃kvs k,H3 a=some (.dK kvs)/\y=kV k/\kvs.length<ke /\
 (∀v,uy kvs k=some v->Q v H3)/\(uy kvs k=none->Q z (qP H3 a (.dK (kvs++[(k,z)]))))
section
variable {X:Cx}{o e f:Expr}{apos cpos:Pos}{td ty tx:TE}
theorem K1(ho:PE X o td) (he:PE X e ty) (hf:PE X f tx) (m:M2 X o "setdefault" apos e f cpos):PE X (.Call (.Attribute o "setdefault" apos) [e,f] [] cpos) (Ko td ty tx):=by
 intro ou s σ H Q I h;refine wpAny_Call_method m.base m.few m.line iy gM PySem.F.type_dict_setdefault (thn (ho ou s σ H _ I h) λu s1 hz1=>?_)
 obtain⟨x,H1,I1,rx,a,ex,d,q1⟩:=hz1;subst ex;obtain rfl:u=cj a:=rx;obtain⟨t1,t2,_⟩:=NS I1 d;refine⟨t1,t2,?_⟩;rw[m.trees];refine Calls.callWith_builtin rfl (Calls.evalArgs_plain (Calls.spliced_cons (thn (he ou s1 σ H1 _ I1 q1) λiv s2 hz1=>?_)))
 obtain⟨y,H2,I2,ry,q2⟩:=hz1;refine Calls.spliced_cons (thn (hf ou s2 σ H2 _ I2 q2) λjv s3 hz1=>?_)
 obtain⟨z,H3,I3,rz,kvs,k,ea,ey,l,p1,p2⟩:=hz1;refine Calls.spliced_nil ?_;subst ey;exact NP I3 ea ry rz l (λv hv w' s4 I4 rw'=>⟨v,_,I4,rw',p1 v hv⟩) λhv s4 I4=>⟨z,_,I4,rz,p2 hv⟩
end
end Mr
namespace Z
open PySem L2 Mr Xe
theorem pT.owl_inv{K:W.Frag}{Hf H:Hp}{kvs:List (oU×List Int)}{v:V}{F:List Addr}(h:pT K Hf H (.owl kvs) v F):∃p qs,v = .ref p/\F=p::qs/\H p=some (.dK (bH (λx q=>(x.1,V.ref q)) kvs qs))/\Hf p=none/\kvs.length=qs.length /\
  ∀(i:Nat) (q:Addr) (x:oU×List Int),qs[i]?=some q->kvs[i]?=some x->H q=some (.lst (x.2.map V.int))/\Hf q=none:=by
 cases h with
 |owl h n l e=>exact⟨_,_,rfl,rfl,h,n,l,e⟩
def uB(S:AS) (i:Nat):Option (List (oU×List Int)):=match S[i]?.join with
 |some (.owl kvs)=>some kvs
 |some (.owd [])=>some []
 |_=>none
def EM(kvs:List (oU×List Int)) (k:oU):List (oU×List Int):=if kvs.any λx=>decide (x.1=k) then kvs else kvs++[(k,[])]
def vd:List (oU×List Int)->oU->Int->List (oU×List Int)
 | [],_,_=>[]
 |x::r,k,n=>if x.1=k then (x.1,x.2++[n])::r else x::vd r k n
section
variable {K:W.Frag}{H₀ Hf₀ Hf H:Hp}{S:AS}{σ:St}{Fs:List (List Addr)}
theorem qf.owl(R:qf K H₀ Hf₀ Hf S σ H Fs) {i:Nat}{kvs:List (oU×List Int)}(h:uB S i=some kvs):∃p qs,σ[i]?=some (some (.ref p))/\Fs[i]?=some (p::qs)/\H p=some (.dK (bH (λx q=>(x.1,V.ref q)) kvs qs))/\Hf p=none/\kvs.length=qs.length /\
  (∀(i:Nat) (q:Addr) (x:oU×List Int),qs[i]?=some q->kvs[i]?=some x->H q=some (.lst (x.2.map V.int))/\Hf q=none)/\(p::qs).Nodup/\∀q∈p::qs,H₀ q=none/\q∉(Fs.set i []).flatten:=by
 unfold uB at h;cases e:S[i]? with
 |none=>rw[e]at h;cases h
 |some o =>
  cases o with
  |none=>rw[e]at h;cases h
  |some av =>
   rw[e]at h;obtain⟨v,F,s1,s2,r,nd,oo,_⟩:=R.move e;cases av with
   |owl k =>
    cases h;obtain⟨p,qs,rfl,rfl,h1,h2,h3,h4⟩:=r.owl_inv;exact⟨p,qs,s1,s2,h1,h2,h3,h4,nd,oo⟩
   |owd k =>
    cases k with
    |nil =>
     cases h;obtain⟨p,kv,rfl,rfl,h1,h2,h3⟩:=r.owd_inv;have:kv=[]:=by
      have:=congrArg cm h3.1;simpa using this.symm
     subst this;exact⟨p,[],s1,s2,h1,h2,rfl,λi q x a=>by simp at a,nd,oo⟩
    |cons _ _=>cases h
   |_=>cases h
end
def UZ(i:Nat) (b x:ME):MS:=λS=>(uB S i).bind λ_=>(b S).bind λy=>(uz y.1).bind λk=>(uB y.2 i).bind λkvs=>vc (kvs.length<rh) ((x (y.2.set i (some (.owl (EM kvs k))))).bind λz=>(intOf z.1).bind λn=>(uB z.2 i).bind λls=>vc (∀l∈ls,l.2.length<rh) (some (.nx (z.2.set i (some (.owl (vd ls k n)))))))
theorem Dm:∀{as bs:List (oU×List Int)}{ps qs:List Addr},as.length=ps.length->bs.length=qs.length->bH (λx q=>(x.1,V.ref q)) as ps=bH (λx q=>(x.1,V.ref q)) bs qs->ps=qs/\as.map (·.1)=bs.map (·.1)
 | [],[],[],[],_,_,_=>⟨rfl,rfl⟩
 | [],b::bs,[],q::qs,_,_,h=>by simp at h
 |a::as,[],p::ps,[],_,_,h=>by simp at h
 |a::as,b::bs,p::ps,q::qs,h1,h2,h=>by
  simp only[fT,jj.injEq,Prod.mk.injEq,V.ref.injEq]at h;obtain⟨e1,e2⟩:=Dm (by simpa using h1) (by simpa using h2) h.2
  exact⟨by rw[h.1.2,e1],by rw[au,au,h.1.1,e2]⟩
 | [],_,p::ps,_,h,_,_=>by simp at h
 |a::as,_,[],_,h,_,_=>by simp at h
 |_,[],_,q::qs,_,h,_=>by simp at h
 |_,b::bs,_,[],_,h,_=>by simp at h
structure Qg (kvs:List (oU×List Int)) (k:oU) (n:Nat):Prop where
 lt:n<kvs.length
 at_:∀x,kvs[n]?=some x->x.1=k
 fst:∀j,j<n->∀x,kvs[j]?=some x->x.1≠k
theorem Qg.keys{as bs:List (oU×List Int)}{k:oU}{n:Nat}(h:Qg as k n) (e:as.map (·.1)=bs.map (·.1)):Qg bs k n:=by
 have hl:as.length=bs.length:=by simpa using congrArg cm e
 have ha:∀(j:Nat) (x:oU×List Int),bs[j]?=some x->∃y:oU×List Int,as[j]?=some y/\y.1=x.1:=λj x hx=>by
  have hj:=(gSq.mp hx).1;refine⟨as[j]'(by lia),gEg _,?_⟩
  have:=congrArg (λl=>l[j]?) e
  simp only[gMq,hx,gEg (show j<as.length by lia),cf,aD.injEq]at this
  exact this
 refine⟨hl ▸ h.lt,λx hx=>?_,λj hj x hx=>?_⟩
 .obtain ⟨y,h1,h2⟩:=ha _ _ hx;rw[←h2];exact h.at_ y h1
 .obtain ⟨y,h1,h2⟩:=ha _ _ hx;rw[←h2];exact h.fst j hj y h1
theorem Qg.add:∀{kvs:List (oU×List Int)}{k:oU}{n:Nat}{x:oU×List Int},Qg kvs k n->kvs[n]?=some x->∀m,vd kvs k m=kvs.set n (x.1,x.2++[m])
 | [],k,n,x,h,e,m=>by simp at e
 |y::r,k,0,x,h,e,m=>by
  have:=h.at_ y rfl;simp only[eP,aD.injEq]at e;subst e;rw[vd,pN this];rfl
 |y::r,k,n+1,x,h,e,m=>by
  have:=h.fst 0 (by lia) y rfl
  rw[vd,pJ this,cH];congr 1;refine Qg.add ⟨by have:=h.lt;simp at this;lia,λx hx=>h.at_ x (by simpa using hx),λj hj x hx=>h.fst (j+1) (by lia) x (by simpa using hx)⟩ (by simpa using e) m
theorem W7{k:oU}:∀{kvs:List (oU×List Int)}{qs:List Addr},kvs.length=qs.length ->
  (∀v,uy (bH (λx q=>(x.1,V.ref q)) kvs qs) k=some v->∃n q,v = .ref q/\qs[n]?=some q/\Qg kvs k n/\EM kvs k=kvs) /\
  (uy (bH (λx q=>(x.1,V.ref q)) kvs qs) k=none->EM kvs k=kvs++[(k,[])]/\Qg (kvs++[(k,[])]) k kvs.length)
 | [],[],_=>by
  refine⟨λv h=>?_,λ_=>⟨rfl,by simp,λx h=>?_,λj hj=>?_⟩⟩
  .simp [uy]at h
  .simp at h;rw[←h]
  .simp at hj
 |y::r,q::qs,h=>by
  obtain⟨i1,i2⟩:=W7 (k:=k) (kvs:=r) (qs:=qs) (by simpa using h)
  by_cases c:y.1=k
  .refine ⟨λv hv=>⟨0,q,?_,rfl,⟨by simp,λx hx=>?_,λj hj=>by simp at hj⟩,?_⟩,λhv=>?_⟩
   .simp only [uy,fT,du,c,decide_true,cf,aD.injEq]at hv;exact hv.symm
   .simp at hx;rw[←hx];exact c
   .simp [EM,c]
   .simp [uy,c]at hv
  .have e:uy (bH (λx q=>(x.1,V.ref q)) (y::r) (q::qs)) k=uy (bH (λx q=>(x.1,V.ref q)) r qs) k:=by
    simp only[uy,fT,du,c,decide_false]
   have up:∀{l n},Qg l k n->Qg (y::l) k (n+1):=λ{l n} a=>⟨by have:=a.lt;simp;lia,λx hx=>a.at_ x (by simpa using hx),λj hj x hx=>by
    cases j with
    |zero=>simp at hx;rw[←hx];exact c
    |succ j=>exact a.fst j (by lia) x (by simpa using hx)⟩
   rw[e];refine⟨λv hv=>?_,λhv=>?_⟩
   .obtain ⟨n,w,h1,h2,h3,h4⟩:=i1 v hv;refine⟨n+1,w,h1,by simpa using h2,up h3,?_⟩
    have h5:(r.any λx=>decide (x.1=k))=true:=dN.mpr ⟨r[n]'h3.lt,gRq _,decide_eq_true (h3.at_ _ (gEg h3.lt))⟩
    simp[EM,h5]
   .obtain ⟨h1,h2⟩:=i2 hv;refine⟨?_,up h2⟩;have h5:(r.any λx=>decide (x.1=k))=false:=by
     by_cases z:(r.any λx=>decide (x.1=k))=true
     .rw [EM,pN z]at h1;simpa using congrArg cm h1
     .exact Bool.eq_false_iff.mpr z
    simp[EM,h5,c]
 | [],_::_,h=>by simp at h
 |_::_,[],h=>by simp at h
theorem Eu{S:AS}{i:Nat}{kvs:List (oU×List Int)}(h:i<S.length):uB (S.set i (some (.owl kvs))) i=some kvs:=by
 rw[uB,aC h];rfl
theorem MJ{S:AS}{i:Nat}{kvs:List (oU×List Int)}(h:uB S i=some kvs):i<S.length:=by
 by_cases c:i<S.length
 .exact c
 .rw [uB,bc (by lia)]at h;cases h
section
variable {K:W.Frag}{tb tx:TE}{b x:ME}
theorem Jt{H₀ Hf₀ Hf H:Hp}{S:AS}{σ:St}{Fs:List (List Addr)}{i n:Nat}{kvs ls:List (oU×List Int)}{k:oU}{p q:Addr}{qs:List Addr}{z:D×AS}{m:Int}(hx:SR K tx x) (R:qf K H₀ Hf₀ Hf S σ H Fs) (s1:σ[i]?=some (some (.ref p))) (h1:H p=some (.dK (bH (λx q=>(x.1,V.ref q)) kvs qs))) (l:kvs.length=qs.length) (hq:qs[n]?=some q) (ka:Qg kvs k n)
  (e0:uB S i=some kvs) (e1:x S=some z) (e2:intOf z.1=some m) (e3:uB z.2 i=some ls) (e4:∀l∈ls,l.2.length<rh) {D:zj}(h:DL K H₀ Hf₀ Hf D (.nx (z.2.set i (some (.owl (vd ls k m)))))) :
  V1 K "list" (.ref q) H/\um tx wV σ H λxs H2=>wz (.ref q) xs H2 λ_ H1=>D.nx σ H1:=by
 obtain⟨p',qs',t1,_,t3,_,t5,t6,_,_⟩:=R.owl e0;rw[s1]at t1;cases t1;rw[h1]at t3;injection t3 with t3
 injection t3 with t3
 obtain⟨rfl,_⟩:=Dm l t5 t3;obtain⟨y,hy⟩:∃y,kvs[n]?=some y:=⟨_,gEg ka.lt⟩;refine⟨.inl ⟨rfl,_,sS.of (t6 n q y hq hy).1⟩,hx R (d:=z.1) (S':=z.2) e1 _ λHf3 H3 Fs3 w t R3 r3=>?_⟩
 have hz:z.1 = .int m:=by
  cases hx:z.1 <;> rw[hx]at e2 <;> first|(cases e2;rfl)|cases e2
 rw[hz]at r3;cases r3;obtain⟨p',qs',u1,u2,u3,u4,u5,u6,u7,u8⟩:=R3.owl e3;rw[s1]at u1;cases u1;rw[t.sh _ _ h1]at u3;injection u3 with u3
 injection u3 with u3
 obtain⟨rfl,ek⟩:=Dm l u5 u3;have ka':=ka.keys ek;obtain⟨y',hy'⟩:∃y,ls[n]?=some y:=⟨_,gEg ka'.lt⟩;obtain⟨g1,g2⟩:=u6 n q y' hq hy';have hne:p≠q:=λe=>(aq.mp u7).1 (e ▸ mGq hq)
 refine⟨q,_,.int m,rfl,rfl,g1,by rw[ud,lMq];exact e4 y' (mGq hy'),h _ _ _ _ t.sf (R3.turnAny s1 u2 (mCo _ (mGq hq)) (F':=p::qs) ?_ u7 u8)⟩
 rw[ka'.add hy' m];have hs:∀j,(ls.set n (y'.1,y'.2++[m]))[j]?=if n=j then some (y'.1,y'.2++[m]) else ls[j]?:=λj=>by
  rw[bG]
  by_cases c:n=j
  .rw [pN c,pN c,pN ka'.lt]
  .rw [pJ c,pJ c]
 refine .owl ?_ u4 (by rw[lZq];exact u5) λj w x k1 k2=>?_
 .rw [oV hne,t.sh _ _ h1,u3];congr 2;refine dw λj=>?_
  rw[dS,dS,hs]
  by_cases c:n=j
  .subst c;rw[pN rfl,hy',hq]
  .rw [pJ c]
 .rw [hs]at k2
  by_cases c:n=j
  .subst c;rw[pN rfl]at k2;rw[hq]at k1;cases k1;cases k2;exact⟨by rw[pD,mBq];rfl,g2⟩
  .rw [pJ c]at k2;have hw:w≠q:=λe=>by
    subst e;have nd:=(aq.mp u7).2;obtain⟨a1,a2⟩:=gSq.mp k1;obtain⟨b1,b2⟩:=gSq.mp hq;exact c ((jm nd).mp (b2.trans a2.symm))
   rw[oV hw];exact u6 j w x k1 k2
theorem Vt{i:Nat}(hb:SR K tb b) (hx:SR K tx x):SS K (AB (Nk K "list" wz (Ko (wR i) tb (UC wV)) (um tx wV))) (UZ i b x):=by
 intro H₀ Hf₀ Hf S σ H Fs o R e D h;obtain⟨k0,e0,e⟩:=oBq.mp e;obtain⟨y,e1,e⟩:=oBq.mp e;obtain⟨k,e2,e⟩:=oBq.mp e;obtain⟨kvs,e3,e⟩:=oBq.mp e;rcases pO e with ⟨hl,e⟩|e
 .obtain ⟨z,e4,e⟩:=oBq.mp e;obtain⟨m,e5,e⟩:=oBq.mp e;obtain⟨ls,e6,e⟩:=oBq.mp e;rcases pO e with ⟨hl2,e⟩|e
  .cases e;obtain⟨p,qs0,s1,_,h1,_⟩:=R.owl e0;refine⟨_,s1,p,rfl,.inl ⟨_,.inl h1⟩,hb R (d:=y.1) (S':=y.2) e1 _ λHf1 H1 Fs1 v t1 R1 r1=>⟨bp _,λq hq=>?_⟩⟩
   obtain⟨p',qs,u1,u2,u3,u4,u5,u6,u7,u8⟩:=R1.owl e3;rw[s1]at u1;cases u1;have hne:p≠q:=λe=>by rw[e,hq]at u3;cases u3
   obtain⟨t2,R2,n1,n2,n3⟩:=R1.new (o:=.lst []) hq;obtain⟨v1,v2⟩:=W7 (k:=k) u5;have hi:=MJ e3;refine⟨_,k,(oV hne).trans u3,vA e2 r1,by rw[ud,iZ,←u5,jh];exact hl,λw hw=>?_,λhw=>?_⟩
   .obtain ⟨n,q',rfl,g1,g2,g3⟩:=v1 w hw;rw[g3]at e4;have R3:qf K H₀ Hf₀ Hf1 (y.2.set i (some (.owl kvs))) σ (qP H1 q (.lst [])) (Fs1.set i (p::qs)):=by
     refine(R2.kill i).again (F:=p::qs) s1 (.owl ((oV hne).trans u3) u4 u5 λj q1 x a1 a2=>?_) u7 u8
     obtain⟨b1,b2⟩:=u6 j q1 x a1 a2;exact⟨by rw[oV λe=>by rw[e,hq]at b1;cases b1];exact b1,b2⟩
    exact Jt hx R3 s1 ((oV hne).trans u3) u5 g1 g2 (Eu hi) e4 e5 e6 hl2 (h.mono t1.sf)
   .obtain ⟨g1,g2⟩:=v2 hw;rw[g1]at e4;have eq:(bH (λx q=>(x.1,V.ref q)) kvs qs)++[(k,V.ref q)]=bH (λ(x:oU×List Int) q=>(x.1,V.ref q)) (kvs++[(k,[])]) (qs++[q]):=by
     rw[List.zipWith_append (h:=u5)];rfl
    have l2:(kvs++[(k,[])]).length=(qs++[q]).length:=by rw[lAq,lAq,u5];rfl
    have R3:qf K H₀ Hf₀ Hf1 (y.2.set i (some (.owl (kvs++[(k,[])])))) σ (qP (qP H1 q (.lst [])) p (.dK ((bH (λx q=>(x.1,V.ref q)) kvs qs)++[(k,V.ref q)]))) (Fs1.set i (p::(qs++[q]))):=by
     refine R2.turnAny s1 u2 (ag ..) (.owl ?_ u4 l2 λj q1 x a1 a2=>?_) ?_ ?_
     .rw [pD,eq]
     .have hp1:q1≠p:=λe=>by
       subst e;rcases mAq.mp (mGq a1) with c|c
       .exact (aq.mp u7).1 c
       .exact hne (mSq.mp c)
      rw[oV hp1]
      by_cases c:j<kvs.length
      .rw [gZq (u5 ▸ c)]at a1;rw[gZq c]at a2;obtain⟨b1,b2⟩:=u6 j q1 x a1 a2;exact⟨by rw[oV λe=>by rw[e,hq]at b1;cases b1];exact b1,b2⟩
      .have hj:=(gSq.mp a2).1;rw[lAq,lSq]at hj;have:j=kvs.length:=by lia
       subst this;rw[cP]at a2;rw[u5,cP]at a1;cases a1;cases a2;exact⟨pD,n1⟩
     .rw [←cJ];refine nAq.mpr ⟨u7,by simp,λa ha b hb=>?_⟩
      rw[mSq.mp hb];intro e;subst e;exact(R1.mem (pS u2 ha)).1 hq
     .intro a ha;rw[←cJ]at ha;rcases mAq.mp ha with c|c
      .exact u8 a c
      .rw [mSq.mp c];exact⟨n2,λm=>n3 (qD m)⟩
    refine Jt (n:=kvs.length) hx R3 s1 (qs:=qs++[q]) (by rw[pD,eq]) l2 ?_ g2 (Eu hi) e4 e5 e6 hl2 (h.mono t1.sf)
    rw[u5,cP]
  .cases e
 .cases e
end
end Z
namespace Xe
open PySem PySem.Spec PySem.W PyProof.Rows L2 Mr
section
variable {X:Cx}
def YO(o:Obj) (d:Addr) (kvs:List (oU×V)):It :=
  ⟨λi H=>H d=some (.frz o (.dK kvs))/\∃p,kvs[i]?=some p,
   λi H x H'=>H'=H/\∃p,kvs[i]?=some p/\x=p.2,
   λi H=>H d=some (.frz o (.dK kvs))/\kvs.length<=i⟩
theorem L9{P:kf}{w:ki}{K:Frag}{tg:Expr}(o:Obj) (d it:Addr) (kvs:List (oU×V)) (vs:List (oU×Value)) (ep:Nat) (hne:d≠it)
  (ho:∀h:Heap,h.get? d=some o->h.DictAt (qv P w) d vs ep) (kv:KV kvs vs):HZ P w K tg (YO o d kvs) [it] it (λi h=>h.IsValIter it d i vs.length ep) where
 mem:=by simp
 obj:=λi h st b hb=>by
  obtain rfl:b=it:=by simpa using hb
  obtain⟨o',e,c,dd⟩:=st;exact⟨o',e,λv z=>by rw[dd]at z;cases z⟩
 keep:=λi h h' st k=>by
  obtain⟨o',e,r⟩:=st;exact⟨o',k it (by simp) _ e,r⟩
 item:=by
  intro X hP hw hK hc i ou s σ H E I hf st hg;subst hP hw hK;obtain⟨hd,p,hp⟩:=hg;have e1:s.heap.get? d=some o:=(show qW X.prog X.w H s.heap d (.frz o (.dK kvs)) from I.hok d _ hd).1
  obtain⟨u,hx,ru⟩:=MR kv hp;obtain⟨f0,f1,f2,f3,f4,f5⟩:=hf it (by simp)
  refine wpAny_pyNext_values_item st (ho _ e1) hx λh' st' sb=>?_
  have I1:L2.Inv X ou σ H { s with heap:=h' }:=I.turned (t':=s.toks) (λb o hb e=>(sb.2 b hb).trans e) f0 f1 f3 f4 f5
  obtain⟨o',e,c,dd⟩:=id st';exact⟨u,rfl,JI (s:={ s with heap:=h' }) e c dd (by decide) ⟨_,H,I1,ru,⟨rfl,p,hp,rfl⟩,st',λb hb=>(hf b hb).1⟩⟩
 done:=by
  intro X hP hw hK hc i ou s σ H E I hf st hg;subst hP hw hK;obtain⟨hd,hl⟩:=hg;have e1:s.heap.get? d=some o:=(show qW X.prog X.w H s.heap d (.frz o (.dK kvs)) from I.hok d _ hd).1
  have l:=Paired.length kv;obtain⟨f0,f1,f2,f3,f4,f5⟩:=hf it (by simp)
  exact wpAny_pyNext_values_end (I.ok.hd hc) st (ho _ e1) (bc (by lia)) λh' eb=>⟨rfl,I.turned (t':=s.toks) (λb o hb e=>eb b o hb e) f0 f1 f3 f4 f5⟩
 self:=λ_ _ _ _ _ st h=>wpAny_pyIter_valiter st h
def Tr(te:TE):TI:=λσ H R=>te σ H λx H1=>∃d kvs,x = .ref d/\H1 d=some (.dK kvs)/\∀o,R (YO o d kvs) (qP H1 d (.frz o (.dK kvs)))
theorem Q2{tg o:Expr}{te:TE}{apos cpos:Pos}(ho:PE X o te) (hbase:mC o "values" X.env (eval o X.env)=eval o X.env:=by rfl) (hline:(apos.endLine == cpos.line)=true:=by rfl) :
  PI X tg (.Call (.Attribute o "values" apos) [] [] cpos) (Tr te):=by
 intro ou s σ H R I h;refine mN hbase hline (thn (ho ou s σ H _ I h) λv s1 hz1=>?_)
 obtain⟨x,H1,I1,r1,d,kvs,ex,ha,q⟩:=hz1;subst ex;obtain rfl:=(show v=cj d from r1)
 obtain⟨hz,sa,vs,kv,dd⟩:=(show qW X.prog X.w H1 s1.heap d (.dK kvs) from I1.hok d _ ha)
 refine⟨"dict", "dict.values", iy,ie,PySem.F.type_dict_values,dd.typeIs,dd.mapOf.noDict,?_⟩;refine method_meetsIn ie PySem.F.entry_dict_values rfl (PySem.evalArgs_none ⟨rfl,dd.typeIs,PySem.F.args_dict_values_1 _,_,meets_dict_values _ d sa,⟨vs,dd⟩,?_⟩);obtain⟨ep,ob,es,hob,rest⟩:=dd.dictAt;have da:∀h:Heap,h.get? d=some ob->h.DictAt (qv X.prog X.w) d vs ep:=λh e=>⟨ob,es,e,rest⟩
 have hlt:d<s1.heap.objs.size:=ao hob;refine wpAny_pyIter_values (s:={ s1 with heap:=s1.heap.push { cls:=.type "dict_values", data:=.fields #[.ref d] } }) ⟨_,aX _ rfl,rfl,rfl⟩ (da _ (ak _ hob)) ?_
 have kp:∀b u,s1.heap.get? b=some u->((s1.heap.push { cls:=.type "dict_values", data:=.fields #[.ref d] }).push { cls:=.type "dict_valueiterator", data:=.fields #[.ref d,.int 0 0,.int vs.length 0,.int ep 0] }).get? b=some u:=λb u e=>ak _ (ak _ e)
 have hs2:(s1.heap.push { cls:=.type "dict_values", data:=.fields #[.ref d] }).objs.size=s1.heap.objs.size+1:=gP ..;have I2:L2.Inv X ou σ (qP H1 d (.frz ob (.dK kvs))) { s1 with heap:=((s1.heap.push { cls:=.type "dict_values", data:=.fields #[.ref d] }).push { cls:=.type "dict_valueiterator", data:=.fields #[.ref d,.int 0 0,.int vs.length 0,.int ep 0] }) } :=
  (I1.kept (t':=s1.toks) kp).write (x:=d) (e:=d) (o:=.frz ob (.dK kvs)) (t':=s1.toks) (by rw[ha];trivial) (.inl rfl) (λb u _ e=>e) ⟨_,kp _ _ hob⟩ ⟨kp _ _ hob,hz,sa,vs,kv,(da _ (kp _ _ hob)).dictOf⟩
 refine⟨s1.heap.objs.size+1,[s1.heap.objs.size+1],_,_,_,by rw[hs2],I2,L9 ob d _ kvs vs ep (aE (bU hlt)) da kv,?_,λb hb=>?_,q ob⟩
 .show Heap.IsValIter _ (s1.heap.objs.size+1) d 0 vs.length ep;rw[←hs2];exact⟨_,aX _ rfl,rfl,rfl⟩
 .have e:b=s1.heap.objs.size+1:=by simpa using hb
  subst e;exact I1.fpOk (cO _) (by rw[oV (cD (bU hlt))];exact I1.hok.fresh (cO _))
end
end Xe
namespace Z
open PySem L2 Mr Xe
def SW(K:W.Frag) (te:TE) (m:MK):Prop:=∀{H₀ Hf₀ Hf:Hp}{S:AS}{σ:St}{H:Hp}{Fs:List (List Addr)}{a:AV}{S':AS},qf K H₀ Hf₀ Hf S σ H Fs->m S=some (a,S')->∀Q:VK,
 (∀Hf' H' Fs' v F,qh Hf Hf'->qf K H₀ Hf₀ Hf' S' σ H' Fs'->pT K Hf' H' a v F->F.Nodup->(∀q∈F,H₀ q=none/\q∉Fs'.flatten)->Q v H')->te σ H Q
def Uv(i:Nat):MI:=λS=>(uB S i).map λkvs=>(kvs.map λx=>.list (x.2.map .int),S.set i none)
def MW(j:Nat) (k:MK):MK:=λS=>(qL S j).bind λavs=>(k (S.set j none)).bind λx=>match x.1 with
 | .ow bvs=>vc (x.2[j]?=some none/\avs.length+bvs.length<=rh) (some (.ow (avs++bvs),x.2))
 |_=>none
section
variable {K:W.Frag}{tf:TT}{te:TE}{mf:MT}{me k:MK}{fr:List Nat}
theorem RL(hk:SW K te k):SS K (Vx te) (qa k):=by
 intro H₀ Hf₀ Hf S σ H Fs o R e D h;obtain⟨x,e1,e⟩:=oMq.mp e;cases e;exact hk R (a:=x.1) (S':=x.2) e1 _ λHf1 H1 Fs1 v F t1 R1 r1 n1 o1=>h _ _ v F R1.sf R1.fr R1.sub R1.lim r1 n1 λq hq=>(o1 q hq).1
theorem KL(hk:SW K te k):SW K (Mj (λxs H Q=>∃(a:Addr) (ps:List Addr) (rs:List (List Int)),xs=[.ref a]/\sS K H a (ps.map V.ref)/\rK H ps rs /\
  ∀p qs,H p=none->qs.Perm ps->rK (qP H p (.lst (qs.map V.ref))) qs (wX rs)->Q (.ref p) (qP H p (.lst (qs.map V.ref)))) (um te wV)) (zc k):=by
 intro H₀ Hf₀ Hf S σ H Fs av S' R e Q q;obtain⟨x,e1,e⟩:=oBq.mp e;refine hk R (a:=x.1) (S':=x.2) e1 _ λHf1 H1 Fs1 v F t1 R1 r1 d1 o1=>?_
 split at e
 .rename_i avs hx;obtain⟨rs,e2,e⟩:=oMq.mp e;cases e;rw[hx,DJ e2]at r1;obtain⟨p0,vs,Gs,rfl,rfl,h1,h2,h3⟩:=r1.ow_inv;obtain⟨ps,rfl,rfl,hE,hn⟩:=vK h3;rw[flat_one]at o1 d1;refine⟨p0,ps,rs,rfl,sS.of h1,hE,λp qs hp hq hE2=>?_⟩
  obtain⟨t4,R4,n1,n2,n3⟩:=R1.new (o:=.lst (qs.map V.ref)) hp;have pq:p∉qs:=λm=>hE.free (H:=H1) hp (hq.mem_iff.mp m)
  have hm:∀z∈qs,z∈p0::ps:=λz hz=>mCo _ (hq.mem_iff.mp hz)
  refine q _ _ _ (.ref p) (p::(qs.map λp=>[p]).flatten) (t1.trans t4.sf) R4 (pT.news pD n1 (Ab hE2 λz hz=>hn z (hq.mem_iff.mp hz))) ?_ ?_
  .rw [flat_one];exact aq.mpr ⟨pq,hq.nodup_iff.mpr (aq.mp d1).2⟩
  .rw [flat_one];intro z hz;rcases ae.mp hz with y|y
   .rw [y];exact⟨n2,n3⟩
   .exact o1 z (hm z y)
 .cases e
theorem Uq{j:Nat}(hk:SW K te k):SW K (Qs Vu (wR j) te) (MW j k):=by
 intro H₀ Hf₀ Hf S σ H Fs av S' R e Q q;obtain⟨avs,e1,e⟩:=oBq.mp e;obtain⟨x,e2,e⟩:=oBq.mp e;split at e
 .rename_i bvs hx;rcases pO e with ⟨⟨hj,hl⟩,e⟩|e
  .cases e;obtain⟨v0,F0,s1,s2,r0,nd0,o0,_⟩:=R.move (qb e1);refine⟨_,s1,hk (R.frame s2) (a:=x.1) (S':=x.2) e2 _ λHf1 H1 Fs1 v F sf R1 r1 nd1 o1=>?_⟩
   obtain⟨hk0,r2,R2⟩:=R.unframe s2 r0 nd0 (λq hq=>(o0 q hq).1) R1 hj s1 sf
   have R3:=R2.kill j;rw[dC,dC,zG hj,zG (R1.emp j hj)]at R3;rw[hx]at r1;obtain⟨p1,vs1,Gs1,rfl,rfl,a1,a2,a3⟩:=r2.ow_inv;obtain⟨p2,vs2,Gs2,rfl,rfl,b1,b2,b3⟩:=r1.ow_inv;have hF:∀q∈p1::Gs1.flatten,VZ H₀ H (p1::Gs1.flatten) q≠none:=λq hq=>by
    rw[DI hq];exact(R.mem (pS s2 hq)).1
   refine⟨p1,p2,vs1,vs2,rfl,rfl,a1,b1,by rw[ud,←a3.1,←b3.1];exact hl,λp hp=>?_⟩
   obtain⟨t4,R4,n1,n2,n3⟩:=R3.new (o:=.lst (vs1++vs2)) hp;have c1:∀q∈p1::Gs1.flatten,H1 q≠none:=λq hq=>by rw[hk0 q hq];exact(R.mem (pS s2 hq)).1
   have c2:∀q∈p2::Gs2.flatten,H1 q≠none:=λq hq=>(r1.owned q hq).1
   have m1:∀q∈Gs1.flatten,q∈p1::Gs1.flatten:=λq h=>mCo _ h
   have m2:∀q∈Gs2.flatten,q∈p2::Gs2.flatten:=λq h=>mCo _ h
   have k3:=(a3.append b3).keepUpd (p:=p) (o:=.lst (vs1++vs2)) (by
    rw[fAq];intro m;rcases mAq.mp m with z|z
    .exact c1 p (m1 p z) hp
    .exact c2 p (m2 p z) hp)
   refine q _ _ _ (.ref p) (p::(Gs1++Gs2).flatten) (sf.trans t4.sf) R4 (pT.news pD n1 k3) ?_ ?_
   .rw [fAq];refine aq.mpr ⟨λm=>?_,nAq.mpr ⟨(aq.mp nd0).2,(aq.mp nd1).2,λa ha b hb e=>?_⟩⟩
    .rcases mAq.mp m with z|z
     .exact c1 p (m1 p z) hp
     .exact c2 p (m2 p z) hp
    .subst e;exact hF a (m1 a ha) (o1 a (m2 a hb)).1
   .rw [fAq];intro z hz;rcases ae.mp hz with y|y
    .rw [y];exact⟨n2,n3⟩
    .rcases mAq.mp y with y|y
     .exact ⟨(o0 z (m1 z y)).1,λm=>hF z (m1 z y) (R1.fresh z m)⟩
     .have:=o1 z (m2 z y);refine⟨?_,this.2⟩;rw[←yd (H₀:=H₀) (H:=H) (F:=p1::Gs1.flatten) λm=>hF z m this.1]
      exact this.1
  .cases e
 .cases e
theorem PB{i:Nat}(hf:Ho K tf mf) (he:SK K te me):SW K (GC (Tr (wR i)) fr tf te) (qM (Uv i) fr mf me):=by
 intro H₀ Hf₀ Hf S σ H Fs av S' R e Q q;obtain⟨y,e1,e⟩:=oBq.mp e;obtain⟨kvs,e2,e1⟩:=oMq.mp e1;subst e1;obtain⟨S2,e3,e⟩:=oBq.mp e;obtain⟨cap,e4,e⟩:=oBq.mp e;rcases pO e with ⟨hl,e⟩|e
 .obtain ⟨avs,e5,e⟩:=oMq.mp e;cases e;obtain⟨p,qs,s1,s2,h1,h2,h3,h4,h5,h6⟩:=R.owl e2;refine⟨_,s1,p,_,rfl,h1,λob=>?_⟩
  have hn:∀q∈p::qs,Hf q=none:=λq hq=>(R.mem (pS s2 hq)).2
  have pq:=(aq.mp h5).1;have R1:=(R.kill i).frz (F:=qs) (λq hq=>h6 q (mCo _ hq)) λq hq=>hn q (mCo _ hq)
  have R2:=R1.fix (p:=p) (o:=.frz ob (.dK (bH (λx q=>(x.1,V.ref q)) kvs qs))) (h6 p (ag ..)).2 (by rw[uw pq];exact h2) (h6 p (ag ..)).1
  obtain⟨Hf3,Fs3,t3,R3⟩:=R2.fzAll e3;have hp3:Hf3 p=some (.frz ob (.dK (bH (λx q=>(x.1,V.ref q)) kvs qs))):=t3.sf _ _ pD
  have sf1:qh Hf (qP (frz Hf H qs) p (.frz ob (.dK (bH (λx q=>(x.1,V.ref q)) kvs qs)))):=λb u eb=>by
   rw[oV λz=>by rw[z,h2]at eb;cases eb]
   exact sJ (H:=H) (λq hq=>hn q (mCo _ hq)) b u eb
  have hz:(bH (λ(x:oU×List Int) q=>(x.1,V.ref q)) kvs qs).length=kvs.length:=by rw[iZ,←h3,jh]
  have hlen:(kvs.map λx=>D.list (x.2.map .int)).length=kvs.length:=lMq ..
  refine Bz (K:=K) hf he R3 e4 hl e5 (λi H s hi=>⟨s _ _ hp3,_,gEg (by rw[hz,←hlen];exact hi)⟩) (λH s=>⟨s _ _ hp3,by rw[hz,hlen];exact af _⟩) (λn H' x H'' s hi y=>?_) λHf' H' v F t R' r o=>q _ _ _ v F ((sf1.trans t3.sf).trans t.sf) R' r o.nd λq hq=>⟨o.fr q hq,o.out q hq⟩
  obtain⟨y1,⟨k,w⟩,y2,y3⟩:=y;rw[dS]at y2;rw[hlen]at hi;rw[gEg hi,gEg (h3 ▸ hi)]at y2;cases y2;refine⟨y1,_,by rw[gMq,gEg hi];rfl,?_⟩
  have g:=(h4 n _ _ (gEg (h3 ▸ hi)) (gEg hi)).1;have m:qs[n]'(h3 ▸ hi)∈qs:=gRq _;rw[y3];have hne:qs[n]'(h3 ▸ hi)≠p:=λz=>pq (by rw[←z];exact m)
  have g':=t3.sf (qs[n]'(h3 ▸ hi)) _ (((oV hne).trans (zN m)).trans g);exact rS.mk_list g' (tV _)
 .cases e
end
theorem VH(j:Nat) (k:MK) (S:AS):MW j k S=(qL S j).bind λavs=>(k (S.set j none)).bind λx=>match x.1 with
 | .ow bvs=>vc (x.2[j]?=some none/\avs.length+bvs.length<=rh) (some (.ow (avs++bvs),x.2))
 |_=>none:=rfl
theorem Wp(i:Nat) (S:AS):Uv i S=(uB S i).map λkvs=>(kvs.map λx=>.list (x.2.map .int),S.set i none):=rfl
theorem Wr(i:Nat) (b x:ME) (S:AS):UZ i b x S=(uB S i).bind λ_=>(b S).bind λy=>(uz y.1).bind λk=>(uB y.2 i).bind λkvs=>vc (kvs.length<rh) ((x (y.2.set i (some (.owl (EM kvs k))))).bind λz=>(intOf z.1).bind λn=>(uB z.2 i).bind λls=>vc (∀l∈ls,l.2.length<rh) (some (.nx (z.2.set i (some (.owl (vd ls k n))))))):=rfl
end Z
namespace Mr
open PySem PySem.Spec PyProof.Rows L2
section
variable {X:Cx}
def rLset(K:W.Frag) (xs:List V) (H:Hp) (Q:VK):Prop:=∃(a:Addr) (ns:List Int),xs=[.ref a]/\sS K H a (ns.map V.int)/\ns.length+1<kS/\Q (.int ((Ms.dd ns).length:Nat)) H
theorem RX{e:Expr}{ta:TA}{p0 p pos0 pos:Pos}(hc:X.calm=true) (gl:Gl X "len") (ml:X.mg "len" = none) (hg:Gl X "set") (hm:X.mg "set" = none) (ha:PA X [e] ta)
  (he:ko [.Call (.Name "set" p) [e] [] pos] X.env=(false,eval (.Call (.Name "set" p) [e] [] pos) X.env)::ko [] X.env:=by rfl) (hs:ko [e] X.env=[(false,eval e X.env)]:=by rfl) :
  PE X (.Call (.Name "len" p0) [.Call (.Name "set" p) [e] [] pos] [] pos0) (Mj (rLset X.K) ta):=by
 intro ou s σ H Q I h;refine kR (yj I gl ml boot_len ?_ (by decide) (by decide))
 refine gu ?_ he (by rfl)
 rw[he];show kc _ _ (spliced ((false,eval (.Call (.Name "set" p) [e] [] pos) X.env)::kZ pos0 (ko [] X.env))) _ _ s;refine Calls.spliced_cons ?_;refine Call_ (yj I hg hm boot_set (bX (thn (ha pos ou s σ H _ I h) λus s1 hz1=>?_) hs rfl))
 obtain⟨vs,H1,I1,r1,a,ns,e1,hS,hb,q⟩:=hz1;subst e1;obtain⟨u,rfl,ru⟩:=yO r1;cases ru;obtain⟨ws,hl,hi,_⟩:=Dt I1 hS;refine Ms.NT (I1.ok.hd hc) hl hi hb λh1 tk hSI kp=>Calls.spliced_nil ?_
 obtain⟨o,es,ep,t,ho,hex,hd,_,_,hp,hlt,hfit,_⟩:=hSI;have hsz:es.size=(Ms.dd ns).length:=by
  have:=hp.length_eq;rw[lMq,ax]at this;exact this
 refine call_len_set (s:={ s1 with heap:=h1,toks:=tk }) ho hex hd hfit (by unfold kS at hlt;lia) ?_
 rw[hsz];exact⟨.int ((Ms.dd ns).length:Nat),H1,(I1.kept (t':=tk+1+1) kp),⟨_,rfl⟩,q⟩
end
end Mr
namespace Z
open PySem L2 Mr
def rLset(l:ML):ME:=λS=>(l S).bind λx=>(rJ x.1).bind λns=>vc (ns.length<=4000) (some (.int ((Ms.dd ns).length:Nat),x.2))
section
variable {K:W.Frag}{te:TE}{l:ML}
theorem QS(hl:SQ K te l):SR K (Mj (Mr.rLset K) (um te wV)) (rLset l):=by
 intro H₀ Hf₀ Hf S σ H Fs av S' R e Q q;obtain⟨x,e1,e⟩:=oBq.mp e;obtain⟨ns,e2,e⟩:=oBq.mp e;rcases pO e with ⟨hlen,e⟩|e
 .cases e;refine hl R (ds:=x.1) (S':=x.2) e1 _ λHf1 H1 Fs1 p1 vs1 t1 R1 h1 r1=>?_
  rw[uO e2]at r1;rw[rO r1]at h1;exact⟨p1,ns,rfl,h1,by unfold kS;lia,q _ _ _ _ t1 R1 .int⟩
 .cases e
end
theorem Nr(l:ML) (S:AS):rLset l S=(l S).bind λx=>(rJ x.1).bind λns=>vc (ns.length<=4000) (some (.int ((Ms.dd ns).length:Nat),x.2)):=rfl
end Z
namespace Mr
open PySem PySem.Calls PySem.Spec PyProof.Rows L2
open PySem.MeetsSeq (size_erased plain_remove_loop entry_remove_loop)
end Mr
namespace Z
open PySem L2 Mr Xe
def WB(i:Nat) (b:ME):MS:=λS=>(qL S i).bind λ_=>(b S).bind λy=>(V0 y.1).bind λes=>(rJ es).bind λr=>(qL y.2 i).bind λavs=>(ER (avs.map oP)).bind λrs=>(avs[rs.idxOf r]?.bind Tt).bind λ_=>if r∈rs then some (.nx (y.2.set i (some (.ow (avs.eraseIdx (rs.idxOf r)))))) else none
def Yz:AV->Option (List D)
 | .sh (.tup ds)=>some ds
 |_=>none
def Yd(k:MK) (lo hi:MO):MK:=λS=>(k S).bind λx=>(Yz x.1).bind λds=>(lo x.2).bind λy=>(hi y.2).bind λz=>if HT.DS ds.length 0 y.1=0/\HT.DS ds.length ds.length z.1=ds.length then none else some (.sh (.tup (zF ds y.1 z.1)),z.2)
def WM(i:Nat) (m:ME):MS:=λS=>(m S).map λx=>.nx (x.2.set i (some (.ow [.sh x.1])))
end Z
namespace MrS
open PySem PySem.W PyProof.Rows
end MrS
namespace Mr
open PySem PySem.W PySem.Spec PyProof.Rows L2
end Mr
namespace Z
open PySem L2 Mr Xe
section
variable {K:W.Frag}
end
variable {K:W.Frag}{t u:TS}{m m':MS}{te:TE}{k:MK}{J:List Nat}
variable {K:W.Frag}{t v:TS}
end Z
namespace Mr
open PySem L2
variable {K:W.Frag}{h:Heap}{mg:Str->Option Value}{x z:Str}{st:Stmt}{f O:Addr}{fd:kA}
structure At (K:W.Frag) (x:Str) (st:Stmt) (f:Addr) (fd:kA):Prop where
 a:W.nsIn K kg x=some (some (.ref f))
 F:S5 K x x st f fd
section
variable {oc kV doc pm ve ct:Value}{od an:Option Addr}{osl:Array (Option Value)}
theorem WO(a:W.nsIn K kg x=some (some (.ref f))) (l:K.lookup f=some ⟨oc,od,.func (W.fnOf x x (vx st) (uS st) (pB st) .none kV doc pm an ve ct),osl⟩)
  (c:W.codeIn K ve x=true) (k:W.keepIn K (.ref f)=true):At K x st f (W.fnOf x x (vx st) (uS st) (pB st) .none kV doc pm an ve ct):=⟨a,IJ l c k⟩
end
abbrev BA(x q:Str) (st:Stmt) (ps:List Str) (us:List Value):Prop:=∀(kV doc pm:Value) (an:Option Addr) (ve ct:Value),bindArgs (W.fnOf x q (vx st) (uS st) (pB st) .none kV doc pm an ve ct) ⟨us,[]⟩=pure (ps.zip us)
section
variable {q a b c d:Str}(F:S5 K x q st f fd)
include F
theorem b1(h:∀u,BA x q st [a] [u]):zp K fd [a] []:=F.binds λ_ _ _ _ _ _ us hl=>by
 obtain - | ⟨u, - | ⟨v,l⟩⟩:=us <;> cases hl
 apply h
theorem b2(h:∀u v,BA x q st [a,b] [u,v]):zp K fd [a,b] []:=F.binds λ_ _ _ _ _ _ us hl=>by
 obtain - | ⟨u, - | ⟨v, - | ⟨w,l⟩⟩⟩:=us <;> cases hl
 apply h
theorem b3(h:∀u v w,BA x q st [a,b,c] [u,v,w]):zp K fd [a,b,c] []:=F.binds λ_ _ _ _ _ _ us hl=>by
 obtain - | ⟨u, - | ⟨v, - | ⟨w, - | ⟨y,l⟩⟩⟩⟩:=us <;> cases hl
 apply h
end
theorem Ey{ps:List Str}(X:K.In h) (G:h.Ns kg mg) (a:At K x st f fd) (b:zp K fd ps []):Cd K mg x st ps f fd:=⟨a.F,W.mg_of X G a.a,b⟩
end Mr
namespace Zl
open PySem L2 Mr Z
def KO:MS:=(qa (kSc (DD (pK Jq (oy 0) (rC (.int 0))) (pK S8 (rP Jl (ot (oy 0) oC)) (pK B2 (rC (.int 10)) (rC (.int 60)))))))
def PR:MF:=rB 1 1 KO
def Bu:MS:=(oE (wt (rp (pK DT (rP ql (ot (oy 0) oC)) (rC (.int 0)))) (qa (rQ oW)) pU)
 (oE (oS 1 (kSc (Xz "list" Cu (oy 0) (ot (rP Qn (ot (oy 0) oC)) oC))))
 (qa (Da (lOf (Oq (sR 0) (wQ (oy 1)) zC)) (lOf (Oq (sR 0) zC (wQ (oy 1))))))))
def vR:MF:=rB 1 2 Bu
def Dc:MS:=(Lg 1 (D6 2))
def Fk:MS:=(oE (oS 1 (rQ oW))
 (oE (xg 2 (oQ 0) Dc)
 (qa (zi 1))))
def uX:MF:=rB 1 3 Fk
def xH:MS:=(oE (wt (rp (pK S8 (oy 1) (rP ql (ot (oy 0) oC)))) (qa (kSc (pK G2 (oy 0) (oy 1)))) pU)
 (qa (kSc (rC (.int 0)))))
def oN:MF:=rB 2 2 xH
def xv:MS:=(qa (zc (qM (wm (oQ 0)) [] qt (pH Zl.vR (oH (oQ 0) oW)))))
def pQ:MF:=rB 1 1 xv
def zk:MX:=(WY (uv (rp (qj Zl.PR (ot (oy 1) oC)))) (IQ "NoEnd" "end" (ot (oy 1) oC)) (KG pU))
def Ap:MX:=(Vb 1 (oQ 0) zk)
def Bl:Ow:=LQ 1 2 Ap
def zH:MX:=(BY (WY (rp (X9 (oy 2) (oy 1))) (IQ "Twice" "end" (ot (oy 2) oC)) (KG pU)) (KG (vS 1 (oy 2) (kSc (rC (.bl true))))))
def Bd:MX:=(BY (KG (oS 1 vi))
 (Vb 2 (oQ 0) zH))
def BZ:Ow:=LQ 1 3 Bd
def AJ:MS:=(vS 1 (oy 2) (kSc (rC (.bl true))))
def Ak:MX:=(WY (rp (rY (DV xk (oy 2)) (oy 1))) (IQ "Lone" "end" (ot (oy 2) oC)) (KG pU))
def BX:MX:=(BY (KG (oS 1 vi))
 (BY (KG (xg 2 (oQ 0) AJ))
 (Vb 2 (oQ 0) Ak)))
def Do:Ow:=LQ 1 3 BX
def zo:MX:=(BY (WY (rp (pK FA (rP ql (ot (rOf (pH Zl.uX (oH (oQ 0) oW))) oC)) (rC (.int 128)))) (JK "TooMany") (KG pU))
 (WY (rp (pK FA (VP (oy 0)) (rC (.int 128)))) (JK "TooMany") (KG pU)))
def zI:Ow:=LQ 1 1 zo
def Gx:MX:=(BY (KG (oS 1 (pH Zl.uX (oH (oQ 0) oW))))
 (BY (Jx Zl.Bl (oH (oQ 1) oW))
 (BY (Jx Zl.BZ (oH (oQ 1) oW))
 (BY (Jx Zl.Do (oH (oQ 1) oW))
 (BY (Jx Zl.zI (oH (oQ 0) oW))
 (KG (qa (pH Zl.pQ (oH (oQ 0) oW)))))))))
def ID:Ow:=LQ 1 2 Gx
def Ie:MS:=(qa (yz (lOf (pH Zl.uX (oH (oQ 0) oW)))))
def Ea:MF:=rB 1 1 Ie
def FV:MS:=(qa (qM (wm (pH Zl.Ea (oH (oQ 0) oW))) [] (rp (pK FA (oy 0) (rC (.int 0)))) (oQ 0)))
def Iu:MF:=rB 1 1 FV
def vW:MS:=(vS 1 (oy 4) (oQ 2))
def we:MS:=(xg 4 (oQ 3) vW)
def As:MS:=(oE (oS 1 vi)
 (oE (Oj 2 3 (oQ 0) we)
 (qa (zi 1))))
def tj:MF:=rB 1 5 As
theorem wD(ns:List Int) {k:Int}(h:0<=k):oN [.scr ns,.int k]=some (.sh (.int (cell ns k.toNat))):=by
 by_cases c:k<(ns.length:Int)
 .have hk:k.toNat<ns.length:=by lia
  have e:ns.getD k.toNat 0=ns[k.toNat]:=wI hk
  simp_arith [oN,xH,c,J5 h,gEg hk,cell,e]
 .have hk:ns.length<=k.toNat:=by lia
  have e:ns.getD k.toNat 0=0:=by rw[gDq,bc hk];rfl
  simp_arith [oN,xH,c,cell,e]
theorem LI{n:Int}{ns:List Int}:ns.foldl min n∈n::ns/\∀x∈n::ns,ns.foldl min n<=x:=⟨xf ns n,λx hx=>(ae.mp hx).elim (λe=>e ▸ (vm ns n).1) ((vm ns n).2 x)⟩
theorem Lu{ns:List Int}(hl:ns.length<=500000):vR [dI ns]=some (aI (good ns)):=by
 cases ns with
 |nil =>
  have h1:((0:Nat):Int)=0:=rfl
  simp_arith [vR,Bu,h1]
  rfl
 |cons n ns =>
  obtain⟨h1,h2⟩:=LI (n:=n) (ns:=ns);have e:=BE h1 h2;have hle:=HK (n::ns);have hne:¬ ((n::ns).length:Int)=0:=by simp only[lCq];lia
  have hm:Qn [dI (n::ns)]=some (.int (ns.foldl min n)):=by
   show (rJ ((n::ns).map D.int)).bind (λns=>(JD ns).map D.int)=_
   rw[uC];rfl
  have hx:Cu (dI (n::ns)) [.int (ns.foldl min n)]=some (.int (qo (n::ns) (n::ns).length:Nat)):=by
   show (rJ ((n::ns).map D.int)).bind _=_;rw[uC];show (if _ then _ else _)=_
   rw[pN h1,e]
  generalize hN:n::ns=N at *;have hlen:(N.drop (qo N N.length)).length+(N.take (qo N N.length)).length<=rh:=by rw[aR,lTq];show _<=16777216;lia
  simp_arith [vR,Bu,hne,hm,hx,A3,Kt N _ hle,K3 N _ hle,hlen,←mBq,Kc]
  rfl
theorem uq{rs:List (List Int)}{i:Nat}{r:List Int}(h:rs[i]?=some r):(rs.take (i+1)).flatten=(rs.take i).flatten++r:=by
 rw[cB,h,fAq];simp
theorem ym(rs:List (List Int)) (i:Nat):(rs.take i).flatten.length<=rs.flatten.length:=by
 have:=congrArg cm (congrArg List.flatten (bb i rs));rw[fAq,lAq]at this;lia
theorem JZ{rs:List (List Int)}{i:Nat}{d:D}(h:(rs.map dI)[i]?=some d):∃r,rs[i]?=some r/\d=dI r:=by
 rw[gMq]at h;obtain⟨r,h1,h2⟩:=oMq.mp h;exact⟨r,h1,h2.symm⟩
theorem SU{ns:List Int}{i:Nat}{d:D}(h:(ns.map D.int)[i]?=some d):∃z,ns[i]?=some z/\d = .int z:=by
 rw[gMq]at h;obtain⟨r,h1,h2⟩:=oMq.mp h;exact⟨r,h1,h2.symm⟩
theorem Iz{rs:List (List Int)}{d:D}(h:d∈rs.map dI):∃r∈rs,d=dI r:=by
 obtain⟨r,h1,h2⟩:=mMq.mp h;exact⟨r,h1,h2.symm⟩
def D5:D->List Int
 | .list ds=>(rJ ds).getD []
 |_=>[]
theorem xM(r:List Int):D5 (dI r)=r:=by
 show (rJ (r.map D.int)).getD []=r;rw[uC];rfl
theorem DR{β:Type}(g:List Int->β) (rs:List (List Int)):(rs.map dI).map (λd=>g (D5 d))=rs.map g:=by
 rw[mPq];exact mCq λr _=>by show g (D5 (dI r))=g r;rw[xM]
theorem FX{rs:List (List Int)}(hl:∀r∈rs,r.length<=500000):qR qt (pH vR (oH (oQ 0) oW)) [] (rs.map dI)=some ((rs.map good).map aI):=by
 rw[sk (λd=>aI (good (D5 d)))]
 .rw [DR (λr=>aI (good r)),mPq]
  rfl
 .intro d hd;obtain⟨r,hr,rfl⟩:=Iz hd;refine⟨[some (.sh (dI r))],?_⟩
  simp_arith [Lu (hl r hr),xM]
theorem V8{ts:List (List Int)}{a:Nat}(h:a<ts.length):atI (ts.map dI) (a:Int)=some (dI (ts.getD a [])):=by
 rw[QT,J5 (by lia),dq,gDq,gEg h]
 rfl
theorem Bs{rs:List (List Int)}(hl:∀r∈rs,r.length<=500000) (h7:rs.length<=rh):pQ [dM rs]=some (.ow ((wX (rs.map good)).map aI)):=by
 have h6:=FX (rs:=rs) hl
 simp_arith [pQ,xv,h6,h7]
end Zl
--ZQ3 --ZQ4
namespace Zl
open PySem L2 Mr Z Xe
def bare(rs:List (List Int)):Nat:=rs.countP (·=([]:List Int))
section
variable {rs:List (List Int)}(hl:rs.flatten.length<=500000)
include hl
end
end Zl
namespace Zl
open PySem L2 Mr Z
def uU(p:Nat) (r:List Int):List (oU×D):=r.map λe=>(.inl e,.int (p:Int))
def qA:Nat->List (List Int)->List (oU×D)
 |_,[]=>[]
 |p,r::rs=>uU p r++qA (p+1) rs
theorem BG(r:List Int):∀(rs:List (List Int)) (p:Nat),qA p (rs++[r])=qA p rs++uU (p+rs.length) r
 | [],p=>by simp[qA]
 |s::rs,p=>by
  show uU p s++qA (p+1) (rs++[r])=(uU p s++qA (p+1) rs)++_;rw[BG r rs (p+1),ah,lCq,show p+1+rs.length=p+(rs.length+1) by lia]
theorem yQ:∀(rs:List (List Int)) (p:Nat),(qA p rs).map (·.1)=rs.flatten.map aH
 | [],p=>rfl
 |r::rs,p=>by
  show (uU p r++qA (p+1) rs).map (·.1)=_;rw[mBq,yQ rs (p+1),fCq,mBq];congr 1;unfold uU;rw[mPq];rfl
theorem IU(rs:List (List Int)) (p:Nat):(qA p rs).length=rs.flatten.length:=by
 have:=congrArg cm (yQ rs p)
 rwa [lMq,lMq]at this
theorem CP{kvs:List (oU×D)}{k:oU}{d:D}(h:k∉kvs.map (·.1)):xZ kvs k d=kvs++[(k,d)]:=by
 unfold xZ;rw[pJ];intro e;obtain⟨kv,hk,e⟩:=dN.mp e;exact h (mMq.mpr ⟨kv,hk,of_decide_eq_true e⟩)
theorem getD_app{k:oU}:∀{a b:List (oU×D)},k∉a.map (·.1)->Z.getD (a++b) k=Z.getD b k
 | [],b,_=>rfl
 |x::a,b,h=>by
  unfold Z.getD;rw[cJ,dJ (by
   intro e;exact h (by rw[←of_decide_eq_true e];simp))]
  exact getD_app (k:=k) (a:=a) (b:=b) λm=>h (by simp only[au,ae];exact .inr m)
theorem Gn{p:Nat}{e:Int}{b:List (oU×D)}:∀{r:List Int},e∈r->Z.getD (uU p r++b) (.inl e)=some (.int p)
 | [],h=>by cases h
 |x::r,h=>by
  unfold Z.getD;show ((((aH x:oU),D.int (p:Int))::(uU p r++b)).find? _).map _=_
  by_cases c:x=e
  .subst c;rw[eS (by simp)]
   rfl
  .rw [dJ (by simp[c])]
   exact Gn (r:=r) ((ae.mp h).resolve_left λz=>c z.symm)
theorem xX{e:Int}{r:List Int}:∀{rs:List (List Int)}{i:Nat}(p:Nat),rs.flatten.Nodup->rs[i]?=some r->e∈r->Z.getD (qA p rs) (.inl e)=some (.int ((p+i:Nat):Int))
 | [],i,p,_,h,_=>by simp at h
 |s::rs,0,p,hn,h,he=>by
  simp at h;subst h;exact Gn he
 |s::rs,i+1,p,hn,h,he=>by
  rw[fCq,nAq]at hn;have h':rs[i]?=some r:=by simpa using h
  have:=xX (rs:=rs) (i:=i) (p+1) hn.2.1 h' he;rw[show p+1+i=p+(i+1) by lia]at this
  rw[←this];refine getD_app ?_;unfold uU;rw[mPq];intro m;obtain⟨x,hx,e2⟩:=mMq.mp m;cases e2;exact hn.2.2 _ hx _ (mFq.mpr ⟨r,mGq h',he⟩) rfl
theorem AN{rs:List (List Int)}(hn:rs.flatten.Nodup) (hl:rs.flatten.length<=500000):tj [dM rs]=some (.owd (qA 0 rs)):=by
 have key:=Tn (x:=2) (y:=3) (k:=0) (body:=we) (λi S=>∃v2 v3 v4,S=[some (.sh (dM rs)),some (.owd (qA 0 (rs.take i))),v2,v3,v4]) (ds:=rs.map dI) (S:=[some (.sh (dM rs)),some (.owd []),none,none,none]) ⟨none,none,none,rfl⟩ (by
  rintro i d S hd ⟨v2,v3,v4,rfl⟩;rw[bZ];obtain⟨r,hr,rfl⟩:=JZ hd;have hfl:=uq hr;have hle:=ym rs (i+1);have hi:i<rs.length:=(gSq.mp hr).1;have hnd:((rs.take i).flatten++r).Nodup:=by
   rw[←hfl];have e0:rs.flatten=(rs.take (i+1)).flatten++(rs.drop (i+1)).flatten:=by rw[←fAq,bb]
   rw[e0]at hn;exact(nAq.mp hn).1
  rw[hfl,lAq]at hle;have k2:=vk (x:=4) (body:=vW) (λj S=>∃v4,S=[some (.sh (dM rs)),some (.owd (qA 0 (rs.take i)++uU i (r.take j))),some (.sh (.int i)),some (.sh (dI r)),v4]) (ds:=r.map D.int) (S:=[some (.sh (dM rs)),some (.owd (qA 0 (rs.take i))),some (.sh (.int i)),some (.sh (dI r)),v4]) ⟨v4,by simp[uU]⟩ (by
   rintro j d S hd ⟨v4,rfl⟩;obtain⟨z,hz,rfl⟩:=SU hd;have hj:j<r.length:=(gSq.mp hz).1;have h3:(qA 0 (rs.take i)++uU i (r.take j)).length<rh:=O5 (by
    rw[lAq,IU];unfold uU;rw[lMq,lTq];lia)
   have hput:xZ (qA 0 (rs.take i)++uU i (r.take j)) (.inl z) (.int (i:Int))=qA 0 (rs.take i)++uU i (r.take (j+1)):=by
    rw[CP]
    .unfold uU;rw[qK hz,mBq,ah];rfl
    .rw [mBq,yQ];intro m;have e1:r.take (j+1)=r.take j++[z]:=qK hz;rcases mAq.mp m with m|m
     .obtain ⟨x,hx,e2⟩:=mMq.mp m;cases e2;exact(nAq.mp hnd).2.2 _ hx _ (mGq hz) rfl
     .unfold uU at m;rw[mPq]at m;obtain⟨x,hx,e2⟩:=mMq.mp m;cases e2;have:=aY.sublist (bC (j+1) r) (nAq.mp hnd).2.1;rw[e1]at this;exact(nAq.mp this).2.2 _ hx _ (by simp) rfl
   refine⟨_,?_,some (.sh (.int z)),rfl⟩
   simp_arith [vW,h3,hput])
  obtain⟨S2,e2,w4,rfl⟩:=k2;rw[lMq,bA]at e2;refine⟨_,?_,some (.sh (.int i)),some (.sh (dI r)),w4,rfl⟩;rw[qK hr,BG,lTq,eQ (by lia),bZ]
  simp_arith [we,e2])
 obtain⟨S',e,v2,v3,v4,rfl⟩:=key;rw[bZ,lMq,bA]at e
 simp_arith [tj,As,e]
theorem xD{c:MT}{body:MS}(P:AS->Prop) (μ:AS->Nat) (Qf:AS->Prop) (h:∀S,P S->∃b S1,c S=some (b,S1)/\(b=true->∃S2,body S1=some (.nx S2)/\P S2/\μ S2<μ S)/\(b=false->Qf S1)) :
  ∀(fuel:Nat) (S:AS),P S->μ S<fuel->∃S',qT c body fuel S=some (.nx S')/\Qf S'
 |0,S,_,hm=>absurd hm (cQ _)
 |n+1,S,hp,hm=>by
  obtain⟨b,S1,e1,h1,h2⟩:=h S hp;rw[SC,e1,Option.bind_some];cases b with
  |true =>
   obtain⟨S2,e2,p2,m2⟩:=h1 rfl;rw[pN rfl,e2];exact xD P μ Qf h n S2 p2 (by lia)
  |false =>
   rw[pJ (by simp)]
   exact⟨S1,rfl,h2 rfl⟩
end Zl
--ZQ3 --ZQ4 --ZQ5 --ZQ6 --ZQ8 --ZQ9 --ZQB
namespace Zl
open PySem L2 Mr Z Xe
def wd(ws:List Nat):List AV:=ws.map λk:Nat=>AV.sh (.int (k:Int))
def addN(kn:List Nat) (t:Nat):List Nat:=if t∈kn then kn else kn++[t]
def plc(rs:List (List Int)) (e:Int):Nat:=rs.findIdx λr=>decide (e∈r)
theorem same_place{rs:List (List Int)}(hn:rs.flatten.Nodup) {i j:Nat}{r s:List Int}{e:Int}(hi:rs[i]?=some r) (hj:rs[j]?=some s) (h1:e∈r) (h2:e∈s):i=j:=by
 have a:=xX 0 hn hi h1;have b:=xX 0 hn hj h2;rw[a]at b;have:=D.int.inj (aD.inj b);lia
theorem plc_eq{rs:List (List Int)}(hn:rs.flatten.Nodup) {i:Nat}{r:List Int}{e:Int}(hi:rs[i]?=some r) (h1:e∈r):plc rs e=i:=by
 have hl:rs.findIdx (λr=>decide (e∈r))<rs.length:=ez ⟨r,mGq hi,decide_eq_true h1⟩
 have h2:=gC (xs:=rs) (p:=λr=>decide (e∈r)) (w:=hl)
 exact same_place hn (gEg hl) hi (of_decide_eq_true h2) h1
structure Mp (rs:List (List Int)):Prop where
 hn:rs.flatten.Nodup
 hl:rs.flatten.length<=1000
 hr:rs.length<=1000
 hneg:∀e∈rs.flatten, -e∈rs.flatten
theorem Mp.at{rs:List (List Int)}(h:Mp rs) {e:Int}(he:e∈rs.flatten):∃r,rs[plc rs e]?=some r/\e∈r:=by
 obtain⟨r,h1,h2⟩:=mFq.mp he;obtain⟨i,h3⟩:=ar.mp h1;exact⟨r,by rw[plc_eq h.hn h3 h2];exact h3,h2⟩
theorem Mp.kv{rs:List (List Int)}(h:Mp rs) {e:Int}(he:e∈rs.flatten):Z.getD (qA 0 rs) (aH e)=some (.int (plc rs e:Int)):=by
 obtain⟨r,h1,h2⟩:=h.at he;have:=xX 0 h.hn h1 h2
 rwa [bZ]at this
theorem Mp.lt{rs:List (List Int)}(h:Mp rs) {e:Int}(he:e∈rs.flatten):plc rs e<rs.length:=by
 obtain⟨r,h1,_⟩:=h.at he;exact(gSq.mp h1).1
theorem Mp.row{rs:List (List Int)}(h:Mp rs) {k:Nat}{r:List Int}(hk:rs[k]?=some r):r.length<=1000:=by
 have:=fe.length_le (aF (mGq hk));have:=h.hl;lia
def ZL(rs:List (List Int)) (k:Nat) (ks:List Nat) (e:Int):List Nat:=if plc rs (-e)=k then ks else addN ks (plc rs (-e))
def nb(rs:List (List Int)) (k:Nat) (r:List Int):List Nat:=r.foldl (ZL rs k) []
theorem Lm{α β:Type}{f:α->β->α}{a:α}{r:List β}{i:Nat}{e:β}(he:r[i]?=some e):(r.take (i+1)).foldl f a=f ((r.take i).foldl f a) e:=by
 obtain⟨hi,h2⟩:=gSq.mp he;rw[eD hi,eZ,h2];rfl
def itr(f:Int->Int):Nat->Int->Int
 |0,e=>e
 |n+1,e=>f (itr f n e)
theorem yk(f:Int->Int) (m:Nat) (e:Int):∀n:Nat,itr f (n+m) e=itr f n (itr f m e)
 |0=>by rw[bZ];rfl
 |n+1=>by rw[Nat.add_right_comm];show f (itr f (n+m) e)=f (itr f n (itr f m e));rw[yk f m e n]
theorem Sm:∀(l E:List Int),l.Nodup->(∀x∈l,x∈E)->l.length<=E.length
 | [],E,_,_=>bp _
 |x::l,E,hn,h=>by
  have hn':=aq.mp hn;have hx:=h x (ag ..);have h2:=Sm l (E.erase x) hn'.2 (λy hy=>by
   refine(List.mem_erase_of_ne ?_).mpr (h y (mCo _ hy));intro e;exact hn'.1 (e ▸ hy))
  rw[ik hx]at h2;have:=fQ hx;rw[lCq];lia
theorem NY{p:Nat->Prop}:∀n,p n->∃m,m<=n/\p m/\∀j,j<m->¬ p j:=by
 intro n
 induction n using gF with
 |_ n ih =>
  intro h
  by_cases c:∃j,j<n/\p j
  .obtain ⟨j,hj,pj⟩:=c;obtain⟨m,h1,h2,h3⟩:=ih j hj pj;exact⟨m,by lia,h2,h3⟩
  .exact ⟨n,af _,h,λj hj pj=>c ⟨j,hj,pj⟩⟩
structure IC (f:Int->Int) (E:List Int):Prop where
 nd:E.Nodup
 to:∀e∈E,f e∈E
 inj:∀a∈E,∀b∈E,f a=f b->a=b
section
variable {f:Int->Int}{E:List Int}
theorem IC.itr_mem(h:IC f E) {e:Int}(he:e∈E):∀n,itr f n e∈E
 |0=>he
 |n+1=>h.to _ (h.itr_mem he n)
theorem IC.itr_inj(h:IC f E) {a b:Int}(ha:a∈E) (hb:b∈E):∀n,itr f n a=itr f n b->a=b
 |0,e=>e
 |n+1,e=>h.itr_inj ha hb n (h.inj _ (h.itr_mem ha n) _ (h.itr_mem hb n) e)
theorem IC.cut(h:IC f E) {e:Int}(he:e∈E) {i j:Nat}(hij:i<=j) (q:itr f i e=itr f j e):itr f (j-i) e=e:=by
 have e1:itr f j e=itr f i (itr f (j-i) e):=by rw[←yk];congr 1;lia
 rw[e1]at q;exact(h.itr_inj he (h.itr_mem he _) i q).symm
structure Cy (f:Int->Int) (e:Int) (l:List Int):Prop where
 len:1<=l.length
 get:l=(bN l.length).map λn=>itr f n e
 back:itr f l.length e=e
 nd:l.Nodup
theorem IC.cy(h:IC f E) {e:Int}(he:e∈E):∃l,Cy f e l/\l.length<=E.length/\∀j,0<j->j<l.length->itr f j e≠e:=by
 have hex:∃k,1<=k/\k<=E.length/\itr f k e=e:=by
  by_cases c:((bN (E.length+1)).map λn=>itr f n e).Nodup
  .have:=Sm _ E c (λx hx=>by obtain⟨n,_,rfl⟩:=mMq.mp hx;exact h.itr_mem he n)
   rw[lMq,bh]at this;lia
  .rw [aJ,bg]at c;have:∃i j,i<j/\j<E.length+1/\itr f i e=itr f j e:=by
    by_cases d:∃i j,i<j/\j<E.length+1/\itr f i e=itr f j e
    .exact d
    .exfalso;refine c ?_;refine aY.imp_of_mem (R:=λa b=>a<b) (λ{a b} ha hb hab q=>d ⟨a,b,hab,bW.mp hb,q⟩) eT
   obtain⟨i,j,hij,hj,q⟩:=this;exact⟨j-i,by lia,by lia,h.cut he (cS hij) q⟩
 obtain⟨k,h1,h2,h3⟩:=hex;obtain⟨m,m1,⟨m2,m3⟩,m4⟩:=NY (p:=λk=>1<=k/\itr f k e=e) k ⟨h1,h3⟩
 refine⟨(bN m).map λn=>itr f n e,⟨by rw[lMq,bh];exact m2,by rw[lMq,bh],by rw[lMq,bh];exact m3,?_⟩,by rw[lMq,bh];lia,λj hj hjm q=>?_⟩
 .rw [aJ,bg];refine aY.imp_of_mem (R:=λa b=>a<b) (λ{a b} ha hb hab q=>?_) eT
  have hb':=bW.mp hb;exact m4 (b-a) (by lia) ⟨by lia,h.cut he (cS hab) q⟩
 .rw [lMq,bh]at hjm;exact m4 j hjm ⟨hj,q⟩
theorem Cy.at{e:Int}{l:List Int}(h:Cy f e l) {i:Nat}(hi:i<l.length):l[i]?=some (itr f i e):=by
 have e1:l[i]?=((bN l.length).map λn=>itr f n e)[i]?:=congrArg (λx:List Int=>x[i]?) h.get
 rw[e1,gMq,cR hi];rfl
theorem Cy.one{e:Int}{l l':List Int}(h:Cy f e l) (h':Cy f e l'):l=l':=by
 have key:∀{l l':List Int},Cy f e l->Cy f e l'->¬ l.length<l'.length:=λ{l l'} h h' hlt=>by
  have a0:=h'.at (i:=0) (by lia)
  have a1:=h'.at (i:=l.length) hlt;rw[h.back]at a1;have:=h'.nd;have e2:=(jk (i:=0) (j:=l.length) (by lia) this).mp (by rw[a0,a1];rfl)
  have:=h.len;lia
 have h1:=key h h';have h2:=key h' h;have hl:l.length=l'.length:=by lia
 rw[h.get,h'.get,hl]
theorem Cy.self{e:Int}{l:List Int}(h:Cy f e l):e∈l:=mGq (h.at (i:=0) (by have:=h.len;lia))
theorem Cy.rot{e:Int}{l:List Int}(h:Cy f e l) {j:Nat}(hj:j<l.length):Cy f (itr f j e) (l.drop j++l.take j):=by
 have hlen:(l.drop j++l.take j).length=l.length:=by rw[lAq,aR,lTq];lia
 refine⟨by rw[hlen];exact h.len,?_,?_,?_⟩
 .refine dw λi=>?_
  rw[hlen,gMq]
  by_cases hi:i<l.length
  .rw [cR hi,cf,←yk]
   by_cases hi2:i<l.length-j
   .rw [gZq (by rw[aR];exact hi2),cZ,h.at (by lia),fc j i]
   .rw [gYq (by rw[aR];lia),aR,eF (by lia),h.at (by lia)]
    congr 1;have e1:i+j=(i-(l.length-j))+l.length:=by lia
    rw[e1,yk,h.back]
  .rw [bc (by rw[hlen];lia),bc (by rw[bh];lia)]
   rfl
 .rw [hlen,←yk,fc,yk,h.back]
 .exact aL.nodup_iff.mpr (by rw[bb];exact h.nd)
theorem Cy.good{e x:Int}{l l':List Int}(h:Cy f e l) (hx:x∈l) (h':Cy f x l'):Mr.good l'=Mr.good l:=by
 obtain⟨j,hj⟩:=ar.mp hx;have hlt:=(gSq.mp hj).1;rw[h.at hlt]at hj;have r:=h.rot hlt;rw[aD.inj hj]at r;rw[h'.one r];exact Of h.nd j
structure Ck (f:Int->Int) (E:List Int) (L:List (List Int)):Prop where
 cy:∀l∈L,∃e,Cy f e l
 dj:L.flatten.Nodup
 all:∀x,x∈L.flatten↔x∈E
theorem JV:∀{L:List (List Int)},L.flatten.Nodup->L.Pairwise λa b=>∀x∈a,∀y∈b,x≠y
 | [],_=>aY.nil
 |a::L,h=>by
  rw[fCq,nAq]at h;exact cg.mpr ⟨λb hb x hx y hy=>h.2.2 x hx y (mFq.mpr ⟨b,hb,hy⟩),JV h.2.1⟩
theorem Ck.nd{L:List (List Int)}(h:Ck f E L):(L.map Mr.good).Nodup:=by
 rw[aJ,bg];have hd:=JV h.dj;refine aY.imp_of_mem (λ{a b} ha hb hab q=>?_) hd
 obtain⟨e,c⟩:=h.cy a ha;have h1:e∈Mr.good a:=(qV a).mem_iff.mpr c.self;rw[q]at h1;exact hab e c.self e ((qV b).mem_iff.mp h1) rfl
theorem Ck.sub(hf:IC f E) {L M:List (List Int)}(h:Ck f E L) (h':Ck f E M) {y:List Int}(hy:y∈L.map Mr.good):y∈M.map Mr.good:=by
 obtain⟨l,hl,rfl⟩:=mMq.mp hy;obtain⟨e,c⟩:=h.cy l hl;have hE:e∈E:=(h.all e).mp (mFq.mpr ⟨l,hl,c.self⟩);obtain⟨m,hm,hem⟩:=mFq.mp ((h'.all e).mpr hE);obtain⟨e',c'⟩:=h'.cy m hm;exact mMq.mpr ⟨m,hm,(c'.good hem c).symm⟩
theorem Ck.perm(hf:IC f E) {L M:List (List Int)}(h:Ck f E L) (h':Ck f E M):(L.map Mr.good).Perm (M.map Mr.good) :=
 (bP h.nd h'.nd).mpr λy=>⟨h.sub hf h',h'.sub hf h⟩
end
end Zl
namespace K13
open PySem L2 Mr Z Xe
def GV:MS:=(Lg 1 (D6 2))
def KW:MX:=(BY (KG (oS 1 (rQ oW)))
 (BY (KG (xg 2 (oQ 0) GV))
 (XX Zl.ID (oH (oQ 1) oW))))
def Dd:Ow:=LQ 1 3 KW
def L8:MS:=(oE (wt (uv (QQ (oy 0))) (qa (rQ oW)) pU)
 (oE (oS 1 (kSc (Xz "list" Cu (oy 0) (ot (rP Qn (ot (oy 0) oC)) oC))))
 (qa (Da (lOf (Oq (sR 0) (wQ (oy 1)) zC)) (lOf (Oq (sR 0) zC (wQ (oy 1))))))))
def O7:MF:=rB 1 2 L8
def Ob:MS:=(qa (zc (qM (wm (oQ 0)) [] qt (pH K13.O7 (oH (oQ 0) oW)))))
def J3:MF:=rB 1 1 Ob
def Fg(fm:MF):MS:=(wt (uv (rp (qj fm (ot (pK W9 (oy 0) (oy 2)) (ot (pK W9 (oy 1) (oy 2)) oC))))) (qa (kSc (rC (.bl false)))) pU)
def HD(fm:MF):MS:=(oE (wt (IT (rp (rP D1 (ot (oy 1) (ot (rC (.ty "list")) oC)))) (rp (rP D1 (ot (oy 1) (ot (rC (.ty "tuple")) oC))))) (oE (wt (IT (rp (pK Jq (rP D1 (ot (oy 0) (ot (rC (.ty "list")) oC))) (rP D1 (ot (oy 1) (ot (rC (.ty "list")) oC))))) (rp (pK Jq (rP D1 (ot (oy 0) (ot (rC (.ty "tuple")) oC))) (rP D1 (ot (oy 1) (ot (rC (.ty "tuple")) oC)))))) (qa (kSc (rC (.bl false)))) pU) (oE (wt (rp (pK Jq (rP ql (ot (oy 0) oC)) (rP ql (ot (oy 1) oC)))) (qa (kSc (rC (.bl false)))) pU) (oE (vM 2 (ot (rP ql (ot (oy 1) oC)) oC) (Fg fm)) (qa (kSc (rC (.bl true))))))) pU)
 (oE (wt (rp (pK Xu (oy 1) (rC .non))) (qa (kSc (pK Xu (oy 0) (rC .non)))) pU)
 (oE (wt (rp (rP D1 (ot (oy 1) (ot (rC (.ty "str")) oC)))) (qa (kSc (DD (rP D1 (ot (oy 0) (ot (rC (.ty "str")) oC))) (pK DT (oy 0) (oy 1))))) pU)
 (qa (kSc (DD (rP D1 (ot (oy 0) (ot (rC (.ty "int")) oC))) (DD (Nb (rP D1 (ot (oy 0) (ot (rC (.ty "bool")) oC)))) (pK DT (oy 0) (oy 1)))))))))
def vO(fm:MF):MF:=rB 2 3 (HD fm)
def ro:MF:=(vO (vO (vO (vO Z.Tc))))
end K13
namespace K51
open PySem L2 Mr Z Xe
def Ir:MS:=(vS 1 (oy 3) (oQ 4))
def IB:MS:=(Wi 3 4 (oQ 2) (Da (lOf (Oq (sR 2) (wQ (rC (.int 1))) zC)) (lOf (Oq (sR 2) zC (wQ (rC (.int 1)))))) Ir)
def PX:MS:=(oE (oS 1 vi)
 (oE (xg 2 (oQ 0) IB)
 (qa (zi 1))))
def QO:MF:=rB 1 5 PX
def tF:MS:=(oE (oS 7 (kSc (xC (oy 2) (DV xk (oy 6))))) (wt (rp (rY (oy 7) (oy 3))) (oE (vS 3 (oy 7) (kSc (rC (.bl true)))) (uV 4 (oQ 7))) pU))
def vv:MS:=(oE (EA 5 (Dy 4)) (xg 6 (Qx (sR 0) (oy 5)) tF))
def Dw:MS:=(oE (oS 2 (pH Zl.tj (oH (oQ 0) oW)))
 (oE (oS 3 (Jj (oy 1) (kSc (rC (.bl true)))))
 (oE (oS 4 (rQ (oH (oQ 1) oW)))
 (oE (qT (rp (pK FA (rP ql (ot (oy 4) oC)) (rC (.int 0)))) vv 100000)
 (qa (E7 (oy 3)))))))
def uF:MF:=rB 2 8 Dw
def wH:MS:=(vS 1 (oy 5) (kSc (rC (.bl true))))
def wA:MS:=(wt (rp (rY (oy 3) (oy 1))) (oE (oS 4 (pH K51.uF (oH (oQ 0) (oH (oQ 3) oW)))) (oE (xg 5 (oQ 4) wH) (uV 2 (qM (wm (oQ 4)) [0] qt (vJ (lOf (Qx (sR 1) (oy 0)))))))) pU)
def EB:MS:=(oE (oS 1 vi)
 (oE (oS 2 (rQ oW))
 (oE (vM 3 (ot (rP ql (ot (oy 0) oC)) oC) wA)
 (qa (zi 2)))))
def Ar:MF:=rB 1 6 EB
def Ep:MS:=(qa (qM (wm (oQ 0)) [] qt (vJ (sR 0))))
def xq:MF:=rB 1 1 Ep
end K51
namespace K12
open PySem L2 Mr Z Xe
end K12
namespace K15
open PySem L2 Mr Z
def E6:MS:=(vS 2 (oy 3) (kSc (DF (oy 1) (DV xk (oy 3)))))
def HX:MS:=(oE (oS 1 (pH K51.QO (oH (oQ 0) oW)))
 (oE (oS 2 vi)
 (oE (GQ 3 1 E6)
 (qa (zi 2)))))
def Lz:MF:=rB 1 4 HX
def BV:MS:=(oE (uV 2 (oQ 3)) (oS 3 (kSc (xC (oy 0) (oy 3)))))
def D2:MS:=(oE (oS 2 (rQ (oH (oQ 1) oW)))
 (oE (oS 3 (kSc (xC (oy 0) (oy 1))))
 (oE (qT (rp (pK Jq (oy 3) (oy 1))) BV 100000)
 (qa (zi 2)))))
def Fm:MF:=rB 2 4 D2
def H0:MS:=(vS 2 (oy 6) (kSc (rC (.bl true))))
def Jc:MS:=(wt (rp (rY (oy 4) (oy 2))) (oE (oS 5 (pH K15.Fm (oH (oQ 1) (oH (oQ 4) oW)))) (oE (xg 6 (oQ 5) H0) (uV 3 (oQ 5)))) pU)
def Mz:MS:=(oE (oS 1 (pH K15.Lz (oH (oQ 0) oW)))
 (oE (oS 2 vi)
 (oE (oS 3 (qM (wm (oQ 0)) [] (rp (pK DT (rP ql (ot (oy 0) oC)) (rC (.int 0)))) (rQ oW)))
 (oE (xg 4 (pH Zl.Ea (oH (oQ 0) oW)) Jc)
 (qa (pH Zl.pQ (oH (oQ 3) oW)))))))
def JS:MF:=rB 1 7 Mz
def xW:MS:=(vS 1 (pK G2 (oy 2) (oy 3)) (kSc (pK G2 (oy 2) (pK sr (pK xx (oy 3) (rC (.int 1))) (rP ql (ot (oy 2) oC))))))
def xQ:MS:=(vM 3 (ot (rP ql (ot (oy 2) oC)) oC) xW)
def Dj:MS:=(oE (oS 1 vi)
 (oE (xg 2 (oQ 0) xQ)
 (qa (zi 1))))
def vD:MF:=rB 1 4 Dj
def mb_L_lands_0:MS:=(oE (vS 2 (oy 6) (kSc (rC (.bl true)))) (oE (uV 5 (oQ 6)) (oS 6 (kSc (DF (oy 1) (DV xk (oy 6)))))))
def mb_L_lands_1:MS:=(wt (rp (rY (oy 4) (oy 2))) (oE (oS 5 (rQ oW)) (oE (oS 6 (oQ 4)) (oE (qT (rp (rY (oy 6) (oy 2))) mb_L_lands_0 100000) (uV 3 (oQ 5))))) pU)
def mf_L_lands:MS:=(oE (oS 1 (pH K15.vD (oH (oQ 0) oW)))
 (oE (oS 2 vi)
 (oE (oS 3 (qM (wm (oQ 0)) [] (uv (QQ (oy 0))) (rQ oW)))
 (oE (GQ 4 1 mb_L_lands_1)
 (qa (pH K13.J3 (oH (oQ 3) oW)))))))
def f_L_lands:MF:=rB 1 7 mf_L_lands
end K15
namespace K23
open PySem L2 Mr Z Xe
def DO:MS:=(qa (qM (wm (oQ 0)) [1] (rp (pK (Gq true) (oy 0) (oy 1))) (oQ 0)))
def vE:MF:=rB 2 2 DO
end K23
namespace K31
open PySem L2 Mr Z Xe
def Bi:MS:=(oE (oS 3 (kSc (rC (.int 1))))
 (oE (oS 4 (kSc (rC (.int 0))))
 (oE (wt (rp (pK FA (pK sr (oy 0) (rC (.int 3))) (rC (.int 0)))) (oE (oS 3 (kSc (pK xx (rC (.int 1)) (pK sr (pK yq (oy 0) (rC (.int 3))) (pK B2 (rC (.int 10)) (rC (.int 40))))))) (oS 4 (kSc (pK sr (pK yq (oy 1) (rC (.int 66))) (pK B2 (rC (.int 10)) (rC (.int 40))))))) pU)
 (qa (kSc (pK xx (pK BC (oy 3) (pK xx (pK sr (pK xx (pK BC (pK xx (rC (.int 1)) (pK sr (oy 1) (rC (.int 66)))) (oy 2)) (oy 0)) (rC (.int 67))) (rC (.int 1)))) (oy 4)))))))
def tP:MF:=rB 3 5 Bi
def sF:MS:=(So 8 3 (V6 3 (NV 3) (pK G2 (oy 4) (pK yu (rP ql (ot (oy 4) oC)) (rC (.int 1))))) (GH 3 (D8 (rp (pK DT (pK sr (oy 7) (rC (.int 4))) (rC (.int 1)))) (rp (pK FA (rP ql (ot (oy 4) oC)) (rC (.int 1))))) (λ_=>(FC (Dy 4))) (GH 3 (D8 (rp (pK DT (pK sr (oy 7) (rC (.int 4))) (rC (.int 2)))) (rp (pK FA (rP ql (ot (oy 5) oC)) (rC (.int 0))))) (Fo 3 (oS 9 (kSc (pK yu (rP ql (ot (oy 5) oC)) (rC (.int 1))))) (Fo 3 (wt (rp (oy 2)) (oS 9 (kSc (pK sr (pK yq (oy 7) (rC (.int 8))) (rP ql (ot (oy 5) oC))))) pU) (EI 3 (vw 5 (oy 9))))) (GH 3 (rp (pK FA (rP ql (ot (oy 6) oC)) (rC (.int 0)))) (Fo 3 (EA 10 (Sn BC (vw 6 (rC (.int 0))) (pK yu (rC (.int 1)) (pK BC (rC (.int 2)) (pK sr (pK yq (oy 7) (rC (.int 4))) (rC (.int 2))))))) (λpath=>oE ((JX 3 (oQ 10)) path) (wt (rp (pK DT (pK sr (oy 7) (rC (.int 4))) (rC (.int 0)))) (oE (uV 3 (rQ (oH (kSc (DV xk (oy 10))) oW))) (uV 4 (kSc (pK yu (rP ql (ot (oy 3) oC)) (rC (.int 1)))))) (uV 5 (kSc (DV xk (oy 10))))))) (λ_=>pU)))))
def vn:MS:=(HY 3 (V6 3 (NV 3) (pK G2 (oy 4) (pK yu (rP ql (ot (oy 4) oC)) (rC (.int 1))))) (Dy 5))
def DC:MS:=(oE (oS 3 (rQ (oH (rQ oW) oW)))
 (oE (oS 4 (rQ (oH (kSc (rC (.int 0))) oW)))
 (oE (oS 5 (rQ oW))
 (oE (oS 6 (vJ (sR 1)))
 (oE (xg 7 (oQ 0) sF)
 (oE (qT (rp (pK FA (rP ql (ot (oy 5) oC)) (rC (.int 0)))) vn 100000)
 (qa (zi 3))))))))
def tG:MF:=rB 3 11 DC
def BO:MS:=(oE (wt (uv (rp (rP zO (ot (oy 0) (ot (rC (.ty "list")) oC))))) (qa (kSc (rC (.bl false)))) pU)
 (qa (kSc (rP Ge (ot (rOf (qM (wm (oQ 0)) [] qt (kSc (DD (rP zO (ot (oy 0) (ot (rC (.ty "int")) oC))) (Nb (rP zO (ot (oy 0) (ot (rC (.ty "bool")) oC)))))))) oC)))))
def uK:MF:=rB 1 1 BO
end K31
namespace K43
open PySem L2 Mr Z Xe
def xy:MS:=(oE (oS 2 (Da (D6 1) (lOf (qM (wm (oQ 1)) [] qt (kSc (DV xk (oy 0)))))))
 (qa (qM (wm (oQ 0)) [2] qt (pH K23.vE (oH (oQ 0) (oH (oQ 1) oW))))))
def sH:MF:=rB 2 3 xy
def Le:MS:=(oE (oS 1 (kSc (rP ql (ot (oy 0) oC))))
 (oE (oS 2 (kSc (rP ql (ot (rOf (pH Zl.Iu (oH (oQ 0) oW))) oC))))
 (oE (oS 3 (kSc (rP ql (ot (rOf (pH K15.JS (oH (oQ 0) oW))) oC))))
 (oE (oS 4 (kSc (rP ql (ot (rOf (pH K51.Ar (oH (oQ 0) oW))) oC))))
 (oE (oS 5 (kSc (pK yq (pK yu (pK xx (pK yu (pK BC (rC (.int 2)) (oy 4)) (oy 1)) (oy 2)) (oy 3)) (rC (.int 2)))))
 (qa (RG (oH (oQ 1) (oH (oQ 2) (oH (oQ 3) (oH (oQ 4) (oH (oQ 5) oW))))))))))))
def AI:MF:=rB 1 6 Le
end K43
namespace K41
open PySem L2 Mr Z
def sX:MS:=(oE (oS 7 (kSc (xC (oy 2) (DV xk (oy 6))))) (wt (rp (pK Jq (oy 7) (oy 1))) (UZ 5 (pK G2 (rOf (pH K51.uF (oH (oQ 3) (oH (oQ 7) oW)))) (rC (.int 0))) (rP Jl (ot (oy 6) oC))) (wt (rp (pK FA (oy 6) (rC (.int 0)))) (uV 4 (rQ (oH (oQ 6) oW))) pU)))
def Ed:MS:=(oE (oS 2 (pH Zl.tj (oH (oQ 0) oW)))
 (oE (oS 3 (pH K43.sH (oH (oQ 0) (oH (qM (wm (Qx (sR 0) (oy 1))) [] qt (kSc (rP Jl (ot (oy 0) oC)))) oW))))
 (oE (oS 4 (rQ oW))
 (oE (oS 5 vi)
 (oE (xg 6 (Qx (sR 0) (oy 1)) sX)
 (qa (zc (MW 4 (qM (Uv 5) [] qt (yz (sR 0)))))))))))
def tm:MF:=rB 2 8 Ed
def GX:MS:=(qa (qM (QA (ot (rP ql (ot (oy 0) oC)) oC)) [0] (rp (pK XA (rP ql (ot (rOf (pH K41.tm (oH (oQ 1) (oH (oQ 0) oW)))) oC)) (rC (.int 2)))) (oQ 0)))
def zh:MF:=rB 1 1 GX
end K41
namespace K44
open PySem L2 Mr Z
def mb_L_lands_0:MS:=(oE (vS 2 (oy 4) (oQ 3)) (oS 4 (kSc (DF (oy 1) (DV xk (oy 4))))))
def mb_L_lands_1:MS:=(oE (oS 4 (oQ 3)) (qT (rp (rY (oy 4) (oy 2))) mb_L_lands_0 100000))
def mf_L_lands:MS:=(oE (oS 1 (pH K15.vD (oH (oQ 0) oW)))
 (oE (oS 2 vi)
 (oE (GQ 3 1 mb_L_lands_1)
 (qa (zi 2)))))
def f_L_lands:MF:=rB 1 5 mf_L_lands
def uL:MS:=(oE (oS 2 (kSc (pK xx (pK xx (oy 2) (rC (.int 1))) (pK sr (oy 0) (pK B2 (rC (.int 10)) (rC (.int 57))))))) (oE (oS 0 (kSc (pK Ka (oy 0) (pK B2 (rC (.int 10)) (rC (.int 57)))))) (uV 3 (oQ 2))))
def yv:MS:=(oE (oS 2 (kSc (rC (.int 0))))
 (oE (oS 3 (rQ oW))
 (oE (vM 4 (ot (oy 1) oC) uL)
 (qa (zi 3)))))
def sO:MF:=rB 2 5 yv
def yf:MS:=(oE (N4 3 (vw 2 (pK sr (oy 0) (rP ql (ot (oy 2) oC))))) (oS 0 (kSc (pK yq (oy 0) (pK xx (rP ql (ot (oy 2) oC)) (rC (.int 1)))))))
def CB:MS:=(oE (oS 2 (vJ (sR 1)))
 (oE (oS 3 (rQ oW))
 (oE (vM 4 (ot (rP ql (ot (oy 1) oC)) oC) yf)
 (qa (zi 3)))))
def uM:MF:=rB 2 5 CB
def uk:MS:=(Lg 2 (lOf (rQ (oH (oQ 3) (oH (kSc (DV xk (oy 3))) oW)))))
def tZ:MS:=(uV 8 (kSc (xC (oy 4) (pK G2 (oy 8) (DV xk (rC (.int 1)))))))
def uf:MS:=(vS 6 (oy 9) (kSc (rC (.bl true))))
def tu:MS:=(wt (rp (rY (oy 7) (oy 6))) (oE (oS 8 (rQ (oH (oQ 7) oW))) (oE (qT (rp (pK Jq (xC (oy 4) (pK G2 (oy 8) (DV xk (rC (.int 1))))) (oy 7))) tZ 100000) (oE (xg 9 (oQ 8) uf) (uV 5 (oQ 8))))) pU)
def Aj:MS:=(oE (oS 2 (rQ oW))
 (oE (xg 3 (oQ 1) uk)
 (oE (oS 4 (YA (ot (oy 2) (ot (rOf (pH K44.uM (oH (oQ 0) (oH (oQ 2) oW)))) oC))))
 (oE (oS 5 (rQ oW))
 (oE (oS 6 vi)
 (oE (xg 7 (oQ 2) tu)
 (qa (zi 5))))))))
def uY:MF:=rB 2 10 Aj
def wY:MS:=(oE (uV 1 (kSc (pK sr (oy 0) (rC (.int 8))))) (oS 0 (kSc (pK yq (oy 0) (rC (.int 8))))))
def BF:MS:=(oE (oS 1 (rQ oW))
 (oE (vM 2 (ot (rC (.int 60)) oC) wY)
 (qa (zi 1))))
def vX:MF:=rB 1 3 BF
def mf_L_any:MS:=(oE (oS 1 (kSc (qj Zl.oN (ot (oy 0) (ot (rC (.int 2)) oC)))))
 (oE (oS 2 (pH K44.uM (oH (kSc (qj Zl.oN (ot (oy 0) (ot (rC (.int 1)) oC)))) (oH (pH K44.sO (oH (kSc (qj Zl.oN (ot (oy 0) (ot (rC (.int 0)) oC)))) (oH (kSc (rC (.int 30))) oW))) oW))))
 (oE (wt (rp (pK DT (pK sr (oy 1) (rC (.int 2))) (rC (.int 1)))) (qa (pH K44.uY (oH (kSc (qj Zl.oN (ot (oy 0) (ot (rC (.int 3)) oC)))) (oH (Oq (sR 2) zC (wQ (pK sr (pK yq (oy 1) (rC (.int 2))) (rC (.int 31))))) oW)))) pU)
 (qa (pH K31.tG (oH (pH K44.vX (oH (kSc (qj Zl.oN (ot (oy 0) (ot (rC (.int 3)) oC)))) oW)) (oH (oQ 2) (oH (kSc (rC (.bl false))) oW))))))))
def f_L_any:MF:=rB 1 3 mf_L_any
end K44
namespace K46
open PySem L2 Mr Z
def xA:MS:=(wt (rp (pK S8 (rLset (lOf (qM (wm (Qx (sR 5) (oy 9))) [7] qt (kSc (xC (oy 1) (oy 0)))))) (rP ql (ot (pK G2 (oy 5) (oy 9)) oC)))) (uV 8 (oQ 9)) pU)
def Nv:MS:=(oE (oS 1 (kSc (qj Zl.oN (ot (oy 0) (ot (rC (.int 0)) oC)))))
 (oE (oS 2 (kSc (qj Zl.oN (ot (oy 0) (ot (rC (.int 1)) oC)))))
 (oE (oS 3 (kSc (qj Zl.oN (ot (oy 0) (ot (rC (.int 2)) oC)))))
 (oE (oS 4 (qM (QA (ot (rC (.int 20)) oC)) [1,2] qt (kSc (qj K31.tP (ot (oy 1) (ot (oy 2) (ot (oy 0) oC)))))))
 (oE (oS 5 (pH Zl.pQ (oH (Da (lOf (pH K31.tG (oH (Oq (sR 0) (wQ (rC (.int 3))) (wQ (rC (.int 66)))) (oH (oQ 4) (oH (kSc (pK DT (pK sr (oy 3) (rC (.int 2))) (rC (.int 1)))) oW))))) (lOf (qM (QA (ot (pK sr (pK yq (oy 3) (rC (.int 2))) (rC (.int 3))) oC)) [] qt (rQ oW)))) oW)))
 (oE (wt (rp (pK DT (pK sr (rP ql (ot (oy 0) oC)) (rC (.int 2))) (rC (.int 0)))) (oS 5 (pH Zl.pQ (oH (Da (lOf (pH K44.f_L_any (oH (oQ 0) oW))) (lOf (qM (QA (ot (pK sr (qj Zl.oN (ot (oy 0) (ot (rC (.int 4)) oC))) (rC (.int 4))) oC)) [] qt (rQ oW)))) oW))) pU)
 (oE (oS 6 (pH K41.zh (oH (pH K51.xq (oH (oQ 5) oW)) oW)))
 (oE (oS 7 (pH K44.f_L_lands (oH (oQ 5) oW)))
 (oE (oS 8 (rQ oW))
 (oE (vM 9 (ot (rP ql (ot (oy 5) oC)) oC) xA)
 (oE (wt (uv (rp (qj K31.uK (ot (oy 6) oC)))) (qa (kSc (rC (.bl false)))) pU)
 (oE (wt (rp (pK DT (pK sr (oy 3) (rC (.int 2))) (rC (.int 0)))) (qa (kSc (pK D0 (oy 6) (oy 8)))) pU)
 (qa (kSc (DD (pK D0 (oy 6) (rOf (yz (sR 6)))) (rP Ge (ot (rOf (qM (wm (oQ 6)) [8] qt (kSc (pK (Gq false) (oy 0) (oy 1))))) oC)))))))))))))))))
def Ju:MF:=rB 1 10 Nv
def Co(i:Nat):Stmt:=PySem.Challenge.pw_mapround_k46_whole_doors_and_lands.main.body.getD i (.Pass ⟨0,0,0,0⟩)
section
variable {P:kf}{w:ki}{K:W.Frag}{mg:Str->Option Value}{base:Heap}
abbrev tS:Stmt:=Co 1
theorem uh:qm ["m", "places", "place", "turn", "end"] ["m"] (pB tS):=by trivial
theorem FE     (D:Cd K mg "places_at" tS ["m"] f fd) (B:Bt mg)     : Fn P w K mg base 1 "places_at" tS ["m"] (qN K Zl.tj) f fd :=
 ⟨D,D.F.ok uh (λ_ _ _ _=>rL) λve A outer s H vs Q E hr h=>⟨_,(oB (oX (i:=1) uh.nd rfl (by trivial) yG) (oB (tR PassesOwn.never rfl (Sw (by rfl) B.enum (ox (pv 0) oA)) (TX rfl (Hm (qZ (i:=2) uh.nd rfl (by trivial)) (Hm (qZ (i:=3) uh.nd rfl (by trivial)) QJ))) (oK (tR PassesOwn.never rfl (rE (pv 3)) (qZ (i:=4) uh.nd rfl (by trivial)) (oK (AG (wO hr) (pv 1) (pv 4) (pv 2) rfl))))) (oK (qB (pv 1))))),qi _ (K:=K) (oO (pE (i:=1) Ao) (oO (Sa (pM 0) (yU (pM 3) (A0 (i:=1) (pM 2) (oz 4)))) (qG (yy 1)))) h⟩⟩
abbrev xB:Stmt:=Co 3
theorem HU:qm ["turn", "gone"] ["turn", "gone"] (pB xB):=by trivial
theorem IA     (D:Cd K mg "thinned" xB ["turn", "gone"] f fd) (B:Bt mg)     : Fn P w K mg base 1 "thinned" xB ["turn", "gone"] (qN K K23.vE) f fd :=
 ⟨D,D.F.ok HU (λ_ _ _ _=>rL) λve A outer s H vs Q E hr h=>⟨_,(oK (qB (tD (N:=["end", "gone"]) (fr:=[1]) rfl rfl (by decide +kernel) rfl (by decide +kernel) rfl (tL.of (by decide +kernel) rfl rfl (by exact⟨rfl,trivial⟩) (by repeat (first|exact trivial|refine⟨(by first|exact λ_=>⟨_,rfl⟩|exact λh=>(by rcases h with h|h <;> cases h)),?_⟩)) (by exact⟨⟨rfl,rfl,rfl⟩,trivial⟩)) (rE (pv 0)) (λ_ _ _ _=>Mw (qI E8 (pv 0) (pv 1) rfl)) (λ_ _ _ _=>(pv 0))))),qi _ (K:=K) (qG (ue (pM 0) (qJ (oT (P4 true) (oz 0) (oz 1))) (pM 0))) h⟩⟩
abbrev xp:Stmt:=Co 5
theorem tQ:qm ["m", "start", "place_of", "known", "waiting", "here", "end", "there"] ["m", "start"] (pB xp):=by trivial
theorem Ji  (D:Cd K mg "reached" xp ["m", "start"] f fd) (B:Bt mg)   (G_places_at:Fn P w K mg base 1 "places_at" tS ["m"] (qN K Zl.tj) fplaces_at fdplaces_at)  : Fn P w K mg base 2 "reached" xp ["m", "start"] (qN K K51.uF) f fd :=
 ⟨D,D.F.ok tQ (λ_ _ _ _=>rL) λve A outer s H vs Q E hr h=>⟨_,(oB (oX (i:=2) tQ.nd rfl (by trivial) (qU G_places_at (hr.mono (by decide)) (ox (pv 0) oA))) (oB (oX (i:=3) tQ.nd rfl (by trivial) (Rg (Qm (pv 1) D9 RJ) rfl rfl (by simp) (by decide))) (oB (oX (i:=4) tQ.nd rfl (by trivial) (rZ (ox (pv 1) oA))) (oB (AQ PassesOwn.never (qI C8 (oY qe (by rfl) B.len PySem.boot_len (ox (pv 4) oA)) oI (rm _)) (oB (oX (i:=5) tQ.nd rfl (by trivial) (HQ ay cW cX Jd (pv 4))) (oK (tR PassesOwn.never rfl (rE (vZ sv (pv 0) (pv 5) (λ_ _=>rfl))) (qZ (i:=6) tQ.nd rfl (by trivial)) (oB (oX (i:=7) tQ.nd rfl (by trivial) (yZ (wO hr) (pv 2) (AR xS (pv 6)) (by first|rfl|exact trivial|(intro _ _;rfl)))) (oK (uA (HL (Bm (wO hr) (pv 7) (pv 3))) (oB (AG (wO hr) (pv 3) (pv 7) D9 rfl) (oK (rA (tU ay aM aN qw (pv 4) (ox (pv 7) oA))))) sU))))))) (oK (qB (oY (Fw rfl) (by rfl) B.sorted df (ox (pv 3) oA)))))))),qi _ (K:=K) (oO (pE (i:=2) (qE (oZ (pM 0) pR))) (oO (pE (i:=3) (Qd (oz 1) (SR.kSc EG))) (oO (pE (i:=4) (sq (oZ (pM 1) pR))) (oO (Az 100000 (qJ (oT Cv (ri rn (oD (oz 4) oR)) oJ)) (oO (RI (i:=5) (EY (i:=4))) (yU (JE (uH 0) (oz 5)) (oO (pE (i:=7) (SR.kSc (Av (oz 2) (Ah yl (oz 6))))) (wB (DB (Bx (oz 7) (oz 3))) (oO (A0 (i:=3) (SR.kSc EG) (oz 7)) (xh (i:=4) (pM 7))) tE))))) (qG (Pu (oz 3))))))) h⟩⟩
abbrev sL:Stmt:=Co 7
theorem xw:qm ["m", "roads", "gone"] ["m", "roads"] (pB sL):=by trivial
theorem A9  (D:Cd K mg "without_roads" sL ["m", "roads"] f fd) (B:Bt mg)   (G_thinned:Fn P w K mg base 1 "thinned" xB ["turn", "gone"] (qN K K23.vE) fthinned fdthinned)  : Fn P w K mg base 2 "without_roads" sL ["m", "roads"] (qN K K43.sH) f fd :=
 ⟨D,D.F.ok xw (λ_ _ _ _=>rL) λve A outer s H vs Q E hr h=>⟨_,(oB (oX (i:=2) xw.nd rfl (by trivial) (pP C2 (pv 1) (tD (cl:=[]) (N:=["road"]) (fr:=[]) rfl rfl (by decide +kernel) rfl (by decide +kernel) rfl (tL.none (by decide +kernel)) (rE (pv 1)) (λ_ _ _ _=>vh) (λ_ _ _ _=>(AR xS (pv 0)))))) (oK (qB (tD (N:=["turn", "gone"]) (fr:=[2]) rfl rfl (by decide +kernel) rfl (by decide +kernel) rfl (tL.of (by decide +kernel) rfl rfl (by exact⟨rfl,trivial⟩) (by repeat (first|exact trivial|refine⟨(by first|exact λ_=>⟨_,rfl⟩|exact λh=>(by rcases h with h|h <;> cases h)),?_⟩)) (by exact⟨⟨rfl,rfl,rfl⟩,trivial⟩)) (rE (pv 0)) (λ_ _ _ _=>vh) (λ_ _ _ _=>(qU G_thinned (hr.mono (by decide)) (ox (pv 0) (ox (pv 1) oA)))))))),qi _ (K:=K) (oO (pE (i:=2) (Ff (Ii 1) (SK.lOf (ue (pM 1) vf (SR.kSc (Ah yl (oz 0))))))) (qG (ue (pM 0) vf (qE (oZ (pM 0) (oZ (pM 1) pR)))))) h⟩⟩
abbrev yV:Stmt:=Co 8
theorem uD:qm ["m", "place", "place_of", "past", "loops", "hanging", "end", "there"] ["m", "place"] (pB yV):=by trivial
theorem Lc  (D:Cd K mg "groups" yV ["m", "place"] f fd) (B:Bt mg)   (G_places_at:Fn P w K mg base 1 "places_at" tS ["m"] (qN K Zl.tj) fplaces_at fdplaces_at) (G_without_roads:Fn P w K mg base 2 "without_roads" sL ["m", "roads"] (qN K K43.sH) fwithout_roads fdwithout_roads) (G_reached:Fn P w K mg base 2 "reached" xp ["m", "start"] (qN K K51.uF) freached fdreached)  : Fn P w K mg base 3 "groups" yV ["m", "place"] (qN K K41.tm) f fd :=
 ⟨D,D.F.ok uD (λ_ _ _ _=>rL) λve A outer s H vs Q E hr h=>have hu:=hr.units;⟨_,(oB (oX (i:=2) uD.nd rfl (by trivial) (qU G_places_at (hr.mono (by decide)) (ox (pv 0) oA))) (oB (oX (i:=3) uD.nd rfl (by trivial) (qU G_without_roads (hr.mono (by decide)) (ox (pv 0) (ox (tD (cl:=[]) (N:=["end"]) (fr:=[]) rfl rfl (by decide +kernel) rfl (by decide +kernel) rfl (tL.none (by decide +kernel)) (rE (vZ sv (pv 0) (pv 1) (λ_ _=>rfl))) (λ_ _ _ _=>vh) (λ_ _ _ _=>(oY Hn (by rfl) B.abs iI (ox (pv 0) oA)))) oA)))) (oB (oX (i:=4) uD.nd rfl (by trivial) (rZ oA)) (oB (oX (i:=5) uD.nd rfl (by trivial) yG) (oB (tR PassesOwn.never rfl (rE (vZ sv (pv 0) (pv 1) (λ_ _=>rfl))) (qZ (i:=6) uD.nd rfl (by trivial)) (oB (oX (i:=7) uD.nd rfl (by trivial) (yZ (wO hr) (pv 2) (AR xS (pv 6)) (by first|rfl|exact trivial|(intro _ _;rfl)))) (oK (uA (qI Td (pv 7) (pv 1) (rm _)) (oK (rA (tU ay aM aN qw (K1 (pv 5) (vZ sv (qU G_reached (hr.mono (by decide)) (ox (pv 3) (ox (pv 7) oA))) oI (λ_ _=>rfl)) (rZ oA) ⟨rfl,rfl,rfl,rfl⟩) (ox (oY Hn (by rfl) B.abs iI (ox (pv 6) oA)) oA)))) (oK (uA (qI C8 (pv 6) oI (rm _)) (oK (rA (tU ay aM aN qw (pv 4) (ox (rZ (ox (pv 6) oA)) oA)))) sU)))))) (oK (qB (oY (AU hu) (by rfl) B.sorted df (ox (pP C2 (pv 4) (tD (cl:=[]) (N:=["roads"]) (fr:=[]) rfl rfl (by decide +kernel) rfl (by decide +kernel) rfl (tL.none (by decide +kernel)) (Xe.Q2 (pv 5)) (λ_ _ _ _=>vh) (λ_ _ _ _=>(oY AL (by rfl) B.sorted df (ox (pv 0) oA))))) oA))))))))),qi _ (K:=K) (oO (pE (i:=2) (qE (oZ (pM 0) pR))) (oO (pE (i:=3) (qE (oZ (pM 0) (oZ (ue (JE (uH 0) (oz 1)) vf (SR.kSc (ri Qr (oD (oz 0) oR)))) pR)))) (oO (pE (i:=4) (sq pR)) (oO (pE (i:=5) Ao) (oO (yU (JE (uH 0) (oz 1)) (oO (pE (i:=7) (SR.kSc (Av (oz 2) (Ah yl (oz 6))))) (wB (qJ (oT SX (oz 7) (oz 1))) (Vt (i:=5) (oT AA (SK.rOf (qE (oZ (pM 3) (oZ (pM 7) pR)))) oJ) (ri Qr (oD (oz 6) oR))) (wB (qJ (oT Cv (oz 6) oJ)) (xh (i:=4) (sq (oZ (pM 6) pR))) tE)))) (RL (KL (Uq (j:=4) (PB (i:=5) vf (G9 (uH 0))))))))))) h⟩⟩
abbrev AX:Stmt:=Co 9
theorem Og:qm ["m"] ["m"] (pB AX):=by trivial
theorem Ql  (D:Cd K mg "doors" AX ["m"] f fd) (B:Bt mg)   (G_groups:Fn P w K mg base 3 "groups" yV ["m", "place"] (qN K K41.tm) fgroups fdgroups)  : Fn P w K mg base 4 "doors" AX ["m"] (qN K K41.zh) f fd :=
 ⟨D,D.F.ok Og (λ_ _ _ _=>rL) λve A outer s H vs Q E hr h=>⟨_,(oK (qB (tD (N:=["place", "m"]) (fr:=[0]) rfl rfl (by decide +kernel) rfl (by decide +kernel) rfl (tL.of (by decide +kernel) rfl rfl (by exact⟨rfl,trivial⟩) (by repeat (first|exact trivial|refine⟨(by first|exact λ_=>⟨_,rfl⟩|exact λh=>(by rcases h with h|h <;> cases h)),?_⟩)) (by exact⟨⟨rfl,rfl,rfl⟩,trivial⟩)) (tI (by rfl) B.range (ox (oY qe (by rfl) B.len PySem.boot_len (ox (pv 0) oA)) oA)) (λ_ _ _ _=>Mw (qI V9 (oY qe (by rfl) B.len PySem.boot_len (ox (qU G_groups (hr.mono (by decide)) (ox (pv 1) (ox (pv 0) oA))) oA)) oI (rm _))) (λ_ _ _ _=>(pv 0))))),qi _ (K:=K) (qG (zf (oD (ri rn (oD (oz 0) oR)) oR) (qJ (oT WK (ri rn (oD (SK.rOf (qE (oZ (pM 1) (oZ (pM 0) pR)))) oR)) oJ)) (pM 0))) h⟩⟩
abbrev xF:Stmt:=Co 11
theorem Kz:qm ["_law_script", "_law_k"] ["_law_script", "_law_k"] (pB xF):=by trivial
theorem Lb     (D:Cd K mg "_law_cell" xF ["_law_script", "_law_k"] f fd) (B:Bt mg)     : Fn P w K mg base 1 "_law_cell" xF ["_law_script", "_law_k"] (qN K Zl.oN) f fd :=
 ⟨D,D.F.ok Kz (λ_ _ _ _=>rL) λve A outer s H vs Q E hr h=>⟨_,(oB (uA (qI SZ (pv 1) (oY qe (by rfl) B.len PySem.boot_len (ox (pv 0) oA)) (rm _)) (oK (qB (vZ sv (pv 0) (pv 1) (λ_ _=>rfl)))) sU) (oK (qB oI))),qi _ (K:=K) (oO (wB (qJ (oT S4 (oz 1) (ri rn (oD (oz 0) oR)))) (qG (SR.kSc (oT AA (oz 0) (oz 1)))) tE) (qG (SR.kSc oJ))) h⟩⟩
abbrev yF:Stmt:=Co 12
theorem xr:qm ["_law_one", "_law_two", "_law_k", "_law_step", "_law_shift"] ["_law_one", "_law_two", "_law_k"] (pB yF):=by trivial
theorem LX     (D:Cd K mg "_law_name" yF ["_law_one", "_law_two", "_law_k"] f fd) (B:Bt mg)     : Fn P w K mg base 1 "_law_name" yF ["_law_one", "_law_two", "_law_k"] (qN K K31.tP) f fd :=
 ⟨D,D.F.ok xr (λ_ _ _ _=>rL) λve A outer s H vs Q E hr h=>⟨_,(oB (oX (i:=3) xr.nd rfl (by trivial) oI) (oB (oX (i:=4) xr.nd rfl (by trivial) oI) (oB (uA (qI C8 (pP rN (pv 0) oI) oI (rm _)) (oB (oX (i:=3) xr.nd rfl (by trivial) (pP xP oI (pP rN (pP wK (pv 0) oI) (pP E3 oI oI)))) (oK (oX (i:=4) xr.nd rfl (by trivial) (pP rN (pP wK (pv 1) oI) (pP E3 oI oI))))) sU) (oK (qB (pP xP (pP Fv (pv 3) (pP xP (pP rN (pP xP (pP Fv (pP xP oI (pP rN (pv 1) oI)) (pv 2)) (pv 0)) oI) oI)) (pv 4))))))),qi _ (K:=K) (oO (pE (i:=3) (SR.kSc oJ)) (oO (pE (i:=4) (SR.kSc oJ)) (oO (wB (qJ (oT Cv (oT rH (oz 0) oJ) oJ)) (oO (pE (i:=3) (SR.kSc (oT xJ oJ (oT rH (oT yI (oz 0) oJ) (oT EN oJ oJ))))) (pE (i:=4) (SR.kSc (oT rH (oT yI (oz 1) oJ) (oT EN oJ oJ))))) tE) (qG (SR.kSc (oT xJ (oT Fz (oz 3) (oT xJ (oT rH (oT xJ (oT Fz (oT xJ oJ (oT rH (oz 1) oJ)) (oz 2)) (oz 0)) oJ) oJ)) (oz 4))))))) h⟩⟩
abbrev vB:Stmt:=Co 13
theorem rG:qm ["_law_cells", "_law_names", "_law_wild", "_law_turns_here", "_law_way", "_law_loose", "_law_left", "_law_cell_here", "_law_here", "_law_at", "_law_end"] ["_law_cells", "_law_names", "_law_wild"] (pB vB):=by trivial
theorem HB     (D:Cd K mg "_law_turns" vB ["_law_cells", "_law_names", "_law_wild"] f fd) (B:Bt mg)     : Fn P w K mg base 1 "_law_turns" vB ["_law_cells", "_law_names", "_law_wild"] (qN K K31.tG) f fd :=
 ⟨D,D.F.ok rG (λ_ _ _ _=>rL) λve A outer s H vs Q E hr h=>⟨_,(oB (oX (i:=3) rG.nd rfl (by trivial) (rZ (ox (rZ oA) oA))) (oB (oX (i:=4) rG.nd rfl (by trivial) (rZ (ox oI oA))) (oB (oX (i:=5) rG.nd rfl (by trivial) (rZ oA)) (oB (oX (i:=6) rG.nd rfl (by trivial) (Bo xU (by rfl) B.list eU (ox (pv 1) oA))) (oB (tR PassesOwn.never rfl (rE (pv 0)) (qZ (i:=7) rG.nd rfl (by trivial)) (oB (oX (i:=8) rG.nd rfl (by trivial) (vZ sv (pv 3) (vZ sv (pv 4) (pP CI (oY qe (by rfl) B.len PySem.boot_len (ox (pv 4) oA)) oI) (λ_ _=>rfl)) (λ_ _=>rfl))) (oK (uA (PW.pt (Oe (qI BQ (pP rN (pv 7) oI) oI (rm _)) (Jv (qI C8 (oY qe (by rfl) B.len PySem.boot_len (ox (pv 4) oA)) oI (rm _))))) (oK (rA (HQ ay cW cX Jd (pv 4)))) (oK (uA (PW.pt (Oe (qI BQ (pP rN (pv 7) oI) oI (rm _)) (Jv (qI C8 (oY qe (by rfl) B.len PySem.boot_len (ox (pv 5) oA)) oI (rm _))))) (oB (oX (i:=9) rG.nd rfl (by trivial) (pP CI (oY qe (by rfl) B.len PySem.boot_len (ox (pv 5) oA)) oI)) (oB (uA (Hs (pv 2)) (oK (oX (i:=9) rG.nd rfl (by trivial) (pP rN (pP wK (pv 7) oI) (oY qe (by rfl) B.len PySem.boot_len (ox (pv 5) oA))))) sU) (oK (rA (tU ay aM aN qw (pv 8) (ox (tU ay cW cX Cw (pv 5) (ox (pv 9) oA)) oA)))))) (oK (uA (qI C8 (oY qe (by rfl) B.len PySem.boot_len (ox (pv 6) oA)) oI (rm _)) (oB (oX (i:=10) rG.nd rfl (by trivial) (pP Fv (tU ay cW cX Cw (pv 6) (ox oI oA)) (pP CI oI (pP Fv oI (pP rN (pP wK (pv 7) oI) oI))))) (oB (rA (tU ay aM aN qw (pv 8) (ox (pv 10) oA))) (oK (uA (qI BQ (pP rN (pv 7) oI) oI (rm _)) (oB (rA (tU ay aM aN qw (pv 3) (ox (rZ (ox (AR xS (pv 10)) oA)) oA))) (oK (rA (tU ay aM aN qw (pv 4) (ox (pP CI (oY qe (by rfl) B.len PySem.boot_len (ox (pv 3) oA)) oI) oA))))) (oK (rA (tU ay aM aN qw (pv 5) (ox (AR xS (pv 10)) oA)))))))) sU)))))))) (oB (AQ PassesOwn.never (qI C8 (oY qe (by rfl) B.len PySem.boot_len (ox (pv 5) oA)) oI (rm _)) (oK (rA (tU ay aM aN qw (vZ sv (pv 3) (vZ sv (pv 4) (pP CI (oY qe (by rfl) B.len PySem.boot_len (ox (pv 4) oA)) oI) (λ_ _=>rfl)) (λ_ _=>rfl)) (ox (HQ ay cW cX Jd (pv 5)) oA))))) (oK (qB (pv 3))))))))),qi _ (K:=K) (oO (pE (i:=3) (sq (oZ (sq pR) pR))) (oO (pE (i:=4) (sq (oZ (SR.kSc oJ) pR))) (oO (pE (i:=5) (sq pR)) (oO (pE (i:=6) (E5 (uH 1))) (oO (yU (pM 0) (TU (MQ (Kp 3) (oT AA (oz 4) (oT CM (ri rn (oD (oz 4) oR)) oJ))) (Ph (P2 (qJ (oT Al (oT rH (oz 7) oJ) oJ)) (qJ (oT Cv (ri rn (oD (oz 4) oR)) oJ))) (Ta (Oo (EY (i:=4)))) (Ph (P2 (qJ (oT Al (oT rH (oz 7) oJ) oJ)) (qJ (oT Cv (ri rn (oD (oz 5) oR)) oJ))) (Iy (Kk (SR.kSc (oT CM (ri rn (oD (oz 5) oR)) oJ)) (by decide)) (Iy (VD (DB (oz 2)) (Kk (SR.kSc (oT rH (oT yI (oz 7) oJ) (ri rn (oD (oz 5) oR)))) (by decide)) (MZ (λ_ _ _ h=>h))) (Q3 (Dk (i:=5) (oz 9))))) (Ph (qJ (oT Cv (ri rn (oD (oz 6) oR)) oJ)) (Iy (NR (V7 Fz (Dk (i:=6) oJ) (oT CM oJ (oT Fz oJ (oT rH (oT yI (oz 7) oJ) oJ)))) (by decide)) (Vr (Ud (pM 10)) (wB (qJ (oT Al (oT rH (oz 7) oJ) oJ)) (oO (xh (i:=3) (sq (oZ (SR.kSc (Ah yl (oz 10))) pR))) (xh (i:=4) (SR.kSc (oT CM (ri rn (oD (oz 3) oR)) oJ)))) (xh (i:=5) (SR.kSc (Ah yl (oz 10))))))) (Ta tE)))))) (oO (Az 100000 (qJ (oT Cv (ri rn (oD (oz 5) oR)) oJ)) (Nn (MQ (Kp 3) (oT AA (oz 4) (oT CM (ri rn (oD (oz 4) oR)) oJ))) (EY (i:=5)))) (qG (yy 3)))))))) h⟩⟩
abbrev vL:Stmt:=Co 14
theorem BI:qm ["_law_turn", "_law_at"] ["_law_turn"] (pB vL):=by trivial
theorem Gw     (D:Cd K mg "_law_turned" vL ["_law_turn"] f fd) (B:Bt mg)     : Fn P w K mg base 1 "_law_turned" vL ["_law_turn"] (qN K Zl.vR) f fd :=
 ⟨D,D.F.ok BI (λ_ _ _ _=>rL) λve A outer s H vs Q E hr h=>⟨_,(oB (uA (qI BQ (oY qe (by rfl) B.len PySem.boot_len (ox (pv 0) oA)) oI (rm _)) (oK (qB (rZ oA))) sU) (oB (oX (i:=1) BI.nd rfl (by trivial) (tU ay iu PySem.F.type_list_index O6 (pv 0) (ox (oY (LU rfl) (by rfl) B.min jR (ox (pv 0) oA)) oA))) (oK (qB (pP C2 (Am Cq (pv 0) (AM (pv 1)) EU) (Am Cq (pv 0) EU (AM (pv 1)))))))),qi _ (K:=K) (oO (wB (qJ (oT Al (ri rn (oD (oz 0) oR)) oJ)) (qG (sq pR)) tE) (oO (pE (i:=1) (SR.kSc (VT (T := "list") OE (oz 0) (oD (ri Vj (oD (oz 0) oR)) oR)))) (qG (Ff (SK.lOf (J7 (uH 0) (AD (oz 1)) EX)) (SK.lOf (J7 (uH 0) EX (AD (oz 1)))))))) h⟩⟩
abbrev yP:Stmt:=Co 15
theorem KD:qm ["_law_turns_here"] ["_law_turns_here"] (pB yP):=by trivial
theorem K2  (D:Cd K mg "_law_good" yP ["_law_turns_here"] f fd) (B:Bt mg)   (Ja:Fn P w K mg base 1 "_law_turned" vL ["_law_turn"] (qN K Zl.vR) fL_turned fdL_turned)  : Fn P w K mg base 2 "_law_good" yP ["_law_turns_here"] (qN K Zl.pQ) f fd :=
 ⟨D,D.F.ok KD (λ_ _ _ _=>rL) λve A outer s H vs Q E hr h=>have hu:=hr.units;⟨_,(oK (qB (oY (AU hu) (by rfl) B.sorted df (ox (tD (cl:=[]) (N:=["_law_turn"]) (fr:=[]) rfl rfl (by decide +kernel) rfl (by decide +kernel) rfl (tL.none (by decide +kernel)) (rE (pv 0)) (λ_ _ _ _=>vh) (λ_ _ _ _=>(qU Ja (hr.mono (by decide)) (ox (pv 0) oA)))) oA)))),qi _ (K:=K) (qG (KU (ue (pM 0) vf (qE (oZ (pM 0) pR))))) h⟩⟩
abbrev yD:Stmt:=Co 16
theorem Md:qm ["_law_m"] ["_law_m"] (pB yD):=by trivial
theorem Li     (D:Cd K mg "_law_copy" yD ["_law_m"] f fd) (B:Bt mg)     : Fn P w K mg base 1 "_law_copy" yD ["_law_m"] (qN K K51.xq) f fd :=
 ⟨D,D.F.ok Md (λ_ _ _ _=>rL) λve A outer s H vs Q E hr h=>⟨_,(oK (qB (tD (cl:=[]) (N:=["_law_turn"]) (fr:=[]) rfl rfl (by decide +kernel) rfl (by decide +kernel) rfl (tL.none (by decide +kernel)) (rE (pv 0)) (λ_ _ _ _=>vh) (λ_ _ _ _=>(Bo xU (by rfl) B.list eU (ox (pv 0) oA)))))),qi _ (K:=K) (qG (ue (pM 0) vf (E5 (uH 0)))) h⟩⟩
abbrev vU:Stmt:=Co 17
theorem G3:qm ["_law_found"] ["_law_found"] (pB vU):=by trivial
theorem GT     (D:Cd K mg "_law_wholes" vU ["_law_found"] f fd) (B:Bt mg)     : Fn P w K mg base 1 "_law_wholes" vU ["_law_found"] (qN K K31.uK) f fd :=
 ⟨D,D.F.ok G3 (λ_ _ _ _=>rL) λve A outer s H vs Q E hr h=>⟨_,(oB (uA (O4 (Hs (oY CC (by rfl) B.isi eV (ox (pv 0) (ox (Ft (v:=.ty "list") (by rfl) B.list eU rfl) oA))))) (oK (qB D9)) sU) (oK (qB (oY (GP rfl) (by rfl) B.all iJ (ox (tD (cl:=[]) (N:=["_law_one"]) (fr:=[]) rfl rfl (by decide +kernel) rfl (by decide +kernel) rfl (tL.none (by decide +kernel)) (rE (pv 0)) (λ_ _ _ _=>vh) (λ_ _ _ _=>(OQ (oY CC (by rfl) B.isi eV (ox (pv 0) (ox (Ft (v:=.ty "int") (by rfl) B.int jS rfl) oA))) (P8 (VB (oY CC (by rfl) B.isi eV (ox (pv 0) (ox (Ft (v:=.ty "bool") (by rfl) B.bool jO rfl) oA)))))))) oA))))),qi _ (K:=K) (oO (wB (P6 (DB (ri IM (oD (oz 0) (oD PZ oR))))) (qG (SR.kSc EG)) tE) (qG (SR.kSc (ri Mm (oD (SK.rOf (ue (pM 0) vf (SR.kSc (NG (ri IM (oD (oz 0) (oD PZ oR))) (UW (ri IM (oD (oz 0) (oD PZ oR)))))))) oR))))) h⟩⟩
abbrev wg:Stmt:=Co 18
theorem wG:qm ["_law_m", "_law_follow_here", "_law_turn", "_law_k"] ["_law_m"] (pB wg):=by trivial
theorem GY     (D:Cd K mg "_law_follow" wg ["_law_m"] f fd) (B:Bt mg)     : Fn P w K mg base 1 "_law_follow" wg ["_law_m"] (qN K K15.vD) f fd :=
 ⟨D,D.F.ok wG (λ_ _ _ _=>rL) λve A outer s H vs Q E hr h=>⟨_,(oB (oX (i:=1) wG.nd rfl (by trivial) yG) (oB (tR PassesOwn.never rfl (rE (pv 0)) (qZ (i:=2) wG.nd rfl (by trivial)) (oK (tR PassesOwn.never rfl (tI (by rfl) B.range (ox (oY qe (by rfl) B.len PySem.boot_len (ox (pv 2) oA)) oA)) (qZ (i:=3) wG.nd rfl (by trivial)) (oK (AG (wO hr) (pv 1) (vZ sv (pv 2) (pv 3) (λ_ _=>rfl)) (vZ sv (pv 2) (pP rN (pP xP (pv 3) oI) (oY qe (by rfl) B.len PySem.boot_len (ox (pv 2) oA))) (λ_ _=>rfl)) rfl))))) (oK (qB (pv 1))))),qi _ (K:=K) (oO (pE (i:=1) Ao) (oO (yU (pM 0) (yR (oD (ri rn (oD (oz 2) oR)) oR) (A0 (i:=1) (SR.kSc (oT AA (oz 2) (oT rH (oT xJ (oz 3) oJ) (ri rn (oD (oz 2) oR))))) (oT AA (oz 2) (oz 3))))) (qG (yy 1)))) h⟩⟩
abbrev xE:Stmt:=Co 19
theorem uJ:qm ["_law_m", "_law_follow_here", "_law_number", "_law_end", "_law_at"] ["_law_m"] (pB xE):=by trivial
theorem HG  (D:Cd K mg "_law_lands" xE ["_law_m"] f fd) (B:Bt mg)   (Hx:Fn P w K mg base 1 "_law_follow" wg ["_law_m"] (qN K K15.vD) fL_follow fdL_follow)  : Fn P w K mg base 2 "_law_lands" xE ["_law_m"] (qN K K44.f_L_lands) f fd :=
 ⟨D,D.F.ok uJ (λ_ _ _ _=>rL) λve A outer s H vs Q E hr h=>⟨_,(oB (oX (i:=1) uJ.nd rfl (by trivial) (qU Hx (hr.mono (by decide)) (ox (pv 0) oA))) (oB (oX (i:=2) uJ.nd rfl (by trivial) yG) (oB (tR PassesOwn.never rfl (Xe.QP (pv 1)) (qZ (i:=3) uJ.nd rfl (by trivial)) (oB (oX (i:=4) uJ.nd rfl (by trivial) (pv 3)) (oK (AQ PassesOwn.never (HL (Bm (wO hr) (pv 4) (pv 2))) (oB (AG (wO hr) (pv 2) (pv 4) (pv 3) rfl) (oK (oX (i:=4) uJ.nd rfl (by trivial) (yZ (wO hr) (pv 1) (AR xS (pv 4)) (by first|rfl|exact trivial|(intro _ _;rfl)))))))))) (oK (qB (pv 2)))))),qi _ (K:=K) (oO (pE (i:=1) (qE (oZ (pM 0) pR))) (oO (pE (i:=2) Ao) (oO (Ss (x:=3) (i:=1) (oO (pE (i:=4) (pM 3)) (Az 100000 (DB (Bx (oz 4) (oz 2))) (oO (A0 (i:=2) (pM 3) (oz 4)) (pE (i:=4) (SR.kSc (Oh (oz 1) (Ah yl (oz 4))))))))) (qG (yy 2))))) h⟩⟩
abbrev tO:Stmt:=Co 20
theorem sj:qm ["_law_cell_here", "_law_many", "_law_total", "_law_names", "_law_k"] ["_law_cell_here", "_law_many"] (pB tO):=by trivial
theorem CJ     (D:Cd K mg "_law_gap_names" tO ["_law_cell_here", "_law_many"] f fd) (B:Bt mg)     : Fn P w K mg base 1 "_law_gap_names" tO ["_law_cell_here", "_law_many"] (qN K K44.sO) f fd :=
 ⟨D,D.F.ok sj (λ_ _ _ _=>rL) λve A outer s H vs Q E hr h=>⟨_,(oB (oX (i:=2) sj.nd rfl (by trivial) oI) (oB (oX (i:=3) sj.nd rfl (by trivial) (rZ oA)) (oB (tR PassesOwn.never rfl (tI (by rfl) B.range (ox (pv 1) oA)) (qZ (i:=4) sj.nd rfl (by trivial)) (oB (oX (i:=2) sj.nd rfl (by trivial) (pP xP (pP xP (pv 2) oI) (pP rN (pv 0) (pP E3 oI oI)))) (oB (oX (i:=0) sj.nd rfl (by trivial) (pP Nd (pv 0) (pP E3 oI oI))) (oK (rA (tU ay aM aN qw (pv 3) (ox (pv 2) oA))))))) (oK (qB (pv 3)))))),qi _ (K:=K) (oO (pE (i:=2) (SR.kSc oJ)) (oO (pE (i:=3) (sq pR)) (oO (yR (oD (oz 1) oR) (oO (pE (i:=2) (SR.kSc (oT xJ (oT xJ (oz 2) oJ) (oT rH (oz 0) (oT EN oJ oJ))))) (oO (pE (i:=0) (SR.kSc (oT Q5 (oz 0) (oT EN oJ oJ)))) (xh (i:=3) (pM 2))))) (qG (yy 3))))) h⟩⟩
abbrev vC:Stmt:=Co 21
theorem vY:qm ["_law_cell_here", "_law_things", "_law_left", "_law_found", "_law_k"] ["_law_cell_here", "_law_things"] (pB vC):=by trivial
theorem Jh     (D:Cd K mg "_law_dealt" vC ["_law_cell_here", "_law_things"] f fd) (B:Bt mg)     : Fn P w K mg base 1 "_law_dealt" vC ["_law_cell_here", "_law_things"] (qN K K44.uM) f fd :=
 ⟨D,D.F.ok vY (λ_ _ _ _=>rL) λve A outer s H vs Q E hr h=>⟨_,(oB (oX (i:=2) vY.nd rfl (by trivial) (Bo xU (by rfl) B.list eU (ox (pv 1) oA))) (oB (oX (i:=3) vY.nd rfl (by trivial) (rZ oA)) (oB (tR PassesOwn.never rfl (tI (by rfl) B.range (ox (oY qe (by rfl) B.len PySem.boot_len (ox (pv 1) oA)) oA)) (qZ (i:=4) vY.nd rfl (by trivial)) (oB (rA (tU ay aM aN qw (pv 3) (ox (tU ay cW cX Cw (pv 2) (ox (pP rN (pv 0) (oY qe (by rfl) B.len PySem.boot_len (ox (pv 2) oA))) oA)) oA))) (oK (oX (i:=0) vY.nd rfl (by trivial) (pP wK (pv 0) (pP xP (oY qe (by rfl) B.len PySem.boot_len (ox (pv 2) oA)) oI)))))) (oK (qB (pv 3)))))),qi _ (K:=K) (oO (pE (i:=2) (E5 (uH 1))) (oO (pE (i:=3) (sq pR)) (oO (yR (oD (ri rn (oD (oz 1) oR)) oR) (oO (QG (i:=3) (Dk (i:=2) (oT rH (oz 0) (ri rn (oD (oz 2) oR))))) (pE (i:=0) (SR.kSc (oT yI (oz 0) (oT xJ (ri rn (oD (oz 2) oR)) oJ)))))) (qG (yy 3))))) h⟩⟩
abbrev uZ:Stmt:=Co 22
theorem qQ:qm ["_law_cell_here", "_law_names", "_law_ends", "_law_name_here", "_law_follow_here", "_law_turns_here", "_law_met", "_law_end", "_law_turn", "_law_each"] ["_law_cell_here", "_law_names"] (pB uZ):=by trivial
theorem Fu  (D:Cd K mg "_law_any_map" uZ ["_law_cell_here", "_law_names"] f fd) (B:Bt mg)   (A8:Fn P w K mg base 1 "_law_dealt" vC ["_law_cell_here", "_law_things"] (qN K K44.uM) fL_dealt fdL_dealt)  : Fn P w K mg base 2 "_law_any_map" uZ ["_law_cell_here", "_law_names"] (qN K K44.uY) f fd :=
 ⟨D,D.F.ok qQ (λ_ _ _ _=>rL) λve A outer s H vs Q E hr h=>⟨_,(oB (oX (i:=2) qQ.nd rfl (by trivial) (rZ oA)) (oB (tR PassesOwn.never rfl (rE (pv 1)) (qZ (i:=3) qQ.nd rfl (by trivial)) (oK (rA (tU ay PySem.F.slot_list_extend PySem.F.type_list_extend Lj (pv 2) (ox (rZ (ox (pv 3) (ox (AR xS (pv 3)) oA))) oA))))) (oB (oX (i:=4) qQ.nd rfl (by trivial) (Wh rfl (by rfl) B.dict (by rfl) B.zip (ox (pv 2) (ox (qU A8 (hr.mono (by decide)) (ox (pv 0) (ox (pv 2) oA))) oA)))) (oB (oX (i:=5) qQ.nd rfl (by trivial) (rZ oA)) (oB (oX (i:=6) qQ.nd rfl (by trivial) yG) (oB (tR PassesOwn.never rfl (rE (pv 2)) (qZ (i:=7) qQ.nd rfl (by trivial)) (oK (uA (HL (Bm (wO hr) (pv 7) (pv 6))) (oB (oX (i:=8) qQ.nd rfl (by trivial) (rZ (ox (pv 7) oA))) (oB (AQ PassesOwn.never (qI Td (yZ (wO hr) (pv 4) (vZ sv (pv 8) (AR xS oI) (λ_ _=>rfl)) (by first|rfl|exact trivial|(intro _ _;rfl))) (pv 7) (rm _)) (oK (rA (tU ay aM aN qw (pv 8) (ox (yZ (wO hr) (pv 4) (vZ sv (pv 8) (AR xS oI) (λ_ _=>rfl)) (by first|rfl|exact trivial|(intro _ _;rfl))) oA))))) (oB (tR PassesOwn.never rfl (rE (pv 8)) (qZ (i:=9) qQ.nd rfl (by trivial)) (oK (AG (wO hr) (pv 6) (pv 9) D9 rfl))) (oK (rA (tU ay aM aN qw (pv 5) (ox (pv 8) oA))))))) sU))) (oK (qB (pv 5))))))))),qi _ (K:=K) (oO (pE (i:=2) (sq pR)) (oO (yU (pM 1) (T6 (i:=2) (SK.lOf (sq (oZ (pM 3) (oZ (SR.kSc (Ah yl (oz 3))) pR)))))) (oO (pE (i:=4) (WS (oD (oz 2) (oD (SK.rOf (qE (oZ (pM 0) (oZ (pM 2) pR)))) oR)))) (oO (pE (i:=5) (sq pR)) (oO (pE (i:=6) Ao) (oO (yU (pM 2) (wB (DB (Bx (oz 7) (oz 6))) (oO (pE (i:=8) (sq (oZ (pM 7) pR))) (oO (Az 100000 (qJ (oT SX (Av (oz 4) (oT AA (oz 8) (Ah yl oJ))) (oz 7))) (xh (i:=8) (SR.kSc (Av (oz 4) (oT AA (oz 8) (Ah yl oJ)))))) (oO (yU (pM 8) (A0 (i:=6) (SR.kSc EG) (oz 9))) (xh (i:=5) (pM 8))))) tE)) (qG (yy 5)))))))) h⟩⟩
abbrev vQ:Stmt:=Co 23
theorem wM:qm ["_law_cell_here", "_law_found", "_law_k"] ["_law_cell_here"] (pB vQ):=by trivial
theorem Gz     (D:Cd K mg "_law_eights" vQ ["_law_cell_here"] f fd) (B:Bt mg)     : Fn P w K mg base 1 "_law_eights" vQ ["_law_cell_here"] (qN K K44.vX) f fd :=
 ⟨D,D.F.ok wM (λ_ _ _ _=>rL) λve A outer s H vs Q E hr h=>⟨_,(oB (oX (i:=1) wM.nd rfl (by trivial) (rZ oA)) (oB (tR PassesOwn.never rfl (tI (by rfl) B.range (ox oI oA)) (qZ (i:=2) wM.nd rfl (by trivial)) (oB (rA (tU ay aM aN qw (pv 1) (ox (pP rN (pv 0) oI) oA))) (oK (oX (i:=0) wM.nd rfl (by trivial) (pP wK (pv 0) oI))))) (oK (qB (pv 1))))),qi _ (K:=K) (oO (pE (i:=1) (sq pR)) (oO (yR (oD oJ oR) (oO (xh (i:=1) (SR.kSc (oT rH (oz 0) oJ))) (pE (i:=0) (SR.kSc (oT yI (oz 0) oJ))))) (qG (yy 1)))) h⟩⟩
abbrev Ag:Stmt:=Co 24
theorem CA:qm ["_law_script", "_law_pick", "_law_names"] ["_law_script"] (pB Ag):=by trivial
theorem N5  (D:Cd K mg "_law_any" Ag ["_law_script"] f fd) (B:Bt mg)   (tM:Fn P w K mg base 1 "_law_cell" xF ["_law_script", "_law_k"] (qN K Zl.oN) fL_cell fdL_cell) (A8:Fn P w K mg base 1 "_law_dealt" vC ["_law_cell_here", "_law_things"] (qN K K44.uM) fL_dealt fdL_dealt) (Bq:Fn P w K mg base 1 "_law_turns" vB ["_law_cells", "_law_names", "_law_wild"] (qN K K31.tG) fL_turns fdL_turns) (D4:Fn P w K mg base 1 "_law_gap_names" tO ["_law_cell_here", "_law_many"] (qN K K44.sO) fL_gap_names fdL_gap_names) (Gr:Fn P w K mg base 2 "_law_any_map" uZ ["_law_cell_here", "_law_names"] (qN K K44.uY) fL_any_map fdL_any_map) (Hw:Fn P w K mg base 1 "_law_eights" vQ ["_law_cell_here"] (qN K K44.vX) fL_eights fdL_eights)  : Fn P w K mg base 3 "_law_any" Ag ["_law_script"] (qN K K44.f_L_any) f fd :=
 ⟨D,D.F.ok CA (λ_ _ _ _=>rL) λve A outer s H vs Q E hr h=>⟨_,(oB (oX (i:=1) CA.nd rfl (by trivial) (qU tM (hr.mono (by decide)) (ox (pv 0) (ox oI oA)))) (oB (oX (i:=2) CA.nd rfl (by trivial) (qU A8 (hr.mono (by decide)) (ox (qU tM (hr.mono (by decide)) (ox (pv 0) (ox oI oA))) (ox (qU D4 (hr.mono (by decide)) (ox (qU tM (hr.mono (by decide)) (ox (pv 0) (ox oI oA))) (ox oI oA))) oA)))) (oB (uA (qI BQ (pP rN (pv 1) oI) oI (rm _)) (oK (qB (qU Gr (hr.mono (by decide)) (ox (qU tM (hr.mono (by decide)) (ox (pv 0) (ox oI oA))) (ox (Am Cq (pv 2) EU (AM (pP rN (pP wK (pv 1) oI) oI))) oA))))) sU) (oK (qB (qU Bq (hr.mono (by decide)) (ox (qU Hw (hr.mono (by decide)) (ox (qU tM (hr.mono (by decide)) (ox (pv 0) (ox oI oA))) oA)) (ox (pv 2) (ox D9 oA))))))))),qi _ (K:=K) (oO (pE (i:=1) (SR.kSc (uu (oD (oz 0) (oD oJ oR))))) (oO (pE (i:=2) (qE (oZ (SR.kSc (uu (oD (oz 0) (oD oJ oR)))) (oZ (qE (oZ (SR.kSc (uu (oD (oz 0) (oD oJ oR)))) (oZ (SR.kSc oJ) pR))) pR)))) (oO (wB (qJ (oT Al (oT rH (oz 1) oJ) oJ)) (qG (qE (oZ (SR.kSc (uu (oD (oz 0) (oD oJ oR)))) (oZ (J7 (uH 2) EX (AD (oT rH (oT yI (oz 1) oJ) oJ))) pR)))) tE) (qG (qE (oZ (qE (oZ (SR.kSc (uu (oD (oz 0) (oD oJ oR)))) pR)) (oZ (pM 2) (oZ (SR.kSc EG) pR)))))))) h⟩⟩
abbrev zw:Stmt:=Co 25
theorem vG:qm ["_law_script", "_law_one", "_law_two", "_law_pick", "_law_names", "_law_m", "_law_found", "_law_number", "_law_due", "_law_place"] ["_law_script"] (pB zw):=by trivial
theorem UT  (D:Cd K mg "law" zw ["_law_script"] f fd) (B:Bt mg)    (b_set:mg "set" = none) (tM:Fn P w K mg base 1 "_law_cell" xF ["_law_script", "_law_k"] (qN K Zl.oN) fL_cell fdL_cell) (G5:Fn P w K mg base 2 "_law_good" yP ["_law_turns_here"] (qN K Zl.pQ) fL_good fdL_good) (G_doors:Fn P w K mg base 4 "doors" AX ["m"] (qN K K41.zh) fdoors fddoors) (LK:Fn P w K mg base 2 "_law_lands" xE ["_law_m"] (qN K K44.f_L_lands) fL_lands fdL_lands) (OP:Fn P w K mg base 1 "_law_name" yF ["_law_one", "_law_two", "_law_k"] (qN K K31.tP) fL_name fdL_name) (Qk:Fn P w K mg base 1 "_law_copy" yD ["_law_m"] (qN K K51.xq) fL_copy fdL_copy) (Ih:Fn P w K mg base 1 "_law_wholes" vU ["_law_found"] (qN K K31.uK) fL_wholes fdL_wholes) (Bq:Fn P w K mg base 1 "_law_turns" vB ["_law_cells", "_law_names", "_law_wild"] (qN K K31.tG) fL_turns fdL_turns) (RP:Fn P w K mg base 3 "_law_any" Ag ["_law_script"] (qN K K44.f_L_any) fL_any fdL_any)  : Fn P w K mg base 5 "law" zw ["_law_script"] (qN K K46.Ju) f fd :=
 ⟨D,D.F.ok vG (λ_ _ _ _=>rL) λve A outer s H vs Q E hr h=>have hu:=hr.units;⟨_,(oB (oX (i:=1) vG.nd rfl (by trivial) (qU tM (hr.mono (by decide)) (ox (pv 0) (ox oI oA)))) (oB (oX (i:=2) vG.nd rfl (by trivial) (qU tM (hr.mono (by decide)) (ox (pv 0) (ox oI oA)))) (oB (oX (i:=3) vG.nd rfl (by trivial) (qU tM (hr.mono (by decide)) (ox (pv 0) (ox oI oA)))) (oB (RY (i:=4) (N:=["_law_k", "_law_one", "_law_two"]) (fr:=[1,2]) rfl vG.nd rfl (by trivial) rfl (by decide +kernel) rfl (by decide +kernel) rfl (tL.of (by decide +kernel) rfl rfl (by exact⟨rfl,rfl,trivial⟩) (by repeat (first|exact trivial|refine⟨(by first|exact λ_=>⟨_,rfl⟩|exact λh=>(by rcases h with h|h <;> cases h)),?_⟩)) (by exact⟨⟨rfl,rfl,rfl⟩,⟨rfl,rfl,rfl⟩,trivial⟩)) (tI (by rfl) B.range (ox oI oA)) (λ_ _ _ _=>vh) (λ_ _ _ _=>(qU OP (hr.mono (by decide)) (ox (pv 1) (ox (pv 2) (ox (pv 0) oA)))))) (oB (oX (i:=5) vG.nd rfl (by trivial) (qU G5 (hr.mono (by decide)) (ox (pP C2 (qU Bq (hr.mono (by decide)) (ox (Am Cq (pv 0) (AM oI) (AM oI)) (ox (pv 4) (ox (B9 BQ (pP rN (pv 3) oI) oI (rm _)) oA)))) (tD (cl:=[]) (N:=["_law_k"]) (fr:=[]) rfl rfl (by decide +kernel) rfl (by decide +kernel) rfl (tL.none (by decide +kernel)) (tI (by rfl) B.range (ox (pP rN (pP wK (pv 3) oI) oI) oA)) (λ_ _ _ _=>vh) (λ_ _ _ _=>(rZ oA)))) oA))) (oB (uA (qI BQ (pP rN (oY qe (by rfl) B.len PySem.boot_len (ox (pv 0) oA)) oI) oI (rm _)) (oK (oX (i:=5) vG.nd rfl (by trivial) (qU G5 (hr.mono (by decide)) (ox (pP C2 (qU RP (hr.mono (by decide)) (ox (pv 0) oA)) (tD (cl:=[]) (N:=["_law_k"]) (fr:=[]) rfl rfl (by decide +kernel) rfl (by decide +kernel) rfl (tL.none (by decide +kernel)) (tI (by rfl) B.range (ox (pP rN (qU tM (hr.mono (by decide)) (ox (pv 0) (ox oI oA))) oI) oA)) (λ_ _ _ _=>vh) (λ_ _ _ _=>(rZ oA)))) oA)))) sU) (oB (oX (i:=6) vG.nd rfl (by trivial) (qU G_doors (hr.mono (by decide)) (ox (qU Qk (hr.mono (by decide)) (ox (pv 5) oA)) oA))) (oB (oX (i:=7) vG.nd rfl (by trivial) (qU LK (hr.mono (by decide)) (ox (pv 5) oA))) (oB (oX (i:=8) vG.nd rfl (by trivial) (rZ oA)) (oB (tR PassesOwn.never rfl (tI (by rfl) B.range (ox (oY qe (by rfl) B.len PySem.boot_len (ox (pv 5) oA)) oA)) (qZ (i:=9) vG.nd rfl (by trivial)) (oK (uA (qI SZ (RX rfl (by rfl) B.len (by rfl) b_set (ox (tD (N:=["_law_end", "_law_number"]) (fr:=[7]) rfl rfl (by decide +kernel) rfl (by decide +kernel) rfl (tL.of (by decide +kernel) rfl rfl (by exact⟨rfl,trivial⟩) (by repeat (first|exact trivial|refine⟨(by first|exact λ_=>⟨_,rfl⟩|exact λh=>(by rcases h with h|h <;> cases h)),?_⟩)) (by exact⟨⟨rfl,rfl,rfl⟩,trivial⟩)) (rE (vZ sv (pv 5) (pv 9) (λ_ _=>rfl))) (λ_ _ _ _=>vh) (λ_ _ _ _=>(yZ (wO hr) (pv 1) (pv 0) (by first|rfl|exact trivial|(intro _ _;rfl))))) oA)) (oY qe (by rfl) B.len PySem.boot_len (ox (vZ sv (pv 5) (pv 9) (λ_ _=>rfl)) oA)) (rm _)) (oK (rA (tU ay aM aN qw (pv 8) (ox (pv 9) oA)))) sU))) (oB (uA (O4 (Hs (qU Ih (hr.mono (by decide)) (ox (pv 6) oA)))) (oK (qB D9)) sU) (oB (uA (qI BQ (pP rN (pv 3) oI) oI (rm _)) (oK (qB (B9 (Qe hu) (pv 6) (pv 8) (rm _)))) sU) (oK (qB (OQ (B9 (Qe hu) (pv 6) (oY AL (by rfl) B.sorted df (ox (pv 6) oA)) (rm _)) (P8 (oY (GP rfl) (by rfl) B.all iJ (ox (tD (N:=["_law_place", "_law_due"]) (fr:=[8]) rfl rfl (by decide +kernel) rfl (by decide +kernel) rfl (tL.of (by decide +kernel) rfl rfl (by exact⟨rfl,trivial⟩) (by repeat (first|exact trivial|refine⟨(by first|exact λ_=>⟨_,rfl⟩|exact λh=>(by rcases h with h|h <;> cases h)),?_⟩)) (by exact⟨⟨rfl,rfl,rfl⟩,trivial⟩)) (rE (pv 6)) (λ_ _ _ _=>vh) (λ_ _ _ _=>(B9 LR (pv 0) (pv 1) rfl))) oA)))))))))))))))))),qi _ (K:=K) (oO (pE (i:=1) (SR.kSc (uu (oD (oz 0) (oD oJ oR))))) (oO (pE (i:=2) (SR.kSc (uu (oD (oz 0) (oD oJ oR))))) (oO (pE (i:=3) (SR.kSc (uu (oD (oz 0) (oD oJ oR))))) (oO (pE (i:=4) (zf (oD oJ oR) vf (SR.kSc (uu (oD (oz 1) (oD (oz 2) (oD (oz 0) oR))))))) (oO (pE (i:=5) (qE (oZ (Ff (SK.lOf (qE (oZ (J7 (uH 0) (AD oJ) (AD oJ)) (oZ (pM 4) (oZ (SR.kSc (oT Al (oT rH (oz 3) oJ) oJ)) pR))))) (SK.lOf (zf (oD (oT rH (oT yI (oz 3) oJ) oJ) oR) vf (sq pR)))) pR))) (oO (wB (qJ (oT Al (oT rH (ri rn (oD (oz 0) oR)) oJ) oJ)) (pE (i:=5) (qE (oZ (Ff (SK.lOf (qE (oZ (pM 0) pR))) (SK.lOf (zf (oD (oT rH (uu (oD (oz 0) (oD oJ oR))) oJ) oR) vf (sq pR)))) pR))) tE) (oO (pE (i:=6) (qE (oZ (qE (oZ (pM 5) pR)) pR))) (oO (pE (i:=7) (qE (oZ (pM 5) pR))) (oO (pE (i:=8) (sq pR)) (oO (yR (oD (ri rn (oD (oz 5) oR)) oR) (wB (qJ (oT S4 (QS (SL.q (SK.lOf (ue (JE (uH 5) (oz 9)) vf (SR.kSc (Av (oz 1) (oz 0))))))) (ri rn (oD (oT AA (oz 5) (oz 9)) oR)))) (xh (i:=8) (pM 9)) tE)) (oO (wB (P6 (DB (uu (oD (oz 6) oR)))) (qG (SR.kSc EG)) tE) (oO (wB (qJ (oT Al (oT rH (oz 3) oJ) oJ)) (qG (SR.kSc (oT N1 (oz 6) (oz 8)))) tE) (qG (SR.kSc (NG (oT N1 (oz 6) (SK.rOf (G9 (uH 6)))) (ri Mm (oD (SK.rOf (ue (pM 6) vf (SR.kSc (oT (P4 false) (oz 0) (oz 1))))) oR))))))))))))))))) h⟩⟩
end
end K46
namespace K16
open PySem L2 Mr Z
def HF:MS:=(oE (oS 2 (kSc (pK xx (pK xx (oy 2) (rC (.int 1))) (pK sr (oy 3) (pK B2 (rC (.int 10)) (rC (.int 57))))))) (oE (oS 3 (kSc (pK Ka (oy 3) (pK B2 (rC (.int 10)) (rC (.int 57)))))) (Lg 4 (lOf (rQ (oH (oQ 2) (oH (kSc (DV xk (oy 2))) oW)))))))
def IZ:MS:=(oE (Vo 7 (oy 8) (vw 6 (pK sr (oy 3) (rP ql (ot (oy 6) oC))))) (oS 3 (kSc (pK yq (oy 3) (pK xx (rP ql (ot (oy 6) oC)) (rC (.int 1)))))))
def Hy:MS:=(oE (vS 10 (oy 8) (kSc (rC (.bl true)))) (oE (uV 11 (oQ 8)) (oS 8 (kSc (xC (oy 7) (oy 8))))))
def Im:MS:=(oE (oS 11 (rQ oW)) (oE (qT (rp (rY (oy 8) (oy 10))) Hy 100000) (wt (QQ (oy 11)) (uV 9 (oQ 11)) pU)))
def HP:MS:=(oE (wt (rp (rY (oy 2) (oy 10))) (uV 12 (oQ 2)) pU) (oS 2 (kSc (pK xx (oy 2) (rC (.int 1))))))
def mf_L_any:MS:=(oE (oS 1 (kSc (pK sr (qj Zl.oN (ot (oy 0) (ot (rC (.int 1)) oC))) (rC (.int 31)))))
 (oE (oS 2 (kSc (rC (.int 0))))
 (oE (oS 3 (kSc (qj Zl.oN (ot (oy 0) (ot (rC (.int 2)) oC)))))
 (oE (oS 4 (rQ oW))
 (oE (vM 5 (ot (oy 1) oC) HF)
 (oE (oS 6 (vJ (sR 4)))
 (oE (oS 3 (kSc (qj Zl.oN (ot (oy 0) (ot (rC (.int 3)) oC)))))
 (oE (oS 7 vi)
 (oE (xg 8 (oQ 4) IZ)
 (oE (oS 9 (rQ oW))
 (oE (oS 10 vi)
 (oE (xg 8 (oQ 4) Im)
 (oE (oS 12 (rQ oW))
 (oE (oS 2 (kSc (pK xx (rC (.int 1)) (pK sr (qj Zl.oN (ot (oy 0) (ot (rC (.int 4)) oC))) (pK B2 (rC (.int 10)) (rC (.int 59)))))))
 (oE (qT (rp (pK S8 (rP ql (ot (oy 12) oC)) (rC (.int 66)))) HP 100000)
 (qa (RG (oH (Da (D6 9) (lOf (qM (QA (ot (pK sr (pK yq (qj Zl.oN (ot (oy 0) (ot (rC (.int 1)) oC))) (rC (.int 31))) (rC (.int 4))) oC)) [] qt (rQ oW)))) (oH (oQ 12) oW)))))))))))))))))))
def f_L_any:MF:=rB 1 13 mf_L_any
end K16
--ZQ3 --ZQ4 --ZQ5 --ZQ6 --ZQ8 --ZQ9
namespace K51
open PySem L2 Mr Z Xe Zl
def rd(st sh a b k:Int):Int:=st*(1+(a*k+b) % 67)+sh
def rds(st sh a b:Int):List Int:=(bN 67).map λk:Nat=>rd st sh a b k
end K51
--ZQ3 --ZQ4 --ZQ5 --ZQ6 --ZQ8 --ZQ9
namespace K51
open PySem L2 Mr Z Xe Zl
end K51
--ZQ3 --ZQ4 --ZQ5 --ZQ6 --ZQ8 --ZQ9
namespace K51
open PySem L2 Mr Z Xe Zl
end K51
--ZQ3 --ZQ4 --ZQ5 --ZQ6 --ZQ8 --ZQ9
namespace K51
open PySem L2 Mr Z Xe Zl
def kd(ks:List Nat):List (oU×D):=ks.map λk:Nat=>((aH (k:Int):oU),D.bl true)
def wd(ws:List Nat):List AV:=ws.map λk:Nat=>AV.sh (.int (k:Int))
theorem HE(ks:List Nat) (t:Nat):(kd ks).any (λkv=>decide (kv.1=(aH (t:Int):oU)))=decide (t∈ks):=by
 induction ks with
 |nil=>simp[kd]
 |cons k ks ih =>
  unfold kd at ih ⊢;rw[au,ee,ih]
  by_cases h:t=k
  .subst h;simp
  .have h':¬ (aH (k:Int):oU)=aH (t:Int):=λq=>h (by have:=aH.inj q;lia)
   simp[h',h]
theorem OS(ks:List Nat) (t:Nat):(getD (kd ks) (aH (t:Int))).isSome=decide (t∈ks):=by
 unfold getD;rw[eW,←HE,bI,hU,dN]
theorem M0{ks:List Nat}{t:Nat}(h:t∉ks):xZ (kd ks) (aH (t:Int)) (.bl true)=kd (ks++[t]):=by
 unfold xZ;rw[HE,decide_eq_false h,pJ (by simp)]
 simp[kd]
theorem HS{kvs:List (oU×D)}{ks ws:List Nat}{e:Int}{t:Nat}{v0 v1 v5 v7:Option AV}(hg:getD kvs (aH (-e))=some (.int (t:Int))) (hk:ks.length<500000) (hw:ws.length<500000) :
  tF [v0,v1,some (.owd kvs),some (.owd (kd ks)),some (.ow (wd ws)),v5,some (.sh (.int e)),v7]=some (.nx [v0,v1,some (.owd kvs),some (.owd (kd (if t∈ks then ks else ks++[t]))),some (.ow (wd (if t∈ks then ws else ws++[t]))),v5,some (.sh (.int e)),some (.sh (.int (t:Int)))]):=by
 have l1:(kd ks).length<rh:=by unfold kd;rw[lMq];show _<16777216;lia
 have l2:(wd ws).length<rh:=by unfold wd;rw[lMq];show _<16777216;lia
 have hg2:=OS ks t
 by_cases h:t∈ks
 .rw [decide_eq_true h]at hg2
  simp_arith [tF,hg,hg2,h]
 .rw [decide_eq_false h]at hg2;have hp:=M0 h;have hw2:wd ws++[.sh (.int (t:Int))]=wd (ws++[t]):=by simp[wd]
  simp_arith [tF,hg,hg2,h,hp,l1,l2,hw2]
def B8(pl:Int->Nat) (x:List Nat×List Nat) (e:Int):List Nat×List Nat:=if pl (-e)∈x.1 then x else (x.1++[pl (-e)],x.2++[pl (-e)])
theorem Kv(pl:Int->Nat):∀(r:List Int) (x:List Nat×List Nat),(r.foldl (B8 pl) x).1.length<=x.1.length+r.length/\(r.foldl (B8 pl) x).2.length<=x.2.length+r.length
 | [],x=>⟨af _,af _⟩
 |e::r,x=>by
  obtain⟨h1,h2⟩:=Kv pl r (B8 pl x e);have h3:(B8 pl x e).1.length<=x.1.length+1/\(B8 pl x e).2.length<=x.2.length+1:=by
   unfold B8;split
   .exact ⟨cO _,cO _⟩
   .simp
  rw[bD,lCq];lia
theorem K7{kvs:List (oU×D)}{ks ws:List Nat}{r:List Int}{pl:Int->Nat}{v0 v1 v5 v6 v7:Option AV}(hg:∀e∈r,getD kvs (aH (-e))=some (.int (pl (-e):Int))) (hk:ks.length+r.length<500000) (hw:ws.length+r.length<500000) :
  ∃v6' v7',sN 6 tF (r.map D.int) [v0,v1,some (.owd kvs),some (.owd (kd ks)),some (.ow (wd ws)),v5,v6,v7]=some (.nx [v0,v1,some (.owd kvs),some (.owd (kd (r.foldl (B8 pl) (ks,ws)).1)),some (.ow (wd (r.foldl (B8 pl) (ks,ws)).2)),v5,v6',v7']):=by
 have key:=vk (x:=6) (body:=tF) (λi S=>∃v6' v7',S=[v0,v1,some (.owd kvs),some (.owd (kd ((r.take i).foldl (B8 pl) (ks,ws)).1)),some (.ow (wd ((r.take i).foldl (B8 pl) (ks,ws)).2)),v5,v6',v7']) (ds:=r.map D.int) (S:=[v0,v1,some (.owd kvs),some (.owd (kd ks)),some (.ow (wd ws)),v5,v6,v7])
  ⟨v6,v7,rfl⟩ (by
  rintro i d S hd ⟨v6',v7',rfl⟩;rw[gMq]at hd;obtain⟨e,he,rfl⟩:=oMq.mp hd;have hi:i<r.length:=(gSq.mp he).1;have hm:e∈r:=mGq he;obtain⟨n1,n2⟩:=Kv pl (r.take i) (ks,ws);rw[lTq]at n1 n2;have n1':((r.take i).foldl (B8 pl) (ks,ws)).1.length<=ks.length+min i r.length:=n1;have n2':((r.take i).foldl (B8 pl) (ks,ws)).2.length<=ws.length+min i r.length:=n2;have step:=HS (v0:=v0) (v1:=v1) (v5:=v5) (v7:=v7') (hg e hm) (ks:=((r.take i).foldl (B8 pl) (ks,ws)).1) (ws:=((r.take i).foldl (B8 pl) (ks,ws)).2) (by lia) (by lia)
  have et:(r.take (i+1)).foldl (B8 pl) (ks,ws)=B8 pl ((r.take i).foldl (B8 pl) (ks,ws)) e:=by
   have:r[i]'hi=e:=by rw[gEg hi]at he;exact aD.inj he
   rw[eD hi,eZ,this];rfl
  refine⟨_,step,some (.sh (.int e)),some (.sh (.int (pl (-e):Int))),?_⟩;rw[et];unfold B8;split <;> rfl)
 obtain⟨S',e,v6',v7',rfl⟩:=key;rw[lMq,bA]at e;exact⟨v6',v7',e⟩
end K51
--ZQ3 --ZQ4 --ZQ5 --ZQ6 --ZQ8 --ZQ9
namespace K51
open PySem L2 Mr Z Xe Zl
theorem VL:∀(N:Nat) (l:List Nat),l.Nodup->(∀x∈l,x<N)->l.length<=N
 |0,l,_,h=>by
  cases l with
  |nil=>exact af _
  |cons x l=>exact absurd (h x (ag ..)) (cQ _)
 |N+1,l,hn,h=>by
  have h2:=VL N (l.erase N) (hn.erase N) (λx hx=>by
   have:=(hn.mem_erase_iff).mp hx;have:=h x this.2;lia)
  rw[List.length_erase]at h2;split at h2 <;> lia
def plc(rs:List (List Int)) (e:Int):Nat:=rs.findIdx λr=>decide (e∈r)
theorem same_place{rs:List (List Int)}(hn:rs.flatten.Nodup) {i j:Nat}{r s:List Int}{e:Int}(hi:rs[i]?=some r) (hj:rs[j]?=some s) (h1:e∈r) (h2:e∈s):i=j:=by
 have a:=xX 0 hn hi h1;have b:=xX 0 hn hj h2;rw[a]at b;have:=D.int.inj (aD.inj b);lia
theorem plc_eq{rs:List (List Int)}(hn:rs.flatten.Nodup) {i:Nat}{r:List Int}{e:Int}(hi:rs[i]?=some r) (h1:e∈r):plc rs e=i:=by
 have hl:rs.findIdx (λr=>decide (e∈r))<rs.length:=ez ⟨r,mGq hi,decide_eq_true h1⟩
 have h2:=gC (xs:=rs) (p:=λr=>decide (e∈r)) (w:=hl)
 exact same_place hn (gEg hl) hi (of_decide_eq_true h2) h1
structure Mp (rs:List (List Int)):Prop where
 hn:rs.flatten.Nodup
 hl:rs.flatten.length<=1000
 hr:rs.length<=1000
 hneg:∀e∈rs.flatten, -e∈rs.flatten
theorem Mp.at{rs:List (List Int)}(h:Mp rs) {e:Int}(he:e∈rs.flatten):∃r,rs[plc rs e]?=some r/\e∈r:=by
 obtain⟨r,h1,h2⟩:=mFq.mp he;obtain⟨i,h3⟩:=ar.mp h1;exact⟨r,by rw[plc_eq h.hn h3 h2];exact h3,h2⟩
theorem Mp.other{rs:List (List Int)}(h:Mp rs) {k:Nat}{r:List Int}{e:Int}(hk:rs[k]?=some r) (he:e∈r):-e∈rs.flatten:=h.hneg e (mFq.mpr ⟨r,mGq hk,he⟩)
theorem Mp.kv{rs:List (List Int)}(h:Mp rs) {e:Int}(he:e∈rs.flatten):getD (qA 0 rs) (aH e)=some (.int (plc rs e:Int)):=by
 obtain⟨r,h1,h2⟩:=h.at he;have:=xX 0 h.hn h1 h2
 rwa [bZ]at this
theorem Mp.lt{rs:List (List Int)}(h:Mp rs) {e:Int}(he:e∈rs.flatten):plc rs e<rs.length:=by
 obtain⟨r,h1,_⟩:=h.at he;exact(gSq.mp h1).1
theorem Mp.row{rs:List (List Int)}(h:Mp rs) {k:Nat}{r:List Int}(hk:rs[k]?=some r):r.length<=1000:=by
 have:=fe.length_le (aF (mGq hk));have:=h.hl;lia
inductive sG (rs:List (List Int)) (s:Nat):Nat->Prop
 |base:sG rs s s
 |step {k:Nat}{r:List Int}{e:Int}:sG rs s k->rs[k]?=some r->e∈r->sG rs s (plc rs (-e))
theorem C4(pl:Int->Nat):∀(r:List Int) (ks ws:List Nat),∃a,r.foldl (B8 pl) (ks,ws)=(ks++a,ws++a)/\(∀k∈a,∃e∈r,k=pl (-e))/\(∀e∈r,pl (-e)∈ks++a)/\(ks.Nodup->(ks++a).Nodup)
 | [],ks,ws=>⟨[],by simp,by simp,by simp,by simp⟩
 |e::r,ks,ws=>by
  rw[bD]
  by_cases h:pl (-e)∈ks
  .have e1:B8 pl (ks,ws) e=(ks,ws):=by unfold B8;rw[pN h]
   rw[e1];obtain⟨a,h1,h2,h3,h4⟩:=C4 pl r ks ws;refine⟨a,h1,λk hk=>?_,λx hx=>?_,h4⟩
   .obtain ⟨x,hx,q⟩:=h2 k hk;exact⟨x,mCo _ hx,q⟩
   .rcases ae.mp hx with rfl|hx
    .exact mAq.mpr (.inl h)
    .exact h3 x hx
  .have e1:B8 pl (ks,ws) e=(ks++[pl (-e)],ws++[pl (-e)]):=by unfold B8;rw[pJ h]
   rw[e1];obtain⟨a,h1,h2,h3,h4⟩:=C4 pl r (ks++[pl (-e)]) (ws++[pl (-e)]);refine⟨pl (-e)::a,by rw[h1,ah,ah];rfl,λk hk=>?_,λx hx=>?_,λhn=>?_⟩
   .rcases ae.mp hk with rfl|hk
    .exact ⟨e,ag ..,rfl⟩
    .obtain ⟨x,hx,q⟩:=h2 k hk;exact⟨x,mCo _ hx,q⟩
   .rcases ae.mp hx with rfl|hx
    .exact mAq.mpr (.inr (ag ..))
    .have:=h3 x hx
     rwa [ah]at this
   .have:=h4 (by
     rw[nAq];exact⟨hn,by simp,λx hx y hy q=>h (by rw[mSq.mp hy]at q;rw[←q];exact hx)⟩)
    rwa [ah]at this
structure Inv (rs:List (List Int)) (s:Nat) (ks ws:List Nat):Prop where
 nd:ks.Nodup
 lt:∀k∈ks,k<rs.length
 st:s∈ks
 rc:∀k∈ks,sG rs s k
 sub:∀w∈ws,w∈ks
 cl:∀k∈ks,k∉ws->∀r e,rs[k]?=some r->e∈r->plc rs (-e)∈ks
 few:2*(rs.length-ks.length)+ws.length<=2*rs.length+1
theorem Inv.go{rs:List (List Int)}(hm:Mp rs) {s h:Nat}{ks ws:List Nat}{r:List Int}(hi:Inv rs s ks (ws++[h])) (hr:rs[h]?=some r):∃a,r.foldl (B8 (plc rs)) (ks,ws)=(ks++a,ws++a)/\Inv rs s (ks++a) (ws++a)/\2*(rs.length-(ks++a).length)+(ws++a).length<2*(rs.length-ks.length)+(ws++[h]).length:=by
 obtain⟨a,h1,h2,h3,h4⟩:=C4 (plc rs) r ks ws;have hh:h∈ks:=hi.sub h (by simp)
 have nd:=h4 hi.nd;have lt:∀k∈ks++a,k<rs.length:=by
  intro k hk;rcases mAq.mp hk with q|q
  .exact hi.lt k q
  .obtain ⟨e,he,rfl⟩:=h2 k q;exact hm.lt (hm.other hr he)
 have pl:=VL _ _ nd lt;have p0:=hi.few;rw[lAq]at pl;rw[lAq,lSq]at p0;have key:2*(rs.length-(ks++a).length)+(ws++a).length<2*(rs.length-ks.length)+(ws++[h]).length:=by
  rw[lAq,lAq,lAq,lSq];lia
 refine⟨a,h1,⟨nd,lt,mAq.mpr (.inl hi.st),λk hk=>?_,λw hw=>?_,λk hk hw=>?_,?_⟩,key⟩
 .rcases mAq.mp hk with q|q
  .exact hi.rc k q
  .obtain ⟨e,he,rfl⟩:=h2 k q;exact .step (hi.rc h hh) hr he
 .rcases mAq.mp hw with q|q
  .exact mAq.mpr (.inl (hi.sub w (mAq.mpr (.inl q))))
  .exact mAq.mpr (.inr q)
 .intro r' e hr' he;have k1:k∈ks:=(mAq.mp hk).resolve_right λq=>hw (mAq.mpr (.inr q))
  by_cases q:k=h
  .subst q;rw[hr]at hr';cases hr';exact h3 e he
  .exact mAq.mpr (.inl (hi.cl k k1 (λz=>by
    rcases mAq.mp z with z|z
    .exact hw (mAq.mpr (.inl z))
    .exact q (mSq.mp z)) r' e hr' he))
 .rw [lAq,lAq]at key ⊢;rw[lAq,lSq]at key;lia
def mu(N:Nat):AS->Nat
 | [_,_,_,some (.owd kv),some (.ow w),_,_,_]=>2*(N-kv.length)+w.length
 |_=>0
theorem IL{rs:List (List Int)}(hm:Mp rs) {s:Nat}(hs:s<rs.length):∃S',qT (rp (pK FA (rP ql (ot (oy 4) oC)) (rC (.int 0)))) vv 100000 [some (.sh (dM rs)),some (.sh (.int (s:Int))),some (.owd (qA 0 rs)),some (.owd (kd [s])),some (.ow (wd [s])),none,none,none]=some (.nx S') /\
  ∃ks v5 v6 v7,S'=[some (.sh (dM rs)),some (.sh (.int (s:Int))),some (.owd (qA 0 rs)),some (.owd (kd ks)),some (.ow (wd [])),v5,v6,v7]/\Inv rs s ks []:=by
 have h1000:=hm.hr;refine xD (c:=rp (pK FA (rP ql (ot (oy 4) oC)) (rC (.int 0)))) (body:=vv) (λS=>∃ks ws v5 v6 v7,S=[some (.sh (dM rs)),some (.sh (.int (s:Int))),some (.owd (qA 0 rs)),some (.owd (kd ks)),some (.ow (wd ws)),v5,v6,v7]/\Inv rs s ks ws) (mu rs.length) (λS'=>∃ks v5 v6 v7,S'=[some (.sh (dM rs)),some (.sh (.int (s:Int))),some (.owd (qA 0 rs)),some (.owd (kd ks)),some (.ow (wd [])),v5,v6,v7]/\Inv rs s ks []) ?_ 100000 _ ⟨[s],[s],none,none,none,rfl,?_⟩ ?_
 .rintro S ⟨ks,ws,v5,v6,v7,rfl,hi⟩;rcases dU ws with rfl|⟨ws,h,rfl⟩
  .refine ⟨false,_,?_,λq=>(nomatch q),λ_=>⟨ks,v5,v6,v7,rfl,hi⟩⟩
   simp_arith [wd]
   rfl
  .rw [dW]at hi ⊢;have hlt:h<rs.length:=hi.lt h (hi.sub h (by simp))
   have hr:rs[h]?=some rs[h]:=gEg hlt;obtain⟨a,e1,hi2,mlt⟩:=hi.go hm hr;have few:=hi.few;have kl:=VL _ _ hi.nd hi.lt;have rl:=hm.row hr;rw[lAq,lSq]at few;obtain⟨v6',v7',e2⟩:=K7 (kvs:=qA 0 rs) (ks:=ks) (ws:=ws) (r:=rs[h]) (pl:=plc rs) (v0:=some (.sh (dM rs))) (v1:=some (.sh (.int (s:Int)))) (v5:=some (.sh (.int (h:Int)))) (v6:=v6) (v7:=v7) (λe he=>hm.kv (hm.other hr he)) (by lia) (by lia)
   rw[e1]at e2;have hw:wd (ws++[h])=wd ws++[.sh (.int (h:Int))]:=by simp[wd]
   have wl:(wd ws).length=ws.length:=by simp[wd]
   have c1:(0:Int)<((wd ws++[AV.sh (.int (h:Int))]).length:Int):=by
    rw[lAq,lSq];lia
   have p1:(wd ws++[AV.sh (.int (h:Int))])[(wd ws++[AV.sh (.int (h:Int))]).length-1]?=some (.sh (.int (h:Int))):=by
    rw[lAq,lSq,gYq (by lia)]
    simp
   have p2:(wd ws++[AV.sh (.int (h:Int))]).dropLast=wd ws:=dk;have at1:atI (rs.map dI) (h:Int)=some (dI rs[h]):=xO (by rw[gMq,hr];rfl)
   refine⟨true,[some (.sh (dM rs)),some (.sh (.int (s:Int))),some (.owd (qA 0 rs)),some (.owd (kd ks)),some (.ow (wd ws++[.sh (.int (h:Int))])),v5,v6,v7],?_,λ_=>⟨[some (.sh (dM rs)),some (.sh (.int (s:Int))),some (.owd (qA 0 rs)),some (.owd (kd (ks++a))),some (.ow (wd (ws++a))),some (.sh (.int (h:Int))),v6',v7'],?_,⟨_,_,_,_,_,rfl,hi2⟩,?_⟩,λq=>(nomatch q)⟩
   .simp_arith [hw,c1]
   .simp_arith [vv,p1,p2,dM,at1,e2]
   .show 2*(rs.length-(kd (ks++a)).length)+(wd (ws++a)).length<2*(rs.length-(kd ks).length)+(wd (ws++[h])).length;unfold kd wd;rw[lMq,lMq,lMq,lMq];exact mlt
 .refine ⟨by simp,?_,by simp,?_,λw h=>h,?_,?_⟩
  .intro k hk;rw[mSq.mp hk];exact hs
  .intro k hk;rw[mSq.mp hk];exact .base
  .intro k hk hn;exact absurd hk hn
  .simp only [lSq];lia
 .show 2*(rs.length-(kd [s]).length)+(wd [s]).length<100000;simp only[kd,wd,lMq,lSq];lia
theorem Jk{rs:List (List Int)}(hm:Mp rs) {s:Nat}(hs:s<rs.length):∃ks,Inv rs s ks []/\uF [dM rs,.int (s:Int)]=some (aI (qH (ks.map λk:Nat=>(k:Int)))):=by
 obtain⟨S',e,ks,v5,v6,v7,rfl,hi⟩:=IL hm hs;have hl:=hm.hl;have pa:=AN hm.hn (by lia)
 have e1:[((aH (s:Int):oU),D.bl true)]=kd [s]:=rfl;have e2:[AV.sh (.int (s:Int))]=wd [s]:=rfl;have e3:zz (kd ks)=some (ks.map λk:Nat=>(k:Int)):=Ej (λk:Nat=>(k:Int)) (λ_=>D.bl true) ks
 have l1:(wd [s]).length<=rh:=by show 1<=16777216;decide
 refine⟨ks,hi,?_⟩
 simp_arith [uF,Dw,pa,e1,e2,e,e3,l1]
end K51
--ZQ3 --ZQ4 --ZQ5 --ZQ6 --ZQ8 --ZQ9
namespace K51
open PySem L2 Mr Z Xe Zl
theorem Se(ks:List Nat):∃ps:List Nat,ps.Perm ks/\ps.Pairwise (·<=·)/\qH (ks.map λk:Nat=>(k:Int))=ps.map λk:Nat=>(k:Int):=by
 have hp:=qC (ks.map λk:Nat=>(k:Int))
 have hs:=uW (ks.map λk:Nat=>(k:Int))
 have hc:(qH (ks.map λk:Nat=>(k:Int)))=((qH (ks.map λk:Nat=>(k:Int))).map iK).map λk:Nat=>(k:Int):=by
  rw[mPq]
  conv=>lhs;rw[←dR (qH (ks.map λk:Nat=>(k:Int)))]
  refine mCq λz hz=>?_
  obtain⟨k,_,rfl⟩:=mMq.mp (hp.mem_iff.mp hz);rfl
 refine⟨(qH (ks.map λk:Nat=>(k:Int))).map iK,?_,?_,hc⟩
 .have:=hp.map iK;rw[mPq]at this;have e:ks.map (iK∘λk:Nat=>(k:Int))=ks:=by
   conv=>rhs;rw[←dR ks]
   refine mCq λk _=>?_
   show iK (k:Int)=k;exact dq k
  rwa [e]at this
 .rw [bg];refine aY.imp (λh=>?_) hs
  lia
structure Pc (rs:List (List Int)) (s:Nat) (ps:List Nat):Prop where
 nd:ps.Nodup
 so:ps.Pairwise (·<=·)
 lt:∀k∈ps,k<rs.length
 iff:∀k,k∈ps↔sG rs s k
theorem Df{rs:List (List Int)}(hm:Mp rs) {s:Nat}(hs:s<rs.length):∃ps,Pc rs s ps/\uF [dM rs,.int (s:Int)]=some (aI (ps.map λk:Nat=>(k:Int))):=by
 obtain⟨ks,hi,e⟩:=Jk hm hs;obtain⟨ps,h1,h2,h3⟩:=Se ks;rw[h3]at e;refine⟨ps,⟨h1.symm.nodup hi.nd,h2,λk hk=>hi.lt k (h1.mem_iff.mp hk),λk=>⟨λhk=>hi.rc k (h1.mem_iff.mp hk),λhk=>h1.mem_iff.mpr ?_⟩⟩,e⟩
 induction hk with
 |base=>exact hi.st
 |step _ a b c=>exact hi.cl _ c (gf) _ _ a b
def addN(kn:List Nat) (t:Nat):List Nat:=if t∈kn then kn else kn++[t]
theorem Rz(ks:List Nat) (t:Nat):xZ (kd ks) (aH (t:Int)) (.bl true)=kd (addN ks t):=by
 unfold addN
 by_cases h:t∈ks
 .rw [pN h];unfold xZ;rw[HE,decide_eq_true h,pN rfl];unfold kd;rw[mPq];refine mCq λk _=>?_
  show (if _ then _ else _)=_
  split <;> rfl
 .rw [pJ h];exact M0 h
theorem Mk(kn:List Nat) (t:Nat):(addN kn t).length<=kn.length+1:=by
 unfold addN;split
 .lia
 .simp
theorem fold_len:∀(ps kn:List Nat),(ps.foldl addN kn).length<=kn.length+ps.length
 | [],kn=>af _
 |p::ps,kn=>by
  have h1:=fold_len ps (addN kn p);have h2:=Mk kn p;rw[bD,lCq];lia
theorem Ng{kn:List Nat}{t k:Nat}:k∈addN kn t↔k∈kn∨k=t:=by
 unfold addN;split
 .rename_i h;exact⟨.inl,λq=>q.elim id λq=>q ▸ h⟩
 .simp
theorem vI:∀{ps kn:List Nat}{k:Nat},k∈ps.foldl addN kn↔k∈kn∨k∈ps
 | [],kn,k=>by simp
 |p::ps,kn,k=>by
  rw[bD,vI,Ng,ae,or_assoc]
theorem Ri{kn:List Nat}{t:Nat}(h:kn.Nodup):(addN kn t).Nodup:=by
 unfold addN;split
 .exact h
 .rename_i q;rw[nAq];exact⟨h,by simp,λx hx y hy z=>q (by rw[mSq.mp hy]at z;rw[←z];exact hx)⟩
theorem JL:∀{ps kn:List Nat},kn.Nodup->(ps.foldl addN kn).Nodup
 | [],kn,h=>h
 |p::ps,kn,h=>by
  rw[bD];exact JL (Ri h)
theorem Lr{ps kn:List Nat}{v0 v2 v3 v4 v5:Option AV}(hk:kn.length+ps.length<500000):∃v5',sN 5 wH ((ps.map λk:Nat=>(k:Int)).map D.int) [v0,some (.owd (kd kn)),v2,v3,v4,v5]=some (.nx [v0,some (.owd (kd (ps.foldl addN kn))),v2,v3,v4,v5']):=by
 have key:=vk (x:=5) (body:=wH) (λi S=>∃v5',S=[v0,some (.owd (kd ((ps.take i).foldl addN kn))),v2,v3,v4,v5']) (ds:=(ps.map λk:Nat=>(k:Int)).map D.int) (S:=[v0,some (.owd (kd kn)),v2,v3,v4,v5]) ⟨v5,rfl⟩ (by
  rintro i d S hd ⟨v5',rfl⟩;rw[gMq,gMq]at hd;obtain⟨z,hz,rfl⟩:=oMq.mp hd;obtain⟨k,hk',rfl⟩:=oMq.mp hz;have hi:i<ps.length:=(gSq.mp hk').1;have n1:=fold_len (ps.take i) kn;rw[lTq]at n1;have l1:(kd ((ps.take i).foldl addN kn)).length<rh:=by unfold kd;rw[lMq];show _<16777216;lia
  have et:(ps.take (i+1)).foldl addN kn=addN ((ps.take i).foldl addN kn) k:=by
   have:ps[i]'hi=k:=by rw[gEg hi]at hk';exact aD.inj hk'
   rw[eD hi,eZ,this];rfl
  have hp:=Rz ((ps.take i).foldl addN kn) k;rw[←et]at hp;refine⟨_,?_,some (.sh (.int (k:Int))),rfl⟩
  simp_arith [wH,l1,hp])
 obtain⟨S',e,v5',rfl⟩:=key;rw[lMq,lMq,bA]at e;exact⟨v5',e⟩
theorem Hq{rs:List (List Int)}{ps:List Nat}(h:∀k∈ps,k<rs.length):qR qt (vJ (lOf (Qx (sR 1) (oy 0)))) [some (.sh (dM rs))] ((ps.map λk:Nat=>(k:Int)).map D.int)=some (ps.map λk=>aI (rs.getD k [])):=by
 have key:=sk (te:=vJ (lOf (Qx (sR 1) (oy 0)))) (cap:=[some (.sh (dM rs))]) (λd=>match d with|.int k=>aI (rs.getD k.toNat [])|_=>.sh .non) (ds:=(ps.map λk:Nat=>(k:Int)).map D.int) (by
  intro d hd;rw[mPq]at hd;obtain⟨k,hk,rfl⟩:=mMq.mp hd;have at1:=V8 (h k hk);refine⟨[some (.sh (.int (k:Int))),some (.sh (dM rs))],?_⟩
  simp_arith [dM,at1,Function.comp,dq,dI,aI,mPq]
  rfl)
 rw[key,mPq,mPq];rfl
def pA(rs:List (List Int)) (ps:List Nat):AV:=.ow (ps.map λk=>aI (rs.getD k []))
theorem sG.trans{rs:List (List Int)}{a b c:Nat}(h:sG rs a b) (h2:sG rs b c):sG rs a c:=by
 induction h2 with
 |base=>exact h
 |step _ p q r=>exact .step r p q
theorem sG.symm{rs:List (List Int)}(hm:Mp rs) {a b:Nat}(h:sG rs a b):sG rs b a:=by
 induction h with
 |base=>exact .base
 | @step k r e _ p q ih =>
  obtain⟨r',h1,h2⟩:=hm.at (hm.other p q);have:=sG.step (s:=plc rs (-e)) .base h1 h2;rw[bw,plc_eq hm.hn p q]at this;exact this.trans ih
structure Ps (rs:List (List Int)) (i:Nat) (kn:List Nat) (PS:List (List Nat)):Prop where
 sub:∀ps∈PS,∀k∈ps,k∈kn
 dj:PS.Pairwise λa b=>∀k∈a,k∉b
 pc:∀ps∈PS,∃s,s<rs.length/\Pc rs s ps
 all:∀k,k<i->k∈kn
 mem:∀k,k∈kn->∃ps∈PS,k∈ps
 nd:kn.Nodup
 lt:∀k∈kn,k<rs.length
 len:PS.length<=i
theorem Bv{rs:List (List Int)}(hm:Mp rs):∃kn PS,Ps rs rs.length kn PS/\Ar [dM rs]=some (.ow (PS.map (pA rs))):=by
 have h1000:=hm.hr;have key:=vk (x:=3) (body:=wA) (λi S=>∃kn PS v3 v4 v5,S=[some (.sh (dM rs)),some (.owd (kd kn)),some (.ow (PS.map (pA rs))),v3,v4,v5]/\Ps rs i kn PS) (ds:=pV 0 rs.length) (S:=[some (.sh (dM rs)),some (.owd []),some (.ow []),none,none,none])
  ⟨[],[],none,none,none,rfl,⟨by simp,by simp,by simp,by simp,by simp,by simp,by simp,by simp⟩⟩ (by
  rintro i d S hd ⟨kn,PS,v3,v4,v5,rfl,hp⟩;have hi:i<rs.length:=by
   have:=(gSq.mp hd).1
   rwa [pZ]at this
  rw[Aa hi,gI]at hd;cases hd;have hg:=OS kn i
  by_cases c:i∈kn
  .rw [decide_eq_true c]at hg;refine⟨[some (.sh (dM rs)),some (.owd (kd kn)),some (.ow (PS.map (pA rs))),some (.sh (.int (i:Int))),v4,v5],?_,kn,PS,_,_,_,rfl,hp.sub,hp.dj,hp.pc,?_,hp.mem,hp.nd,hp.lt,?_⟩
   .simp_arith [wA,hg]
   .intro k hk;rcases cF.mp hk with q|rfl
    .exact hp.all k q
    .exact c
   .have:=hp.len;lia
  .rw [decide_eq_false c]at hg;obtain⟨ps,h1,e1⟩:=Df hm hi;have p1:=VL _ _ hp.nd hp.lt;have p2:=VL _ _ h1.nd h1.lt;have p3:=hp.len;have l2:ps.length<=rh:=by show _<=16777216;lia
   have l3:PS.length<rh:=by show _<16777216;lia
   obtain⟨v5',e2⟩:=Lr (ps:=ps) (kn:=kn) (v0:=some (.sh (dM rs))) (v2:=some (.ow (PS.map (pA rs)))) (v3:=some (.sh (.int (i:Int)))) (v4:=some (.sh (dI (ps.map λk:Nat=>(k:Int))))) (v5:=v5) (by lia)
   have e3:=Hq h1.lt;refine⟨[some (.sh (dM rs)),some (.owd (kd (ps.foldl addN kn))),some (.ow ((PS++[ps]).map (pA rs))),some (.sh (.int (i:Int))),some (.sh (dI (ps.map λk:Nat=>(k:Int)))),v5'],?_,ps.foldl addN kn,PS++[ps],_,_,_,rfl,?_,?_,?_,?_,?_,JL hp.nd,?_,?_⟩
   .simp_arith [wA,hg,e1,e2,e3,l2,l3,mBq,pA]
   .intro qs hq k hk;rcases mAq.mp hq with q|q
    .exact vI.mpr (.inl (hp.sub qs q k hk))
    .rw [mSq.mp q]at hk;exact vI.mpr (.inr hk)
   .rw [aO];refine⟨hp.dj,List.pairwise_singleton ..,λqs hq b hb k hk hk2=>c ?_⟩
    rw[mSq.mp hb]at hk2;obtain⟨s,hs,hc⟩:=hp.pc qs hq;exact hp.sub qs hq i ((hc.iff i).mpr (((hc.iff k).mp hk).trans (((h1.iff k).mp hk2).symm hm)))
   .intro qs hq;rcases mAq.mp hq with q|q
    .exact hp.pc qs q
    .rw [mSq.mp q];exact⟨i,hi,h1⟩
   .intro k hk;rcases cF.mp hk with q|rfl
    .exact vI.mpr (.inl (hp.all k q))
    .exact vI.mpr (.inr ((h1.iff k).mpr .base))
   .intro k hk;rcases vI.mp hk with q|q
    .obtain ⟨qs,a,b⟩:=hp.mem k q;exact⟨qs,mAq.mpr (.inl a),b⟩
    .exact ⟨ps,mAq.mpr (.inr (mSq.mpr rfl)),q⟩
   .intro k hk;rcases vI.mp hk with q|q
    .exact hp.lt k q
    .exact h1.lt k q
   .rw [lAq,lSq];lia)
 obtain⟨S',e,kn,PS,v3,v4,v5,rfl,hp⟩:=key;rw[pZ]at hp;have r1:=vt (n:=rs.length) (by lia)
 refine⟨kn,PS,hp,?_⟩
 simp_arith [Ar,EB,dM,r1,e]
end K51
--ZQ3 --ZQ4 --ZQ5 --ZQ6 --ZQ8 --ZQ9
namespace K51
open PySem L2 Mr Z Xe Zl
def rot(r:List Int):List Int:=r.drop 1++r.take 1
def rV(r:List Int):List (oU×Int):=(r.zip (rot r)).map λp=>(.inl p.1,p.2)
def qg(rs:List (List Int)):List (oU×Int):=(rs.map rV).flatten
def xn(ps:List (oU×Int)):List (oU×D):=ps.map λp=>(p.1,D.int p.2)
theorem E9(r:List Int):(rot r).length=r.length:=by
 unfold rot;rw[lAq,aR,lTq];lia
theorem rot_perm(r:List Int):(rot r).Perm r:=by
 unfold rot;refine aL.trans ?_;rw[bb]
theorem yJ(r:List Int):(rV r).length=r.length:=by
 unfold rV;rw[lMq,iD,E9,jh]
theorem A2(r:List Int):(rV r).map (·.1)=r.map aH:=by
 unfold rV;rw[mPq];have:r.map aH=((r.zip (rot r)).map Prod.fst).map (aH:Int->oU):=by rw[List.map_fst_zip (by rw[E9];exact af _)]
 rw[this,mPq];rfl
theorem Fi(r:List Int):(rV r).map (·.2)=rot r:=by
 unfold rV;rw[mPq];have:rot r=(r.zip (rot r)).map Prod.snd:=by rw[List.map_snd_zip (by rw[E9];exact af _)]
 exact this.symm
theorem uI:∀(rs:List (List Int)),(qg rs).map (·.1)=rs.flatten.map aH
 | []=>rfl
 |r::rs=>by
  show (rV r++qg rs).map (·.1)=_;rw[mBq,A2,uI rs,fCq,mBq]
theorem zK:∀(rs:List (List Int)),((qg rs).map (·.2)).Perm rs.flatten
 | []=>.nil
 |r::rs=>by
  show ((rV r++qg rs).map (·.2)).Perm _;rw[mBq,Fi,fCq];exact(rot_perm r).append (zK rs)
theorem Ll(rs:List (List Int)):(qg rs).length=rs.flatten.length:=by
 have:=congrArg cm (uI rs)
 rwa [lMq,lMq]at this
theorem Je(rs:List (List Int)) (r:List Int):qg (rs++[r])=qg rs++rV r:=by
 unfold qg;rw[mBq,fAq];simp
theorem RB(ps:List (oU×Int)):(xn ps).length=ps.length:=lMq _
theorem Rk(a b:List (oU×Int)):xn (a++b)=xn a++xn b:=mBq
theorem MB(ps:List (oU×Int)):(xn ps).map (·.1)=ps.map (·.1):=by
 unfold xn;rw[mPq];rfl
theorem Dr{r:List Int}{j:Nat}{z y:Int}(h:r[j]?=some z) (h2:(rot r)[j]?=some y):(rV r)[j]?=some (.inl z,y):=by
 unfold rV;rw[gMq,eh (z:=(z,y)).mpr ⟨h,h2⟩];rfl
theorem OY{rs:List (List Int)}{i j:Nat}{r:List Int}{z y:Int}(hn:rs.flatten.Nodup) (hr:rs[i]?=some r) (hz:r[j]?=some z) (hy:(rot r)[j]?=some y) :
  xZ (xn (qg (rs.take i)++(rV r).take j)) (.inl z) (.int y)=xn (qg (rs.take i)++(rV r).take (j+1)):=by
 have hfl:=uq hr;have hnd:((rs.take i).flatten++r).Nodup:=by
  rw[←hfl];have e0:rs.flatten=(rs.take (i+1)).flatten++(rs.drop (i+1)).flatten:=by rw[←fAq,bb]
  rw[e0]at hn;exact(nAq.mp hn).1
 rw[CP]
 .rw [qK (Dr hz hy),←ah,Rk (_++_) [_]];rfl
 .rw [MB,mBq,uI,iX,A2,←iX];intro m;rcases mAq.mp m with m|m
  .obtain ⟨x,hx,e2⟩:=mMq.mp m;cases e2;exact(nAq.mp hnd).2.2 _ hx _ (mGq hz) rfl
  .obtain ⟨x,hx,e2⟩:=mMq.mp m;cases e2;have:=aY.sublist (bC (j+1) r) (nAq.mp hnd).2.1;rw[qK hz]at this;exact(nAq.mp this).2.2 _ hx _ (by simp) rfl
theorem KS{rs:List (List Int)}{i j:Nat}{r:List Int}(hl:rs.flatten.length<=1000) (hr:rs[i]?=some r):(xn (qg (rs.take i)++(rV r).take j)).length<rh:=by
 refine O5 ?_;have h1:=ym rs (i+1);rw[uq hr,lAq]at h1;rw[RB,lAq,Ll,lTq,yJ];lia
end K51
--ZQ3 --ZQ4 --ZQ5 --ZQ6 --ZQ8 --ZQ9 --ZQB --ZQC --ZQD --ZQE --ZQF
namespace K15
open PySem L2 Mr Z Xe Zl
theorem yL{ps:List (oU×Int)}{k:oU}{n:Int}(hn:(ps.map (·.1)).Nodup) (h:(k,n)∈ps):Z.getD (K51.xn ps) k=some (.int n):=by
 induction ps with
 |nil=>cases h
 |cons p ps ih =>
  rw[au,aq]at hn;unfold Z.getD;show (((p.1,D.int p.2)::K51.xn ps).find? _).map _=_;rcases ae.mp h with e|e
  .rw [←e,eS (by simp)]
   rfl
  .rw [dJ (by
    intro z;have z':p.1=k:=by simpa using z
    exact hn.1 (by rw[z'];exact mMq.mpr ⟨_,e,rfl⟩))]
   exact ih hn.2 e
theorem OF{ps:List (oU×Int)}{k k':oU}{n:Int}(hn:(ps.map (·.2)).Nodup) (h:(k,n)∈ps) (h':(k',n)∈ps):k=k':=by
 induction ps with
 |nil=>cases h
 |cons p ps ih =>
  rw[au,aq]at hn;rcases ae.mp h with e|e
  .rcases ae.mp h' with e'|e'
   .rw [←e]at e';exact(congrArg Prod.fst e').symm
   .exact absurd (mMq.mpr ⟨_,e',by rw[←e]⟩) hn.1
  .rcases ae.mp h' with e'|e'
   .exact absurd (mMq.mpr ⟨_,e,by rw[←e']⟩) hn.1
   .exact ih hn.2 e e'
def nx(rs:List (List Int)) (e:Int):Int:=match Z.getD (K51.xn (K51.qg rs)) (.inl e) with
 |some (.int n)=>n
 |_=>0
def fw(rs:List (List Int)) (e:Int):Int:=nx rs (-e)
section
variable {rs:List (List Int)}
theorem EZ(hn:rs.flatten.Nodup):((K51.qg rs).map (·.1)).Nodup:=by
 rw[K51.uI,aJ,bg];exact aY.imp (λh e=>h (aH.inj e)) (aJ.mp hn)
theorem B5(hn:rs.flatten.Nodup) {e:Int}(he:e∈rs.flatten):(aH e,nx rs e)∈K51.qg rs:=by
 have hk:(aH e:oU)∈(K51.qg rs).map (·.1):=by rw[K51.uI];exact mMq.mpr ⟨e,he,rfl⟩
 obtain⟨⟨k,n⟩,hp,rfl⟩:=mMq.mp hk;have:=yL (EZ hn) hp;unfold nx;rw[this];exact hp
theorem OB(hn:rs.flatten.Nodup) {e:Int}(he:e∈rs.flatten):Z.getD (K51.xn (K51.qg rs)) (.inl e)=some (.int (nx rs e)):=yL (EZ hn) (B5 hn he)
theorem Bw(hn:rs.flatten.Nodup) {e:Int}(he:e∈rs.flatten):nx rs e∈rs.flatten:=(K51.zK rs).mem_iff.mp (mMq.mpr ⟨_,B5 hn he,rfl⟩)
theorem Fp(hn:rs.flatten.Nodup) {a b:Int}(ha:a∈rs.flatten) (hb:b∈rs.flatten) (h:nx rs a=nx rs b):a=b:=by
 have h1:=B5 hn ha;have h2:=B5 hn hb;rw[h]at h1;exact aH.inj (OF ((K51.zK rs).symm.nodup hn) h1 h2)
theorem vg(hm:Mp rs):IC (fw rs) rs.flatten:=⟨hm.hn,λe he=>Bw hm.hn (hm.hneg e he),λa ha b hb h=>by
 have:=Fp hm.hn (hm.hneg a ha) (hm.hneg b hb) h;lia⟩
def stp(rs:List (List Int)) (E:List Int):List (oU×D):=E.map λe=>(aH e,.int (fw rs e))
theorem Th(rs:List (List Int)):(K51.xn (K51.qg rs)).map (λp=>kD p.1)=rs.flatten.map D.int:=by
 have:(K51.xn (K51.qg rs)).map (λp=>kD p.1)=((K51.qg rs).map (·.1)).map kD:=by
  unfold K51.xn;rw[mPq,mPq];rfl
 rw[this,K51.uI,mPq];rfl
def mu(N:Nat):AS->Nat
 | [_,_,some (.ow l),_]=>N+1-l.length
 |_=>0
end
end K15
--ZQ3 --ZQ4 --ZQ5 --ZQ6 --ZQ8 --ZQ9 --ZQB --ZQC --ZQD --ZQE --ZQF
namespace K15
open PySem L2 Mr Z Xe Zl
def kI(ks:List Int):List (oU×D):=ks.map λk=>((aH k:oU),D.bl true)
theorem M4(ks:List Int) (t:Int):(kI ks).any (λkv=>decide (kv.1=(aH t:oU)))=decide (t∈ks):=by
 induction ks with
 |nil=>simp[kI]
 |cons k ks ih =>
  unfold kI at ih ⊢;rw[au,ee,ih]
  by_cases h:t=k
  .subst h;simp
  .have h':¬ (aH k:oU)=aH t:=λq=>h (aH.inj q).symm
   simp[h',h]
theorem OL(ks:List Int) (t:Int):(Z.getD (kI ks) (aH t)).isSome=decide (t∈ks):=by
 unfold Z.getD;rw[eW,←M4,bI,hU,dN]
theorem Pq{ks:List Int}{t:Int}(h:t∉ks):xZ (kI ks) (aH t) (.bl true)=kI (ks++[t]):=by
 unfold xZ;rw[M4,decide_eq_false h,pJ (by simp)]
 simp[kI]
theorem MD(ks:List Int):(kI ks).length=ks.length:=by unfold kI;rw[lMq]
section
variable {rs:List (List Int)}
structure Rd (f:Int->Int) (E:List Int) (kn:List Int) (L:List (List Int)):Prop where
 cy:∀l∈L,∃e,Cy f e l
 fl:L.flatten=kn
 nd:kn.Nodup
 sub:∀x∈kn,x∈E
 cl:∀x∈kn,f x∈kn
theorem Rd.itr{f:Int->Int}{E kn:List Int}{L:List (List Int)}(h:Rd f E kn L) {x:Int}(hx:x∈kn):∀n,itr f n x∈kn
 |0=>hx
 |n+1=>h.cl _ (h.itr hx n)
theorem Rd.out{f:Int->Int}{E kn:List Int}{L:List (List Int)}(h:Rd f E kn L) {e:Int}{l:List Int}(c:Cy f e l) (he:e∉kn):∀x∈l,x∉kn:=by
 intro x hx hk;obtain⟨j,hj⟩:=ar.mp hx;have hlt:=(gSq.mp hj).1;rw[c.at hlt]at hj;have e1:=aD.inj hj;subst e1;have:=h.itr hk (l.length-j);rw[←yk,show l.length-j+j=l.length by lia,c.back]at this
 exact he this
theorem Rd.add{f:Int->Int}{E kn:List Int}{L:List (List Int)}(hf:IC f E) (h:Rd f E kn L) {e:Int}{l:List Int}(c:Cy f e l) (heE:e∈E) (he:e∉kn):Rd f E (kn++l) (L++[l]):=by
 have ho:=h.out c he;refine⟨λm hm=>?_,by rw[fAq,h.fl,bo],?_,λx hx=>?_,λx hx=>?_⟩
 .rcases mAq.mp hm with q|q
  .exact h.cy m q
  .rw [mSq.mp q];exact⟨e,c⟩
 .rw [nAq];exact⟨h.nd,c.nd,λa ha b hb q=>ho b hb (q ▸ ha)⟩
 .rcases mAq.mp hx with q|q
  .exact h.sub x q
  .rw [c.get]at q;obtain⟨n,_,rfl⟩:=mMq.mp q;exact hf.itr_mem heE n
 .rcases mAq.mp hx with q|q
  .exact mAq.mpr (.inl (h.cl x q))
  .refine mAq.mpr (.inr ?_);obtain⟨j,hj⟩:=ar.mp q;have hlt:=(gSq.mp hj).1;rw[c.at hlt]at hj;rw[←aD.inj hj];show Zl.itr f (j+1) e∈l
   by_cases hj2:j+1<l.length
   .exact mGq (c.at hj2)
   .rw [show j+1=l.length by lia,c.back]
    exact c.self
theorem Rd.orb{f:Int->Int}{E kn:List Int}{L:List (List Int)}(h:Rd f E kn L) (hall:∀x∈E,x∈kn):Ck f E L:=⟨h.cy,by rw[h.fl];exact h.nd,λx=>by rw[h.fl];exact⟨h.sub x,hall x⟩⟩
def ZA(rs:List (List Int)):List (List Int):=(rs.filter λr=>decide (r=[])).map λ_=>[]
end
end K15
--ZQ3 --ZQ4 --ZQ5 --ZQ8
namespace K13
open PySem L2 Mr Z Xe Zl
def plain:Nat->D->Prop
 |0,_=>False
 |_+1,.int _=>True
 |_+1,.str _=>True
 |n+1,.list ds=>ds.length<1000000/\∀d∈ds,plain n d
 |n+1,.tup ds=>ds.length<1000000/\∀d∈ds,plain n d
 |_+1,_=>False
def wk:Nat->MF
 |0=>Tc
 |n+1=>vO (wk n)
def oM(rs:List (List Int)):AV:=.ow (rs.map λr=>.sh (dI r))
theorem Na(rs:List (List Int)):oP (oM rs)=dM rs:=by unfold oM;rw[qO,Ku]
structure Ms (ms:List (List (List Int))):Prop where
 rows:ms.flatten.length<=1000
 len:ms.flatten.flatten.length<=1000
 ends:∀z∈ms.flatten.flatten,TN z=true
 both:∀z∈ms.flatten.flatten, -z∈ms.flatten.flatten
end K13
--ZQ3 --ZQ4 --ZQ5 --ZQ6 --ZQ8 --ZQ9 --ZQB --ZQC --ZQD --ZQE --ZQF
namespace K15
open PySem L2 Mr Z Xe Zl
section
variable {rs:List (List Int)}
theorem P7{r:List Int}{j:Nat}(hj:j<r.length):(K51.rot r)[j]?=r[(j+1) % r.length]?:=by
 unfold K51.rot
 by_cases h:j+1<r.length
 .rw [fi h,gZq (by rw[aR];lia),cZ,fc]
 .have e:j+1=r.length:=by lia
  rw[e,iz,gYq (by rw[aR];lia),aR,eF (by lia)]
  congr 1;lia
theorem EF(hm:Mp rs):vD [dM rs]=some (.owd (K51.xn (K51.qg rs))):=by
 have hn:=hm.hn;have hl:=hm.hl;have key:=vk (x:=2) (body:=xQ) (λi S=>∃v2 v3,S=[some (.sh (dM rs)),some (.owd (K51.xn (K51.qg (rs.take i)))),v2,v3]) (ds:=rs.map dI) (S:=[some (.sh (dM rs)),some (.owd []),none,none]) ⟨none,none,rfl⟩ (by
  rintro i d S hd ⟨v2,v3,rfl⟩;obtain⟨r,hr,rfl⟩:=JZ hd;have hrl:=hm.row hr;have k2:=vk (x:=3) (body:=xW) (λj S=>∃v3,S=[some (.sh (dM rs)),some (.owd (K51.xn (K51.qg (rs.take i)++(K51.rV r).take j))),some (.sh (dI r)),v3]) (ds:=pV 0 r.length) (S:=[some (.sh (dM rs)),some (.owd (K51.xn (K51.qg (rs.take i)))),some (.sh (dI r)),v3]) ⟨v3,by simp⟩ (by
   rintro j d S hd ⟨v3,rfl⟩;have hj:j<r.length:=by
    have:=(gSq.mp hd).1
    rwa [pZ]at this
   rw[Aa hj,gI]at hd;cases hd;have hz:r[j]?=some r[j]:=gEg hj;have hm2:(j+1) % r.length<r.length:=jD _ (by lia)
   have hy:(K51.rot r)[j]?=some r[(j+1) % r.length]:=by rw[P7 hj];exact gEg hm2
   have h3:=K51.KS (j:=j) hl hr;have hput:=K51.OY hn hr hz hy;have a1:atI (r.map D.int) (j:Int)=some (.int r[j]):=xO (by rw[gMq,hz];rfl)
   have md:=qX (i:=(j:Int)+1) (j:=(r.length:Int)) (by lia)
   have em:((j:Int)+1) % (r.length:Int)=(((j+1) % r.length:Nat):Int):=by push_cast;rfl
   rw[em]at md;have a2:atI (r.map D.int) (((j+1) % r.length:Nat):Int)=some (.int r[(j+1) % r.length]):=xO (by rw[gMq,gEg hm2];rfl)
   refine⟨_,?_,some (.sh (.int (j:Int))),rfl⟩
   simp_arith [xW,dI,a1,md,a2,h3,hput])
  obtain⟨S2,e2,w3,rfl⟩:=k2;rw[pZ,←K51.yJ,bA]at e2;have rg:B1 [.int (r.length:Int)]=some (pV 0 r.length):=vt (by lia)
  rw[K51.yJ]at e2;refine⟨_,?_,some (.sh (dI r)),w3,rfl⟩;rw[qK hr,K51.Je]
  simp_arith [xQ,dI,rg,e2])
 obtain⟨S',e,v2,v3,rfl⟩:=key;rw[lMq,bA]at e
 simp_arith [vD,Dj,e]
end
end K15
--ZQ3 --ZQ4 --ZQ5 --ZQ6 --ZQ8 --ZQ9 --ZQB --ZQC --ZQD --ZQE
namespace K12
open PySem L2 Mr Z Xe Zl
abbrev aP(UL:List (List Int)):AV:=.ow (UL.map aI)
theorem PU{α β:Type}(f:α->β) (l:List α) (i:Nat) (a:α):(l.map f).set i (f a)=(l.set i a).map f:=by rw[List.map_set]
structure Wd where
 P0:List (List (List Int))
 last:List (List Int)
 t0:List Nat
 h:Nat
 left:List Int
 used:Nat
def ZK(c e:Int):Int:=if c / 8 % 2=1 then -e else e
def wstep(nm:List Int) (w:Wd) (c:Int):Wd :=
 let e:=ZK c (nm.getD w.used 0)
 let r:=w.last.getD w.h []
 if c % 8<4 then
  if c % 8<2 then { w with last:=w.last.set w.h (r++[e]),left:=w.left++[-e],used:=w.used+1 }
  else { w with last:=w.last.set w.h (r++[e])++[[-e]],t0:=w.t0++[w.h],h:=w.last.length,used:=w.used+1 }
 else if c % 8<6 then
  if w.left=[] then w else { w with last:=w.last.set w.h (r++[w.left.getD (c / 16 % w.left.length).toNat 0]),left:=w.left.eraseIdx (c / 16 % w.left.length).toNat }
 else if c % 8=6 then
  match w.t0.getLast? with
  |none=>w
  |some h'=>{ w with t0:=w.t0.dropLast,h:=h' }
 else { P0:=w.P0++[w.last.set w.h (r++w.left)],last:=[[]],t0:=[],h:=0,left:=[],used:=w.used }
abbrev cN(ks:List Nat):List Int:=ks.map λn:Nat=>(n:Int)
def st(v0 v1:Option AV) (w:Wd) (v6 v7 v8 v9:Option AV):AS:=[v0,v1,some (.ow ((w.P0++[w.last]).map aP)),some (aI (cN (w.t0++[w.h]))),some (aI w.left),some (.sh (.int (w.used:Int))),v6,v7,v8,v9]
end K12
--ZQ3 --ZQ4 --ZQ5 --ZQ6 --ZQ8 --ZQ9 --ZQB --ZQC --ZQD --ZQE
namespace K12
open PySem L2 Mr Z Xe Zl
section
variable {nm:List Int}{P0:List (List (List Int))}{last:List (List Int)}{t0:List Nat}{hd:Nat}{left r:List Int}{used:Nat}{c e:Int}{v0 v1 v8:Option AV}
theorem Bb(r:List Int) (e:Int):(r.map λn=>AV.sh (.int n))++[.sh (.int e)]=(r++[e]).map λn=>.sh (.int n):=by rw[mBq];rfl
theorem J2(l:List (List Int)) (e:Int):l.map aI++[.ow [.sh (.int e)]]=(l++[[e]]).map aI:=by rw[mBq];rfl
theorem O9(ks:List Nat) (n:Nat):(cN ks).map (λn=>AV.sh (.int n))++[.sh (.int (n:Int))]=(cN (ks++[n])).map λn=>.sh (.int n):=by unfold cN;rw[mBq,mBq];rfl
theorem P1{α β:Type}(f:α->β):∀(l:List α) (i:Nat),(l.map f).eraseIdx i=(l.eraseIdx i).map f
 | [],i=>rfl
 |x::l,0=>rfl
 |x::l,i+1=>by rw[au,bO,bO,P1 f l i,au]
end
end K12
--ZQ3 --ZQ4 --ZQ5 --ZQ6 --ZQ8 --ZQ9 --ZQB --ZQC --ZQD --ZQE
namespace K12
open PySem L2 Mr Z Xe Zl
def both(nm:List Int) (k:Nat):List Int:=(nm.take k).flatMap λx=>[x, -x]
theorem yg{x r:List Int}(a:Int):∀{l:List (List Int)}{h:Nat},l[h]?=some r->(l.set h (r++x)).flatten.count a=l.flatten.count a+x.count a
 | [],_,h=>by simp at h
 |s::l,0,h=>by
  cases h;rw[cG,fCq,fCq,cAq,cAq,cAq];lia
 |s::l,h+1,e=>by
  rw[cH,fCq,fCq,cAq,cAq,yg a (by simpa using e)]
  lia
theorem BB(a:Int):∀{l:List Int}{j:Nat},j<l.length->(l.eraseIdx j).count a+[l.getD j 0].count a=l.count a
 | [],_,h=>by simp at h
 |x::l,0,_=>by
  rw[fF,show x::l=[x]++l from rfl,cAq]
  show l.count a+[x].count a=_;lia
 |x::l,j+1,h=>by
  have ih:=BB a (l:=l) (j:=j) (by simpa using h)
  rw[bO,show x::l.eraseIdx j=[x]++l.eraseIdx j from rfl,show (x::l).getD (j+1) 0=l.getD j 0 from rfl,show x::l=[x]++l from rfl,cAq,cAq]
  lia
structure WOk (nm:List Int) (w:Wd) (n:Nat):Prop where
 hh:w.h<w.last.length
 ht:∀k∈w.t0,k<w.last.length
 us:w.used<=n
 lP:w.P0.length<=n
 lt:w.t0.length<=n
 tl:w.P0.flatten.length+w.last.length<=n+1
 cnt:∀a,w.P0.flatten.flatten.count a+w.last.flatten.count a+w.left.count a=(both nm w.used).count a
theorem EW{l:List (List Int)}{h:Nat}{r:List Int}(e:l[h]?=some r):r.length<=l.flatten.length:=fe.length_le (aF (mGq e))
end K12
--ZQ3 --ZQ4 --ZQ5 --ZQ6 --ZQ8 --ZQ9 --ZQB --ZQC --ZQD --ZQE
namespace K12
open PySem L2 Mr Z Xe Zl
def w0:Wd:=⟨[],[[]],[],0,[],0⟩
end K12
--ZQ3 --ZQ4 --ZQ5 --ZQ6 --ZQ8 --ZQ9 --ZQB --ZQC --ZQD --ZQE
namespace K12
open PySem L2 Mr Z Xe Zl
def M6(st sh a b k:Int):Int:=st*((a*k+b) % 67+1)+sh
theorem Jw{st sh a b:Int}(h1:1<=st) (h2:1<=a) (h3:a<=66) {j k:Nat}(hj:j<67) (hk:k<67) (h:M6 st sh a b j=M6 st sh a b k):j=k:=by
 unfold M6 at h;have e1:st*((a*j+b) % 67+1)=st*((a*k+b) % 67+1):=by lia
 have e2:=Int.eq_of_mul_eq_mul_left (by lia) e1
 have e3:((a*j+b)-(a*k+b)) % 67=0:=Int.emod_eq_emod_iff_emod_sub_eq_zero.mp (by lia)
 have e4:(a*((j:Int)-k)) % 67=0:=by
  rw[←e3];congr 1;rw[Int.mul_sub];lia
 obtain⟨tn,rfl⟩:∃tn:Nat,a=(tn:Int)+1:=⟨(a-1).toNat,by lia⟩
 rcases gX j k with q|q|q
 .exfalso;refine Mr.Ke ⟨tn,by lia⟩ ⟨k-j,by lia⟩ (by show 0<k-j;lia) ?_
  show (tn+1)*(k-j) % 67=0;have e5:(((tn:Int)+1)*((k:Int)-j)) % 67=0:=by
   have:((tn:Int)+1)*((k:Int)-j) = -(((tn:Int)+1)*((j:Int)-k)):=by
    rw[←Int.mul_neg];congr 1;lia
   rw[this];lia
  have e6:(((tn+1)*(k-j) % 67:Nat):Int)=0:=by
   rw[←e5];push_cast [cS q];rfl
  lia
 .exact q
 .exfalso;refine Mr.Ke ⟨tn,by lia⟩ ⟨j-k,by lia⟩ (by show 0<j-k;lia) ?_
  show (tn+1)*(j-k) % 67=0;have e6:(((tn+1)*(j-k) % 67:Nat):Int)=0:=by
   rw[←e4];push_cast [cS q];rfl
  lia
structure Nm (nm:List Int):Prop where
 len:nm.length=66
 nd:nm.Nodup
 lo:∀x∈nm,1<=x
 hi:∀x∈nm,x<10 ^ 60
theorem DK:∀{l:List Int},l.Nodup->(∀x∈l,1<=x)->(l.flatMap λx=>[x, -x]).Nodup
 | [],_,_=>aU
 |x::l,hn,hp=>by
  have hn':=aq.mp hn;have px:=hp x (ag ..);rw[fO,nAq];refine⟨?_,DK hn'.2 λy hy=>hp y (mCo _ hy),λa ha b hb e=>?_⟩
  .rw [aq];refine⟨?_,by simp⟩
   rw[mSq];lia
  .subst e;obtain⟨y,hy,q⟩:=bE.mp hb;have py:=hp y (mCo _ hy);simp at ha q;have:y=x:=by lia
   exact hn'.1 (this ▸ hy)
end K12
--ZQ3 --ZQ4 --ZQ5 --ZQ6 --ZQ8 --ZQ9 --ZQB --ZQC --ZQD --ZQE
namespace K12
open PySem L2 Mr Z Xe Zl
theorem Jz:∀{PS:List (List Nat)},(∀ps∈PS,ps.Nodup)->(PS.Pairwise λa b=>∀k∈a,k∉b)->PS.flatten.Nodup
 | [],_,_=>aU
 |p::PS,h1,h2=>by
  obtain⟨h3,h4⟩:=cg.mp h2;rw[fCq,nAq];refine⟨h1 p (ag ..),Jz (λps hp=>h1 ps (mCo _ hp)) h4,λa ha b hb e=>?_⟩
  obtain⟨q,hq,hb'⟩:=mFq.mp hb;exact h3 q hq a ha (e ▸ hb')
theorem wL{rs:List (List Int)}{kn:List Nat}{PS:List (List Nat)}(hp:K51.Ps rs rs.length kn PS):(PS.map λps=>ps.map λk=>rs.getD k []).flatten.Perm rs:=by
 have e1:(PS.map λps=>ps.map λk=>rs.getD k []).flatten=PS.flatten.map λk=>rs.getD k []:=by rw[←List.map_flatten]
 rw[e1];have nd:PS.flatten.Nodup:=Jz (λps h=>by obtain⟨s,_,q⟩:=hp.pc ps h;exact q.nd) hp.dj
 have pm:PS.flatten.Perm (bN rs.length):=(bP nd iq).mpr λk=>by
  rw[bW,mFq];constructor
  .rintro ⟨ps,h1,h2⟩;obtain⟨s,_,q⟩:=hp.pc ps h1;exact q.lt k h2
  .intro hk;exact hp.mem k (hp.all k hk)
 have e2:(bN rs.length).map (λk=>rs.getD k [])=rs:=by
  refine dw λi=>?_
  rw[gMq]
  by_cases hi:i<rs.length
  .rw [cR hi,gEg hi,cf,gDq,gEg hi];rfl
  .rw [bc (by simpa using hi),bc (by lia)]
   rfl
 have:=pm.map (λk=>rs.getD k [])
 rwa [e2]at this
end K12
--ZQ3 --ZQ4 --ZQ5 --ZQ6 --ZQ8 --ZQ9 --ZQB --ZQC --ZQD --ZQE
namespace K12
open PySem L2 Mr Z Xe Zl
theorem K8(rs:List (List Int)):qR qt (vJ (sR 0)) [] (rs.map dI)=some (rs.map aI):=by
 rw[Z.sk λd=>aI (D5 d)]
 .rw [DR aI]
 .intro d hd;obtain⟨r,hr,rfl⟩:=Iz hd;refine⟨[some (.sh (dI r))],?_⟩
  simp_arith [xM]
def tl:MS:=(oE (oS 5 (qM (wm (oQ 3)) [] qt (qM (wm (oQ 0)) [] qt (vJ (sR 0)))))
 (oE (oS 6 (pH (XZ K13.Dd) (oH (oQ 5) oW)))
 (oE (wt (IT (uv (rp (qj K13.ro (ot (oy 6) (ot (oy 2) oC))))) (uv (rp (qj K13.ro (ot (oy 5) (ot (oy 3) oC)))))) (qa (kSc (rC (.bl false)))) pU)
 (oE (T9 6 7 (.int 7))
 (oE (uV 6 (rQ (oH (kSc (rC (.int 8))) oW)))
 (oE (wt (IT (uv (rp (qj K13.ro (ot (oy 5) (ot (oy 3) oC))))) (uv (rp (qj K13.ro (ot (rOf (pH (XZ K13.Dd) (oH (oQ 5) oW))) (ot (oy 2) oC)))))) (qa (kSc (rC (.bl false)))) pU)
 (qa (kSc (qj K13.ro (ot (rOf (pH (XZ K13.Dd) (oH (pH K51.Ar (oH (qM (wm (oQ 2)) [] qt (vJ (sR 0))) oW)) oW))) (ot (oy 2) oC)))))))))))
end K12
--ZQ3 --ZQ4 --ZQ5 --ZQ6 --ZQ8 --ZQ9 --ZQB --ZQC --ZQD --ZQE --ZQF
namespace K16
open PySem L2 Mr Z Xe Zl
theorem JR{i j:Int}(h:0<j) (h2:j.natAbs.log2<9000):Ka (.int i) (.int j)=some (.int (i / j)):=uR ⟨h,h2⟩ _
theorem S0:B2 (.int 10) (.int 57)=some (.int (10 ^ 57)):=by simp_arith []
def pm(l:List Int):List Int:=l.flatMap λx=>[x, -x]
theorem Kr(l:List Int) (x:Int):pm (l++[x])=pm l++[x, -x]:=by unfold pm;rw[gN];simp
theorem Iv(l:List Int):(pm l).length=2*l.length:=by
 unfold pm
 induction l with
 |nil=>rfl
 |cons a l ih =>
  rw[fO,lAq,ih,lCq (as:=l)];show 2+_=_;lia
theorem OD{l:List Int}{z:Int}(h:z∈pm l):-z∈pm l:=by
 unfold pm at h ⊢;rw[bE]at h ⊢;obtain⟨x,hx,hz⟩:=h;refine⟨x,hx,?_⟩;rcases ae.mp hz with e|e
 .rw [e];simp
 .rw [mSq.mp e,bw];simp
def tY(M:List (Int×Int)):List (oU×D):=M.map λp=>(.inl p.1,.int p.2)
theorem Au(M:List (Int×Int)):(tY M).length=M.length:=lMq _
theorem B3(M:List (Int×Int)):tY M=K51.xn (M.map λp=>((aH p.1:oU),p.2)):=by unfold tY K51.xn;rw[mPq];rfl
theorem Ai{M:List (Int×Int)}{z x:Int}(h:z∉M.map (·.1)):xZ (tY M) (.inl z) (.int x)=tY (M++[(z,x)]):=by
 rw[CP]
 .unfold tY;rw[mBq];rfl
 .intro m;obtain⟨p,hp,e1⟩:=mMq.mp m;obtain⟨q,hq,rfl⟩:=mMq.mp hp;exact h (mMq.mpr ⟨q,hq,aH.inj e1⟩)
theorem A4{α β:Type}(f:α->β):∀(l:List α) (k:Nat),(l.map f).eraseIdx k=(l.eraseIdx k).map f
 | [],_=>rfl
 |a::l,0=>rfl
 |a::l,k+1=>by
  rw[au,bO,bO,au,A4 f l k]
end K16
--ZQ3 --ZQ4 --ZQ5 --ZQ6 --ZQ8 --ZQ9 --ZQB --ZQC --ZQD --ZQE --ZQF
namespace K16
open PySem L2 Mr Z Xe Zl
def above(kn:List Int) (n:Int):Nat:=kn.countP λk=>decide (n<=k)
end K16
namespace K16
open PySem L2 Mr Z Xe Zl K15
section
variable {rs:List (List Int)}
theorem Ef(hn:rs.flatten.Nodup) {r:List Int}(hr:r∈rs) {j:Nat}{z y:Int}(hz:r[j]?=some z) (hy:r[(j+1) % r.length]?=some y):nx rs z=y:=by
 have hj:=(gSq.mp hz).1;have h1:=K51.Dr hz ((P7 hj).trans hy);have h2:(aH z,y)∈K51.qg rs:=by
  unfold K51.qg;exact mFq.mpr ⟨_,mMq.mpr ⟨r,hr,rfl⟩,mGq h1⟩
 have h3:=yL (EZ hn) h2;unfold nx;rw[h3]
theorem JN(hn:rs.flatten.Nodup) {r:List Int}(hr:r∈rs) {e:Int}(h0:r[0]?=some e):∀n,r[n % r.length]?=some (itr (nx rs) n e)
 |0=>by rw[Nat.zero_mod];exact h0
 |n+1=>by
  have hp:0<r.length:=(gSq.mp h0).1;have ih:=JN hn hr h0 n;have hm:(n+1) % r.length<r.length:=jD _ hp;have hm2:(n % r.length+1) % r.length=(n+1) % r.length:=by rw[Nat.mod_add_mod]
  obtain⟨y,hg⟩:∃y,r[(n+1) % r.length]?=some y:=⟨_,gEg hm⟩;have:=Ef hn hr ih (hm2 ▸ hg);rw[hg,←this];rfl
theorem TL(hn:rs.flatten.Nodup) {r:List Int}(hr:r∈rs) {e:Int}(h0:r[0]?=some e):Cy (nx rs) e r:=by
 have hp:0<r.length:=(gSq.mp h0).1;have it:=JN hn hr h0;refine⟨hp,?_,?_,aY.sublist (aF hr) hn⟩
 .refine dw λi=>?_
  rw[gMq]
  by_cases hi:i<r.length
  .rw [cR hi,cf,←it i,fi hi]
  .rw [bc (by lia),bc (by rw[bh];lia)]
   rfl
 .have:=it r.length;rw[iz,h0]at this;exact(aD.inj this).symm
def ne(rs:List (List Int)):List (List Int):=rs.filter λr=>!decide (r=[])
theorem T7(hn:rs.flatten.Nodup):IC (nx rs) rs.flatten:=⟨hn,λe he=>Bw hn he,λa ha b hb h=>Fp hn ha hb h⟩
end
end K16
namespace K18
open PySem L2 Mr Z Xe Zl
def pp:List Int->List (Int×Int)
 | []=>[]
 | [_]=>[]
 |x::y::r=>(x,y)::pp (y::r)
def cp:List Int->List (Int×Int)
 | []=>[]
 |x::r=>pp (x::r++[x])
def PC(X:List (List Int)):List (Int×Int):=X.flatMap cp
theorem Pe:∀(l:List Int) (x y:Int) (r:List Int),pp (l++x::y::r)=pp (l++[x])++(x,y)::pp (y::r)
 | [],x,y,r=>rfl
 | [a],x,y,r=>rfl
 |a::b::l,x,y,r=>by
  show (a,b)::pp (b::l++x::y::r)=(a,b)::pp (b::l++[x])++_;rw[Pe (b::l)];rfl
theorem sA{l r:List Int}{a h:Int}{l' r':List Int}(hl:l=l'++[a]) (hr:r=h::r'):pp (l++r)=pp l++(a,h)::pp r:=by
 rw[hl,hr,ah];exact Pe l' a h r'
theorem sm{l:List Int}{a h:Int}{l' l'':List Int}(hl:l=l'++[a]) (hh:l=h::l''):cp l=pp l++[(a,h)]:=by
 rw[hh];show pp (h::l''++[h])=_;rw[←hh,sA hl (r:=[h]) rfl];rfl
theorem rX{l:List Int}(h:l≠[]):∃l' a,l=l'++[a]:=⟨l.dropLast,l.getLast h,(gO h).symm⟩
theorem sV{l:List Int}(h:l≠[]):∃a l',l=a::l':=by
 cases l with
 |nil=>exact absurd rfl h
 |cons a l=>exact⟨a,l,rfl⟩
theorem ui(a b:List Int) (q:Int×Int):(cp (a++b)).count q=(cp (b++a)).count q:=by
 by_cases ha:a=[]
 .rw [ha,aNq,dY]
 .by_cases hb:b=[]
  .rw [hb,aNq,dY]
  .obtain ⟨la,ka,ea⟩:=rX ha;obtain⟨lb,kb,eb⟩:=rX hb;obtain⟨fa,ra,ga⟩:=sV ha;obtain⟨fb,rb,gb⟩:=sV hb;rw[sm (l:=a++b) (a:=kb) (h:=fa) (l':=a++lb) (l'':=ra++b) (by rw[eb,ah]) (by rw[ga];rfl),sm (l:=b++a) (a:=ka) (h:=fb) (l':=b++la) (l'':=rb++a) (by rw[ea,ah]) (by rw[gb];rfl),sA ea gb,sA eb ga]
   simp only[cAq,bS,bJ];lia
theorem OA:∀(l:List Int) (x:Int),(pp (l++[x])).map (·.1)=l
 | [],x=>rfl
 | [a],x=>rfl
 |a::b::l,x=>by
  show a::(pp (b::l++[x])).map (·.1)=_;rw[OA (b::l)]
theorem E2(l:List Int):(cp l).map (·.1)=l:=by
 cases l with
 |nil=>rfl
 |cons x r=>exact OA (x::r) x
theorem OR:∀(l:List Int) (x:Int),(pp (x::l)).map (·.2)=l
 | [],x=>rfl
 |a::l,x=>by
  show a::(pp (a::l)).map (·.2)=_;rw[OR l]
theorem VG(l:List Int):((cp l).map (·.2)).Perm l:=by
 cases l with
 |nil=>exact .refl _
 |cons x r =>
  show ((pp (x::(r++[x]))).map (·.2)).Perm _;rw[OR];exact aL
theorem C1(X:List (List Int)):(PC X).map (·.1)=X.flatten:=by
 induction X with
 |nil=>rfl
 |cons r X ih =>
  show ((cp r++PC X)).map _=_;rw[mBq,ih,E2];rfl
theorem Bh(X:List (List Int)):((PC X).map (·.2)).Perm X.flatten:=by
 induction X with
 |nil=>exact .refl _
 |cons r X ih =>
  show ((cp r++PC X).map _).Perm (r++X.flatten);rw[mBq];exact(VG r).append ih
theorem pe(r:List Int) (X:List (List Int)) (q:Int×Int):(PC (r::X)).count q=(cp r).count q+(PC X).count q:=by
 show (cp r++PC X).count q=_;rw[cAq]
theorem Bj(X Y:List (List Int)) (q:Int×Int):(PC (X++Y)).count q=(PC X).count q+(PC Y).count q:=by
 unfold PC;rw[gN,cAq]
theorem vH{r r':List Int}(q:Int×Int):∀{X:List (List Int)}{i:Nat},X[i]?=some r->(PC (X.set i r')).count q+(cp r).count q=(PC X).count q+(cp r').count q
 | [],_,h=>by simp at h
 |t::X,0,h=>by
  simp only[eP,aD.injEq]at h;subst h;rw[cG,pe,pe];lia
 |t::X,i+1,h=>by
  rw[cH,pe,pe];have:=vH (r:=r) (r':=r') q (X:=X) (i:=i) (by simpa using h)
  lia
theorem wC{X Y:List (List Int)}(h:X.Perm Y) (q:Int×Int):(PC X).count q=(PC Y).count q:=(h.flatMap_right cp).count_eq q
def ct(u v x y:Int):Nat:=[(u,v)].count (x,y)
theorem uN(u v x y:Int):ct u v (-x) y=ct (-u) v x y:=by
 unfold ct;rw[bS,bS,bJ,bJ];have:((u,v) == (-x,y))=((-u,v) == (x,y)):=by
  rw[bI,beq_iff_eq,beq_iff_eq,Prod.mk.injEq,Prod.mk.injEq];constructor <;> rintro⟨h1,h2⟩ <;> exact⟨by lia,h2⟩
 rw[this]
theorem Xq{u v x y:Int}:[(u,v)].count (x,y)=ct u v x y:=rfl
theorem qS{u v x y:Int}{l:List (Int×Int)}:((u,v)::l).count (x,y)=ct u v x y+l.count (x,y):=by
 rw[show (u,v)::l=[(u,v)]++l from rfl,cAq]
 rfl
theorem sY{X:List (List Int)}{q:Int×Int}:q∈PC X↔0<(PC X).count q:=aW.symm
theorem Jf{c:List Int}{u v:Int}(h:(u,v)∈cp c):∃w w',(∀q,(cp (w++[u])).count q=(cp c).count q)/\w++[u]=v::w':=by
 cases c with
 |nil=>cases h
 |cons x r =>
  have key:∀{l:List Int},(u,v)∈pp l->∃a b,l=a++u::v::b:=by
   intro l
   induction l with
   |nil=>intro h;cases h
   |cons y l ih =>
    cases l with
    |nil=>intro h;cases h
    |cons z l =>
     intro h;rcases ae.mp (show (u,v)∈(y,z)::pp (z::l) from h) with e|h
     .cases e;exact⟨[],l,rfl⟩
     .obtain ⟨a,b,e⟩:=ih h;exact⟨y::a,b,by rw[e];rfl⟩
  obtain⟨a,b,e⟩:=key (show (u,v)∈pp (x::r++[x]) from h)
  by_cases hb:b=[]
  .subst hb;have e2:(x::r)++[x]=(a++[u])++[v]:=by rw[e,ah];rfl
   obtain⟨e3,e4⟩:=jx e2 rfl;cases e4;exact⟨a,r,λq=>by rw[←e3],e3.symm⟩
  .obtain ⟨b',k,rfl⟩:=rX hb;have e2:(x::r)++[x]=(a++u::v::b')++[k]:=by rw[e,ah];rfl
   obtain⟨e3,_⟩:=jx e2 rfl;refine⟨v::b'++a,b'++a++[u],λq=>?_,by simp⟩
   rw[e3];have:=ui (a++[u]) (v::b') q;rw[ah]at this;rw[show a++u::v::b'=a++([u]++v::b') from rfl,this,ah]
theorem A6{LL:List (List Int)}{u v:Int}(z:Int) (h:(u,v)∈PC LL) (ne:∀c∈LL,c≠[]):∃LL':List (List Int),LL'.length=LL.length/\(∀c∈LL',c≠[])/\∀x y,(PC LL').count (x,y)+ct u v x y=(PC LL).count (x,y)+ct u z x y+ct z v x y:=by
 obtain⟨c,hc,hq⟩:=bE.mp h;obtain⟨i,hi⟩:=ar.mp hc;obtain⟨w,w',e1,e2⟩:=Jf hq;refine⟨LL.set i (w++[u]++[z]),lZq,λd hd=>?_,λx y=>?_⟩
 .rcases cT hd with q|q
  .exact ne d q
  .rw [q];simp
 .have s:=vH (r:=c) (r':=w++[u]++[z]) (x,y) hi;have c1:=e1 (x,y);rw[sm (l:=w++[u]) rfl e2]at c1;rw[sm (l:=w++[u]++[z]) (a:=z) (h:=v) (l':=w++[u]) (l'':=w'++[z]) rfl (by rw[e2];rfl),sA (l:=w++[u]) rfl (r:=[z]) rfl]at s
  simp only[cAq,qS,bJ,pp]at s c1;lia
theorem Xo{LL:List (List Int)}{u v z k:Int}{W W' W'':List Int}(hz:W=z::W') (hk:W=W''++[k]) (h:(u,v)∈PC LL) (ne:∀c∈LL,c≠[]):∃LL':List (List Int),LL'.length=LL.length/\(∀c∈LL',c≠[])/\∀x y,(PC LL').count (x,y)+ct u v x y=(PC LL).count (x,y)+ct u z x y+(pp W).count (x,y)+ct k v x y:=by
 obtain⟨c,hc,hq⟩:=bE.mp h;obtain⟨i,hi⟩:=ar.mp hc;obtain⟨w,w',e1,e2⟩:=Jf hq;refine⟨LL.set i (w++[u]++W),lZq,λd hd=>?_,λx y=>?_⟩
 .rcases cT hd with q|q
  .exact ne d q
  .rw [q];simp
 .have s:=vH (r:=c) (r':=w++[u]++W) (x,y) hi;have c1:=e1 (x,y);rw[sm (l:=w++[u]) rfl e2]at c1;rw[sm (l:=w++[u]++W) (a:=k) (h:=v) (l':=w++[u]++W'') (l'':=w'++W) (by rw[hk];simp) (by rw[e2];rfl),sA (l:=w++[u]) rfl hz]at s
  simp only[cAq,qS,bJ]at s c1;lia
theorem Ui{LL:List (List Int)}{z v:Int}(h:(z,v)∈PC LL) (hz:v≠z) (ne:∀c∈LL,c≠[]):∃(u:Int) (LL':List (List Int)),(u,z)∈PC LL/\LL'.length=LL.length/\(∀c∈LL',c≠[])/\∀x y,(PC LL').count (x,y)+ct u z x y+ct z v x y=(PC LL).count (x,y)+ct u v x y:=by
 obtain⟨c,hc,hq⟩:=bE.mp h;obtain⟨i,hi⟩:=ar.mp hc;obtain⟨w,w',e1,e2⟩:=Jf hq;have hw:w≠[]:=λq=>by
  rw[q]at e2;cases e2;exact hz rfl
 obtain⟨w0,u,ew⟩:=rX hw;obtain⟨f,w1,fw⟩:=sV hw;have fv:f=v:=by
  rw[fw]at e2;exact(jj.inj e2).1
 subst fv;have c1:=λx y=>e1 (x,y)
 rw[sm (l:=w++[z]) rfl e2,sA (l:=w) ew (r:=[z]) rfl]at c1;simp only[cAq,qS,bJ,pp]at c1;refine⟨u,LL.set i w,?_,lZq,λd hd=>?_,λx y=>?_⟩
 .refine bE.mpr ⟨c,hc,aW.mp ?_⟩;have:=c1 u z;have one:ct u z u z=1:=by unfold ct;simp
  lia
 .rcases cT hd with q|q
  .exact ne d q
  .rw [q];exact hw
 .have s:=vH (r:=c) (r':=w) (x,y) hi;rw[sm (l:=w) ew fw]at s;simp only[cAq,qS,bJ]at s;have:=c1 x y;lia
structure Ln (C LL:List (List Int)):Prop where
 cnt:∀x y,(PC LL).count (x,y)=(PC C).count (-x,y)
 ne:∀c∈LL,c≠[]
section
variable {C LL:List (List Int)}{i:Nat}
theorem Ln.mem(h:Ln C LL) {x y:Int}(q:(x,y)∈PC C):(-x,y)∈PC LL:=by
 rw[sY,h.cnt,bw];exact sY.mp q
theorem uP{r:List Int}(hi:C[i]?=some r) {q:Int×Int}(h:q∈cp r):q∈PC C:=bE.mpr ⟨r,mGq hi,h⟩
theorem vo{r r':List Int}:∀{X:List (List Int)}{i:Nat},X[i]?=some r->(X.set i r').count []+(if r=[] then 1 else 0)=X.count []+(if r'=[] then 1 else 0)
 | [],_,h=>by simp at h
 |t::X,0,h=>by
  simp only[eP,aD.injEq]at h;subst h;rw[cG,bS,bS];simp only[beq_iff_eq];lia
 |t::X,i+1,h=>by
  rw[cH,bS,bS];have:=vo (r:=r) (r':=r') (X:=X) (i:=i) (by simpa using h)
  lia
def nL(C LL:List (List Int)):Nat:=LL.length+C.count []
theorem OT{r L:List Int}(h:¬ L++r≠[]):r=[]/\L=[]:=by
 have:L++r=[]:=Classical.not_not.mp h;rw[fU]at this;exact⟨this.2,this.1⟩
theorem Ln.open(h:Ln C LL) {r L:List Int}(hi:C[i]?=some (r++L)) (e:Int):∃LL',Ln (C.set i (r++[e]++(-e::L))) LL'/\nL (C.set i (r++[e]++(-e::L))) LL'=nL C LL+1:=by
 have cs:=vo (r':=r++[e]++(-e::L)) hi;have n1:r++[e]++(-e::L)≠[]:=by simp
 rw[pJ n1]at cs;have st:=λx y=>vH (r':=r++[e]++(-e::L)) (x,y) hi
 have rot1:=λq=>ui r L q
 have rot2:=λq=>ui (r++[e]++[-e]) L q
 have as:r++[e]++(-e::L)=(r++[e]++[-e])++L:=by simp
 by_cases hY:L++r≠[]
 .obtain ⟨l',a,el⟩:=rX hY;obtain⟨f,l'',ef⟩:=sV hY;have c0:cp (L++r)=pp (L++r)++[(a,f)]:=sm el ef;have c1:cp (L++(r++[e]++[-e]))=pp (L++r)++[(a,e),(e, -e),(-e,f)]:=by
   have e1:L++(r++[e]++[-e])=(L++r)++[e, -e]:=by simp
   rw[e1,sm (l:=(L++r)++[e, -e]) (a:=-e) (h:=f) (l':=(L++r)++[e]) (l'':=l''++[e, -e]) (by simp) (by rw[ef];rfl),sA el (r:=[e, -e]) rfl]
   simp[pp]
  have m:=h.mem (x:=a) (y:=f) (uP hi (aW.mp (by rw[rot1,c0,cAq];simp)))
  obtain⟨LL',l1,n2,k⟩:=A6 e m h.ne;refine⟨[-e]::LL',⟨λx y=>?_,λc hc=>?_⟩,?_⟩
  .have s:=st (-x) y;rw[as,rot2,rot1,c0,c1]at s;have:=k x y;have hc:=h.cnt x y;rw[pe,as];simp only[cAq,qS,bJ,uN,bw]at s;have c2:(cp [-e]).count (x,y)=ct (-e) (-e) x y:=rfl;rw[c2];lia
  .rcases ae.mp hc with rfl|hc
   .simp
   .exact n2 c hc
  .unfold nL;have n3:r++L≠[]:=λq=>hY (by rw[fU]at q ⊢;exact⟨q.2,q.1⟩)
   rw[pJ n3]at cs;rw[lCq];lia
 .obtain ⟨hr,hL⟩:=OT hY;subst hr;subst hL;refine⟨[e]::[-e]::LL,⟨λx y=>?_,λc hc=>?_⟩,?_⟩
  .have s:=st (-x) y;have hc:=h.cnt x y;rw[pe,pe];have c2:∀z,(cp [z]).count (x,y)=ct z z x y:=λ_=>rfl
   have c3:(cp ([]++[e]++(-e::[]))).count (-x,y)=ct e (-e) (-x) y+ct (-e) e (-x) y:=by
    show [(e, -e),(-e,e)].count (-x,y)=_;rw[qS,Xq]
   have c4:(cp ([]++[]:List Int)).count (-x,y)=0:=rfl;rw[c3,c4,uN,uN,bw]at s;rw[c2,c2];lia
  .rcases ae.mp hc with rfl|hc
   .simp
   .rcases ae.mp hc with rfl|hc
    .simp
    .exact h.ne c hc
  .unfold nL;rw[aNq,pN rfl]at cs;rw[lCq,lCq];rw[dY]at cs ⊢;lia
theorem Ln.newp(h:Ln C LL) (hn:C.flatten.Nodup) {r L:List Int}(hi:C[i]?=some (r++L)) (e:Int):∃LL',Ln (C.set i (r++[e])++[-e::L]) LL'/\nL (C.set i (r++[e])++[-e::L]) LL'=nL C LL:=by
 have cs:=vo (r':=r++[e]) hi;have n1:r++[e]≠[]:=by simp
 rw[pJ n1]at cs;have st:=λx y=>vH (r':=r++[e]) (x,y) hi
 have cnL:∀X,nL (C.set i (r++[e])++[-e::L]) X=X.length+(C.set i (r++[e])).count []:=λX=>by
  unfold nL;rw[cAq];rfl
 have pn:∀x y,(PC (C.set i (r++[e])++[-e::L])).count (x,y)=(PC (C.set i (r++[e]))).count (x,y)+(cp (-e::L)).count (x,y):=λx y=>by
  rw[Bj,pe];rfl
 by_cases hr:r=[]
 .subst hr
  by_cases hL:L=[]
  .subst hL;refine⟨[e, -e]::LL,⟨λx y=>?_,λc hc=>?_⟩,?_⟩
   .have s:=st (-x) y;have hc:=h.cnt x y;rw[pe,pn];have c2:(cp [e, -e]).count (x,y)=ct e (-e) x y+ct (-e) e x y:=by
     show [(e, -e),(-e,e)].count (x,y)=_;rw[qS,Xq]
    have c3:(cp ([]++[e])).count (-x,y)=ct e e (-x) y:=rfl;have c5:(cp [-e]).count (-x,y)=ct (-e) (-e) (-x) y:=rfl;have c4:(cp ([]++[]:List Int)).count (-x,y)=0:=rfl;rw[c3,c4]at s;rw[c5,c2];simp only[uN,bw]at s ⊢;lia
   .rcases ae.mp hc with rfl|hc
    .simp
    .exact h.ne c hc
   .rw [cnL];unfold nL;rw[aNq,pN rfl]at cs;rw[lCq];lia
  .obtain ⟨l',l,el⟩:=rX hL;obtain⟨f,l'',ef⟩:=sV hL;have c0:cp L=pp L++[(l,f)]:=sm el ef;rw[dY]at hi;have m:=h.mem (x:=l) (y:=f) (uP hi (aW.mp (by rw[c0,cAq];simp)))
   obtain⟨LL',l1,n2,k1⟩:=Xo (W:=[-e,e]) (W'':=[-e]) rfl rfl m h.ne;refine⟨LL',⟨λx y=>?_,n2⟩,?_⟩
   .have s:=st (-x) y;have hc:=h.cnt x y;have k:=k1 x y;rw[pn];have c1:cp (-e::L)=(-e,f)::pp L++[(l, -e)]:=by
     rw[sm (l:=-e::L) (a:=l) (h:=-e) (l':=-e::l') (l'':=L) (by rw[el];rfl) rfl,show -e::L=[-e]++L from rfl,sA (l:=[-e]) (l':=[]) rfl ef]
     rfl
    have s:(PC (C.set i ([]++[e]))).count (-x,y)+(cp L).count (-x,y)=(PC C).count (-x,y)+ct e e (-x) y:=s;rw[c0]at s;rw[c1];simp only[cAq,qS,bJ,uN,bw,pp,cJ]at s k ⊢;lia
   .rw [cnL];unfold nL;have cs:(C.set i ([]++[e])).count []+(if L=[] then 1 else 0)=C.count []+0:=cs
    rw[pJ hL]at cs;lia
 .obtain ⟨r',a,er⟩:=rX hr;obtain⟨g,r'',eg⟩:=sV hr;have c2:cp (r++[e])=pp r++[(a,e),(e,g)]:=by
   rw[sm (l:=r++[e]) (a:=e) (h:=g) (l':=r) (l'':=r''++[e]) rfl (by rw[eg];rfl),sA er (r:=[e]) rfl]
   simp[pp]
  by_cases hL:L=[]
  .subst hL;have c0:cp r=pp r++[(a,g)]:=sm er eg;rw[aNq]at hi;have m:=h.mem (x:=a) (y:=g) (uP hi (aW.mp (by rw[c0,cAq];simp)))
   obtain⟨LL',l1,n2,k1⟩:=Xo (W:=[e, -e]) (W'':=[e]) rfl rfl m h.ne;refine⟨LL',⟨λx y=>?_,n2⟩,?_⟩
   .have s:=st (-x) y;have hc:=h.cnt x y;have k:=k1 x y;rw[pn];have c5:(cp [-e]).count (-x,y)=ct (-e) (-e) (-x) y:=rfl;rw[aNq,c0,c2]at s;rw[c5];simp only[cAq,qS,bJ,uN,bw,pp]at s k ⊢;lia
   .rw [cnL];unfold nL;rw[aNq,pJ hr]at cs;lia
  .obtain ⟨l',l,el⟩:=rX hL;obtain⟨f,l'',ef⟩:=sV hL;have c0:cp (r++L)=pp r++(a,f)::pp L++[(l,g)]:=by
    rw[sm (l:=r++L) (a:=l) (h:=g) (l':=r++l') (l'':=r''++L) (by rw[el,ah]) (by rw[eg];rfl),sA er ef]
   have c1:cp (-e::L)=(-e,f)::pp L++[(l, -e)]:=by
    rw[sm (l:=-e::L) (a:=l) (h:=-e) (l':=-e::l') (l'':=L) (by rw[el];rfl) rfl,show -e::L=[-e]++L from rfl,sA (l:=[-e]) (l':=[]) rfl ef]
    rfl
   have m:=h.mem (x:=a) (y:=f) (uP hi (by rw[c0];simp))
   have m':=h.mem (x:=l) (y:=g) (uP hi (by rw[c0];simp))
   obtain⟨L1,l1,n2,k1⟩:=A6 e m h.ne;have al:a≠l:=λq=>by
    have:=hn.sublist (aF (mGq hi));have:=(nAq.mp this).2.2 a (by rw[er];simp) l (by rw[el];simp)
    exact this q
   have m1:(-l,g)∈PC L1:=sY.mpr (by
    have k:=k1 (-l) g;have z:ct (-a) f (-l) g=0:=by
     unfold ct;rw[dP];intro q;have:=mSq.mp q;rw[Prod.mk.injEq]at this;exact al (by lia)
    have:=sY.mp m';lia)
   obtain⟨L2,l2,n3,k2⟩:=A6 (-e) m1 n2;refine⟨L2,⟨λx y=>?_,n3⟩,?_⟩
   .have s:=st (-x) y;have hc:=h.cnt x y;have k:=k1 x y;have k':=k2 x y;rw[pn];rw[c0,c2]at s;rw[c1];simp only[cAq,qS,bJ,uN,bw,cJ]at s k k' ⊢;lia
   .rw [cnL];unfold nL;rw[pJ (by simp[hr])]at cs
    lia
end
end K18
--ZQ3 --ZQ4 --ZQ5 --ZQ6 --ZQ8 --ZQ9 --ZQB --ZQC --ZQD --ZQE --ZQF --ZQG
namespace K18
open PySem L2 Mr Z Xe Zl K15 K16
section
variable {C LL:List (List Int)}
theorem yh:∀{l:List (Int×Int)},(l.map (·.2)).Nodup->∀{p q:Int×Int},p∈l->q∈l->p.2=q.2->p=q
 | [],_,_,_,h,_,_=>by cases h
 |w::l,h,x,y,hx,hy,e=>by
  rw[au]at h;obtain⟨h1,h2⟩:=aq.mp h;rcases ae.mp hx with e1|hx'
  .rcases ae.mp hy with e2|hy'
   .rw [e1,e2]
   .rw [e1]at e;exact absurd (mMq.mpr ⟨y,hy',e.symm⟩) h1
  .rcases ae.mp hy with e2|hy'
   .rw [e2]at e;exact absurd (mMq.mpr ⟨x,hx',e⟩) h1
   .exact yh h2 hx' hy' e
theorem xo(hn:C.flatten.Nodup) {n p:Nat}{s t:List Int}{x:Int}(h1:C[n]?=some s) (h2:C[p]?=some t) (hx:x∈s) (hy:x∈t):n=p:=by
 rw[←plc_eq hn h1 hx,←plc_eq hn h2 hy]
theorem Ln.back(h:Ln C LL) (hn:C.flatten.Nodup) {n p:Nat}(hnp:n≠p) {n0 p0 L:List Int}{e:Int}(h1:C[n]?=some ((-e::n0)++L)) (h2:C[p]?=some (p0++[e])):∃LL',Ln ((C.set n (-e::n0)).set p (p0++[e]++L)) LL'/\nL ((C.set n (-e::n0)).set p (p0++[e]++L)) LL'=nL C LL:=by
 have h2':(C.set n (-e::n0))[p]?=some (p0++[e]):=by rw[aA hnp];exact h2
 have s1:=λx y=>vH (r':=-e::n0) (x,y) h1
 have s2:=λx y=>vH (r':=p0++[e]++L) (x,y) h2'
 have t1:=vo (r':=-e::n0) h1;have t2:=vo (r':=p0++[e]++L) h2';rw[pJ (by simp),pJ (by simp)]at t1 t2
 by_cases hL:L=[]
 .subst hL;refine⟨LL,⟨λx y=>?_,h.ne⟩,?_⟩
  .have a:=s1 (-x) y;have b:=s2 (-x) y;have c:=h.cnt x y;rw[aNq]at a b ⊢;lia
  .unfold nL;lia
 .obtain ⟨l',l,el⟩:=rX hL;obtain⟨f,l'',ef⟩:=sV hL;obtain⟨m',a,ea⟩:=rX (show -e::n0≠[] by simp)
  obtain⟨g,p',eg⟩:=sV (show p0++[e]≠[] by simp)
  have c1:cp ((-e::n0)++L)=pp (-e::n0)++(a,f)::pp L++[(l, -e)]:=by
   rw[sm (l:=(-e::n0)++L) (a:=l) (h:=-e) (l':=(-e::n0)++l') (l'':=n0++L) (by rw[el,ah]) rfl,sA ea ef]
  have c2:cp (-e::n0)=pp (-e::n0)++[(a, -e)]:=sm ea rfl;have c3:cp (p0++[e])=pp (p0++[e])++[(e,g)]:=sm rfl eg;have c4:cp (p0++[e]++L)=pp (p0++[e])++(e,f)::pp L++[(l,g)]:=by
   rw[sm (l:=p0++[e]++L) (a:=l) (h:=g) (l':=p0++[e]++l') (l'':=p'++L) (by rw[el];simp) (by rw[eg];rfl),sA (l:=p0++[e]) rfl ef]
  have q1:(a,f)∈PC C:=uP h1 (by rw[c1];simp)
  have q2:(l, -e)∈PC C:=uP h1 (by rw[c1];simp)
  have q3:(e,g)∈PC C:=uP h2 (by rw[c3];simp)
  have ine:-e∈(-e::n0)++L:=by simp
  have ing:g∈p0++[e]:=by rw[eg];exact ag ..
  have inf:f∈L:=by rw[ef];exact ag ..
  have ina:a∈(-e::n0)++L:=aw _ (by rw[ea];simp)
  have gne:g ≠ -e:=λq=>hnp (xo hn h1 h2 ine (q ▸ ing))
  have nr:=hn.sublist (aF (mGq h1));have fne:f ≠ -e:=λq=>(nAq.mp nr).2.2 (-e) (ag ..) f inf q.symm
  have ane:a≠e:=λq=>hnp (xo hn h1 h2 (q ▸ ina) (by simp))
  obtain⟨u,L1,mu,l1,n1,k1⟩:=Ui (h.mem q3) gne h.ne;have mu':(-u, -e)∈PC C:=by
   rw[sY,←h.cnt];exact sY.mp mu
  have eu:u = -l:=by
   have nd:((PC C).map (·.2)).Nodup:=(Bh C).nodup_iff.mpr hn;have:=yh nd mu' q2 rfl;rw[Prod.mk.injEq]at this;lia
  subst eu;have zero:∀{u v x y:Int},¬ (u=x/\v=y)->ct u v x y=0:=λ{u v x y} q=>by
   unfold ct;rw[dP];intro z;have:=mSq.mp z;rw[Prod.mk.injEq]at this;exact q ⟨this.1.symm,this.2.symm⟩
  have m1:(-a,f)∈PC L1:=sY.mpr (by
   have k:=k1 (-a) f;have z1:ct (-l) (-e) (-a) f=0:=zero λq=>fne q.2.symm
   have z2:ct (-e) g (-a) f=0:=zero λq=>ane (by lia)
   have:=sY.mp (h.mem q1);lia)
  obtain⟨L2,l2,n2,k2⟩:=A6 (-e) m1 n1;refine⟨L2,⟨λx y=>?_,n2⟩,?_⟩
  .have a1:=s1 (-x) y;have a2:=s2 (-x) y;have hc:=h.cnt x y;have k:=k1 x y;have k':=k2 x y;rw[c1,c2]at a1;rw[c3,c4]at a2;simp only[cAq,qS,bJ,uN,bw,cJ]at a1 a2 k k';lia
  .unfold nL;lia
theorem S9{r:List Int}{x y:Int}(h:(x,y)∈cp r):∃j,r[j]?=some x/\r[(j+1) % r.length]?=some y:=by
 cases r with
 |nil=>cases h
 |cons a r =>
  have key:∀{l:List Int},(x,y)∈pp l->∃j,l[j]?=some x/\l[j+1]?=some y:=by
   intro l
   induction l with
   |nil=>intro h;cases h
   |cons b l ih =>
    cases l with
    |nil=>intro h;cases h
    |cons c l =>
     intro h;rcases ae.mp (show (x,y)∈(b,c)::pp (c::l) from h) with e|h
     .cases e;exact⟨0,rfl,rfl⟩
     .obtain ⟨j,j1,j2⟩:=ih h;exact⟨j+1,by simpa using j1,by simpa using j2⟩
  obtain⟨j,j1,j2⟩:=key (show (x,y)∈pp (a::r++[a]) from h)
  have lt:=(gSq.mp j2).1;rw[lAq,lSq]at lt;refine⟨j,?_,?_⟩
  .rw [gZq (by lia)]at j1
   exact j1
  .by_cases c:j+1<(a::r).length
   .rw [gZq c]at j2;rw[fi c];exact j2
   .have e:j+1=(a::r).length:=by lia
    rw[e,gYq (af _),dB]at j2;rw[e,iz];exact j2
theorem Ki{X:List (List Int)}(hn:X.flatten.Nodup) {x y:Int}(h:(x,y)∈PC X):nx X x=y:=by
 obtain⟨r,hr,q⟩:=bE.mp h;obtain⟨j,j1,j2⟩:=S9 q;exact Ef hn hr j1 j2
theorem Ln.flat(h:Ln C LL) (hneg:∀e∈C.flatten, -e∈C.flatten) (hn:C.flatten.Nodup):LL.flatten.Perm C.flatten:=by
 have e1:=Bh LL;have e2:=Bh C;refine e1.symm.trans (bj.trans ?_ e2);have:(PC LL).Perm ((PC C).map λq=>(-q.1,q.2)):=by
  refine bT.mpr λq=>?_
  obtain⟨x,y⟩:=q;rw[h.cnt];generalize PC C=l
  induction l with
  |nil=>rfl
  |cons p l ih =>
   obtain⟨u,v⟩:=p;rw[au,qS,qS,ih,uN]
 refine(this.map (·.2)).trans ?_;rw[mPq];exact .refl _
theorem Ln.orb(h:Ln C LL) (mp:Mp C):Ck (fw C) C.flatten LL:=by
 have pf:=h.flat mp.hneg mp.hn;have nd:=pf.nodup_iff.mpr mp.hn;have eq:∀x∈LL.flatten,nx LL x=fw C x:=λx hx=>by
  rw[←C1 LL]at hx;obtain⟨⟨u,v⟩,hq,rfl⟩:=mMq.mp hx;have q:(-u,v)∈PC C:=by
   rw[sY,←h.cnt];exact sY.mp hq
  show nx LL u=nx C (-u);rw[Ki nd hq,Ki mp.hn q]
 refine⟨λl hl=>?_,nd,λx=>pf.mem_iff⟩
 obtain⟨a,l',ea⟩:=sV (h.ne l hl);have cy:=TL nd hl (show l[0]?=some a by rw[ea];rfl)
 have ha:a∈LL.flatten:=mFq.mpr ⟨l,hl,by rw[ea];exact ag ..⟩
 have same:∀n,itr (nx LL) n a=itr (fw C) n a:=λn=>by
  induction n with
  |zero=>rfl
  |succ n ih =>
   show nx LL (itr (nx LL) n a)=fw C (itr (fw C) n a);rw[←ih];exact eq _ ((T7 nd).itr_mem ha n)
 refine⟨a,cy.len,?_,?_,cy.nd⟩
 .have:=cy.get;rw[mCq λn _=>same n]at this
  exact this
 .rw [←same];exact cy.back
theorem QL(r:List Int) (q:Int×Int):(cp (good r)).count q=(cp r).count q:=by
 unfold good;show (cp (r.drop _++r.take _)).count q=_;rw[ui,bb]
theorem Ln.rows(h:Ln C LL):Ln (wX (C.map good)) LL:=by
 refine⟨λx y=>?_,h.ne⟩
 rw[h.cnt,wC (se _)];generalize C=X
 induction X with
 |nil=>rfl
 |cons r X ih=>rw[pe,au,pe,QL,ih]
theorem Sf(C LL:List (List Int)):nL (wX (C.map good)) LL=nL C LL:=by
 unfold nL;rw[(se _).count_eq];congr 1
 induction C with
 |nil=>rfl
 |cons r X ih =>
  rw[au,bS,bS,ih];congr 1;have:(good r == [])=(r == []):=by
   rw[bI,beq_iff_eq,beq_iff_eq];have:=(qV r).length_eq;rw[←bq,←bq,this]
  rw[this]
end
end K18
--ZQ3 --ZQ4 --ZQ5 --ZQ6 --ZQ8 --ZQ9 --ZQB --ZQC --ZQD --ZQE --ZQF
namespace K23
open PySem L2 Mr Z Xe Zl
abbrev cz(z:Int):D:=.ins "Cut" [("road", .int z)]
def uG(z:Int) (t:List Int):List Int:=t.filter λe=>!decide (e∈[z, -z])
def C(z:Int) (rs:List (List Int)):List (List Int):=rs.map (uG z)
section
variable {rs:List (List Int)}{z:Int}
theorem HM:(C z rs).flatten=uG z rs.flatten:=by
 unfold C uG;rw[List.filter_flatten]
end
end K23
namespace K25
open PySem L2 Mr Z Xe Zl K15 K16
section
variable {rs:List (List Int)}
def Rt(rs:List (List Int)) (x:Int) (w:List Int):Prop:=∃u v,u++x::v∈rs/\w=v++u
def pz(z e:Int):Bool:=!decide (e∈[z, -z])
def Zm(z:Int) (f:Int->Int) (x:Int):Int:=if pz z (f x)=true then f x else if pz z (f (-f x))=true then f (-f x) else f (-f (-f x))
def rest(z:Int) (rs:List (List Int)):List (List Int):=rs.filter λr=>!decide (z∈r) && !decide (-z∈r)
structure ZG (rs:List (List Int)) (z:Int) (D:List (List Int)):Prop where
 nd:D.flatten.Nodup
 mem:∀x,x∈D.flatten↔x∈rs.flatten/\pz z x=true
 on:∀x∈D.flatten,nx D x=Zm z (nx rs) x
 br:bare D=bare rs+((if nx rs (-z)=z then 1 else 0)+(if nx rs z = -z then 1 else 0)+(if nx rs (-z) = -z/\nx rs z=z then 1 else 0))
 len:D.length<=rs.length+2
end
end K25
namespace K43
open PySem L2 Mr Z Xe Zl
open K51 (sG Ps Pc)
section
variable {rs A B:List (List Int)}
theorem Ei(h:Mp rs):K51.Mp rs:=⟨h.hn,h.hl,h.hr,h.hneg⟩
theorem R8(e:Int):K51.plc rs e=plc rs e:=rfl
structure Xj (rs:List (List Int)) (l:List Nat):Prop where
 lt:∀k∈l,k<rs.length
 pw:l.Pairwise λa b=>¬ sG rs a b
theorem Xj.nd{l:List Nat}(h:Xj rs l):l.Nodup:=by
 rw[aJ];exact h.pw.imp (λ{a b} n (e:a=b)=>n (e ▸ (.base:sG rs a a)))
theorem MM{PS:List (List Nat)}{k:Nat}(h:∃ps∈PS,k∈ps):∃ps,PS[PS.findIdx λp=>decide (k∈p)]?=some ps/\k∈ps:=by
 obtain⟨ps,h1,h2⟩:=h;have hl:PS.findIdx (λp=>decide (k∈p))<PS.length:=ez ⟨ps,h1,decide_eq_true h2⟩
 have h3:=gC (xs:=PS) (p:=λp=>decide (k∈p)) (w:=hl)
 exact⟨_,gEg hl,of_decide_eq_true h3⟩
theorem yY(hm:Mp rs) {kn:List Nat}{PS:List (List Nat)}(hp:Ps rs rs.length kn PS) {l:List Nat}(h:Xj rs l):l.length<=PS.length:=by
 have hf:∀k∈l,∃ps,PS[PS.findIdx λp=>decide (k∈p)]?=some ps/\k∈ps:=λk hk=>MM (hp.mem k (hp.all k (h.lt k hk)))
 have:=K51.VL PS.length (l.map λk=>PS.findIdx λp=>decide (k∈p)) (by
  rw[aJ,bg];refine aY.imp_of_mem (λ{a b} ha hb n e=>n ?_) h.pw
  obtain⟨p,p1,p2⟩:=hf a ha;obtain⟨q,q1,q2⟩:=hf b hb;rw[e,q1]at p1;have epq:=aD.inj p1;subst epq;obtain⟨s,_,pc⟩:=hp.pc q (mGq q1);exact(K51.sG.symm (Ei hm) ((pc.iff a).mp p2)).trans ((pc.iff b).mp q2)) (λx hx=>by
  obtain⟨k,hk,rfl⟩:=mMq.mp hx;obtain⟨p,p1,_⟩:=hf k hk;exact(gSq.mp p1).1)
 rwa [lMq]at this
theorem Vl{ps:List Nat}(h:ps≠[]):ps.headD 0∈ps:=by
 cases ps with
 |nil=>exact absurd rfl h
 |cons a ps=>exact ag ..
theorem Fl(hm:Mp rs) {kn:List Nat}{PS:List (List Nat)}(hp:Ps rs rs.length kn PS):∃l,Xj rs l/\l.length=PS.length/\∀k,k<rs.length->∃r∈l,sG rs k r:=by
 have hne:∀ps∈PS,ps.headD 0∈ps:=λps h=>Vl λe=>by
  obtain⟨s,_,pc⟩:=hp.pc ps h;have:=(pc.iff s).mpr .base;rw[e]at this;cases this
 have cls:∀ps∈PS,∀a∈ps,∀b,sG rs a b->b∈ps:=λps h a ha b hab=>by
  obtain⟨s,_,pc⟩:=hp.pc ps h;exact(pc.iff b).mpr (((pc.iff a).mp ha).trans hab)
 refine⟨PS.map λps=>ps.headD 0,⟨λk hk=>?_,?_⟩,lMq _,λk hk=>?_⟩
 .obtain ⟨ps,h,rfl⟩:=mMq.mp hk;exact hp.lt _ (hp.sub ps h _ (hne ps h))
 .rw [bg];refine aY.imp_of_mem (λ{a b} ha hb d r=>?_) hp.dj
  exact d _ (cls a ha _ (hne a ha) _ r) (hne b hb)
 .obtain ⟨ps,h1,h2⟩:=hp.mem k (hp.all k hk);refine⟨_,mMq.mpr ⟨ps,h1,rfl⟩,?_⟩;obtain⟨s,_,pc⟩:=hp.pc ps h1;exact(K51.sG.symm (Ei hm) ((pc.iff k).mp h2)).trans ((pc.iff _).mp (hne ps h1))
theorem Pm{R:Nat->Nat->Prop}(sy:∀{a b:Nat},R a b->R b a):∀{l:List Nat},l.Pairwise R->∀{a b:Nat},a∈l->b∈l->a≠b->R a b
 | [],_,a,b,ha,_,_=>by cases ha
 |x::l,h,a,b,ha,hb,n=>by
  obtain⟨h1,h2⟩:=cg.mp h;rcases ae.mp ha with e1|ha1
  .rcases ae.mp hb with e2|hb1
   .exact absurd (e1.trans e2.symm) n
   .rw [e1];exact h1 b hb1
  .rcases ae.mp hb with e2|hb1
   .rw [e2];exact sy (h1 a ha1)
   .exact Pm sy h2 ha1 hb1 n
section
variable {M:List (List Int)}{z:Int}
theorem BW{k:Nat}{r:List Int}(h:M[k]?=some r):(K23.C z M)[k]?=some (K23.uG z r):=by
 unfold K23.C;rw[gMq,h];rfl
theorem vq{r:List Int}{e:Int}:e∈K23.uG z r↔e∈r/\e≠z/\e ≠ -z:=by
 unfold K23.uG;rw[aQ];simp
theorem yX{e:Int}:e∈(K23.C z M).flatten↔e∈M.flatten/\e≠z/\e ≠ -z:=by
 rw[K23.HM];exact vq
theorem zJ(hm:Mp M):Mp (K23.C z M):=by
 have hs:(K23.C z M).flatten.length<=M.flatten.length:=by rw[K23.HM];exact cY _ _
 refine⟨by rw[K23.HM];exact aY.sublist eN hm.hn,by have:=hm.hl;lia,by unfold K23.C;rw[lMq];exact hm.hr,λe he=>?_⟩
 have h:=yX.mp he;exact yX.mpr ⟨hm.hneg e h.1,by lia,by lia⟩
theorem Gp(hm:Mp M) {e:Int}(h:e∈(K23.C z M).flatten):plc (K23.C z M) e=plc M e:=by
 obtain⟨r,h1,h2⟩:=hm.at (yX.mp h).1;exact plc_eq (zJ hm).hn (BW h1) (vq.mpr ⟨h2,(yX.mp h).2⟩)
theorem yK:(K23.C z M).length=M.length:=by unfold K23.C;rw[lMq]
theorem JH(hm:Mp M) {i j:Nat}(h:sG (K23.C z M) i j):sG M i j:=by
 induction h with
 |base=>exact .base
 | @step k r e _ h1 h2 ih =>
  have hk:k<M.length:=by rw[←yK (z:=z)];exact(gSq.mp h1).1
  have hr:M[k]?=some M[k]:=gEg hk;rw[BW hr]at h1;cases h1;have he:e∈(K23.C z M).flatten:=mFq.mpr ⟨_,mGq (BW hr),h2⟩;have hn:=(zJ hm).hneg e he;have:K51.plc (K23.C z M) (-e)=K51.plc M (-e):=Gp hm hn;rw[this];exact .step ih hr (vq.mp h2).1
theorem WC(hm:Mp M) (hz:z∈M.flatten) {i j:Nat}(h:sG M i j):sG (K23.C z M) i j∨(sG (K23.C z M) i (plc M z)/\sG (K23.C z M) (plc M (-z)) j)∨(sG (K23.C z M) i (plc M (-z))/\sG (K23.C z M) (plc M z) j):=by
 have hw:=Ei (zJ (z:=z) hm)
 induction h with
 |base=>exact .inl .base
 | @step k r e _ h1 h2 ih =>
  by_cases e1:e=z
  .subst e1;have hk:plc M e=k:=plc_eq hm.hn h1 h2;show _∨_∨_;rw[R8];rcases ih with q|⟨q1,q2⟩|⟨q1,q2⟩
   .exact .inr (.inl ⟨hk ▸ q,.base⟩)
   .rw [←hk]at q2;exact .inl (q1.trans (q2.symm hw))
   .exact .inl q1
  .by_cases e2:e = -z
   .subst e2;have hk:plc M (-z)=k:=plc_eq hm.hn h1 h2;rw[R8,bw];rcases ih with q|⟨q1,q2⟩|⟨q1,q2⟩
    .exact .inr (.inr ⟨hk ▸ q,.base⟩)
    .exact .inl q1
    .rw [←hk]at q2;exact .inl (q1.trans (q2.symm hw))
   .have he:e∈K23.uG z r:=vq.mpr ⟨h2,e1,e2⟩;have hf:e∈(K23.C z M).flatten:=mFq.mpr ⟨_,mGq (BW h1),he⟩;have hp:plc (K23.C z M) (-e)=plc M (-e):=Gp hm ((zJ hm).hneg e hf);rw[R8,←hp];rcases ih with q|⟨q1,q2⟩|⟨q1,q2⟩
    .exact .inl (.step q (BW h1) he)
    .exact .inr (.inl ⟨q1,.step q2 (BW h1) he⟩)
    .exact .inr (.inr ⟨q1,.step q2 (BW h1) he⟩)
theorem FZ(hm:Mp M) (hz:z∈M.flatten) (hb:sG (K23.C z M) (plc M z) (plc M (-z))) {kn kn':List Nat}{PS PS':List (List Nat)}(hp:Ps M M.length kn PS) (hp':Ps (K23.C z M) (K23.C z M).length kn' PS'):PS'.length=PS.length:=by
 have hw:=Ei (zJ (z:=z) hm);have key:∀{i j},sG M i j->sG (K23.C z M) i j:=λ{i j} h=>by
  rcases WC hm hz h with q|⟨q1,q2⟩|⟨q1,q2⟩
  .exact q
  .exact (q1.trans hb).trans q2
  .exact (q1.trans (hb.symm hw)).trans q2
 obtain⟨l,i1,l1,_⟩:=Fl hm hp;obtain⟨l',i2,l2,_⟩:=Fl (zJ hm) hp';have a:=yY (zJ hm) hp' (l:=l) ⟨λk hk=>by rw[yK];exact i1.lt k hk,i1.pw.imp λn h=>n (JH hm h)⟩
 have b:=yY hm hp (l:=l') ⟨λk hk=>by rw[←yK (z:=z)];exact i2.lt k hk,i2.pw.imp λn h=>n (key h)⟩
 lia
theorem FK(hm:Mp M) (hz:z∈M.flatten) (hb:¬ sG (K23.C z M) (plc M z) (plc M (-z))) {kn kn':List Nat}{PS PS':List (List Nat)}(hp:Ps M M.length kn PS) (hp':Ps (K23.C z M) (K23.C z M).length kn' PS'):PS'.length=PS.length+1:=by
 have hw:=Ei (zJ (z:=z) hm);have hkm:=Ei hm;have hz':=hm.hneg z hz;have zm:sG M (plc M z) (plc M (-z)):=by
  obtain⟨r,h1,h2⟩:=hm.at hz;exact .step .base h1 h2
 obtain⟨l,i1,l1,c1⟩:=Fl hm hp;obtain⟨l',i2,l2,_⟩:=Fl (zJ hm) hp';have b:=yY hm hp (l:=l'.filter λk=>!@decide (sG (K23.C z M) (plc M (-z)) k) (aV _)) ⟨λk hk=>by rw[←yK (z:=z)];exact i2.lt k (aQ.mp hk).1,by
  have hs:=i2.pw.sublist (eN (p:=λk=>!@decide (sG (K23.C z M) (plc M (-z)) k) (aV _)))
  refine aY.imp_of_mem (λ{x y} hx hy n h=>?_) hs
  have nx:¬ sG (K23.C z M) (plc M (-z)) x:=by simpa using (aQ.mp hx).2
  have ny:¬ sG (K23.C z M) (plc M (-z)) y:=by simpa using (aQ.mp hy).2
  rcases WC hm hz h with q|⟨q1,q2⟩|⟨q1,q2⟩
  .exact n q
  .exact ny q2
  .exact nx (q1.symm hw)⟩
 have few:(l'.filter λk=>@decide (sG (K23.C z M) (plc M (-z)) k) (aV _)).length<=1:=by
  have hs:=i2.pw.sublist (eN (p:=λk=>@decide (sG (K23.C z M) (plc M (-z)) k) (aV _)))
  have hm':∀x∈l'.filter λk=>@decide (sG (K23.C z M) (plc M (-z)) k) (aV _),sG (K23.C z M) (plc M (-z)) x:=λx hx=>by simpa using (aQ.mp hx).2
  generalize (l'.filter λk=>@decide (sG (K23.C z M) (plc M (-z)) k) (aV _))=L at hs hm'
  match L,hs,hm' with
  | [],_,_=>exact bp _
  | [x],_,_=>exact af _
  |x::y::L,hs,hm' =>
   exact absurd (((hm' x (by simp)).symm hw).trans (hm' y (by simp))) ((cg.mp hs).1 y (by simp))
 have tot:=eE (p:=λk=>@decide (sG (K23.C z M) (plc M (-z)) k) (aV _)) (l:=l')
 rw[cK,cK]at tot;have e1:(l'.filter λa=>decide ¬ (@decide (sG (K23.C z M) (plc M (-z)) a) (aV _))=true)=l'.filter λk=>!@decide (sG (K23.C z M) (plc M (-z)) k) (aV _):=by
  congr 1;funext k;rw[bI];simp
 obtain⟨r,hr,ra⟩:=c1 (plc M z) (hm.lt hz);have a:=yY (zJ hm) hp' (l:=plc M z::plc M (-z)::l.erase r) ⟨λk hk=>by
   rw[yK];rcases ae.mp hk with rfl|hk
   .exact hm.lt hz
   .rcases ae.mp hk with rfl|hk
    .exact hm.lt hz'
    .exact i1.lt k (iM hk),by
  have out:∀k∈l.erase r,¬ sG M r k:=λk hk h=>by
   have hne:r≠k:=λe=>by
    subst e;exact(List.Nodup.not_mem_erase i1.nd) hk
   have hin:=iM hk;exact Pm (R:=λa b=>¬ sG M a b) (λn c=>n (c.symm hkm)) i1.pw hr hin hne h
  refine cg.mpr ⟨λk hk q=>?_,cg.mpr ⟨λk hk q=>?_,(i1.pw.sublist List.erase_sublist).imp λn h=>n (JH hm h)⟩⟩
  .rcases ae.mp hk with rfl|hk
   .exact hb q
   .exact out k hk ((ra.symm hkm).trans (JH hm q))
  .exact out k hk ((ra.symm hkm).trans (zm.trans (JH hm q)))⟩
 have le:=ik hr;have lp:=fQ hr;rw[lCq,lCq,le]at a;rw[e1]at tot;lia
end
def emp(B:List (List Int)):List Nat:=(bN B.length).filter λk=>decide (B.getD k []=[])
theorem getD_some{k:Nat}(h:k<B.length):B[k]?=some (B.getD k []):=by rw[gDq,gEg h];rfl
theorem Jm(B:List (List Int)):(bN B.length).map (λk=>B.getD k [])=B:=by
 refine dw λi=>?_
 rw[gMq]
 by_cases h:i<B.length
 .rw [cR h,getD_some h];rfl
 .rw [bc (by rw[bh];lia),bc (by lia)]
  rfl
theorem B4(B:List (List Int)):(emp B).length=bare B:=by
 unfold emp bare;rw[←cK];have:B.countP (λr=>decide (r=[]))=((bN B.length).map (λk=>B.getD k [])).countP (λr=>decide (r=[])):=by rw[Jm]
 rw[this,List.countP_map];rfl
theorem AY{k:Nat}:k∈emp B↔k<B.length/\B.getD k []=[]:=by
 unfold emp;rw[aQ,bW];simp
theorem B7{k j:Nat}(h:sG B k j) (he:B.getD k []=[]):j=k:=by
 induction h with
 |base=>rfl
 | @step k' r e h1 h2 h3 ih =>
  have:=ih;subst this;rw[gDq,h2]at he;rw[show r=[] from he]at h3
  cases h3
end
end K43
namespace K11
open PySem L2 Mr Z
end K11
--ZQ3 --ZQ4 --ZQ5 --ZQ6 --ZQ8 --ZQ9 --ZQB --ZQC --ZQD --ZQE --ZQF
namespace K11
open PySem L2 Mr Z Xe Zl K12
def BU(p:List (List Int)):Prop:=∀k,0<k->k<p.length->∃j e,j<k/\e∈p.getD j []/\-e∈p.getD k []
structure Cn (p:List (List Int)):Prop where
 ne:p≠[]
 clo:∀z∈p.flatten, -z∈p.flatten
 tr:BU p
theorem AK{l:List (List Int)}{h:Nat}{r x:List Int}(hr:l[h]?=some r) {k:Nat}{e:Int}(he:e∈l.getD k []):e∈(l.set h (r++x)).getD k []:=by
 rw[gDq]at he ⊢
 by_cases q:h=k
 .subst q;have hlt:=(gSq.mp hr).1;rw[aC hlt];rw[hr]at he;exact aw _ he
 .rw [aA q];exact he
theorem EL{l:List (List Int)}{h:Nat}{r x:List Int}(hr:l[h]?=some r) {e:Int}(he:e∈x):e∈(l.set h (r++x)).getD h []:=by
 have hlt:=(gSq.mp hr).1;rw[gDq,aC hlt];exact aj _ he
theorem BU.set{l:List (List Int)}{h:Nat}{r x:List Int}(t:BU l) (hr:l[h]?=some r):BU (l.set h (r++x)):=λk h0 hk=>by
 rw[lZq]at hk;obtain⟨j,e,h1,h2,h3⟩:=t k h0 hk;exact⟨j,e,h1,AK hr h2,AK hr h3⟩
theorem getD_app{l:List (List Int)}{x:List Int}{k:Nat}(h:k<l.length):(l++[x]).getD k []=l.getD k []:=by
 rw[gDq,gDq,gZq h]
theorem GD{l:List (List Int)}{x:List Int}:(l++[x]).getD l.length []=x:=by
 rw[gDq,gYq (af _),dB];rfl
theorem BU.add{l:List (List Int)}{h:Nat}{e:Int}(t:BU l) (hh:h<l.length) (he:e∈l.getD h []):BU (l++[[-e]]):=λk h0 hk=>by
 rw[lAq,lSq]at hk
 by_cases q:k<l.length
 .obtain ⟨j,e',h1,h2,h3⟩:=t k h0 q;exact⟨j,e',h1,by rw[getD_app (by lia)];exact h2,by rw[getD_app q];exact h3⟩
 .have ek:k=l.length:=by lia
  subst ek;exact⟨h,e,hh,by rw[getD_app hh];exact he,by rw[GD];simp⟩
theorem FO(r:List Int):BU [r]:=λk h0 hk=>by
 rw[lSq]at hk;lia
end K11
--ZQ3 --ZQ4 --ZQ5 --ZQ6 --ZQ8 --ZQ9 --ZQB --ZQC --ZQD --ZQE --ZQF --ZQG
namespace K31
open PySem L2 Mr Z Xe Zl K12
theorem ES(one two:Int):∃st sh a b:Int,1<=st/\st<=10 ^ 40/\0<=sh/\sh<10 ^ 40/\1<=a/\a<=66/\∀k:Nat,tP [.int one,.int two,.int (k:Int)]=some (.sh (.int (M6 st sh a b k))):=by
 have a1:0<=two % 66:=bx _ (by decide)
 have a2:two % 66<66:=bz _ (by decide)
 have s1:0<=one / 3 % 10 ^ 40:=bx _ (by decide)
 have s2:one / 3 % 10 ^ 40<10 ^ 40:=bz _ (by decide)
 have s3:0<=two / 66 % 10 ^ 40:=bx _ (by decide)
 have s4:two / 66 % 10 ^ 40<10 ^ 40:=bz _ (by decide)
 have m3:=λi:Int=>qX (i:=i) (j:=3) (by decide)
 have m66:=λi:Int=>qX (i:=i) (j:=66) (by decide)
 have m67:=λi:Int=>qX (i:=i) (j:=67) (by decide)
 have m40:=λi:Int=>qX (i:=i) (j:=10 ^ 40) (by decide)
 have d3:=λi:Int=>xK (i:=i) (j:=3) (by decide) (by decide)
 have d66:=λi:Int=>xK (i:=i) (j:=66) (by decide) (by decide)
 have c1:=λk:Nat=>Qo (i:=1+two % 66) (j:=(k:Int)) (by lia) (by lia)
 by_cases h0:0<one % 3
 .refine ⟨1+one / 3 % 10 ^ 40,two / 66 % 10 ^ 40,1+two % 66,one,by lia,by lia,s3,s4,by lia,by lia,λk=>?_⟩
  have b1:0<=((1+two % 66)*(k:Int)+one) % 67:=bx _ (by decide)
  have b2:((1+two % 66)*(k:Int)+one) % 67<67:=bz _ (by decide)
  have c2:=JB (i:=1+one / 3 % 10 ^ 40) (j:=((1+two % 66)*(k:Int)+one) % 67+1) (by lia) (by lia)
  simp_arith [tP,Bi,h0,m3,m66,m67,m40,d3,d66,c1,c2,Y9,M6]
 .refine ⟨1,0,1+two % 66,one,by decide,by decide,by decide,by decide,by lia,by lia,λk=>?_⟩
  have b1:0<=((1+two % 66)*(k:Int)+one) % 67:=bx _ (by decide)
  have b2:((1+two % 66)*(k:Int)+one) % 67<67:=bz _ (by decide)
  have c2:=JB (i:=1) (j:=((1+two % 66)*(k:Int)+one) % 67+1) (by lia) (by lia)
  simp_arith [tP,Bi,h0,m3,m66,m67,c1,c2,M6]
theorem BP{T:List (List Int)}{h:Nat}{r:List Int}(hr:T[h]?=some r):qu (.ow (T.map aI)) [h]=some (r.map λn=>.sh (.int n)):=by
 rw[GK,gMq,hr];rfl
theorem RS{T:List (List Int)}{h:Nat}{r r':List Int}(hr:T[h]?=some r):putAt (.ow (T.map aI)) [h] (r'.map λn=>.sh (.int n)) = .ow ((T.set h r').map aI):=by
 rw[HV (a:=aI r) (by rw[gMq,hr];rfl)]
 show AV.ow ((T.map aI).set h (aI r'))=_;rw[PU]
structure Wd where
 T:List (List Int)
 t0:List Nat
 h:Nat
 loose:List Int
 left:List Int
def C6(wild:Bool) (c:Int) (loose:List Int):Nat:=if wild then (c / 8 % loose.length).toNat else loose.length-1
def sg(c x:Int):Int:=x*(1-2*(c / 4 % 2))
def wstep(wild:Bool) (w:Wd) (c:Int):Wd :=
 let r:=w.T.getD w.h []
 if c % 4=1/\w.t0≠[] then { w with t0:=w.t0.dropLast,h:=w.t0.getLast?.getD 0 }
 else if c % 4=2/\w.loose≠[] then { w with T:=w.T.set w.h (r++[w.loose.getD (C6 wild c w.loose) 0]),loose:=w.loose.eraseIdx (C6 wild c w.loose) }
 else match w.left with
  | []=>w
  |x::left=>if c % 4=0 then { w with T:=w.T.set w.h (r++[sg c x])++[[-(sg c x)]],t0:=w.t0++[w.h],h:=w.T.length,left:=left }
   else { w with T:=w.T.set w.h (r++[sg c x]),loose:=w.loose++[-(sg c x)],left:=left }
def st(v0 v1:Option AV) (wild:Bool) (w:Wd) (v7 v8 v9 v10:Option AV):AS:=[v0,v1,some (.sh (.bl wild)),some (.ow (w.T.map aI)),some (aI (cN (w.t0++[w.h]))),some (aI w.loose),some (aI w.left),v7,v8,v9,v10]
section
variable {T:List (List Int)}{t0:List Nat}{hd:Nat}{loose left r:List Int}{c:Int}{wild:Bool}{v0 v1 v8 v9 v10:Option AV}
theorem NZ:atI ((cN (t0++[hd])).map D.int) (((t0++[hd]).length:Int)-1)=some (.int (hd:Int)):=by
 have:((t0++[hd]).length:Int)-1=(t0.length:Int):=by rw[lAq,lSq];lia
 rw[this];refine xO ?_;unfold cN;rw[mBq,mBq,gYq (by simp)]
 simp
theorem Dn(l:List Nat):(cN l).length=l.length:=lMq ..
def Os:List Nat->MS:=(GH 3 (rp (pK FA (rP ql (ot (oy 6) oC)) (rC (.int 0)))) (Fo 3 (EA 10 (Sn BC (vw 6 (rC (.int 0))) (pK yu (rC (.int 1)) (pK BC (rC (.int 2)) (pK sr (pK yq (oy 7) (rC (.int 4))) (rC (.int 2))))))) (λpath=>oE ((JX 3 (oQ 10)) path) (wt (rp (pK DT (pK sr (oy 7) (rC (.int 4))) (rC (.int 0)))) (oE (uV 3 (rQ (oH (kSc (DV xk (oy 10))) oW))) (uV 4 (kSc (pK yu (rP ql (ot (oy 3) oC)) (rC (.int 1)))))) (uV 5 (kSc (DV xk (oy 10))))))) (λ_=>pU))
def Mn:List Nat->MS:=(GH 3 (D8 (rp (pK DT (pK sr (oy 7) (rC (.int 4))) (rC (.int 1)))) (rp (pK FA (rP ql (ot (oy 4) oC)) (rC (.int 1))))) (λ_=>(FC (Dy 4))) (GH 3 (D8 (rp (pK DT (pK sr (oy 7) (rC (.int 4))) (rC (.int 2)))) (rp (pK FA (rP ql (ot (oy 5) oC)) (rC (.int 0))))) (Fo 3 (oS 9 (kSc (pK yu (rP ql (ot (oy 5) oC)) (rC (.int 1))))) (Fo 3 (wt (rp (oy 2)) (oS 9 (kSc (pK sr (pK yq (oy 7) (rC (.int 8))) (rP ql (ot (oy 5) oC))))) pU) (EI 3 (vw 5 (oy 9))))) Os))
theorem Si:sF=(So 8 3 (V6 3 (NV 3) (pK G2 (oy 4) (pK yu (rP ql (ot (oy 4) oC)) (rC (.int 1))))) Mn):=rfl
theorem OH(hr:T[hd]?=some r):sF (st v0 v1 wild ⟨T,t0,hd,loose,left⟩ (some (.sh (.int c))) v8 v9 v10)=Mn [hd] (st v0 v1 wild ⟨T,t0,hd,loose,left⟩ (some (.sh (.int c))) none v9 v10):=by
 have hh:hd<T.length:=(gSq.mp hr).1;have n1:=BP hr;have iL:GN T.length (hd:Int)=some hd:=JO hh;have sl:=pI (cN (t0++[hd]));have at4:=NZ (t0:=t0) (hd:=hd);have cl:=Dn (t0++[hd]);have q:((8:Nat)≠3/\8<11)=True:=by simp
 rw[Si]
 simp_arith [st,n1,iL,sl,dI,at4,cl,q]
theorem Rw{t:List Nat}{h':Nat}(hr:T[hd]?=some r) (h1:c % 4=1):Mn [hd] (st v0 v1 wild ⟨T,t++[h'],hd,loose,left⟩ (some (.sh (.int c))) v8 v9 v10)=some (.nx (st v0 v1 wild ⟨T,t,h',loose,left⟩ (some (.sh (.int c))) v8 v9 v10)):=by
 have m4:=qX (i:=c) (j:=4) (by decide)
 have n1:=BP hr;have sl:=pI (cN (t++[h']++[hd]));have cl:=Dn (t++[h']++[hd]);have k1:(1:Int)<((t++[h']++[hd]).length:Int):=by simp;lia
 have ec:(cN (t++[h']++[hd])).map (λn=>AV.sh (.int n))=(cN (t++[h'])).map (λn=>AV.sh (.int n))++[.sh (.int (hd:Int))]:=(O9 (t++[h']) hd).symm
 have p1:((cN (t++[h'])).map (λn=>AV.sh (.int n))++[AV.sh (.int (hd:Int))])[((cN (t++[h'])).map (λn=>AV.sh (.int n))++[AV.sh (.int (hd:Int))]).length-1]?=some (.sh (.int (hd:Int))):=by
  rw[lAq,lSq,gYq (by lia)]
  simp
 have p2:((cN (t++[h'])).map (λn=>AV.sh (.int n))++[AV.sh (.int (hd:Int))]).dropLast=(cN (t++[h'])).map (λn=>AV.sh (.int n)):=dk
 simp_arith [Mn,st,m4,h1,n1,sl,dI,cl,k1,eq_self,ec,p1,p2]
theorem Q7(hr:T[hd]?=some r) (hrl:r.length<500000) (hll:loose.length<500000) (h1:¬ c % 4=1) (h2:c % 4=2) (hne:loose≠[]):Mn [hd] (st v0 v1 wild ⟨T,t0,hd,loose,left⟩ (some (.sh (.int c))) v8 v9 v10)=some (.nx (st v0 v1 wild ⟨T.set hd (r++[loose.getD (C6 wild c loose) 0]),t0,hd,loose.eraseIdx (C6 wild c loose),left⟩ (some (.sh (.int c))) v8 (some (.sh (.int (C6 wild c loose:Nat)))) v10)):=by
 have m4:=qX (i:=c) (j:=4) (by decide)
 have d8:=xK (i:=c) (j:=8) (by decide) (by decide)
 have hpos:0<loose.length:=fj.mpr hne;have ml:=qX (i:=c / 8) (j:=(loose.length:Int)) (by lia)
 have n1:=BP hr;have l1:r.length<rh:=by show _<16777216;lia
 have sl:=pI loose;have k0:(0:Int)<(loose.length:Int):=by lia
 have hlt:C6 wild c loose<loose.length:=by
  unfold C6;have b0:0<=c / 8 % (loose.length:Int):=bx _ (by lia)
  have b1:c / 8 % (loose.length:Int)<(loose.length:Int):=bz _ (by lia)
  split <;> lia
 have ll:loose.length<=rh:=by show _<=16777216;lia
 have g1:(loose.map λn=>AV.sh (.int n))[C6 wild c loose]?=some (.sh (.int (loose.getD (C6 wild c loose) 0))):=by
  rw[gMq,gEg hlt,gDq,gEg hlt];rfl
 have g2:(loose.map λn=>AV.sh (.int n)).eraseIdx (C6 wild c loose)=(loose.eraseIdx (C6 wild c loose)).map λn=>.sh (.int n):=P1 _ _ _
 have p2:=RS (r':=r++[loose.getD (C6 wild c loose) 0]) hr;have a1:=Bb r (loose.getD (C6 wild c loose) 0);have q:(0<=((C6 wild c loose:Nat):Int)/\((C6 wild c loose:Nat):Int)<(loose.length:Int)/\loose.length<=rh)=True:=by simp[ll,hlt]
 have tn:((C6 wild c loose:Nat):Int).toNat=C6 wild c loose:=dq _;have h21:¬ (2:Int)=1:=by decide
 cases wild with
 |true =>
  have ea:c / 8 % (loose.length:Int)=((C6 true c loose:Nat):Int):=by
   have b0:0<=c / 8 % (loose.length:Int):=bx _ (by lia)
   show _=(((c / 8 % (loose.length:Int)).toNat:Nat):Int);lia
  simp_arith [Mn,st,m4,h2,h21,n1,sl,dI,k0,eq_self,d8,ml,ea,q,tn,g1,g2,l1,a1,p2,true_and]
 |false =>
  have ea:(loose.length:Int)-1=((C6 false c loose:Nat):Int):=by
   show _=((loose.length-1:Nat):Int);lia
  simp_arith [Mn,st,m4,h2,h21,n1,sl,dI,k0,eq_self,ea,q,tn,g1,g2,l1,a1,p2,true_and]
theorem Nq(hr:T[hd]?=some r) (h1:¬ (c % 4=1/\t0≠[])) (h2:¬ (c % 4=2/\loose≠[])):Mn [hd] (st v0 v1 wild ⟨T,t0,hd,loose,left⟩ (some (.sh (.int c))) v8 v9 v10)=Os [hd] (st v0 v1 wild ⟨T,t0,hd,loose,left⟩ (some (.sh (.int c))) v8 v9 v10):=by
 have m4:=qX (i:=c) (j:=4) (by decide)
 have n1:=BP hr;have sl:=pI loose;have sw:=pI (cN (t0++[hd]));have cl:=Dn (t0++[hd]);have q1:c % 4=1->decide ((1:Int)<((t0++[hd]).length:Int))=false:=λh=>by
  by_cases hn:t0=[]
  .subst hn;simp
  .exact absurd ⟨h,hn⟩ h1
 have q2:c % 4=2->decide ((0:Int)<(loose.length:Int))=false:=λh=>by
  by_cases hn:loose=[]
  .subst hn;simp
  .exact absurd ⟨h,hn⟩ h2
 have h21:¬ (2:Int)=1:=by decide
 have h12:¬ (1:Int)=2:=by decide
 by_cases e1:c % 4=1
 .have q1':=q1 e1
  simp_arith [Mn,Os,st,m4,e1,h12,n1,sl,sw,cl,dI,q1',eq_self]
 .by_cases e2:c % 4=2
  .have q2':=q2 e2
   simp_arith [Mn,Os,st,m4,e2,h21,n1,sl,sw,cl,dI,q2',eq_self]
  .simp_arith [Mn,Os,st,m4,e1,e2,n1,sl,sw,cl,dI,eq_self]
theorem Q9(hr:T[hd]?=some r):Os [hd] (st v0 v1 wild ⟨T,t0,hd,loose,[]⟩ (some (.sh (.int c))) v8 v9 v10)=some (.nx (st v0 v1 wild ⟨T,t0,hd,loose,[]⟩ (some (.sh (.int c))) v8 v9 v10)):=by
 have n1:=BP hr;have k0:decide ((0:Int)<((0:Nat):Int))=false:=by decide
 have sl:=pI []
 simp_arith [Os,st,n1,sl,dI,k0]
theorem UP{x:Int}(hr:T[hd]?=some r) (hrl:r.length<500000) (hTl:T.length<500000) (htl:t0.length<500000) (hll:left.length<500000) (h0:c % 4=0):Os [hd] (st v0 v1 wild ⟨T,t0,hd,loose,x::left⟩ (some (.sh (.int c))) v8 v9 v10)=some (.nx (st v0 v1 wild ⟨T.set hd (r++[sg c x])++[[-(sg c x)]],t0++[hd],T.length,loose,left⟩ (some (.sh (.int c))) v8 v9 (some (.sh (.int (sg c x)))))):=by
 have m4:=qX (i:=c) (j:=4) (by decide)
 have d4:=xK (i:=c) (j:=4) (by decide) (by decide)
 have m2:=qX (i:=c / 4) (j:=2) (by decide)
 have b0:0<=c / 4 % 2:=bx _ (by decide)
 have b1:c / 4 % 2<2:=bz _ (by decide)
 have c1:=Qo (i:=2) (j:=c / 4 % 2) (by lia) (by lia)
 have c2:=JB (i:=x) (j:=1-2*(c / 4 % 2)) (by lia) (by lia)
 have n1:=BP hr;have sl:=pI (x::left);have k0:(0:Int)<((x::left).length:Int):=by rw[lCq];lia
 have k00:(0:Int)<((left.length+1:Nat):Int):=by lia
 have l1:r.length<rh:=by show _<16777216;lia
 have q:(0:Int)<=0:=fZ _;have lL:left.length+1<=rh:=by show _<=16777216;lia
 have t0':(0:Int).toNat=0:=rfl;have es:x*(1-2*(c / 4 % 2))=sg c x:=rfl;have a1:=Bb r (sg c x);have p2:=RS (r':=r++[sg c x]) hr;have lT:(T.set hd (r++[sg c x])).length=T.length:=lZq;have l2:T.length<rh:=by show _<16777216;lia
 have a3:=J2 (T.set hd (r++[sg c x])) (-(sg c x));have lenT:((T.set hd (r++[sg c x])++[[-(sg c x)]]).length:Int)-1=(T.length:Int):=by rw[lAq,lT,lSq];lia
 have lw:(t0++[hd]).length<rh:=by rw[lAq,lSq];show t0.length+1<16777216;lia
 have a2:=O9 (t0++[hd]) T.length;have cl:=Dn (t0++[hd])
 simp_arith [Os,st,m4,h0,d4,m2,c1,c2,n1,sl,dI,k0,k00,q,lL,true_and,t0',es,eq_self,l1,a1,p2,lT,l2,a3,lenT,cl,lw,a2,fF]
theorem Ox{x:Int}(hr:T[hd]?=some r) (hrl:r.length<500000) (hll:loose.length<500000) (hfl:left.length<500000) (h0:¬ c % 4=0):Os [hd] (st v0 v1 wild ⟨T,t0,hd,loose,x::left⟩ (some (.sh (.int c))) v8 v9 v10)=some (.nx (st v0 v1 wild ⟨T.set hd (r++[sg c x]),t0,hd,loose++[-(sg c x)],left⟩ (some (.sh (.int c))) v8 v9 (some (.sh (.int (sg c x)))))):=by
 have m4:=qX (i:=c) (j:=4) (by decide)
 have d4:=xK (i:=c) (j:=4) (by decide) (by decide)
 have m2:=qX (i:=c / 4) (j:=2) (by decide)
 have b0:0<=c / 4 % 2:=bx _ (by decide)
 have b1:c / 4 % 2<2:=bz _ (by decide)
 have c1:=Qo (i:=2) (j:=c / 4 % 2) (by lia) (by lia)
 have c2:=JB (i:=x) (j:=1-2*(c / 4 % 2)) (by lia) (by lia)
 have n1:=BP hr;have sl:=pI (x::left);have k0:(0:Int)<((x::left).length:Int):=by rw[lCq];lia
 have k00:(0:Int)<((left.length+1:Nat):Int):=by lia
 have l1:r.length<rh:=by show _<16777216;lia
 have q:(0:Int)<=0:=fZ _;have lL:left.length+1<=rh:=by show _<=16777216;lia
 have t0':(0:Int).toNat=0:=rfl;have es:x*(1-2*(c / 4 % 2))=sg c x:=rfl;have a1:=Bb r (sg c x);have p2:=RS (r':=r++[sg c x]) hr;have l2:loose.length<rh:=by show _<16777216;lia
 have a2:=Bb loose (-(sg c x))
 simp_arith [Os,st,m4,h0,d4,m2,c1,c2,n1,sl,dI,k0,k00,q,lL,true_and,t0',es,eq_self,l1,a1,p2,l2,a2,fF]
end
end K31
--ZQ3 --ZQ4 --ZQ5 --ZQ6 --ZQ8 --ZQ9 --ZQB --ZQC --ZQD --ZQE --ZQF --ZQG
namespace K31
open PySem L2 Mr Z Xe Zl K12
def zM(l:List Int):List Int:=l.flatMap λx=>[x, -x]
theorem DN(x:Int) (l:List Int) (a:Int):(zM (x::l)).count a=[x, -x].count a+(zM l).count a:=by
 unfold zM;rw[fO,cAq]
theorem AF:∀l:List Int,(zM l).length=2*l.length
 | []=>rfl
 |x::l=>by
  unfold zM;have:=AF l;unfold zM at this;rw[fO,lAq,this];show 2+2*l.length=2*(l.length+1);lia
theorem R7{l:List Int}{z:Int}:z∈zM l↔∃x∈l,z=x∨z = -x:=by
 unfold zM;rw[bE];simp
theorem Ml(a c x:Int):[sg c x].count a+[-(sg c x)].count a=[x, -x].count a:=by
 have b0:0<=c / 4 % 2:=bx _ (by decide)
 have b1:c / 4 % 2<2:=bz _ (by decide)
 rw[show [x, -x]=[x]++[-x] from rfl,cAq]
 unfold sg;have h:c / 4 % 2=0∨c / 4 % 2=1:=by lia
 rcases h with h|h
 .rw [h,show (1:Int)-2*0=1 from rfl,jn]
 .rw [h,show (1:Int)-2*1 = -1 from rfl,Int.mul_neg,jn,bw]
  lia
structure WOk (nm:List Int) (w:Wd) (n:Nat):Prop where
 hh:w.h<w.T.length
 ht:∀k∈w.t0,k<w.T.length
 lw:w.t0.length<=n
 lT:w.T.length<=n+1
 lf:w.left.length<=nm.length
 cnt:∀a,w.T.flatten.count a+w.loose.count a+(zM w.left).count a=(zM nm).count a
 tr:K11.BU w.T
theorem WOk.len{nm:List Int}{w:Wd}{n:Nat}(h:WOk nm w n):w.T.flatten.length+w.loose.length+(zM w.left).length=2*nm.length:=by
 have:(w.T.flatten++w.loose++zM w.left).Perm (zM nm):=by
  rw[bT];intro a;rw[cAq,cAq];exact h.cnt a
 have:=this.length_eq;rw[lAq,lAq,AF nm]at this;exact this
theorem WOk.step{nm:List Int}{w:Wd}{n:Nat}{wild:Bool}(h:WOk nm w n) (c:Int):WOk nm (wstep wild w c) (n+1):=by
 obtain⟨T,t0,hd,loose,left⟩:=w;obtain⟨hh,ht,lw,lT,lf,cnt,tr⟩:=h;simp only at hh ht lw lT lf cnt tr;have hr:T[hd]?=some (T.getD hd []):=by rw[gDq,gEg hh];rfl
 unfold wstep;simp only;split
 .rename_i q;rcases dU t0 with z|⟨t,h',z⟩
  .exact absurd z q.2
  .subst z;rw[dW]at ht lw ⊢;rw[dk,gD];simp only[fG,iP,gg];rw[lAq,lSq]at lw;exact⟨ht _ (by simp),λk hk=>ht k (by simp[hk]),(by simp only;lia),(by simp only;lia),lf,cnt,tr⟩
 .split
  .rename_i q;have hpos:0<loose.length:=fj.mpr q.2;have hlt:C6 wild c loose<loose.length:=by
    unfold C6;have b0:0<=c / 8 % (loose.length:Int):=bx _ (by lia)
    have b1:c / 8 % (loose.length:Int)<(loose.length:Int):=bz _ (by lia)
    split <;> lia
   refine⟨?_,?_,?_,?_,lf,λa=>?_,?_⟩
   .simp only [lZq];exact hh
   .simp only [lZq];exact ht
   .simp only;lia
   .simp only [lZq];lia
   .simp only;rw[yg a hr,←cnt a,←BB a hlt];lia
   .exact tr.set hr
  .cases left with
   |nil=>exact⟨hh,ht,(by simp only;lia),(by simp only;lia),lf,cnt,tr⟩
   |cons x left =>
    simp only;rw[lCq]at lf;have cx:=λa=>DN x left a
    split
    .refine ⟨?_,?_,?_,?_,(by simp only;lia),λa=>?_,?_⟩
     .simp only [lAq,lZq,lSq];lia
     .intro k hk;simp only[lAq,lZq,lSq]at hk ⊢;rcases mAq.mp hk with hk|hk
      .have:=ht k hk;lia
      .rw [mSq.mp hk];lia
     .simp only [lAq,lSq];lia
     .simp only [lAq,lZq,lSq];lia
     .simp only;rw[fAq,bo,cAq,yg a hr];have:=cnt a;rw[cx a,←Ml a c x]at this;lia
     .exact (tr.set hr).add (by rw[lZq];exact hh) (K11.EL hr (by simp))
    .refine ⟨?_,?_,?_,?_,(by simp only;lia),λa=>?_,?_⟩
     .simp only [lZq];exact hh
     .simp only [lZq];exact ht
     .simp only;lia
     .simp only [lZq];lia
     .simp only;rw[yg a hr,cAq];have:=cnt a;rw[cx a,←Ml a c x]at this;lia
     .exact tr.set hr
theorem LO{nm:List Int}{w:Wd}{n:Nat}{wild:Bool}{c:Int}{v0 v1 v8 v9 v10:Option AV}(h:WOk nm w n) (hn:n<1000) (hm:nm.length<=1000):∃v8' v9' v10',sF (st v0 v1 wild w (some (.sh (.int c))) v8 v9 v10)=some (.nx (st v0 v1 wild (wstep wild w c) (some (.sh (.int c))) v8' v9' v10')):=by
 have hlen:=h.len;obtain⟨T,t0,hd,loose,left⟩:=w;obtain⟨hh,ht,lw,lT,lf,cnt,tr⟩:=h;simp only at hh ht lw lT lf cnt tr hlen;have hr:T[hd]?=some (T.getD hd []):=by rw[gDq,gEg hh];rfl
 have hrl:=EW hr;rw[OH hr];unfold wstep;simp only
 by_cases q1:c % 4=1/\t0≠[]
 .rw [pN q1];rcases dU t0 with z|⟨t,h',z⟩
  .exact absurd z q1.2
  .subst z;rw[dW,dk,gD];simp only[fG,iP,gg];exact⟨_,_,_,Rw hr q1.1⟩
 .rw [pJ q1]
  by_cases q2:c % 4=2/\loose≠[]
  .rw [pN q2];exact⟨_,_,_,Q7 hr (by lia) (by lia) (by have:=q2.1;lia) q2.1 q2.2⟩
  .rw [pJ q2,Nq hr q1 q2];cases left with
   |nil=>exact⟨_,_,_,Q9 hr⟩
   |cons x left =>
    simp only;rw[lCq]at lf
    by_cases q0:c % 4=0
    .rw [pN q0];exact⟨_,_,_,UP hr (by lia) (by lia) (by lia) (by lia) q0⟩
    .rw [pJ q0];exact⟨_,_,_,Ox hr (by lia) (by lia) (by lia) q0⟩
def w0(nm:List Int):Wd:=⟨[[]],[],0,[],nm⟩
theorem Qc(nm:List Int):WOk nm (w0 nm) 0:=⟨by simp[w0],(λk h=>by cases h),af _,af _,af _,(λa=>by simp[w0]),K11.FO _⟩
theorem CF{nm:List Int}{wild:Bool}:∀(cs:List Int) {w:Wd}{n:Nat},WOk nm w n->WOk nm (cs.foldl (wstep wild) w) (n+cs.length)
 | [],w,n,h=>h
 |c::cs,w,n,h=>by
  have:=CF (wild:=wild) cs (h.step (wild:=wild) c);rw[bD,lCq,show n+(cs.length+1)=n+1+cs.length by lia]
  exact this
theorem HA{nm cs:List Int}{wild:Bool}{v7 v8 v9 v10:Option AV}(hc:cs.length<=63) (hn:nm.length<=1000):∃v7' v8' v9' v10',sN 7 sF (cs.map D.int) (st (some (.sh (dI cs))) (some (.sh (dI nm))) wild (w0 nm) v7 v8 v9 v10)=some (.nx (st (some (.sh (dI cs))) (some (.sh (dI nm))) wild (cs.foldl (wstep wild) (w0 nm)) v7' v8' v9' v10')):=by
 have key:=vk (x:=7) (body:=sF) (λi S=>∃v7 v8 v9 v10,S=st (some (.sh (dI cs))) (some (.sh (dI nm))) wild ((cs.take i).foldl (wstep wild) (w0 nm)) v7 v8 v9 v10) (ds:=cs.map D.int) (S:=st (some (.sh (dI cs))) (some (.sh (dI nm))) wild (w0 nm) v7 v8 v9 v10) ⟨v7,v8,v9,v10,rfl⟩ (by
  rintro i d S hd ⟨v7,v8,v9,v10,rfl⟩;rw[gMq]at hd;obtain⟨c,hc',rfl⟩:=oMq.mp hd;have hi:i<cs.length:=(gSq.mp hc').1;have ok:=CF (nm:=nm) (wild:=wild) (cs.take i) (Qc nm);rw[lTq]at ok;obtain⟨v8',v9',v10',e⟩:=LO (wild:=wild) (c:=c) (v0:=some (.sh (dI cs))) (v1:=some (.sh (dI nm))) (v8:=v8) (v9:=v9) (v10:=v10) ok (by lia) hn
  refine⟨_,e,some (.sh (.int c)),v8',v9',v10',?_⟩;rw[Lm hc'])
 obtain⟨S',e,v7',v8',v9',v10',rfl⟩:=key;rw[lMq,bA]at e;exact⟨v7',v8',v9',v10',e⟩
theorem Ld{T:List (List Int)}{t0:List Nat}{hd:Nat}{loose left r:List Int}{wild:Bool}{v0 v1 v7 v8 v9 v10:Option AV}(hr:T[hd]?=some r) (hl:r.length+loose.length<=10000) :
  qT (rp (pK FA (rP ql (ot (oy 5) oC)) (rC (.int 0)))) vn 100000 (st v0 v1 wild ⟨T,t0,hd,loose,left⟩ v7 v8 v9 v10)=some (.nx (st v0 v1 wild ⟨T.set hd (r++loose.reverse),t0,hd,[],left⟩ v7 v8 v9 v10)):=by
 have hh:hd<T.length:=(gSq.mp hr).1;obtain⟨S',e,l2,rfl,z⟩:=xD (c:=rp (pK FA (rP ql (ot (oy 5) oC)) (rC (.int 0)))) (body:=vn)
  (λS=>∃l1 l2,S=st v0 v1 wild ⟨T.set hd (r++l2),t0,hd,l1,left⟩ v7 v8 v9 v10/\loose=l1++l2.reverse)
  (λS=>match S with|[_,_,_,_,_,some (.ow l),_,_,_,_,_]=>l.length|_=>0)
  (λS'=>∃l2,S'=st v0 v1 wild ⟨T.set hd (r++l2),t0,hd,[],left⟩ v7 v8 v9 v10/\loose=l2.reverse) (by
   rintro S ⟨l1,l2,rfl,hz⟩;have hzl:=congrArg cm hz;rw[lAq,List.length_reverse]at hzl;rcases dU l1 with rfl|⟨l,x,rfl⟩
   .refine ⟨false,_,?_,λq=>(nomatch q),λ_=>⟨l2,rfl,by rw[hz];rfl⟩⟩
    have k0:decide ((0:Int)<((0:Nat):Int))=false:=by decide
    have sl:=pI []
    simp_arith [st,sl,dI,k0]
   .rw [dW]at hz hzl ⊢;have hr2:(T.set hd (r++l2))[hd]?=some (r++l2):=aC hh;have n1:=BP hr2;have iL:GN T.length (hd:Int)=some hd:=JO hh;have lT:(T.set hd (r++l2)).length=T.length:=lZq;have sw:=pI (cN (t0++[hd]));have at4:=NZ (t0:=t0) (hd:=hd);have cl:=Dn (t0++[hd]);have sl:=pI (l++[x]);have k0:(0:Int)<((l++[x]).length:Int):=by rw[lAq,lSq];lia
    have ex:(l++[x]).map (λn=>AV.sh (.int n))=l.map (λn=>AV.sh (.int n))++[.sh (.int x)]:=by rw[mBq];rfl
    have p1:(l.map (λn=>AV.sh (.int n))++[AV.sh (.int x)])[(l.map (λn=>AV.sh (.int n))++[AV.sh (.int x)]).length-1]?=some (.sh (.int x)):=by
     rw[lAq,lSq,gYq (by lia)]
     simp
    have p2:(l.map (λn=>AV.sh (.int n))++[AV.sh (.int x)]).dropLast=l.map (λn=>AV.sh (.int n)):=dk
    have pp:=RS (r':=r++l2++[x]) hr2;have a1:=Bb (r++l2) x;have l1':(r++l2).length<rh:=by
     rw[lAq,lSq]at hzl;rw[lAq];show _<16777216;lia
    have ess:(T.set hd (r++l2)).set hd (r++l2++[x])=T.set hd (r++(l2++[x])):=by rw[dC,ah]
    refine⟨true,st v0 v1 wild ⟨T.set hd (r++l2),t0,hd,l++[x],left⟩ v7 v8 v9 v10,?_,λ_=>⟨st v0 v1 wild ⟨T.set hd (r++(l2++[x])),t0,hd,l,left⟩ v7 v8 v9 v10,?_,⟨l,l2++[x],rfl,by rw[hz];simp⟩,?_⟩,λq=>(nomatch q)⟩
    .simp_arith [st,sl,dI,k0]
    .simp_arith [vn,st,n1,iL,lT,sw,dI,at4,cl,ex,p1,p2,l1',a1,pp,ess,eq_self,true_and]
    .show (l.map _).length<((l++[x]).map _).length;rw[lMq,lMq,lAq,lSq];lia) 100000 (st v0 v1 wild ⟨T,t0,hd,loose,left⟩ v7 v8 v9 v10) ⟨loose,[],by rw[aNq,Z.zG hr],by simp⟩ (by
   show (loose.map _).length<100000;rw[lMq];lia)
 rw[e,z,gB]
end K31
--ZQ3 --ZQ4 --ZQ5 --ZQ6 --ZQ8 --ZQ9 --ZQB --ZQC --ZQD --ZQE --ZQF --ZQG
namespace K31
open PySem L2 Mr Z Xe Zl
def rot(r:List Int) (e:Int):List Int:=r.drop (r.idxOf e)++r.take (r.idxOf e)
def Xd(rs:List (List Int)) (s:List (List Int)×List Nat) (o:Int):List (List Int)×List Nat:=if plc rs o∈s.2 then s else (s.1++[rot (rs.getD (plc rs o) []) o],s.2++[plc rs o])
def Y0(rs:List (List Int)):Nat->Nat->List (List Int)×List Nat->List (List Int)×List Nat
 |0,_,s=>s
 |f+1,i,s=>if i<s.1.flatten.length then Y0 rs f (i+1) (Xd rs s (-(s.1.flatten.getD i 0))) else s
def Yv(rs:List (List Int)) (e:Int):List (List Int)×List Nat:=([rot (rs.getD (plc rs e) []) e],[plc rs e])
def Y6(rs:List (List Int)) (e:Int):List (List Int)×List Nat:=Y0 rs 2000 0 (Yv rs e)
end K31
--ZQ3 --ZQ4 --ZQ5 --ZQ6 --ZQ8 --ZQ9 --ZQB --ZQC --ZQD --ZQE --ZQF --ZQG
namespace K31
open PySem L2 Mr Z Xe Zl
structure Nm (nm:List Int):Prop where
 len:nm.length<=100
 nd:nm.Nodup
 lo:∀x∈nm,1<=x
structure Wm (nm:List Int) (T:List (List Int)):Prop where
 cnt:∃left,∀a,T.flatten.count a+(zM left).count a=(zM nm).count a
 tr:K11.BU T
 pos:0<T.length
 len:T.length<=64
theorem BD{nm:List Int}(h:Nm nm):(zM nm).Nodup:=K12.DK h.nd h.lo
theorem Kh(l:List Int) (a:Int):(zM l).count (-a)=(zM l).count a:=by
 induction l with
 |nil=>rfl
 |cons x l ih =>
  rw[DN,DN,ih];congr 1;rw[show [x, -x]=[x]++[-x] from rfl,cAq,cAq]
  simp only[List.count_singleton];have e1:(x == -a)=(-x == a):=by rw[bI];simp <;> lia
  have e2:(-x == -a)=(x == a):=by rw[bI];simp <;> lia
  rw[e1,e2];lia
theorem Wm.nodup{nm:List Int}{T:List (List Int)}(hn:Nm nm) (h:Wm nm T):T.flatten.Nodup:=by
 obtain⟨left,hc⟩:=h.cnt;rw[cL];intro a;have h1:=cL.mp (BD hn) a;have:=hc a;lia
theorem Wm.sub{nm:List Int}{T:List (List Int)}(h:Wm nm T) {z:Int}(hz:z∈T.flatten):z∈zM nm:=by
 obtain⟨left,hc⟩:=h.cnt;have h1:=aW.mpr hz;have:=hc z;exact aW.mp (by lia)
theorem Wm.neg{nm:List Int}{T:List (List Int)}(hn:Nm nm) (h:Wm nm T) {z:Int}(hz:z∈T.flatten):-z∈T.flatten:=by
 obtain⟨left,hc⟩:=h.cnt;have h1:=aW.mpr hz;have h2:=cL.mp (BD hn) z;have e1:=hc z;have e2:=hc (-z);rw[Kh,Kh]at e2;exact aW.mp (by lia)
theorem Wm.le{nm:List Int}{T:List (List Int)}(h:Wm nm T):T.flatten.length<=2*nm.length:=by
 obtain⟨left,hc⟩:=h.cnt;have:(T.flatten++zM left).Perm (zM nm):=by
  rw[bT];intro a;rw[cAq];exact hc a
 have:=this.length_eq;rw[lAq,AF nm]at this;lia
end K31
--ZQ3 --ZQ4 --ZQ5 --ZQ6 --ZQ8 --ZQ9 --ZQB --ZQC --ZQD --ZQE --ZQF --ZQG
namespace K31
open PySem L2 Mr Z Xe Zl
open K12 (M6 Jw)
def Qt(st sh a b:Int) (n:Nat):List Int:=(bN n).map λk:Nat=>M6 st sh a b k
theorem Rn{st sh a b:Int}(h1:1<=st) (h2:0<=sh) (k:Nat):1<=M6 st sh a b k:=by
 have b1:0<=(a*(k:Int)+b) % 67:=bx _ (by decide)
 have l1:1*1<=st*((a*(k:Int)+b) % 67+1):=Int.mul_le_mul h1 (by lia) (by decide) (by lia)
 show 1<=st*((a*(k:Int)+b) % 67+1)+sh;lia
theorem Iw{st sh a b:Int}{n:Nat}(hn:n<=67) (h1:1<=st) (h2:0<=sh) (h3:1<=a) (h4:a<=66):Nm (Qt st sh a b n):=by
 refine⟨by unfold Qt;rw[lMq,bh];lia,?_,λx h=>?_⟩
 .unfold Qt;rw[aJ,bg];refine aY.imp_of_mem (λ{x y} hx hy hne e=>hne (Jw h1 h3 h4 (by have:=bW.mp hx;lia) (by have:=bW.mp hy;lia) e)) (aJ.mp iq)
 .obtain ⟨k,_,rfl⟩:=mMq.mp h;exact Rn h1 h2 k
theorem zR{one two st sh a b:Int}{n:Nat}(h:∀k:Nat,tP [.int one,.int two,.int (k:Int)]=some (.sh (.int (M6 st sh a b k)))):qR qt (kSc (qj K31.tP (ot (oy 1) (ot (oy 2) (ot (oy 0) oC))))) [some (.sh (.int one)),some (.sh (.int two))] (pV 0 n)=some ((Qt st sh a b n).map λz=>.sh (.int z)):=by
 have key:=sk (te:=kSc (qj K31.tP (ot (oy 1) (ot (oy 2) (ot (oy 0) oC))))) (cap:=[some (.sh (.int one)),some (.sh (.int two))])
  (λd=>match d with|.int k=>.sh (.int (M6 st sh a b k))|_=>.sh .non) (ds:=pV 0 n) (by
  intro d hd;rw[yT]at hd;obtain⟨k,_,rfl⟩:=mMq.mp hd;have hk:=h k;refine⟨[some (.sh (.int (k:Int))),some (.sh (.int one)),some (.sh (.int two))],?_⟩
  simp_arith [hk])
 rw[key,yT,mPq];unfold Qt;rw[mPq];rfl
theorem A7{l:List Int}(hl:l.length<=500000):uK [dI l]=some (.sh (.bl true)):=by
 have key:qR qt (kSc (DD (rP zO (ot (oy 0) (ot (rC (.ty "int")) oC))) (Nb (rP zO (ot (oy 0) (ot (rC (.ty "bool")) oC)))))) [] (l.map D.int)=some (l.map λ_=>.sh (.bl true)):=by
  rw[Z.sk λ_=>.sh (.bl true)]
  .rw [mPq];rfl
  .intro d hd;obtain⟨s,hs,rfl⟩:=mMq.mp hd;refine⟨[some (.sh (.int s))],?_⟩
   simp_arith []
 have e:(l.map λ_=>AV.sh (.bl true)).map oP=(l.map λ_=>true).map D.bl:=by
  rw[mPq,mPq];exact mCq λc _=>by simp
 have fa:Ge [.list ((l.map λ_=>true).map D.bl)]=some (.bl true):=by
  rw[Tv,Gk];have:(l.map λ_=>true).all id=true:=by rw[ip];intro b hb;obtain⟨_,_,rfl⟩:=mMq.mp hb;rfl
  rw[cf,this]
 have lk:l.length<=rh:=by show _<=16777216;lia
 simp_arith [uK,BO,dI,key,lk,e,fa]
end K31
--ZQ3 --ZQ4 --ZQ5 --ZQ6 --ZQ8 --ZQ9 --ZQB --ZQC --ZQD --ZQE --ZQF --ZQG
namespace K43
open PySem L2 Mr Z Xe Zl
open K51 (sG Ps Pc)
section
variable {M:List (List Int)}{z:Int}
def Mh(M:List (List Int)) (z:Int):Bool:=@decide (¬ sG (K23.C z M) (plc M z) (plc M (-z))) (aV _)
def rds(M:List (List Int)):List Int:=(qH M.flatten).filter λz=>decide (0<z)
end
end K43
--ZQ3 --ZQ4 --ZQ5 --ZQ6 --ZQ8 --ZQ9 --ZQB --ZQC --ZQD --ZQE --ZQF --ZQG
namespace K46
open PySem L2 Mr Z Xe Zl
open K18 (pp cp PC sA sm rX sV ui Bh pe Bj vH ct uN Xq qS sY Ln nL uP vo yh)
theorem Jg{c:List Int}{x y:Int}(hx:x∈c) (hy:y∈c) (ne:x≠y):∃X Y:List Int,(∀q,(cp (x::X++y::Y)).count q=(cp c).count q):=by
 obtain⟨a,b,rfl⟩:=bQ hx;have r1:∀q,(cp (a++x::b)).count q=(cp (x::b++a)).count q:=λq=>ui a (x::b) q
 have hy2:y∈b++a:=by
  rcases mAq.mp hy with h|h
  .exact aj _ h
  .rcases ae.mp h with h|h
   .exact absurd h.symm ne
   .exact aw _ h
 obtain⟨X,Y,e⟩:=bQ hy2;refine⟨X,Y,λq=>?_⟩
 rw[r1 q];show (cp (x::X++y::Y)).count q=(cp (x::(b++a))).count q;rw[e];rfl
theorem zX(A B:List Int) (x y:Int):∃s t:Int,(∀u v,(cp (x::A++y::B)).count (u,v)=(pp (x::A)).count (u,v)+(pp (y::B)).count (u,v)+ct s y u v+ct t x u v)/\(∀u v,(cp (x::A)).count (u,v)=(pp (x::A)).count (u,v)+ct s x u v)/\∀u v,(cp (y::B)).count (u,v)=(pp (y::B)).count (u,v)+ct t y u v:=by
 obtain⟨A',s,eA⟩:=rX (show x::A≠[] by simp)
 obtain⟨B',t,eB⟩:=rX (show y::B≠[] by simp)
 refine⟨s,t,λu v=>?_,λu v=>?_,λu v=>?_⟩
 .rw [sm (l:=x::A++y::B) (a:=t) (h:=x) (l':=x::A++B') (l'':=A++y::B) (by rw[eB,ah]) rfl,sA eA rfl]
  simp only[cAq,qS,bJ];lia
 .rw [sm eA rfl];simp only[cAq,qS,bJ];lia
 .rw [sm eB rfl];simp only[cAq,qS,bJ];lia
section
variable {C LL:List (List Int)}{i:Nat}
theorem ux(u v:Int):ct u v u v=1:=by unfold ct;simp
theorem Ln.split(h:Ln C LL) (hn:C.flatten.Nodup) (hneg:∀e∈C.flatten, -e∈C.flatten) {r A B:List Int}{x y:Int}(hi:C[i]?=some r) (hr:∀q,(cp (x::A++y::B)).count q=(cp r).count q) (ne:x≠y) {c:List Int}(hc:c∈LL) (hx:x∈c) (hy:y∈c):∃LL',Ln (C.set i (x::A)++[y::B]) LL'/\nL (C.set i (x::A)++[y::B]) LL'=nL C LL+1:=by
 obtain⟨s,t,k1,k2,k3⟩:=zX A B x y;obtain⟨X,Y,eX⟩:=Jg hx hy ne;obtain⟨s',t',m1,m2,m3⟩:=zX X Y x y;obtain⟨j,hj⟩:=ar.mp hc;have nd:((PC C).map (·.2)).Nodup:=(Bh C).nodup_iff.mpr hn;have inC:∀{u v:Int},0<(cp r).count (u,v)->(u,v)∈PC C:=λq=>uP hi (aW.mp q)
 have q1:(s,y)∈PC C:=inC (by rw[←hr,k1];have:=ux s y;lia)
 have q2:(t,x)∈PC C:=inC (by rw[←hr,k1];have:=ux t x;lia)
 have inL:∀{u v:Int},0<(cp c).count (u,v)->(-u,v)∈PC C:=λ{u v} q=>by
  have:(u,v)∈PC LL:=bE.mpr ⟨c,hc,aW.mp q⟩;rw[sY,←h.cnt];exact sY.mp this
 have q3:(-s',y)∈PC C:=inL (by rw[←eX,m1];have:=ux s' y;lia)
 have q4:(-t',x)∈PC C:=inL (by rw[←eX,m1];have:=ux t' x;lia)
 have es:s = -s':=congrArg (·.1) (yh nd q1 q3 rfl);have et:t = -t':=congrArg (·.1) (yh nd q2 q4 rfl);subst es;subst et;have rne:r≠[]:=λq=>by
  subst q;have:=hr (-s',y);rw[k1]at this;have:=ux (-s') y;have e0:(cp ([]:List Int)).count (-s',y)=0:=rfl;lia
 have cs:=vo (r':=x::A) hi;rw[pJ rne,pJ (by simp)]at cs
 refine⟨LL.set j (x::X)++[y::Y],⟨λu v=>?_,λd hd=>?_⟩,?_⟩
 .have a1:=vH (r':=x::X) (u,v) hj;have a2:=vH (r':=x::A) (-u,v) hi;have a3:=h.cnt u v;rw[Bj,Bj,pe,pe];have z1:(PC ([]:List (List Int))).count (u,v)=0:=rfl;have z2:(PC ([]:List (List Int))).count (-u,v)=0:=rfl;rw[z1,z2];rw[←eX,m1,m2]at a1;rw[←hr,k1,k2]at a2;rw[m3,k3];simp only[uN,bw]at a2 ⊢;lia
 .rcases mAq.mp hd with hd|hd
  .rcases cT hd with q|q
   .exact h.ne d q
   .rw [q];simp
  .rw [mSq.mp hd];simp
 .unfold nL;rw[cAq,lAq,lZq];have:([y::B]:List (List Int)).count []=0:=by simp
  rw[this];show _+1+_=_;lia
end
end K46
namespace K18
open PySem L2 Mr Z Xe Zl
open K15 (nx fw vg Rd Bw)
open K43 (Ei BW vq yX zJ Gp yK Mh yY emp B4 AY B7)
open K46 (Jg zX ux)
open K51 (sG Ps)
theorem RN{f:Int->Int}{E:List Int}(one:IC f E):∃L,Ck f E L:=by
 have key:∀n,∃kn L,Rd f E kn L/\∀x∈E.take n,x∈kn:=by
  intro n
  induction n with
  |zero=>exact⟨[],[],⟨by simp,rfl,aU,by simp,by simp⟩,by simp⟩
  |succ n ih =>
   obtain⟨kn,L,rd,h⟩:=ih;cases he:E[n]? with
   |none =>
    rw[cB,he];exact⟨kn,L,rd,by simpa using h⟩
   |some e =>
    have heE:=mGq he;rw[qK he]
    by_cases c:e∈kn
    .refine ⟨kn,L,rd,λx hx=>?_⟩
     rcases mAq.mp hx with q|q
     .exact h x q
     .rw [mSq.mp q];exact c
    .obtain ⟨l,cy,_⟩:=one.cy heE;refine⟨kn++l,L++[l],rd.add one cy heE c,λx hx=>?_⟩
     rcases mAq.mp hx with q|q
     .exact aw _ (h x q)
     .rw [mSq.mp q];exact aj _ cy.self
 obtain⟨kn,L,rd,h⟩:=key E.length;rw[bA]at h;exact⟨L,rd.orb h⟩
section
variable {C LL:List (List Int)}{z:Int}
theorem UH(hn:C.flatten.Nodup) {u y:Int}:(u,y)∈PC C↔u∈C.flatten/\y=nx C u:=by
 constructor
 .intro h;refine⟨?_,(Ki hn h).symm⟩;rw[←C1 C];exact mMq.mpr ⟨_,h,rfl⟩
 .rintro ⟨h,rfl⟩;rw[←C1 C]at h;obtain⟨⟨a,b⟩,hq,rfl⟩:=mMq.mp h;rw[Ki hn hq];exact hq
theorem Um{f:Int->Int}{E:List Int}{L:List (List Int)}(o:Ck f E L) {x y:Int}:(x,y)∈PC L↔x∈E/\y=f x:=by
 have to:∀{x y:Int},(x,y)∈PC L->x∈E/\y=f x:=λ{x y} h=>by
  obtain⟨l,hl,q⟩:=bE.mp h;obtain⟨e,c⟩:=o.cy l hl;obtain⟨j,h1,h2⟩:=S9 q;have hlt:=(gSq.mp h1).1;refine⟨(o.all x).mp (mFq.mpr ⟨l,hl,mGq h1⟩),?_⟩;rw[c.at hlt]at h1;have ex:=aD.inj h1
  by_cases s:j+1<l.length
  .rw [fi s,c.at s]at h2;rw[←ex];exact(aD.inj h2).symm
  .have en:j+1=l.length:=by lia
   rw[en,iz,c.at (by lia)]at h2
   have:=c.back;rw[←en]at this;rw[←ex,←aD.inj h2];exact this.symm
 constructor
 .exact to
 .rintro ⟨h,rfl⟩;have:x∈(PC L).map (·.1):=by rw[C1];exact(o.all x).mpr h
  obtain⟨⟨a,b⟩,hq,rfl⟩:=mMq.mp this;rw[← (to hq).2];exact hq
theorem VC{A B:List (Int×Int)}(hA:A.Nodup) (hB:B.Nodup) {p q:Int×Int}(h:p∈A↔q∈B):A.count p=B.count q:=by
 by_cases c:p∈A
 .have a1:=cL.mp hA p;have a2:=cL.mp hB q;have b1:=aW.mpr c;have b2:=aW.mpr (h.mp c);lia
 .rw [dP.mpr c,dP.mpr λz=>c (h.mpr z)]
theorem SY(hn:C.flatten.Nodup):(PC C).Nodup:=by
 have:((PC C).map (·.1)).Nodup:=by rw[C1];exact hn
 exact aY.of_map (·.1) (λa b h q=>h (by rw[q])) this
theorem TR(mp:Mp C) {L:List (List Int)}(o:Ck (fw C) C.flatten L):Ln C L:=by
 refine⟨λx y=>VC (SY o.dj) (SY mp.hn) ?_,λc hc q=>?_⟩
 .rw [Um o,UH mp.hn];constructor
  .exact λh=>⟨mp.hneg x h.1,h.2⟩
  .rintro ⟨h1,h2⟩;have:=mp.hneg _ h1;rw[bw]at this;exact⟨this,h2⟩
 .obtain ⟨e,cy⟩:=o.cy c hc;have:=cy.len;rw[q]at this;simp at this
theorem Ia(mp:Mp C):∃LL,Ln C LL:=by
 obtain⟨L,o⟩:=RN (vg mp);exact⟨L,TR mp o⟩
theorem Ln.one{LL':List (List Int)}(mp:Mp C) (h:Ln C LL) (h':Ln C LL'):nL C LL=nL C LL':=by
 have p:=(Ck.perm (vg mp) (h.orb mp) (h'.orb mp)).length_eq;rw[lMq,lMq]at p;unfold nL;rw[p]
theorem Ln.congr{C':List (List Int)}(h:Ln C LL) (e:∀q,(PC C').count q=(PC C).count q):Ln C' LL:=⟨λx y=>by rw[e];exact h.cnt x y,h.ne⟩
theorem Ln.join{A B c c':List Int}{x y:Int}{R:List (List Int)}(h:Ln ((x::A++y::B)::R) LL) (hn:((x::A++y::B)::R).flatten.Nodup) (hc:c∈LL) (hc':c'∈LL) (ne:c≠c') (hx:x∈c) (hy:y∈c'):∃LL',Ln ((x::A)::(y::B)::R) LL'/\nL ((x::A)::(y::B)::R) LL'+1=nL ((x::A++y::B)::R) LL/\∃d∈LL',x∈d/\y∈d:=by
 obtain⟨s,t,k1,k2,k3⟩:=zX A B x y;have rot:∀{c:List Int}{x:Int},x∈c->∃X:List Int,∀q,(cp (x::X)).count q=(cp c).count q:=λ{c x} hx=>by
  obtain⟨a,b,rfl⟩:=bQ hx;exact⟨b++a,λq=>(ui a (x::b) q).symm⟩
 obtain⟨X,eX⟩:=rot hx;obtain⟨Y,eY⟩:=rot hy;obtain⟨s',t',m1,m2,m3⟩:=zX X Y x y;have nd:((PC ((x::A++y::B)::R)).map (·.2)).Nodup:=(Bh _).nodup_iff.mpr hn;have inC:∀{u v:Int},0<(cp (x::A++y::B)).count (u,v)->(u,v)∈PC ((x::A++y::B)::R):=λq=>uP (i:=0) rfl (aW.mp q)
 have q1:=inC (u:=s) (v:=y) (by rw[k1];have:=ux s y;lia)
 have q2:=inC (u:=t) (v:=x) (by rw[k1];have:=ux t x;lia)
 have inL:∀{c:List Int}{u v:Int},c∈LL->0<(cp c).count (u,v)->(-u,v)∈PC ((x::A++y::B)::R):=λ{c u v} hc q=>by
  have:(u,v)∈PC LL:=bE.mpr ⟨c,hc,aW.mp q⟩;rw[sY,←h.cnt];exact sY.mp this
 have q3:=inL hc (u:=s') (v:=x) (by rw[←eX,m2];have:=ux s' x;lia)
 have q4:=inL hc' (u:=t') (v:=y) (by rw[←eY,m3];have:=ux t' y;lia)
 have es:t = -s':=congrArg (·.1) (yh nd q2 q3 rfl);have et:s = -t':=congrArg (·.1) (yh nd q1 q4 rfl);subst es;subst et;obtain⟨l1,l2,e1⟩:=bQ hc;have hc2:c'∈l1++l2:=by
  rw[e1]at hc';rcases mAq.mp hc' with q|q
  .exact aw _ q
  .rcases ae.mp q with q|q
   .exact absurd q.symm ne
   .exact aj _ q
 obtain⟨m4,m5,e2⟩:=bQ hc2;have pL:LL.Perm (c::c'::(m4++m5)):=by
  rw[e1];refine dO.trans (bj.cons _ ?_);rw[e2];exact dO
 refine⟨(x::X++y::Y)::(m4++m5),⟨λu v=>?_,λd hd=>?_⟩,?_,_,ag ..,by simp,by simp⟩
 .have a1:=wC pL (u,v);have a3:=h.cnt u v;rw[pe,pe]at a1;rw[pe]at a3 ⊢;rw[pe,pe];rw[←eX,←eY,m2,m3]at a1;rw[k1]at a3;rw[m1,k2,k3];simp only[uN,bw]at a3 ⊢;lia
 .rcases ae.mp hd with rfl|hd
  .simp
  .exact h.ne d (pL.mem_iff.mpr (by simp only[ae];exact .inr (.inr hd)))
 .unfold nL;have l:=pL.length_eq;simp only[lCq,bS]at l ⊢;have n1:(x::A == ([]:List Int))=false:=rfl;have n2:(y::B == ([]:List Int))=false:=rfl;have n3:(x::A++y::B == ([]:List Int))=false:=rfl;rw[n1,n2,n3];simp only[de,if_false];lia
theorem Ln.loop{A B:List Int}{x y:Int}{R:List (List Int)}(h:Ln ((x::A)::(y::B)::R) LL) (ne:x≠y) (z:Int):∃LL',Ln ((z::x::A ++ -z::y::B)::R) LL'/\nL ((z::x::A ++ -z::y::B)::R) LL'=nL ((x::A)::(y::B)::R) LL:=by
 obtain⟨s,t,k1,k2,k3⟩:=zX A B x y;obtain⟨s2,t2,j1,j2,j3⟩:=zX (x::A) (y::B) z (-z);have p1:∀u v,(pp (z::x::A)).count (u,v)=ct z x u v+(pp (x::A)).count (u,v):=λu v=>by
  show ((z,x)::pp (x::A)).count (u,v)=_;rw[qS]
 have p2:∀u v,(pp (-z::y::B)).count (u,v)=ct (-z) y u v+(pp (y::B)).count (u,v):=λu v=>by
  show ((-z,y)::pp (y::B)).count (u,v)=_;rw[qS]
 have lst:∀{w:Int}{l:List Int}{a b c:Int},(∀u v,(cp (a::l)).count (u,v)=(pp (a::l)).count (u,v)+ct b a u v)->(∀u v,(cp (w::a::l)).count (u,v)=(pp (w::a::l)).count (u,v)+ct c w u v)->b=c:=λ{w l a b c} h1 h2=>by
  obtain⟨l',k,el⟩:=rX (show a::l≠[] by simp)
  have e1:=sm el rfl;have e2:=sm (l:=w::a::l) (a:=k) (h:=w) (l':=w::l') (l'':=a::l) (by rw[el];rfl) rfl
  have f1:=h1 k a;have f2:=h2 k w;rw[e1,cAq,Xq]at f1;rw[e2,cAq,Xq]at f2;have o1:=ux k a;have o2:=ux k w;have g:∀{p q r s:Int},0<ct p q r s->p=r:=λ{p q r s} hp=>by
   unfold ct at hp;have:=mSq.mp (aW.mp hp);exact(congrArg (·.1) this).symm
  rw[g (p:=b) (q:=a) (r:=k) (s:=a) (by lia),g (p:=c) (q:=w) (r:=k) (s:=w) (by lia)]
 have es:s=s2:=lst k2 j2;have et:t=t2:=lst k3 j3;subst es;subst et;have m1:(-s,x)∈PC LL:=h.mem (uP (i:=0) rfl (aW.mp (by rw[k2];have:=ux s x;lia)))
 have m2:(-t,y)∈PC LL:=h.mem (uP (i:=1) rfl (aW.mp (by rw[k3];have:=ux t y;lia)))
 obtain⟨L1,l1,n1,i1⟩:=A6 (-z) m1 h.ne;have m3:(-t,y)∈PC L1:=sY.mpr (by
  have:=i1 (-t) y;have z0:ct (-s) x (-t) y=0:=by
   unfold ct;rw[dP];intro q;have:=mSq.mp q;rw[Prod.mk.injEq]at this;exact ne this.2.symm
  have:=sY.mp m2;lia)
 obtain⟨L2,l2,n2,i2⟩:=A6 z m3 n1;refine⟨L2,⟨λu v=>?_,n2⟩,?_⟩
 .have a1:=i1 u v;have a2:=i2 u v;have a3:=h.cnt u v;rw[pe,pe,k2,k3]at a3;rw[pe,j1,p1,p2];simp only[uN,bw]at a3 ⊢;lia
 .unfold nL;simp only[lCq,bS];have n1:(x::A == ([]:List Int))=false:=rfl;have n2:(y::B == ([]:List Int))=false:=rfl;have n3:(z::x::A ++ -z::y::B == ([]:List Int))=false:=rfl;rw[n1,n2,n3];simp only[de,if_false];lia
end
end K18
namespace K18
open PySem L2 Mr Z Xe Zl
open K15 (nx fw vg Bw)
open K16 (Ef)
open K43 (Ei BW vq yX zJ Gp yK Mh yY emp B4 AY B7)
open K46 (Ln.split)
open K51 (sG Ps)
section
variable {M LL:List (List Int)}{z:Int}{p:Nat}{r:List Int}
theorem Dq(hm:Mp M) (hr:M[p]?=some r) {e:Int}(he:e∈r):nx M e∈r:=by
 obtain⟨j,hj⟩:=ar.mp he;have hlt:=(gSq.mp hj).1;have lt:(j+1) % r.length<r.length:=jD _ (by lia)
 rw[Ef hm.hn (mGq hr) hj (gEg lt)];exact gRq _
theorem xi{e:Int}(he:e∈M.flatten):∃(k:Nat) (s:List Int),M[k]?=some s/\e∈s:=by
 obtain⟨s,hs,h⟩:=mFq.mp he;obtain⟨k,hk⟩:=ar.mp hs;exact⟨k,s,hk,h⟩
theorem N8(hm:Mp M) (h:Ln M LL) {d:List Int}(hd:d∈LL) {x y:Int}(hx:x∈d) (hy:y∈d):sG M (plc M x) (plc M y):=by
 have o:=h.orb hm;obtain⟨e,c⟩:=o.cy d hd;obtain⟨i,hi⟩:=ar.mp hx;have hlt:=(gSq.mp hi).1;rw[c.at hlt]at hi;have c2:=c.rot hlt;rw[aD.inj hi]at c2;have hy2:y∈d.drop i++d.take i:=by
  rw[←bb i d]at hy;rcases mAq.mp hy with q|q
  .exact aj _ q
  .exact aw _ q
 obtain⟨n,hn⟩:=ar.mp hy2;rw[c2.at (gSq.mp hn).1]at hn;rw[←aD.inj hn];have hxM:x∈M.flatten:=(o.all x).mp (mFq.mpr ⟨d,hd,hx⟩);have go:∀n,sG M (plc M x) (plc M (itr (fw M) n x)):=by
  intro n
  induction n with
  |zero=>exact .base
  |succ n ih =>
   have hu:=(vg hm).itr_mem hxM n;obtain⟨k,s,hk,hs⟩:=xi hu;obtain⟨k',s',hk',hs'⟩:=xi (hm.hneg _ hu);rw[plc_eq hm.hn hk hs]at ih;have st:=sG.step ih hk hs;have e1:K51.plc M (-(itr (fw M) n x))=k':=plc_eq hm.hn hk' hs';have e2:plc M (itr (fw M) (n+1) x)=k':=plc_eq hm.hn hk' (Dq hm hk' hs');rw[e2,←e1];exact st
 exact go n
theorem JP:∀{M:List (List Int)}{i:Nat},M[i]?=some r->M.Perm (r::M.eraseIdx i)
 | [],_,h=>by simp at h
 |t::M,0,h=>by
  have:t=r:=by simpa using h
  rw[this];exact .refl _
 |t::M,i+1,h=>by
  rw[bO];exact((JP (M:=M) (i:=i) (by simpa using h)).cons t).trans (bj.swap ..)
theorem Ij{s t:List Int}(h:s.length=t.length):(if s=[] then 1 else 0)=(if t=[] then 1 else (0:Nat)):=by
 cases s <;> cases t <;> simp at h ⊢
theorem wa{s:List Int}(h1:z∉s) (h2:-z∉s):K23.uG z s=s:=List.filter_eq_self.mpr λe he=>by
 simp only[ae,gf,or_false,fM,decide_eq_false_iff_not];rintro(q|q)
 .exact h1 (q ▸ he)
 .exact h2 (q ▸ he)
theorem vp(a b:List Int):K23.uG z (a++b)=K23.uG z a++K23.uG z b:=dQ ..
theorem Ci(a:List Int):K23.uG z (z::a)=K23.uG z a:=dD (by simp)
theorem Jp(a:List Int):K23.uG z (-z::a)=K23.uG z a:=dD (by simp)
theorem JW{R:List (List Int)}(h:∀s∈R,z∉s/\-z∉s):R.map (K23.uG z)=R:=by
 exact(mCq (f:=K23.uG z) (g:=id) λs hs=>wa (h s hs).1 (h s hs).2).trans (dR _)
theorem qz(s:List Int) (R:List (List Int)):(s::R).count []=R.count []+(if s=[] then 1 else 0):=by
 rw[bS];simp only[beq_iff_eq]
theorem Cs(hm:Mp M) (h:Ln M LL) {x:Int}(hx:x∈M.flatten):∃c∈LL,x∈c:=mFq.mp (((h.orb hm).all x).mpr hx)
theorem N2{A B:List Int}{x y:Int}{R:List (List Int)}{c:List Int}(h:Ln ((x::A++y::B)::R) LL) (hm:Mp ((x::A++y::B)::R)) (ne:x≠y) (hc:c∈LL) (hx:x∈c) (hy:y∈c):∃LL',Ln ((x::A)::(y::B)::R) LL'/\nL ((x::A)::(y::B)::R) LL'=nL ((x::A++y::B)::R) LL+1:=by
 obtain⟨LL',l1,l2⟩:=Ln.split h hm.hn hm.hneg (i:=0) rfl (λ_=>rfl) ne hc hx hy
 have pm:((x::A)::(y::B)::R).Perm (((x::A++y::B)::R).set 0 (x::A)++[y::B]):=bj.cons _ (aL (l₁:=[y::B]));refine⟨LL',l1.congr λq=>wC pm q,?_⟩
 rw[←l2];unfold nL;rw[pm.count_eq]
theorem U5(hm:Mp M) (hV:M.length<=900) (hz:z∈M.flatten) (hne:z ≠ -z):∃LL LL',Ln M LL/\Ln (K23.C z M) LL'/\(nL (K23.C z M) LL'=nL M LL+1∨(nL (K23.C z M) LL'+1=nL M LL/\Mh M z=false)):=by
 have hw:=zJ (z:=z) hm;have hW1:=yK (M:=M) (z:=z);obtain⟨i,r,hi,hzr⟩:=xi hz;obtain⟨j,r',hj,hzr'⟩:=xi (hm.hneg z hz);have plz:plc M z=i:=plc_eq hm.hn hi hzr;have plz':plc M (-z)=j:=plc_eq hm.hn hj hzr';have nr:r.Nodup:=hm.hn.sublist (aF (mGq hi));have nr':r'.Nodup:=hm.hn.sublist (aF (mGq hj));have p1:=JP hi;have W1:(K23.C z M).Perm (K23.uG z r::(M.eraseIdx i).map (K23.uG z)):=p1.map _;have loopB:i=j->Mh M z=false:=λq=>by
  unfold K43.Mh;rw[plz,plz',←q];exact @decide_eq_false _ (aV _) λn=>n .base
 have mpOf:∀{X:List (List Int)},X.flatten.Perm (K23.C z M).flatten->X.length<=M.length+1->Mp X:=λ{X} pf hX=>⟨pf.nodup_iff.mpr hw.hn,by rw[pf.length_eq];exact hw.hl,by lia,λe he=>pf.mem_iff.mpr (hw.hneg e (pf.mem_iff.mp he))⟩
 by_cases ij:i=j
 .-- a Wq from a place to itself
  subst ij;rw[hi]at hj;cases hj;have hR:∀s∈M.eraseIdx i,z∉s/\-z∉s:=λs hs=>by
   obtain⟨k,hk,hks⟩:=gw.mp hs;exact⟨λq=>hk (xo hm.hn hks hi q hzr),λq=>hk (xo hm.hn hks hi q hzr')⟩
  rw[JW hR]at W1;generalize M.eraseIdx i=R at p1 W1;obtain⟨a,b,rfl⟩:=bQ hzr;have h2:-z∈b++a:=by
   rcases mAq.mp hzr' with h|h
   .exact aj _ h
   .rcases ae.mp h with h|h
    .exact absurd h.symm hne
    .exact aw _ h
  obtain⟨P,Q,e⟩:=bQ h2;have rotM:∀q,(cp (z::P ++ -z::Q)).count q=(cp (a++z::b)).count q:=λq=>by
   rw[ui a (z::b) q];show (cp (z::(P ++ -z::Q))).count q=(cp (z::(b++a))).count q;rw[e]
  have ndR:(z::(P ++ -z::Q)).Nodup:=by
   rw[←e];exact(aL (l₁:=z::b)).nodup_iff.mpr nr
  have zP:z∉P ++ -z::Q:=(aq.mp ndR).1;have nP:=(aq.mp ndR).2;have zPQ:z∉P/\z∉Q:=⟨λq=>zP (aw _ q),λq=>zP (aj _ (mCo _ q))⟩
  have zPQ':-z∉P/\-z∉Q:=⟨λq=>(nAq.mp nP).2.2 _ q _ (ag ..) rfl,λq=>(aq.mp (nAq.mp nP).2.1).1 q⟩
  have cPQ:K23.uG z (b++a)=P++Q:=by rw[e,vp,Jp,wa zPQ.1 zPQ'.1,wa zPQ.2 zPQ'.2]
  have rotW:∀q,(cp (P++Q)).count q=(cp (K23.uG z (a++z::b))).count q:=λq=>by
   rw[←cPQ,vp,vp,Ci,ui]
  have lenW:(K23.uG z (a++z::b)).length=(P++Q).length:=by rw[←cPQ,vp,vp,Ci,lAq,lAq,fc]
  have pcM:∀q,(PC M).count q=(PC ((z::P ++ -z::Q)::R)).count q:=λq=>by rw[wC p1,pe,pe,rotM]
  have pcW:∀q,(PC (K23.C z M)).count q=(PC ((P++Q)::R)).count q:=λq=>by rw[wC W1,pe,pe,rotW]
  have nM:M.count []=R.count []:=by rw[p1.count_eq,qz,pJ (by simp)];lia
  have nW:(K23.C z M).count []=((P++Q)::R).count []:=by
   rw[W1.count_eq,qz,qz,Ij lenW]
  have fW:((P++Q)::R).flatten.Perm (K23.C z M).flatten:=by
   refine bj.trans ?_ (rF W1).symm;rw[fCq,fCq];refine bj.append_right _ ?_;rw[←cPQ,vp,vp,Ci];exact aL
  have lR:R.length+1=M.length:=by rw[p1.length_eq];rfl
  have mpW:=mpOf fW (by rw[lCq];lia)
  obtain⟨LW,lnW⟩:=Ia mpW;have nLW:∀X,nL (K23.C z M) X=nL ((P++Q)::R) X:=λX=>by unfold nL;rw[nW]
  cases P with
  |nil =>
   obtain⟨LM,l1,l2⟩:=lnW.open (i:=0) (r:=[]) (L:=Q) rfl z
   refine⟨LM,LW,l1.congr pcM,lnW.congr pcW,.inr ⟨?_,loopB rfl⟩⟩;rw[nLW];have e1:nL M LM=nL (((([]:List Int)++Q)::R).set 0 ([]++[z]++(-z::Q))) LM:=by
    show _=nL ((z :: -z::Q)::R) LM;unfold nL;rw[nM,qz,pJ (by simp)]
    lia
   rw[e1,l2]
  |cons x A =>
   cases Q with
   |nil =>
    obtain⟨LM,l1,l2⟩:=lnW.open (i:=0) (r:=[]) (L:=x::A) (by rw[aNq];rfl) (-z)
    have pc2:∀q,(PC M).count q=(PC ((-z::z::x::A)::R)).count q:=λq=>by
     rw[pcM,pe,pe,ui (z::x::A) [-z]];rfl
    have e0:(((x::A)++[])::R).set 0 ([]++[-z]++(- -z::x::A))=(-z::z::x::A)::R:=by rw[bw];rfl
    rw[e0]at l1 l2;refine⟨LM,LW,l1.congr pc2,lnW.congr pcW,.inr ⟨?_,loopB rfl⟩⟩;rw[nLW,←l2];unfold nL;rw[nM,qz,pJ (by simp)]
    lia
   |cons y B =>
    have neq:x≠y:=λq=>by
     have:=(nAq.mp nP).2.2 x (ag ..) y (by simp)
     exact this q
    have fD:((x::A)::(y::B)::R).flatten.Perm (K23.C z M).flatten:=by
     refine bj.trans ?_ fW;rw[fCq,fCq,fCq,ah]
    have mpD:=mpOf fD (by rw[lCq,lCq];lia)
    obtain⟨LD,lnD⟩:=Ia mpD;obtain⟨LM,l1,l2⟩:=lnD.loop neq z;have nLM:∀X,nL M X=nL ((z::x::A ++ -z::y::B)::R) X:=λX=>by
     unfold nL;rw[nM,qz,pJ (by simp)]
     lia
    obtain⟨c,hc,hx⟩:=Cs mpW lnW (x:=x) (by simp)
    obtain⟨c',hc',hy⟩:=Cs mpW lnW (x:=y) (by simp)
    refine⟨LM,LW,l1.congr pcM,lnW.congr pcW,?_⟩;rw[nLM,nLW,l2]
    by_cases cc:c=c'
    .subst cc;obtain⟨L3,s1,s2⟩:=N2 lnW mpW neq hc hx hy;have:=Ln.one mpD lnD s1;exact .inr ⟨by lia,loopB rfl⟩
    .obtain ⟨L3,s1,s2,_⟩:=lnW.join mpW.hn hc hc' cc hx hy;have:=Ln.one mpD lnD s1;exact .inl (by lia)
 .-- a Wq between two places
  have hr'R:r'∈M.eraseIdx i:=gw.mpr ⟨j,λq=>ij q.symm,hj⟩
  obtain⟨l1,l2,eR⟩:=bQ hr'R;have p2:M.Perm (r::r'::(l1++l2)):=p1.trans (bj.cons _ (by rw[eR];exact dO))
  have hR:∀s∈l1++l2,z∉s/\-z∉s:=λs hs=>by
   have nf:(r::r'::(l1++l2)).flatten.Nodup:=(rF p2).nodup_iff.mp hm.hn;rw[fCq,fCq]at nf;have hs':∀e∈s,e∈(l1++l2).flatten:=λe he=>mFq.mpr ⟨s,hs,he⟩
   exact⟨λq=>(nAq.mp nf).2.2 z hzr z (aj _ (hs' z q)) rfl,λq=>(nAq.mp (nAq.mp nf).2.1).2.2 (-z) hzr' (-z) (hs' _ q) rfl⟩
  have W2:(K23.C z M).Perm (K23.uG z r::K23.uG z r'::(l1++l2)):=by
   have:=p2.map (K23.uG z);rw[au,au,JW hR]at this;exact this
  have zr':z∉r':=λq=>ij (xo hm.hn hi hj hzr q)
  have zr:-z∉r:=λq=>ij (xo hm.hn hi hj q hzr')
  have lR:(l1++l2).length+2=M.length:=by rw[p2.length_eq];rfl
  have rW:∀e∈r,e≠z->plc (K23.C z M) e=i:=λe he q=>plc_eq hw.hn (BW hi) (vq.mpr ⟨he,q,λh=>zr (h ▸ he)⟩)
  have rW':∀e∈r',e ≠ -z->plc (K23.C z M) e=j:=λe he q=>plc_eq hw.hn (BW hj) (vq.mpr ⟨he,λh=>zr' (h ▸ he),q⟩)
  generalize l1++l2=R at p2 W2 lR;obtain⟨a,b,rfl⟩:=bQ hzr;obtain⟨c,d,rfl⟩:=bQ hzr';have zab:z∉a/\z∉b:=⟨λq=>(nAq.mp nr).2.2 z q z (ag ..) rfl,(aq.mp (nAq.mp nr).2.1).1⟩
  have zab':-z∉a/\-z∉b:=⟨λq=>zr (aw _ q),λq=>zr (aj _ (mCo _ q))⟩
  have zcd:-z∉c/\-z∉d:=⟨λq=>(nAq.mp nr').2.2 (-z) q (-z) (ag ..) rfl,(aq.mp (nAq.mp nr').2.1).1⟩
  have zcd':z∉c/\z∉d:=⟨λq=>zr' (aw _ q),λq=>zr' (aj _ (mCo _ q))⟩
  have c1:K23.uG z (a++z::b)=a++b:=by rw[vp,Ci,wa zab.1 zab'.1,wa zab.2 zab'.2]
  have c2:K23.uG z (c ++ -z::d)=c++d:=by rw[vp,Jp,wa zcd'.1 zcd.1,wa zcd'.2 zcd.2]
  rw[c1,c2]at W2;have inP:∀e∈b++a,plc (K23.C z M) e=i:=λe he=>rW e (by
   rcases mAq.mp he with q|q
   .exact aj _ (mCo _ q)
   .exact aw _ q) λq=>by
    subst q;rcases mAq.mp he with q|q
    .exact zab.2 q
    .exact zab.1 q
  have inQ:∀e∈d++c,plc (K23.C z M) e=j:=λe he=>rW' e (by
   rcases mAq.mp he with q|q
   .exact aj _ (mCo _ q)
   .exact aw _ q) λq=>by
    subst q;rcases mAq.mp he with q|q
    .exact zcd.2 q
    .exact zcd.1 q
  have rotM:∀q,(cp (b++a++[z])).count q=(cp (a++z::b)).count q:=λq=>by
   have:=ui (a++[z]) b q;rw[ah]at this;rw[ah];exact this.symm
  have rotM':∀q,(cp (-z::(d++c))).count q=(cp (c ++ -z::d)).count q:=λq=>(ui c (-z::d) q).symm
  have fW0:((b++a)::(d++c)::R).flatten.Perm (K23.C z M).flatten:=by
   refine bj.trans ?_ (rF W2).symm;rw[fCq,fCq,fCq,fCq];exact aL.append (aL.append (.refl _))
  have pcM:∀q,(PC M).count q=(PC ((b++a++[z])::(-z::(d++c))::R)).count q:=λq=>by rw[wC p2,pe,pe,pe,pe,rotM,rotM']
  have pcW:∀q,(PC (K23.C z M)).count q=(PC ((b++a)::(d++c)::R)).count q:=λq=>by rw[wC W2,pe,pe,pe,pe,ui a b,ui c d]
  have nM:M.count []=R.count []:=by rw[p2.count_eq,qz,qz,pJ (by simp),pJ (by simp)];lia
  have nW:(K23.C z M).count []=((b++a)::(d++c)::R).count []:=by
   rw[W2.count_eq,qz,qz,qz,qz,Ij (s:=a++b) (t:=b++a) (by simp[fc]),Ij (s:=c++d) (t:=d++c) (by simp[fc])]
  have nLW:∀X,nL (K23.C z M) X=nL ((b++a)::(d++c)::R) X:=λX=>by unfold nL;rw[nW]
  generalize b++a=P at rotM fW0 pcM pcW nW nLW inP;generalize d++c=Q at rotM' fW0 pcM pcW nW nLW inQ;have f2:((P++Q)::R).flatten.Perm (K23.C z M).flatten:=by
   refine bj.trans ?_ fW0;rw[fCq,fCq,fCq,ah]
  have mp2:=mpOf f2 (by rw[lCq];lia)
  obtain⟨L2,ln2⟩:=Ia mp2;obtain⟨LM,m1,m2⟩:=ln2.newp mp2.hn (i:=0) (r:=P) (L:=Q) rfl z;have pmM:((P++[z])::(-z::Q)::R).Perm (((P++Q)::R).set 0 (P++[z])++[-z::Q]):=bj.cons _ (aL (l₁:=[-z::Q]));have lnM:Ln M LM:=m1.congr λq=>by rw[pcM,wC pmM]
  have nLM:nL M LM=nL ((P++Q)::R) L2:=by
   rw[←m2];unfold nL;rw[←pmM.count_eq,qz,qz,pJ (by simp),pJ (by simp),nM]
   lia
  cases P with
  |nil =>
   refine⟨LM,L2,lnM,ln2.congr λq=>by rw[pcW,pe];show 0+_=_;rw[bZ];rfl,.inl ?_⟩
   rw[nLM,nLW];show nL ([]::Q::R) L2=nL (Q::R) L2+1;unfold nL;rw[qz,pN rfl];lia
  |cons x A =>
   cases Q with
   |nil =>
    refine⟨LM,L2,lnM,ln2.congr λq=>by rw[pcW,pe,pe,pe,aNq];show _+(0+_)=_;lia,.inl ?_⟩
    rw[nLM,nLW];unfold nL;have e1:(if x::A=[] then 1 else (0:Nat))=0:=pJ (by simp)
    have e2:(if x::A++[]=[] then 1 else (0:Nat))=0:=pJ (by simp)
    have e3:(if ([]:List Int)=[] then 1 else (0:Nat))=1:=pN rfl
    rw[qz,qz,qz,e1,e2,e3];lia
   |cons y B =>
    have neq:x≠y:=λq=>by
     have h1:=inP x (ag ..);have h2:=inQ y (ag ..);rw[q]at h1;exact ij (h1.symm.trans h2)
    obtain⟨c,hc,hx⟩:=Cs mp2 ln2 (x:=x) (by simp)
    obtain⟨c',hc',hy⟩:=Cs mp2 ln2 (x:=y) (by simp)
    by_cases cc:c=c'
    .subst cc;obtain⟨L3,s1,s2⟩:=N2 ln2 mp2 neq hc hx hy;refine⟨LM,L3,lnM,s1.congr pcW,.inl ?_⟩;rw[nLM,nLW,s2]
    .obtain ⟨L3,s1,s2,dd,hd,hxd,hyd⟩:=ln2.join mp2.hn hc hc' cc hx hy;have lnW:=s1.congr pcW;refine⟨LM,L3,lnM,lnW,.inr ⟨?_,?_⟩⟩
     .rw [nLM,nLW];exact s2
     .have rc:=N8 hw lnW hd hxd hyd;rw[inP x (ag ..),inQ y (ag ..)]at rc;unfold K43.Mh;rw[plz,plz'];exact @decide_eq_false _ (aV _) λn=>n rc
theorem Wg:∀(n:Nat) {M:List (List Int)},M.flatten.length=n->Mp M->(∀e∈M.flatten,e≠0)->M.length<=900->∀{kn:List Nat}{PS:List (List Nat)},Ps M M.length kn PS->∀{LL:List (List Int)},Ln M LL->∃g:Nat,4*PS.length+n=2*M.length+2*nL M LL+4*g:=by
 intro n
 induction n using gF with
 |_ n ih =>
  intro M hn hm nz hl kn PS hp LL ln;cases hfl:M.flatten with
  |nil =>
   rw[hfl]at hn;have allE:M.count []=M.length:=List.count_eq_length.mpr λr hr=>(iA.mp hfl r hr).symm
   have eL:LL=[]:=by
    cases LL with
    |nil=>rfl
    |cons c LL =>
     obtain⟨a,l,e⟩:=sV (ln.ne c (ag ..));have:=(ln.flat hm.hneg hm.hn).mem_iff (a:=a);rw[hfl]at this;exact absurd (this.mp (by rw[e];simp)) (by simp)
   have i1:=yY hm hp (l:=emp M) ⟨λk hk=>(AY.mp hk).1,by
    have nd:(emp M).Nodup:=aY.sublist eN iq;refine aY.imp_of_mem (λ{x y} hx hy n h=>n ?_) (aJ.mp nd)
    exact(B7 h (AY.mp hx).2).symm⟩
   rw[B4]at i1;have bM:bare M=M.length:=by
    unfold bare;rw[List.countP_eq_length];intro r hr;have:=iA.mp hfl r hr;simp[this]
   have i2:=hp.len;refine⟨0,?_⟩;rw[dX]at hn;unfold nL;rw[eL,dX];lia
  |cons z rest =>
   have hz:z∈M.flatten:=by rw[hfl];exact ag ..
   have z0:=nz z hz;have hne:z ≠ -z:=by lia
   have hw:=zJ (z:=z) hm;obtain⟨L1,L2,a1,a2,hc⟩:=U5 hm hl hz hne;rw[←Ln.one hm ln a1]at hc;obtain⟨kW,PW,hW,_⟩:=K51.Bv (Ei hw);have cz:(K23.C z M).flatten.length+2=n:=by
    have pm:M.flatten.Perm (z :: -z::(K23.C z M).flatten):=by
     rw[bP hm.hn (by
      refine aq.mpr ⟨?_,aq.mpr ⟨λh=>(yX.mp h).2.2 rfl,hw.hn⟩⟩
      intro h;rcases ae.mp h with q|q
      .exact hne q
      .exact (yX.mp q).2.1 rfl)]
     intro x;rw[ae,ae,yX];constructor
     .intro h
      by_cases q1:x=z
      .exact .inl q1
      .by_cases q2:x = -z
       .exact .inr (.inl q2)
       .exact .inr (.inr ⟨h,q1,q2⟩)
     .rintro (q|q|q)
      .rw [q];exact hz
      .rw [q];exact hm.hneg z hz
      .exact q.1
    have:=pm.length_eq;rw[lCq,lCq]at this;lia
   have x3:PW.length=PS.length+(if Mh M z=true then 1 else 0):=by
    unfold K43.Mh
    by_cases q:sG (K23.C z M) (plc M z) (plc M (-z))
    .rw [K43.FZ hm hz q hp hW,pJ (by simp[q])]
     rfl
    .rw [K43.FK hm hz q hp hW,pN (by simp[q])]
   obtain⟨g,eq⟩:=ih (K23.C z M).flatten.length (by lia) rfl hw (λe he=>nz e (yX.mp he).1) (by rw[yK];exact hl) hW a2
   rw[yK]at eq;rcases hc with c1|⟨c1,c2⟩
   .by_cases q:Mh M z=true
    .rw [pN q]at x3;exact⟨g,by lia⟩
    .rw [pJ q]at x3;exact⟨g+1,by lia⟩
   .rw [c2,pJ (by simp)]at x3
    exact⟨g,by lia⟩
end
end K18
namespace K17
open PySem L2 Mr Z Xe Zl
open K15 (nx fw Bw ZA)
open K25 (Rt ZG pz)
open K43 (Ei R8 BW vq yX zJ Gp yK Mh Xj yY emp B4 AY B7)
open K51 (sG Ps Pc)
end K17
namespace K19
open PySem L2 Mr Z
def KZ:MS:=(qa (pH Zl.pQ (oH (qM (wm (oQ 0)) [] qt (Xg (sR 0))) oW)))
def PQ:MF:=rB 1 1 KZ
end K19
namespace K17
open PySem L2 Mr Z
def Hr:MS:=(qa (kSc (pK UV (rOf (pH K43.AI (oH (oQ 0) oW))) (rC (.int 4)))))
def LF:MF:=rB 1 1 Hr
def CG:MS:=(wt (rp (pK (Gq false) (DV xk (oy 5)) (oy 6))) (oE (WB 2 (oy 6)) (uV 3 (oQ 6))) pU)
def DG:MS:=(xg 6 (vJ (sR 2)) CG)
def DA:MS:=(oE (xg 5 (Qx (sR 3) (oy 4)) DG) (oS 4 (kSc (pK xx (oy 4) (rC (.int 1))))))
def DH:MS:=(oE (WM 3 (vw 2 (rC (.int 0)))) (oE (oS 4 (kSc (rC (.int 0)))) (oE (qT (rp (pK S8 (oy 4) (rP ql (ot (oy 3) oC)))) DA 100000) (uV 1 (oQ 3)))))
def FF:MS:=(oE (oS 1 (rQ oW))
 (oE (oS 2 (vJ (sR 0)))
 (oE (qT (QQ (oy 2)) DH 100000)
 (qa (zi 1)))))
def Gj:MF:=rB 1 7 FF
end K17
--ZQ3 --ZQ4 --ZQ5 --ZQ6 --ZQ8 --ZQ9 --ZQB --ZQC --ZQD --ZQE --ZQF
namespace K51
open PySem L2 Mr Z Xe Zl
end K51
namespace K11
open PySem L2 Mr Z Xe Zl K12
theorem K6{p:List (List Int)}(h:Cn p) (hb:[]∈p) (hn:p.flatten.Nodup):p=[[]]:=by
 obtain⟨k,hk⟩:=ar.mp hb;have hlt:=(gSq.mp hk).1;have hkD:p.getD k []=[]:=by rw[gDq,hk];rfl
 have h0:k=0:=by
  by_cases q:0<k
  .obtain ⟨j,e,_,_,h3⟩:=h.tr k q hlt;rw[hkD]at h3;cases h3
  .lia
 subst h0
 by_cases q:1<p.length
 .obtain ⟨j,e,h1,h2,_⟩:=h.tr 1 (by lia) q
  have:j=0:=by lia
  rw[this,hkD]at h2;cases h2
 .cases p with
  |nil=>cases hb
  |cons a p =>
   cases p with
   |nil =>
    have:a=[]:=aD.inj hk;rw[this]
   |cons b p=>exact absurd (show 1<(a::b::p).length by simp) q
section
variable {P:List (List (List Int))}
theorem Hi:∀{P:List (List (List Int))},P.flatten.flatten.Nodup->∀{p q:List (List Int)}{e:Int},p∈P->q∈P->e∈p.flatten->e∈q.flatten->p=q
 | [],_,p,q,e,hp,_,_,_=>by cases hp
 |a::P,h,p,q,e,hp,hq,h1,h2=>by
  rw[fCq,fAq,nAq]at h;have inP:∀{r:List (List Int)},r∈P->e∈r.flatten->e∈P.flatten.flatten:=λ{r} hr hr'=>by
   obtain⟨l,hl,hel⟩:=mFq.mp hr';exact mFq.mpr ⟨l,mFq.mpr ⟨r,hr,hl⟩,hel⟩
  rcases ae.mp hp with e1|e1
  .rcases ae.mp hq with e2|e2
   .rw [e1,e2]
   .rw [e1]at h1;exact absurd rfl (h.2.2 e h1 e (inP e2 h2))
  .rcases ae.mp hq with e2|e2
   .rw [e2]at h2;exact absurd rfl (h.2.2 e h2 e (inP e1 h1))
   .exact Hi h.2.1 e1 e2 h1 h2
theorem getD_mem{p:List (List Int)}{k:Nat}{e:Int}(h:e∈p.getD k []):p.getD k []∈p:=by
 rw[gDq]at h ⊢;cases q:p[k]? with
 |none=>rw[q]at h;cases h
 |some r=>exact mGq q
end
end K11
--ZQ3 --ZQ4 --ZQ5 --ZQ6 --ZQ8 --ZQ9 --ZQB --ZQC --ZQD --ZQE --ZQF --ZQG
namespace K17
open PySem L2 Mr Z Xe Zl
def stp(s:List (List Int)×List (List Int)) (e:Int):List (List Int)×List (List Int):=match s.1.find? λt=>decide (-e∈t) with
 |some t=>(s.1.erase t,s.2++[t])
 |none=>s
theorem Rc{L:List (List Int)}(hn:L.flatten.Nodup) {i j:Nat}{r s:List Int}{e:Int}(hi:L[i]?=some r) (hj:L[j]?=some s) (h1:e∈r) (h2:e∈s):i=j:=same_place hn hi hj h1 h2
end K17
--ZQ3 --ZQ4 --ZQ5 --ZQ6 --ZQ8 --ZQ9 --ZQB --ZQC --ZQD --ZQE --ZQF --ZQG
namespace K17
open PySem L2 Mr Z Xe Zl
theorem zd{L M:List (List Int)}(h:L.Perm M):L.flatten.Perm M.flatten:=by
 induction h with
 |nil=>exact .refl _
 |cons a _ ih=>rw[fCq,fCq];exact ih.append_left a
 |swap a b l =>
  rw[fCq,fCq,fCq,fCq,←ah,←ah];exact aL.append_right _
 |trans _ _ h1 h2=>exact h1.trans h2
end K17
--ZQ3 --ZQ4 --ZQ5 --ZQ6 --ZQ8 --ZQ9 --ZQB --ZQC --ZQD --ZQE --ZQF --ZQG
namespace K17
open PySem L2 Mr Z Xe Zl
section
variable {v0 v1:Option AV}
abbrev oG(G:List (List (List Int))):AV:=.ow (G.map λp=>.sh (dM p))
end
end K17
namespace K17
open PySem L2 Mr Z Xe Zl
open K51 (sG Ps Pc)
theorem CN:∀{A:List (List (List Int))},(∀p∈A,([]:List Int)∈p->p=[[]])->A.flatten.count []=A.countP λp=>decide (p=[[]])
 | [],_=>rfl
 |p::A,h=>by
  rw[fCq,cAq,CN λq hq=>h q (mCo _ hq),List.countP_cons]
  by_cases c:([]:List Int)∈p
  .rw [h p (ag ..) c];simp;lia
  .rw [dP.mpr c,pJ (by
    simp only[decide_eq_true_eq];intro e;exact c (by rw[e];simp))]
   lia
theorem HC{a b:List Int}(h:∀y,y∈a↔y∈b) (ha:a≠[]):∃m,a.min?=some m/\b.min?=some m/\m∈a:=by
 cases e:a.min? with
 |none=>exact absurd (List.min?_eq_none_iff.mp e) ha
 |some m =>
  have q:=(gm (xs:=a)).mp e;exact⟨m,rfl,(gm (xs:=b)).mpr ⟨(h m).mp q.1,λx hx=>q.2 x ((h x).mpr hx)⟩,q.1⟩
theorem HI:∀{A:List (List (List Int))},A.flatten.flatten.Nodup->(∀p∈A,p.flatten≠[])->(A.map λp=>p.flatten.min?).Nodup
 | [],_,_=>aU
 |p::A,h,hne=>by
  rw[fCq,fAq,nAq]at h;rw[au];refine aq.mpr ⟨λm=>?_,HI h.2.1 λq hq=>hne q (mCo _ hq)⟩
  obtain⟨q,hq,e⟩:=mMq.mp m;obtain⟨a,h1,_,h3⟩:=HC (λ_=>Iff.rfl) (hne p (ag ..))
  rw[h1]at e;have:=((gm (xs:=q.flatten)).mp e).1;obtain⟨r,hr,har⟩:=mFq.mp this;exact h.2.2 a h3 a (mFq.mpr ⟨r,mFq.mpr ⟨q,hq,hr⟩,har⟩) rfl
structure Bp (A:List (List (List Int))):Prop where
 nd:A.flatten.flatten.Nodup
 ne:∀p∈A,p≠[]
 ba:∀p∈A,([]:List Int)∈p->p=[[]]
theorem P9{l m:List (List Int)}(h:l.Sublist m):l.flatten.Sublist m.flatten:=by
 induction h with
 |slnil=>exact .refl _
 |cons a _ ih=>rw[fCq];exact ih.trans (List.sublist_append_right ..)
 |cons_cons a _ ih=>rw[fCq,fCq];exact(fe.refl a).append ih
theorem Kl{A:List (List (List Int))}(h:A.flatten.flatten.Nodup) (f:List (List Int)->Bool):(A.filter f).flatten.flatten.Nodup:=by
 rw[iS]at h ⊢;exact h.sublist (P9 (eN.map _))
theorem Bp.fne{A:List (List (List Int))}(h:Bp A) {p:List (List Int)}(hp:p∈A) (hb:p≠[[]]):p.flatten≠[]:=λz=>by
 cases p with
 |nil=>exact h.ne _ hp rfl
 |cons a p =>
  rw[fCq]at z;have:a=[]:=(fU.mp z).1;subst this;exact hb (h.ba _ hp (ag ..))
theorem VU{A B:List (List (List Int))}(hA:Bp A) (hB:Bp B) (hs:∀x,x∈A.flatten.flatten->x∈B.flatten.flatten) (sh:∀p∈A,∀q∈B,∀x,x∈p.flatten->x∈q.flatten->∀y,y∈p.flatten↔y∈q.flatten) {k:Option Int}(hk:k∈(A.filter λp=>!decide (p=[[]])).map λp=>p.flatten.min?):k∈(B.filter λp=>!decide (p=[[]])).map λp=>p.flatten.min?:=by
 obtain⟨p,hp,e⟩:=mMq.mp hk;obtain⟨hp,hb⟩:=aQ.mp hp;have hb':p≠[[]]:=by simpa using hb
 obtain⟨m,e1,_,hm⟩:=HC (λ_=>Iff.rfl) (hA.fne hp hb')
 obtain⟨r,hr,hmr⟩:=mFq.mp hm;obtain⟨r',hr',hmr'⟩:=mFq.mp (hs m (mFq.mpr ⟨r,mFq.mpr ⟨p,hp,hr⟩,hmr⟩));obtain⟨q,hq,hrq⟩:=mFq.mp hr';have hmq:m∈q.flatten:=mFq.mpr ⟨r',hrq,hmr'⟩;obtain⟨m',e2,e3,_⟩:=HC (sh p hp q hq m hm hmq) (hA.fne hp hb');rw[←e];refine mMq.mpr ⟨q,aQ.mpr ⟨hq,?_⟩,by rw[e2,e3]⟩
 have:q≠[[]]:=λz=>by rw[z]at hmq;simp at hmq
 simpa using this
theorem Eg{A B:List (List (List Int))}(hA:Bp A) (hB:Bp B) (hs:∀x,x∈A.flatten.flatten↔x∈B.flatten.flatten) (sh:∀p∈A,∀q∈B,∀x,x∈p.flatten->x∈q.flatten->∀y,y∈p.flatten↔y∈q.flatten) (hc:A.flatten.count []=B.flatten.count []):A.length=B.length:=by
 have k1:=HI (Kl hA.nd λp=>!decide (p=[[]])) λp hp=>hA.fne (aQ.mp hp).1 (by simpa using (aQ.mp hp).2)
 have k2:=HI (Kl hB.nd λp=>!decide (p=[[]])) λp hp=>hB.fne (aQ.mp hp).1 (by simpa using (aQ.mp hp).2)
 have pm:=((bP k1 k2).mpr λk=>⟨VU hA hB (λx=>(hs x).mp) sh,VU hB hA (λx=>(hs x).mpr) λp hp q hq x h1 h2 y=>(sh q hq p hp x h2 h1 y).symm⟩).length_eq
 rw[lMq,lMq,←cK,←cK]at pm;rw[CN hA.ba,CN hB.ba]at hc;have l1:=eE (l:=A) λp=>decide (p=[[]])
 have l2:=eE (l:=B) λp=>decide (p=[[]])
 have f:(λp:List (List Int)=>!decide (p=[[]]))=λp=>decide ¬ (decide (p=[[]])=true):=by
  funext p
  by_cases c:p=[[]] <;> simp[c]
 rw[f]at pm;lia
abbrev cls(M:List (List Int)) (PS:List (List Nat)):List (List (List Int)):=PS.map λps=>ps.map λk=>M.getD k []
section
variable {M:List (List Int)}{kn:List Nat}{PS:List (List Nat)}
theorem WI{S:Int->Prop}(hm:K51.Mp M) (hneg:∀x,S x->S (-x)) (hrow:∀r∈M,∀x∈r,∀y∈r,S x->S y) {a b:Nat}(h:sG M a b) (ha:∀x∈M.getD a [],S x):∀y∈M.getD b [],S y:=by
 induction h with
 |base=>exact ha
 | @step k r e _ h1 h2 ih =>
  intro y hy;have hD:M.getD k []=r:=by rw[gDq,h1];rfl
  have s1:=hneg e (ih e (by rw[hD];exact h2))
  have he:e∈M.flatten:=mFq.mpr ⟨r,mGq h1,h2⟩;obtain⟨r',hr',her'⟩:=hm.at (hm.hneg e he);have hD':M.getD (K51.plc M (-e)) []=r':=by rw[gDq,hr'];rfl
  rw[hD']at hy;exact hrow r' (mGq hr') _ her' y hy s1
theorem Cg{ps:List Nat}{s:Nat}(hm:K51.Mp M) (pc:Pc M s ps) {x:Int}:x∈(ps.map λk=>M.getD k []).flatten↔∃k,sG M s k/\x∈M.getD k []:=by
 rw[mFq];constructor
 .rintro ⟨r,hr,hx⟩;obtain⟨k,hk,rfl⟩:=mMq.mp hr;exact⟨k,(pc.iff k).mp hk,hx⟩
 .rintro ⟨k,hk,hx⟩;exact⟨_,mMq.mpr ⟨k,(pc.iff k).mpr hk,rfl⟩,hx⟩
theorem Od{S:Int->Prop}{ps:List Nat}{s:Nat}(hm:K51.Mp M) (pc:Pc M s ps) (hneg:∀x,S x->S (-x)) (hrow:∀r∈M,∀x∈r,∀y∈r,S x->S y) {x:Int}(hx:x∈(ps.map λk=>M.getD k []).flatten) (h:S x):∀y∈(ps.map λk=>M.getD k []).flatten,S y:=by
 intro y hy;obtain⟨a,ha,hxa⟩:=(Cg hm pc).mp hx;obtain⟨b,hb,hyb⟩:=(Cg hm pc).mp hy;exact WI hm hneg hrow ((ha.symm hm).trans hb) (λz hz=>hrow _ (K11.getD_mem hxa) x hxa z hz h) y hyb
theorem Ad{ps:List Nat}{s:Nat}(hm:K51.Mp M) (pc:Pc M s ps) {x:Int}(hx:x∈(ps.map λk=>M.getD k []).flatten):-x∈(ps.map λk=>M.getD k []).flatten:=by
 obtain⟨k,hk,hxk⟩:=(Cg hm pc).mp hx;have hr:M[k]?=some (M.getD k []):=by
  rw[gDq]at hxk ⊢;cases q:M[k]? with
  |none=>rw[q]at hxk;cases hxk
  |some r=>rfl
 obtain⟨r',hr',her'⟩:=hm.at (hm.hneg x (mFq.mpr ⟨_,mGq hr,hxk⟩));refine(Cg hm pc).mpr ⟨_,.step hk hr hxk,?_⟩;rw[gDq,hr'];exact her'
theorem EK{ps:List Nat}{s:Nat}(hm:K51.Mp M) (pc:Pc M s ps) {r:List Int}(hr:r∈M) {x y:Int}(hx:x∈r) (hy:y∈r) (h:x∈(ps.map λk=>M.getD k []).flatten):y∈(ps.map λk=>M.getD k []).flatten:=by
 obtain⟨t,ht,hxt⟩:=mFq.mp h;obtain⟨k,hk,rfl⟩:=mMq.mp ht;have h2:=K11.getD_mem hxt;obtain⟨i,hi⟩:=ar.mp hr;obtain⟨j,hj⟩:=ar.mp h2;have:=Rc hm.hn hi hj hx hxt;subst this;rw[hi]at hj;refine mFq.mpr ⟨_,ht,?_⟩;rw[←aD.inj hj];exact hy
theorem Ik(hm:K51.Mp M) (hp:Ps M M.length kn PS):Bp (cls M PS):=by
 have pm:=K12.wL hp;refine⟨(zd pm).nodup_iff.mpr hm.hn,λp h=>?_,λp h hb=>?_⟩
 .obtain ⟨ps,hps,rfl⟩:=mMq.mp h;obtain⟨s,hs,pc⟩:=hp.pc ps hps;intro z;have m:s∈ps:=(pc.iff s).mpr .base;rw[List.map_eq_nil_iff.mp z]at m;cases m
 .obtain ⟨ps,hps,rfl⟩:=mMq.mp h;obtain⟨s,hs,pc⟩:=hp.pc ps hps;obtain⟨k,hk,ek⟩:=mMq.mp hb;have hk1:=pc.lt k hk;have hk2:M[k]?=some []:=by
   rw[gDq,gEg hk1]at ek;rw[gEg hk1];exact congrArg some ek
  have only:∀j,sG M k j->j=k:=λj hj=>by
   induction hj with
   |base=>rfl
   |step _ a b ih =>
    rw[ih,hk2]at a;cases a;cases b
  have all:∀j∈ps,j=k:=λj hj=>only j ((((pc.iff k).mp hk).symm hm).trans ((pc.iff j).mp hj))
  have nd:=pc.nd;have e:ps=[k]:=by
   match ps,hk,all,nd with
   | [a],_,all,_=>rw[all a (by simp)]
   |a::b::l,_,all,nd=>exact absurd ((all a (by simp)).trans (all b (by simp)).symm) (λz=>(aq.mp nd).1 (by rw[z];simp))
  rw[e];show [M.getD k []]=[[]];rw[ek]
theorem Ib{N:List (List Int)}{kn':List Nat}{PS':List (List Nat)}(hm:K51.Mp M) (hn:K51.Mp N) (hp:Ps M M.length kn PS) (hp':Ps N N.length kn' PS') (hs:∀x,x∈M.flatten↔x∈N.flatten) (hb:M.count []=N.count []) (h1:∀S:Int->Prop,(∀x,S x->S (-x))->(∀r∈N,∀x∈r,∀y∈r,S x->S y)->∀r∈M,∀x∈r,∀y∈r,S x->S y) (h2:∀S:Int->Prop,(∀x,S x->S (-x))->(∀r∈M,∀x∈r,∀y∈r,S x->S y)->∀r∈N,∀x∈r,∀y∈r,S x->S y):PS.length=PS'.length:=by
 have pm:=K12.wL hp;have pm':=K12.wL hp';have:=Eg (Ik hm hp) (Ik hn hp') (λx=>((zd pm).mem_iff.trans (hs x)).trans (zd pm').mem_iff.symm) (λp h q h' x hx hx' y=>by
  obtain⟨ps,hps,rfl⟩:=mMq.mp h;obtain⟨s,_,pc⟩:=hp.pc ps hps;obtain⟨qs,hqs,rfl⟩:=mMq.mp h';obtain⟨t,_,qc⟩:=hp'.pc qs hqs;exact⟨Od hm pc (λz hz=>Ad hn qc hz) (h1 (· ∈ (qs.map λk=>N.getD k []).flatten) (λz hz=>Ad hn qc hz) λr hr a ha b hb h=>EK hn qc hr ha hb h) hx hx' y,Od hn qc (λz hz=>Ad hm pc hz) (h2 (· ∈ (ps.map λk=>M.getD k []).flatten) (λz hz=>Ad hm pc hz) λr hr a ha b hb h=>EK hm pc hr ha hb h) hx' hx y⟩) (by rw[pm.count_eq,pm'.count_eq,hb])
 rwa [lMq,lMq]at this
end
end K17
namespace K45
open PySem L2 Mr Z
end K45
--ZQ3 --ZQ4 --ZQ5 --ZQ6 --ZQ8 --ZQ9 --ZQB --ZQC --ZQD --ZQE --ZQF --ZQG
namespace K41
open PySem L2 Mr Z Xe Zl
def thn(g t:List Int):List Int:=t.filter λe=>!decide (e∈g)
theorem QM(g t:List Int) (ht:t.length<=1000):K23.vE [dI t,.list (g.map D.int)]=some (aI (thn g t)):=by
 have h:qR (rp (pK (Gq true) (oy 0) (oy 1))) (oQ 0) [some (.sh (.list (g.map D.int)))] (t.map D.int)=some ((thn g t).map λn=>.sh (.int n)):=by
  rw[Z.yx (λd=>match d with|.int e=>!decide (e∈g)|_=>false) (λd=>.sh d)]
  .rw [jB,mPq];rfl
  .intro d hd;obtain⟨e,_,rfl⟩:=mMq.mp hd;have h:=OC true e g;rw[pN rfl]at h;refine⟨[some (.sh (.int e)),some (.sh (.list (g.map D.int)))],?_,λ_=>⟨[some (.sh (.int e)),some (.sh (.list (g.map D.int)))],?_⟩⟩
   .simp_arith [h]
   .simp_arith []
 have hl2:t.length<=rh:=tK (by lia)
 simp_arith [K23.vE,K23.DO,dI,h,hl2]
def Cr(g:List Int) (M:List (List Int)):List (List Int):=M.map (thn g)
theorem RM(g:List Int) {rs:List (List Int)}(hr:∀r∈rs,r.length<=1000):qR qt (pH K23.vE (oH (oQ 0) (oH (oQ 1) oW))) [some (.sh (.list (g.map D.int)))] (rs.map dI)=some ((Cr g rs).map aI):=by
 rw[Z.sk λd=>aI (thn g (D5 d))]
 .rw [DR λr=>aI (thn g r)]
  unfold Cr;rw[mPq];rfl
 .intro d hd;obtain⟨r,hr',rfl⟩:=Iz hd;refine⟨[some (.sh (dI r)),some (.sh (.list (g.map D.int)))],?_⟩
  simp_arith [QM g r (hr r hr'),xM]
theorem Pb(R:List Int):qR qt (kSc (DV xk (oy 0))) [] (R.map D.int)=some ((R.map λz=>-z).map λn=>.sh (.int n)):=by
 rw[Z.sk (λd=>match d with|.int i=>AV.sh (.int (-i))|_=>.sh .non)]
 .rw [mPq,mPq];rfl
 .intro d hd;obtain⟨e,_,rfl⟩:=mMq.mp hd;refine⟨[some (.sh (.int e))],?_⟩
  simp_arith []
variable {M:List (List Int)}
theorem IE(hm:Mp M) (R:List Int) (hR:R.length<=1000):K43.sH [dM M,.list (R.map D.int)]=some (.ow ((Cr (R++R.map λz=>-z) M).map aI)):=by
 have nc:=Pb R;have wc:=RM (R++R.map λz=>-z) (rs:=M) λr hr=>by have:=PD hr;have:=hm.hl;lia
 have l1:M.length<=rh:=tK (by have:=hm.hr;lia)
 have l2:R.length<=rh:=tK (by lia)
 have l3:R.length+R.length<=rh:=tK (by lia)
 have q:R.map D.int++(R.map λz=>-z).map D.int=(R++R.map λz=>-z).map D.int:=by rw[mBq]
 simp_arith [K43.sH,K43.xy,nc,q,wc,l1,l2,l3]
theorem Nh(g:List Int) (M:List (List Int)):(Cr g M).flatten=thn g M.flatten:=by
 unfold Cr thn
 induction M with
 |nil=>rfl
 |cons r M ih=>rw[au,fCq,fCq,ih,dQ]
theorem CY(hm:Mp M) {g:List Int}(hg:∀e, -e∈g->e∈g):Mp (Cr g M):=by
 have e:=Nh g M;refine⟨?_,?_,by unfold Cr;rw[lMq];exact hm.hr,λz hz=>?_⟩
 .rw [e];exact hm.hn.filter _
 .rw [e];exact bY (cY _ _) hm.hl
 .rw [e]at hz ⊢;obtain⟨h1,h2⟩:=aQ.mp hz;refine aQ.mpr ⟨hm.hneg z h1,?_⟩;simp only[fM,decide_eq_false_iff_not]at h2 ⊢;exact λh=>h2 (hg z h)
def Ht:AV->Option (List (oU×List Int))
 | .owl k=>some k
 | .owd []=>some []
 |_=>none
theorem Om(S:AS) (i:Nat):uB S i=S[i]?.join.bind Ht:=by
 unfold uB;cases S[i]?.join with
 |none=>rfl
 |some a =>
  cases a with
  |owd k=>cases k <;> rfl
  |_=>rfl
theorem Gu(k:List (oU×List Int)):Ht (.owl k)=some k:=rfl
def yp(kvs:List (oU×List Int)):List (List Int):=kvs.map λx=>x.2
theorem Hg{k:oU}{m:Int}:∀{kvs:List (oU×List Int)},(∃x∈kvs,x.1=k)->(yp (vd kvs k m)).flatten.Perm (m::(yp kvs).flatten)/\∀x∈vd kvs k m,x∈kvs∨∃l,x.2=l++[m]
 | [],h=>by obtain⟨x,hx,_⟩:=h;cases hx
 |y::r,h=>by
  by_cases c:y.1=k
  .rw [vd,pN c];refine⟨?_,λx hx=>?_⟩
   .show ((y.2++[m])++(yp r).flatten).Perm (m::(y.2++(yp r).flatten));rw[ah];exact dO
   .rcases ae.mp hx with rfl|hx
    .exact .inr ⟨_,rfl⟩
    .exact .inl (mCo _ hx)
  .rw [vd,pJ c];obtain⟨x,hx,e⟩:=h;have hx':x∈r:=by
    rcases ae.mp hx with rfl|hx
    .exact absurd e c
    .exact hx
   obtain⟨i1,i2⟩:=Hg (k:=k) (m:=m) ⟨x,hx',e⟩;refine⟨?_,λx hx=>?_⟩
   .show (y.2++(yp (vd r k m)).flatten).Perm (m::(y.2++(yp r).flatten));exact(bj.append_left _ i1).trans dO
   .rcases ae.mp hx with rfl|hx
    .exact .inl (ag ..)
    .exact (i2 x hx).imp (mCo _) id
theorem EH{k:oU}{m:Int}{l:List Int}:∀{kvs:List (oU×List Int)},(∀x∈kvs,x.1≠k)->vd (kvs++[(k,l)]) k m=kvs++[(k,l++[m])]
 | [],_=>by simp[vd]
 |y::r,h=>by
  rw[cJ,vd,pJ (h y (ag ..)),EH λx hx=>h x (mCo _ hx)]
  rfl
theorem Nt{kvs:List (oU×List Int)}(k:oU) (m:Int) (ne:∀x∈kvs,x.2≠[]):(yp (vd (EM kvs k) k m)).flatten.Perm (m::(yp kvs).flatten)/\(∀x∈vd (EM kvs k) k m,x.2≠[])/\∀x∈EM kvs k,x∈kvs∨x.2=[]:=by
 unfold EM
 by_cases c:(kvs.any λx=>decide (x.1=k))=true
 .rw [pN c];obtain⟨x,hx,e⟩:=dN.mp c;obtain⟨i1,i2⟩:=Hg (m:=m) ⟨x,hx,of_decide_eq_true e⟩;refine⟨i1,λx hx=>?_,λx hx=>.inl hx⟩
  rcases i2 x hx with z|⟨l,z⟩
  .exact ne x z
  .rw [z];simp
 .rw [pJ c];have nk:∀x∈kvs,x.1≠k:=λx hx e=>c (dN.mpr ⟨x,hx,decide_eq_true e⟩)
  rw[EH nk];refine⟨?_,λx hx=>?_,λx hx=>?_⟩
  .unfold yp;rw[mBq,fAq];show ((yp kvs).flatten++([]++[m])).Perm (m::(yp kvs).flatten);exact aL
  .rcases mAq.mp hx with z|z
   .exact ne x z
   .rw [mSq.mp z];simp
  .rcases mAq.mp hx with z|z
   .exact .inl z
   .rw [mSq.mp z];exact .inr rfl
theorem Aq:∀{kvs:List (oU×List Int)},(∀x∈kvs,x.2≠[])->kvs.length<=(yp kvs).flatten.length
 | [],_=>af _
 |y::r,h=>by
  have i:=Aq λx hx=>h x (mCo _ hx)
  have:0<y.2.length:=fj.mpr (h y (ag ..));show r.length+1<=(y.2++(yp r).flatten).length;rw[lAq];lia
theorem NA{kvs:List (oU×List Int)}{x:oU×List Int}(h:x∈kvs):x.2.length<=(yp kvs).flatten.length:=PD (mMq.mpr ⟨x,h,rfl⟩)
end K41
--ZQ3 --ZQ4 --ZQ5 --ZQ6 --ZQ8 --ZQ9 --ZQB --ZQC --ZQD --ZQE --ZQF --ZQG
namespace K41
open PySem L2 Mr Z Xe Zl
open K51 (sG Pc)
def ab(i:Int):Int:=if i<0 then -i else i
theorem YQ(i:Int):(if i<0 then -i else i)=ab i:=rfl
def kp(M:List (List Int)) (p:Nat) (e:Int):Bool:=decide (plc M (-e)≠p) || decide (0<e)
theorem JG{k:oU}{m:Int}:∀{kvs:List (oU×List Int)},(vd kvs k m).map (·.1)=kvs.map (·.1)/\∀x∈vd kvs k m,x∈kvs∨(x.1=k/\∃l,x.2=l++[m]/\(k,l)∈kvs)
 | []=>⟨rfl,λx h=>.inl h⟩
 |y::r=>by
  by_cases c:y.1=k
  .rw [vd,pN c];refine⟨rfl,λx hx=>?_⟩
   rcases ae.mp hx with rfl|hx
   .refine .inr ⟨c,y.2,rfl,?_⟩;rw[←c];exact ag ..
   .exact .inl (mCo _ hx)
  .rw [vd,pJ c];obtain⟨i1,i2⟩:=JG (k:=k) (m:=m) (kvs:=r);refine⟨by rw[au,i1];rfl,λx hx=>?_⟩
   rcases ae.mp hx with rfl|hx
   .exact .inl (ag ..)
   .rcases i2 x hx with z|⟨z,l,z1,z2⟩
    .exact .inl (mCo _ z)
    .exact .inr ⟨z,l,z1,mCo _ z2⟩
theorem RV{kvs:List (oU×List Int)}(k:oU) (m:Int) (nk:(kvs.map (·.1)).Nodup):((vd (EM kvs k) k m).map (·.1)).Nodup/\∀x∈vd (EM kvs k) k m,x∈kvs∨(x.1=k/\∃l,x.2=l++[m]/\(l=[]∨(k,l)∈kvs)):=by
 obtain⟨i1,i2⟩:=JG (k:=k) (m:=m) (kvs:=EM kvs k);rw[i1];unfold EM at i2 ⊢
 by_cases c:(kvs.any λx=>decide (x.1=k))=true
 .rw [pN c]at i2 ⊢;exact⟨nk,λx hx=>(i2 x hx).imp id λ⟨a,l,b,d⟩=>⟨a,l,b,.inr d⟩⟩
 .rw [pJ c]at i2 ⊢;have nk2:∀x∈kvs,x.1≠k:=λx hx e=>c (dN.mpr ⟨x,hx,decide_eq_true e⟩)
  refine⟨?_,λx hx=>?_⟩
  .rw [mBq];refine nAq.mpr ⟨nk,by simp,λa ha b hb q=>?_⟩
   obtain⟨x,hx,rfl⟩:=mMq.mp ha;rw[au,fB]at hb;exact nk2 x hx (q.trans (mSq.mp hb))
  .rw [EH nk2]at hx;rcases mAq.mp hx with z|z
   .exact .inl z
   .rw [mSq.mp z];exact .inr ⟨rfl,[],rfl,.inl rfl⟩
structure Hd (P:List (List Int)) (s h:Nat):Prop where
 rc:sG P s h
 le:∀k,sG P s k->h<=k
structure Gi (M P:List (List Int)) (p:Nat) (r:List Int) (L:List Int) (kvs:List (oU×List Int)):Prop where
 per:(L++(yp kvs).flatten).Perm ((r.filter (kp M p)).map ab)
 ne:∀x∈kvs,x.2≠[]
 lo:∀e∈L,e∈r/\0<e/\plc M (-e)=p
 nk:(kvs.map (·.1)).Nodup
 ky:∀x∈kvs,∃h:Nat,x.1 = .inl (h:Int)/\∀z∈x.2,∃e∈r,ab e=z/\plc M (-e)≠p/\Hd P (plc M (-e)) h
section
variable {M P:List (List Int)}{p:Nat}{r r' L:List Int}{kvs:List (oU×List Int)}
theorem Gi.len(h:Gi M P p r L kvs):L.length+(yp kvs).flatten.length<=r.length:=by
 have:=h.per.length_eq;rw[lAq,lMq]at this;have:=cY (kp M p) r;lia
theorem Gi.hang(h:Gi M P p r L kvs) {e:Int}(hk:plc M (-e)≠p) {k:Nat}(hd:Hd P (plc M (-e)) k):Gi M P p (r++[e]) L (vd (EM kvs (.inl (k:Int))) (.inl (k:Int)) (ab e)):=by
 obtain⟨q1,q2,_⟩:=Nt (.inl (k:Int)) (ab e) h.ne;obtain⟨q3,q4⟩:=RV (.inl (k:Int)) (ab e) h.nk;refine⟨?_,q2,λe he=>⟨aw _ (h.lo e he).1,(h.lo e he).2⟩,q3,λx hx=>?_⟩
 rotate_left
 .rcases q4 x hx with z|⟨z,l,z1,z2⟩
  .obtain ⟨g,g1,g2⟩:=h.ky x z;exact⟨g,g1,λy hy=>(g2 y hy).imp λa b=>⟨aw _ b.1,b.2⟩⟩
  .refine ⟨k,z,λy hy=>?_⟩
   rw[z1]at hy;rcases mAq.mp hy with w|w
   .rcases z2 with z2|z2
    .rw [z2]at w;cases w
    .obtain ⟨g,g1,g2⟩:=h.ky _ z2;have:k=g:=by have:=aH.inj g1;lia
     subst this;exact(g2 y w).imp λa b=>⟨aw _ b.1,b.2⟩
   .rw [mSq.mp w];exact⟨e,aj _ (mSq.mpr rfl),rfl,hk,hd⟩
 have:kp M p e=true:=by unfold kp;rw[decide_eq_true hk];rfl
 rw[dQ,eO this,iE,mBq];refine(bj.append_left L q1).trans ?_;refine dO.trans ?_;refine((bj.cons _ h.per)).trans ?_;exact(aL (l₁:=[ab e]))
theorem Gi.loop(h:Gi M P p r L kvs) {e:Int}(hk:plc M (-e)=p) (hp:0<e):Gi M P p (r++[e]) (L++[e]) kvs:=by
 refine⟨?_,h.ne,λy hy=>?_,h.nk,λx hx=>?_⟩
 rotate_left
 .rcases mAq.mp hy with w|w
  .exact ⟨aw _ (h.lo y w).1,(h.lo y w).2⟩
  .rw [mSq.mp w];exact⟨aj _ (mSq.mpr rfl),hp,hk⟩
 .obtain ⟨g,g1,g2⟩:=h.ky x hx;exact⟨g,g1,λy hy=>(g2 y hy).imp λa b=>⟨aw _ b.1,b.2⟩⟩
 have:kp M p e=true:=by unfold kp;rw[decide_eq_true hp,jN]
 rw[dQ,eO this,iE,mBq];have ea:ab e=e:=pJ (by lia)
 rw[ah];refine dO.trans ?_;refine((bj.cons _ h.per)).trans ?_;show (e::_).Perm (_++[ab e]);rw[ea];exact(aL (l₁:=[e]))
theorem Gi.none(h:Gi M P p r L kvs) {e:Int}(hk:plc M (-e)=p) (hp:¬ 0<e):Gi M P p (r++[e]) L kvs:=by
 refine⟨?_,h.ne,λy hy=>⟨aw _ (h.lo y hy).1,(h.lo y hy).2⟩,h.nk,λx hx=>?_⟩
 rotate_left
 .obtain ⟨g,g1,g2⟩:=h.ky x hx;exact⟨g,g1,λy hy=>(g2 y hy).imp λa b=>⟨aw _ b.1,b.2⟩⟩
 have:¬ kp M p e=true:=by unfold kp;rw[decide_eq_false hp,Bool.or_false];simp[hk]
 rw[dQ,dD this,iE,aNq];exact h.per
end
variable {M:List (List Int)}{p:Nat}{r:List Int}
def Qw(M:List (List Int)) (p:Nat) (a3:AV) (L:List Int) (b:AV) (v6 v7:Option AV):AS:=[some (.sh (dM M)),some (.sh (.int (p:Int))),some (.owd (qA 0 M)),some a3,some (.ow ((L.map λe=>[e]).map aI)),some b,v6,v7]
theorem SD(a b:Nat):Jq (.int (a:Int)) (.int (b:Int))=some (.bl (!decide (a=b))):=by
 rw[JY];congr 3;exact decide_eq_decide.mpr Int.ofNat_inj
theorem US(hm:Mp M) (hr:M[p]?=some r) {P:List (List Int)}(hp:Mp P) (hP:P.length=M.length) {i:Nat}{e:Int}(he:r[i]?=some e) {a3 b:AV}{L:List Int}{kvs:List (oU×List Int)}{v6 v7:Option AV}(h3:oP a3=dM P) (hb:Ht b=some kvs) (hi:Gi M P p (r.take i) L kvs) :
  ∃a3' b' L' kvs' v6' v7',sX (Qw M p a3 L b (some (.sh (.int e))) v7)=some (.nx (Qw M p a3' L' b' v6' v7'))/\oP a3'=dM P/\Ht b'=some kvs'/\Gi M P p (r.take (i+1)) L' kvs':=by
 have her:e∈r:=mGq he;have heM:e∈M.flatten:=mFq.mpr ⟨r,mGq hr,her⟩;have g:=hm.kv (hm.hneg e heM);have et:r.take (i+1)=r.take i++[e]:=by rw[cB,he];rfl
 rw[et];have rl:=hm.row hr;have gl:=hi.len;have tl:(r.take i).length<=r.length:=by rw[lTq];lia
 have dn:=SD (plc M (-e)) p
 by_cases c:plc M (-e)=p
 .rw [decide_eq_true c]at dn
  by_cases c2:0<e
  .refine ⟨a3,b,L++[e],kvs,some (.sh (.int e)),some (.sh (.int (plc M (-e):Int))),?_,h3,hb,hi.loop c c2⟩;have l1:L.length<rh:=aT (show L.length<2000 by lia) (by decide)
   have q:(L.map λe=>[e]).map aI++[.ow [.sh (.int e)]]=((L++[e]).map λe=>[e]).map aI:=by rw[mBq,mBq];rfl
   simp_arith [sX,Qw,g,dn,c2,l1,q]
  .refine ⟨a3,b,L,kvs,some (.sh (.int e)),some (.sh (.int (plc M (-e):Int))),?_,h3,hb,hi.none c c2⟩
   simp_arith [sX,Qw,g,dn,c2]
 .rw [decide_eq_false c]at dn;have hlt:=hm.lt (hm.hneg e heM);obtain⟨ps,pc,re⟩:=K51.Df (rs:=P) ⟨hp.hn,hp.hl,hp.hr,hp.hneg⟩ (s:=plc M (-e)) (by rw[hP];exact hlt)
  have hne:ps≠[]:=λz=>by
   have:=(pc.iff (plc M (-e))).mpr .base;rw[z]at this;cases this
  obtain⟨h,ps',rfl⟩:∃h ps',ps=h::ps':=by
   cases ps with
   |nil=>exact absurd rfl hne
   |cons h ps'=>exact⟨h,ps',rfl⟩
  have hd:Hd P (plc M (-e)) h:=⟨(pc.iff h).mp (ag ..),λk hk=>by
   rcases ae.mp ((pc.iff k).mpr hk) with z|z
   .lia
   .exact (cg.mp pc.so).1 k z⟩
  have ix:∀l:List D,atI (D.int (h:Int)::l) 0=some (.int (h:Int)):=λl=>xO (j:=0) rfl
  obtain⟨_,_,q3⟩:=Nt (kvs:=kvs) (aH (h:Int)) (ab e) hi.ne;refine⟨.sh (dM P),.owl (vd (EM kvs (.inl (h:Int))) (.inl (h:Int)) (ab e)),L,_,some (.sh (.int e)),some (.sh (.int (plc M (-e):Int))),?_,rq _,Gu _,hi.hang c hd⟩;have l1:kvs.length<rh:=aT (show kvs.length<2000 by have:=Aq hi.ne;lia) (by decide)
  have l2:∀l∈EM kvs (.inl (h:Int)),l.2.length<rh:=λl hl=>aT (show l.2.length<2000 by
   rcases q3 l hl with z|z
   .have:=NA z;lia
   .rw [z];decide) (by decide)
  simp_arith [sX,Qw,g,dn,Wr,Om,hb,h3,re,ix,l1,Gu,YQ]
  rw[uR l2]
theorem VE(hm:Mp M) (hr:M[p]?=some r) {P:List (List Int)}(hp:Mp P) (hP:P.length=M.length) {a3 b:AV}(h3:oP a3=dM P) (hb:Ht b=some []) :
  ∃a3' b' L kvs v6 v7,sN 6 sX (r.map D.int) (Qw M p a3 [] b none none)=some (.nx (Qw M p a3' L b' v6 v7))/\Ht b'=some kvs/\Gi M P p r L kvs:=by
 have key:=vk (x:=6) (body:=sX) (λi S=>∃a3 b L kvs v6 v7,S=Qw M p a3 L b v6 v7/\oP a3=dM P/\Ht b=some kvs/\Gi M P p (r.take i) L kvs) (ds:=r.map D.int) (S:=Qw M p a3 [] b none none) ⟨a3,b,[],[],none,none,rfl,h3,hb,by rw[iO];exact⟨.refl _,λx h=>(by cases h),λx h=>(by cases h),aU,λx h=>(by cases h)⟩⟩ (by
  rintro i d S hd ⟨a3,b,L,kvs,v6,v7,rfl,h3,hb,hi⟩;rw[gMq]at hd;obtain⟨e,he,rfl⟩:=oMq.mp hd;obtain⟨a3',b',L',kvs',v6',v7',e1,e2,e3,e4⟩:=US hm hr hp hP he (v6:=v6) (v7:=v7) h3 hb hi;exact⟨_,e1,a3',b',L',kvs',v6',v7',rfl,e2,e3,e4⟩)
 obtain⟨S',e,a3',b',L,kvs,v6,v7,rfl,_,e3,e4⟩:=key;rw[lMq,bA]at e4;exact⟨a3',b',L,kvs,v6,v7,e,e3,e4⟩
theorem O0(l:List Int):qR qt (kSc (rP Jl (ot (oy 0) oC))) [] (l.map D.int)=some ((l.map ab).map λn=>.sh (.int n)):=by
 rw[Z.sk (λd=>match d with|.int i=>AV.sh (.int (ab i))|_=>.sh .non)]
 .rw [mPq,mPq];rfl
 .intro d hd;obtain⟨e,_,rfl⟩:=mMq.mp hd;refine⟨[some (.sh (.int e))],?_⟩
  simp_arith [YQ]
theorem Pt(kvs:List (oU×List Int)):qR qt (yz (sR 0)) [] (kvs.map λx=>D.list (x.2.map D.int))=some ((kvs.map λx=>qH x.2).map aI):=by
 have h:=Z.sk (te:=yz (sR 0)) (cap:=[]) (λd=>aI (qH (D5 d))) (ds:=(kvs.map λx=>dI x.2)) (by
  intro d hd;obtain⟨x,_,rfl⟩:=mMq.mp hd;refine⟨[some (.sh (dI x.2))],?_⟩
  simp_arith [xM,dI])
 rw[mPq]at h ⊢;refine h.trans (congrArg some (mCq λx _=>?_))
 show aI (qH (D5 (dI x.2)))=aI (qH x.2);rw[xM]
theorem C9(hm:Mp M) (hr:M[p]?=some r):∃L kvs,tm [dM M,.int (p:Int)]=some (.ow ((wX ((L.map λe=>[e])++kvs.map λx=>qH x.2)).map aI))/\Gi M (Cr ((r.map ab)++(r.map ab).map λz=>-z) M) p r L kvs:=by
 have hl:=hm.hl;have rl:=hm.row hr;have pa:=AN (rs:=M) hm.hn (by lia)
 have ac:=O0 r;have wo:=IE hm (r.map ab) (by rw[lMq];exact rl)
 have hP:=CY hm (g:=(r.map ab)++(r.map ab).map λz=>-z) (λe h=>by
  rcases mAq.mp h with z|z
  .exact aj _ (mMq.mpr ⟨-e,z,by lia⟩)
  .obtain ⟨y,hy,hz⟩:=mMq.mp z;have:y=e:=by lia
   exact aw _ (this ▸ hy))
 have lP:(Cr ((r.map ab)++(r.map ab).map λz=>-z) M).length=M.length:=lMq ..
 generalize Cr ((r.map ab)++(r.map ab).map λz=>-z) M=P at wo hP lP
 have sP:(P.map aI).map oP=P.map dI:=by rw[mPq];exact mCq λr _=>pI r
 obtain⟨a3,b,L,kvs,v6,v7,e1,hb,gi⟩:=VE hm hr hP lP (a3:=.ow (P.map aI)) (b:=.owd []) (by rw[qO,sP]) rfl
 refine⟨L,kvs,?_,gi⟩;have gl:=gi.len;have kl:=Aq gi.ne;have at1:atI (M.map dI) (p:Int)=some (dI r):=xO (by rw[gMq,hr];rfl)
 have sc:=Pt kvs;have l1:r.length<=rh:=tK (by lia)
 have l2:kvs.length<=rh:=tK (by lia)
 have l3:L.length+kvs.length<=rh:=tK (by lia)
 have q:(L.map λe=>[e]).map aI++(kvs.map λx=>qH x.2).map aI=((L.map λe=>[e])++kvs.map λx=>qH x.2).map aI:=by rw[mBq]
 unfold Qw at e1;simp only[fB]at e1
 simp_arith [tm,Ed,pa,dM,dI,at1,ac,l1,wo,e1,VH,Wp,Om,hb,sc,l2,l3,q,true_and]
end K41
--ZQ3 --ZQ4 --ZQ5 --ZQ6 --ZQ8 --ZQ9 --ZQB --ZQC --ZQD --ZQE --ZQF --ZQG
namespace K41
open PySem L2 Mr Z Xe Zl K31
theorem Sg{a b:List Int}(h:a.Perm b):qH a=qH b:=za ((qC a).trans h) (uW a)
structure Gd (r:List Int) (G:List (List Int)):Prop where
 so:wX (G.map qH)=G
 ne:[]∉G
 fl:qH G.flatten=qH (Ms.dd (r.map ab))
 le:G.length<=1000
 lf:G.flatten.length<=1000
theorem CS{x y:Int}(h:ab x=ab y):x=y∨x = -y:=by
 unfold ab at h;split at h <;> split at h <;> lia
theorem zT(x:Int):ab (-x)=ab x:=by
 unfold ab;split <;> split <;> lia
theorem Qp(L:List Int):(L.map λe=>[e]).flatten=L:=by
 induction L with
 |nil=>rfl
 |cons x L ih=>rw[au,fCq,ih];rfl
theorem NH(kvs:List (oU×List Int)):(kvs.map λx=>qH x.2).flatten.Perm (yp kvs).flatten:=by
 induction kvs with
 |nil=>exact .refl _
 |cons x r ih =>
  show (qH x.2++(r.map λx=>qH x.2).flatten).Perm (x.2++(yp r).flatten)
  exact(qC x.2).append ih
variable {M:List (List Int)}{p:Nat}{r:List Int}
theorem Lx(hm:Mp M) (h0:∀e∈M.flatten,e≠0) (hr:M[p]?=some r):∃G,tm [dM M,.int (p:Int)]=some (.ow (G.map aI))/\Gd r G:=by
 obtain⟨L,kvs,e,gi⟩:=C9 hm hr;refine⟨_,e,?_⟩;have rl:=hm.row hr;have gl:=gi.len;have kl:=Aq gi.ne;have hX:∀x∈(L.map λe=>[e])++kvs.map λx=>qH x.2,qH x=x/\x≠[]:=λx hx=>by
  rcases mAq.mp hx with z|z
  .obtain ⟨y,_,rfl⟩:=mMq.mp z;exact⟨ja.mp (qC [y]),by simp⟩
  .obtain ⟨y,hy,rfl⟩:=mMq.mp z;refine⟨(za (.refl _) (uW _)).symm,λz=>gi.ne y hy ?_⟩
   have:=(qC y.2).length_eq;rw[z]at this;exact bq.mp this.symm
 have hf:((L.map λe=>[e])++kvs.map λx=>qH x.2).flatten.Perm ((r.filter (kp M p)).map ab):=by
  rw[fAq,Qp];exact(bj.append_left L (NH kvs)).trans gi.per
 have lX:((L.map λe=>[e])++kvs.map λx=>qH x.2).length=L.length+kvs.length:=by rw[lAq,lMq,lMq]
 generalize (L.map λe=>[e])++kvs.map (λx=>qH x.2)=X at hX hf lX
 have hp:=se X;have hf2:=(rF hp).trans hf;have hin:∀{e:Int},e∈r->plc M e=p:=λh=>plc_eq hm.hn hr h
 have hM:∀{e:Int},e∈r->e∈M.flatten:=λh=>mFq.mpr ⟨r,mGq hr,h⟩
 refine⟨?_,λh=>(hX [] (hp.mem_iff.mp h)).2 rfl,?_,by rw[hp.length_eq,lX];lia,?_⟩
 .have:(wX X).map qH=wX X:=by
   conv=>rhs;rw[←dR (wX X)]
   exact mCq λx hx=>(hX x (hp.mem_iff.mp hx)).1
  rw[this];exact KM hp
 .refine Sg (hf2.trans ?_);refine(bP ?_ (Ms.JA _)).mpr λx=>?_
  .rw [aJ,bg];have nd:(r.filter (kp M p)).Nodup:=(hm.hn.sublist (aF (mGq hr))).filter _;refine aY.imp_of_mem (λ{a b} ha hb hab h=>?_) nd
   obtain⟨a1,a2⟩:=aQ.mp ha;obtain⟨b1,b2⟩:=aQ.mp hb;rcases CS h with z|z
   .exact hab z
   .have e1:plc M (-a)=p:=by rw[show -a=b by lia];exact hin b1
    have e2:plc M (-b)=p:=by rw[show -b=a by lia];exact hin a1
    unfold kp at a2 b2;simp only[e1,e2,ne_eq,not_true,decide_false,jK,decide_eq_true_eq]at a2 b2;lia
  .rw [Ms.zY];constructor
   .intro h;obtain⟨e,he,rfl⟩:=mMq.mp h;exact mMq.mpr ⟨e,(aQ.mp he).1,rfl⟩
   .intro h;obtain⟨e,he,rfl⟩:=mMq.mp h
    by_cases c:kp M p e=true
    .exact mMq.mpr ⟨e,aQ.mpr ⟨he,c⟩,rfl⟩
    .unfold kp at c;simp only[jz,decide_eq_true_eq,not_or,ne_eq,Decidable.not_not]at c;have hz:=h0 e (hM he);obtain⟨r',h1,h2⟩:=hm.at (hm.hneg e (hM he));rw[c.1,hr]at h1;cases h1;refine mMq.mpr ⟨-e,aQ.mpr ⟨h2,?_⟩,zT e⟩;unfold kp;rw[decide_eq_true (show 0 < -e by lia),jN]
 .rw [hf2.length_eq,lMq];have:=cY (kp M p) r;lia
def FP(n:Nat) (g:Nat->List (List Int)):List Int:=((bN n).filter λk=>decide (2<=(g k).length)).map λk:Nat=>(k:Int)
theorem Pr{g:Nat->List (List Int)}(hl:M.length<=1000) (hg:∀k,k<M.length->tm [dM M,.int (k:Int)]=some (.ow ((g k).map aI))):zh [dM M]=some (aI (FP M.length g)):=by
 have key:qR (rp (pK XA (rP ql (ot (rOf (pH K41.tm (oH (oQ 1) (oH (oQ 0) oW)))) oC)) (rC (.int 2)))) (oQ 0) [some (.sh (dM M))] (pV 0 M.length)=some ((FP M.length g).map λn=>.sh (.int n)):=by
  rw[Z.yx (λd=>match d with|.int e=>decide (2<=(g e.toNat).length)|_=>false) (λd=>.sh d)]
  .unfold pV FP;rw[jB,mPq,mPq];congr 1;have e1:∀k:Nat,((λd=>match d with|D.int e=>decide (2<=(g e.toNat).length)|_=>false)∘λk:Nat=>D.int (0+(k:Int))) k=decide (2<=(g k).length):=λk=>by
    show decide (2<=(g (0+(k:Int)).toNat).length)=_;rw[show (0+(k:Int)).toNat=k by lia]
   rw[jl λk _=>e1 k]
   refine mCq λk _=>?_
   show AV.sh (D.int (0+(k:Int)))=AV.sh (D.int (k:Int));rw[gI]
  .intro d hd;unfold pV at hd;obtain⟨k,hk,rfl⟩:=mMq.mp hd;have hk':=bW.mp hk;rw[gI];have e:=hg k hk';have sg:((g k).map aI).map oP=(g k).map dI:=by rw[mPq];exact mCq λr _=>pI r
   have d2:decide ((2:Int)<=((g k).length:Int))=decide (2<=(g k).length):=decide_eq_decide.mpr (by lia)
   refine⟨[some (.sh (.int (k:Int))),some (.sh (dM M))],?_,λ_=>⟨[some (.sh (.int (k:Int))),some (.sh (dM M))],?_⟩⟩
   .simp_arith [e,sg,d2]
    rfl
   .simp_arith []
 have rg:=vt (n:=M.length) (by lia)
 have l1:(pV 0 M.length).length<=rh:=by rw[pZ];exact tK (by lia)
 simp_arith [zh,GX,dM,rg,l1,key]
theorem IK(n:Nat) (g:Nat->List (List Int)):qH (FP n g)=FP n g:=by
 refine(za (.refl _) ?_).symm;unfold FP;rw[bg];exact(eT.filter _).imp λh=>by lia
theorem RD(n:Nat) (g:Nat->List (List Int)):(FP n g).length<=n:=by
 unfold FP;rw[lMq];exact bY (cY _ _) (by rw[bh];exact af _)
end K41
--ZQ3 --ZQ4 --ZQ5 --ZQ6 --ZQ8 --ZQ9 --ZQB --ZQC --ZQD --ZQE --ZQF --ZQG
namespace K41
open PySem L2 Mr Z Xe Zl K31
theorem KB(k:Nat):qR qt (rQ oW) [] (pV 0 k)=some ((aB k ([]:List Int)).map aI):=by
 rw[Z.sk λ_=>AV.ow []]
 .rw [List.map_replicate,List.map_const',pZ];rfl
 .intro d hd;refine⟨[some (.sh d)],?_⟩
  simp_arith []
end K41
--ZQ3 --ZQ4 --ZQ5 --ZQ6 --ZQ8 --ZQ9 --ZQB --ZQC --ZQD --ZQE --ZQF --ZQG
namespace K45
open PySem L2 Mr Z Xe Zl K31
def pm(xs:List Int):List Int:=xs.flatMap λx=>[x, -x]
end K45
--ZQ3 --ZQ4 --ZQ5 --ZQ6 --ZQ8 --ZQ9 --ZQB --ZQC --ZQD --ZQE --ZQF --ZQG
namespace K45
open PySem L2 Mr Z Xe Zl K31 K41
end K45
--ZQ3 --ZQ4 --ZQ5 --ZQ6 --ZQ8 --ZQ9 --ZQB --ZQC --ZQD --ZQE --ZQF --ZQG
namespace K45
open PySem L2 Mr Z Xe Zl K31 K41
end K45
--ZQ3 --ZQ4 --ZQ5 --ZQ6 --ZQ8 --ZQ9 --ZQB --ZQC --ZQD --ZQE --ZQF --ZQG
namespace K45
open PySem L2 Mr Z Xe Zl K31 K41
open K51 (sG Pc)
def md(U:List Int) (f:Int->Int):List (oU×D):=U.map λz=>(.inl z,.int (f z))
end K45
--ZQ3 --ZQ4 --ZQ5 --ZQ6 --ZQ8 --ZQ9 --ZQB --ZQC --ZQD --ZQE --ZQF --ZQG
namespace K45
open PySem L2 Mr Z Xe Zl K31 K41
open K51 (sG Pc)
def gr(r:List Int):List Int:=(r.map ab)++(r.map ab).map λz=>-z
theorem Ks(e:Int):ab e=e∨ab e = -e:=by unfold ab;split;exact .inr rfl;exact .inl rfl
theorem Bn{r:List Int}{e:Int}:e∈gr r↔e∈r∨-e∈r:=by
 unfold gr;constructor
 .intro h;rcases mAq.mp h with z|z
  .obtain ⟨x,hx,rfl⟩:=mMq.mp z;rcases Ks x with q|q <;> rw[q]
   .exact .inl hx
   .rw [bw];exact .inr hx
  .obtain ⟨y,hy,rfl⟩:=mMq.mp z;obtain⟨x,hx,rfl⟩:=mMq.mp hy;rcases Ks x with q|q <;> rw[q]
   .rw [bw];exact .inr hx
   .rw [bw];exact .inl hx
 .intro h;have key:∀{x:Int},x∈r->x∈(r.map ab)++(r.map ab).map λz=>-z:=λ{x} hx=>by
   rcases Ks x with q|q
   .exact aw _ (mMq.mpr ⟨x,hx,q⟩)
   .exact aj _ (mMq.mpr ⟨-x,mMq.mpr ⟨x,hx,q⟩,bw x⟩)
  have key2:∀{x:Int},x∈r->-x∈(r.map ab)++(r.map ab).map λz=>-z:=λ{x} hx=>by
   rcases Ks x with q|q
   .exact aj _ (mMq.mpr ⟨x,mMq.mpr ⟨x,hx,q⟩,rfl⟩)
   .exact aw _ (mMq.mpr ⟨x,hx,q⟩)
  rcases h with h|h
  .exact key h
  .have:=key2 h
   rwa [bw]at this
theorem zL{r:List Int}{e:Int}(h:-e∈gr r):e∈gr r:=by
 rcases Bn.mp h with z|z
 .exact Bn.mpr (.inr z)
 .rw [bw]at z;exact Bn.mpr (.inl z)
def Qa(M:List (List Int)) (z:Int) (a:Nat):Prop:=∃e row,M[a]?=some row/\e∈row/\ab e=z
variable {M:List (List Int)}{p:Nat}{r:List Int}
theorem uQ(hm:Mp M) {a b:Nat}{s t:List Int}{e:Int}(h1:M[a]?=some s) (h2:M[b]?=some t) (h3:e∈s) (h4:e∈t):a=b:=by
 rw[←plc_eq hm.hn h1 h3,←plc_eq hm.hn h2 h4]
theorem Fy{g:List Int}{k:Nat}{row:List Int}(h:M[k]?=some row):(Cr g M)[k]?=some (thn g row):=by
 unfold Cr;rw[gMq,h];rfl
theorem Ou{g:List Int}{k:Nat}{row:List Int}(h:(Cr g M)[k]?=some row):∃s,M[k]?=some s/\row=thn g s:=by
 unfold Cr at h;rw[gMq]at h;obtain⟨s,hs,e⟩:=oMq.mp h;exact⟨s,hs,e.symm⟩
theorem Ae{g t:List Int}{e:Int}:e∈thn g t↔e∈t/\e∉g:=by
 unfold K41.thn;rw[aQ,fM,decide_eq_false_iff_not]
theorem Qa.two(hm:Mp M) (hr:M[p]?=some r) {z:Int}{a b:Nat}(h1:Qa M z a) (h2:Qa M z b) (ha:a≠p) (hb:b≠p):sG (Cr (gr r) M) a b:=by
 have mp:=CY hm (g:=gr r) λe h=>zL h
 obtain⟨e,s,hs,he,q⟩:=h1;obtain⟨e',s',hs',he',q'⟩:=h2;rcases CS (q.trans q'.symm) with z|z
 .subst z;rw[uQ hm hs hs' he he'];exact .base
 .have eq:e' = -e:=by lia
  subst eq;have ng:e∉gr r:=λh=>by
   rcases Bn.mp h with z|z
   .exact ha (uQ hm hs hr he z)
   .exact hb (uQ hm hs' hr he' z)
  have ng':-e∉gr r:=λh=>ng (zL h)
  have st:=sG.step (rs:=Cr (gr r) M) (s:=a) .base (Fy hs) (Ae.mpr ⟨he,ng⟩);have:K51.plc (Cr (gr r) M) (-e)=b:=plc_eq mp.hn (Fy hs') (Ae.mpr ⟨he',ng'⟩);rw[this]at st;exact st
def Lk(M:List (List Int)) (r:List Int) (p:Nat) (z z':Int):Prop:=∃a b,a≠p/\b≠p/\Qa M z a/\Qa M z' b/\sG (Cr (gr r) M) a b
theorem Yf(h:Mp M):K51.Mp M:=⟨h.hn,h.hl,h.hr,h.hneg⟩
end K45
--ZQ3 --ZQ4 --ZQ5 --ZQ6 --ZQ8 --ZQ9 --ZQB --ZQC --ZQD --ZQE --ZQF --ZQG
namespace K45
open PySem L2 Mr Z Xe Zl K31 K41
open K51 (sG Pc)
structure XH (E:Int->Int->Prop) (U:List Int) (X:List (List Int)):Prop where
 so:∀x∈X,qH x=x
 ne:∀x∈X,x≠[]
 fl:X.flatten.Perm U
 eq:∀x∈X,∀z∈x,∀z'∈x,E z z'
 on:∀x∈X,∀y∈X,∀z∈x,∀z'∈y,E z z'->x=y
theorem EE:∀{X:List (List Int)},X.flatten.Nodup->(∀x∈X,x≠[])->X.Nodup
 | [],_,_=>aU
 |x::X,h,ne=>by
  rw[fCq]at h;obtain⟨_,h2,h3⟩:=nAq.mp h;refine aq.mpr ⟨λq=>?_,EE h2 λy hy=>ne y (mCo _ hy)⟩
  cases x with
  |nil=>exact ne [] (ag ..) rfl
  |cons z x=>exact h3 z (ag ..) z (mFq.mpr ⟨_,q,ag ..⟩) rfl
theorem flat_one{z:Int}:∀{X:List (List Int)},X.flatten.Nodup->∀{x y:List Int},x∈X->y∈X->z∈x->z∈y->x=y
 | [],_,_,_,h,_,_,_=>by cases h
 |w::X,h,x,y,hx,hy,zx,zy=>by
  rw[fCq]at h;obtain⟨_,h2,h3⟩:=nAq.mp h;rcases ae.mp hx with e1|hx'
  .rcases ae.mp hy with e2|hy'
   .rw [e1,e2]
   .rw [e1]at zx;exact absurd rfl (h3 z zx z (mFq.mpr ⟨y,hy',zy⟩))
  .rcases ae.mp hy with e2|hy'
   .rw [e2]at zy;exact absurd rfl (h3 z zy z (mFq.mpr ⟨x,hx',zx⟩))
   .exact flat_one h2 hx' hy' zx zy
theorem JJ:∀{kvs:List (oU×List Int)},(kvs.map (·.1)).Nodup->∀{x y:oU×List Int},x∈kvs->y∈kvs->x.1=y.1->x=y
 | [],_,_,_,h,_,_=>by cases h
 |w::kvs,h,x,y,hx,hy,e=>by
  rw[au]at h;obtain⟨h1,h2⟩:=aq.mp h;rcases ae.mp hx with e1|hx'
  .rcases ae.mp hy with e2|hy'
   .rw [e1,e2]
   .rw [e1]at e;exact absurd (mMq.mpr ⟨y,hy',e.symm⟩) h1
  .rcases ae.mp hy with e2|hy'
   .rw [e2]at e;exact absurd (mMq.mpr ⟨x,hx',e⟩) h1
   .exact JJ h2 hx' hy' e
theorem Pi{G H:List (List Int)}(h:AV.ow (G.map aI) = .ow (H.map aI)):G=H:=by
 have h2:=congrArg oP h;rw[qO,qO]at h2;have s:∀X:List (List Int),(X.map aI).map oP=X.map dI:=λX=>by rw[mPq];exact mCq λr _=>pI r
 rw[s,s]at h2;have h3:G.map dI=H.map dI:=D.list.inj h2;have h4:=congrArg (List.map D5) h3;rw[mPq,mPq]at h4;have u:∀X:List (List Int),X.map (D5∘dI)=X:=λX=>by
  conv=>rhs;rw[←dR X]
  exact mCq λr _=>xM r
 rwa [u,u]at h4
variable {M:List (List Int)}{p:Nat}{r:List Int}
theorem DP(hm:Mp M) (h0:∀e∈M.flatten,e≠0) (hr:M[p]?=some r):∃X,tm [dM M,.int (p:Int)]=some (.ow ((wX X).map aI))/\XH (λz z'=>z=z'∨Lk M r p z z') (Ms.dd (r.map ab)) X:=by
 obtain⟨L,kvs,e,gi⟩:=C9 hm hr;refine⟨_,e,?_⟩;have flp:((L.map λe=>[e])++kvs.map λx=>qH x.2).flatten.Perm (Ms.dd (r.map ab)):=by
  obtain⟨G,eG,gd⟩:=Lx hm h0 hr;have:=Pi (aD.inj (e.symm.trans eG));have fl:=gd.fl;rw[←this]at fl;refine(rF (se _)).symm.trans ?_;refine(qC _).symm.trans ?_;rw[fl];exact qC _
 have mp:=CY hm (g:=gr r) λe h=>zL h
 have gi':Gi M (Cr (gr r) M) p r L kvs:=gi
 clear gi
 have hin:∀{e:Int},e∈r->plc M e=p:=λh=>plc_eq hm.hn hr h
 have hM:∀{e:Int},e∈r->e∈M.flatten:=λh=>mFq.mpr ⟨r,mGq hr,h⟩
 have far:∀{e:Int},e∈r->Qa M (ab e) (plc M (-e)):=λ{e} he=>by
  obtain⟨s,hs,h2⟩:=hm.at (hm.hneg e (hM he));exact⟨-e,s,hs,h2,zT e⟩
 have only:∀{e:Int}{a:Nat},e∈r->Qa M (ab e) a->a≠p->a=plc M (-e):=λ{e a} he ⟨e',s,hs,he',q⟩ ha=>by
  rcases CS q with z|z
  .subst z;exact absurd (uQ hm hs hr he' he) ha
  .subst z;exact(plc_eq hm.hn hs he').symm
 refine⟨λx hx=>?_,λx hx=>?_,?_,λx hx z hz z' hz'=>?_,λx hx y hy z hz z' hz' q=>?_⟩
 .rcases mAq.mp hx with z|z
  .obtain ⟨y,_,rfl⟩:=mMq.mp z;exact ja.mp (qC [y])
  .obtain ⟨y,hy,rfl⟩:=mMq.mp z;exact(za (.refl _) (uW _)).symm
 .rcases mAq.mp hx with z|z
  .obtain ⟨y,_,rfl⟩:=mMq.mp z;simp
  .obtain ⟨y,hy,rfl⟩:=mMq.mp z;intro q;have:=(qC y.2).length_eq;rw[q]at this;exact gi'.ne y hy (bq.mp this.symm)
 .exact flp
 .rcases mAq.mp hx with w|w
  .obtain ⟨y,_,rfl⟩:=mMq.mp w;rw[mSq.mp hz,mSq.mp hz'];exact .inl rfl
  .obtain ⟨y,hy,rfl⟩:=mMq.mp w;obtain⟨h,_,hk⟩:=gi'.ky y hy;obtain⟨e1,r1,rfl,p1,d1⟩:=hk z ((qC y.2).mem_iff.mp hz);obtain⟨e2,r2,rfl,p2,d2⟩:=hk z' ((qC y.2).mem_iff.mp hz');exact .inr ⟨_,_,p1,p2,far r1,far r2,d1.rc.trans (d2.rc.symm (Yf mp))⟩
 .-- one key
  have place:∀{x:List Int}{z:Int}{a:Nat},x∈(L.map λe=>[e])++kvs.map (λx=>qH x.2)->z∈x->Qa M z a->a≠p->∃y∈kvs,x=qH y.2/\∃h:Nat,y.1 = .inl (h:Int)/\Hd (Cr (gr r) M) a h:=λ{x z a} hx hz ta ha=>by
   rcases mAq.mp hx with w|w
   .obtain ⟨y,hy,rfl⟩:=mMq.mp w;obtain⟨l1,l2,l3⟩:=gi'.lo y hy;rw[mSq.mp hz,←show ab y=y from pJ (by lia)]at ta
    rw[only l1 ta ha]at ha;exact absurd l3 ha
   .obtain ⟨y,hy,rfl⟩:=mMq.mp w;obtain⟨h,hk1,hk⟩:=gi'.ky y hy;obtain⟨e1,r1,rfl,p1,d1⟩:=hk z ((qC y.2).mem_iff.mp hz);refine⟨y,hy,rfl,h,hk1,?_⟩;rw[only r1 ta ha];exact d1
  rcases q with q|⟨a,b,ha,hb,ta,tb,rc⟩
  .subst q;exact flat_one (flp.nodup_iff.mpr (Ms.JA _)) hx hy hz hz'
  .obtain ⟨y1,i1,rfl,h1,k1,d1⟩:=place hx hz ta ha;obtain⟨y2,i2,rfl,h2,k2,d2⟩:=place hy hz' tb hb;have hh:h1=h2:=Nat.le_antisymm (d1.le _ (rc.trans d2.rc)) (d2.le _ ((rc.symm (Yf mp)).trans d1.rc));rw[JJ gi'.nk i1 i2 (by rw[k1,k2,hh])]
end K45
namespace K46
open PySem L2 Mr Z Xe Zl
open K15 (nx fw vg Bw Fp)
open K16 (Ef)
open K18 (cp PC E2 Ln nL vo Dq xi)
open K41 (ab CS zT Cr thn)
open K45 (gr Bn zL Qa Lk XH uQ Fy Ou Ae)
open K51 (sG Ps)
variable {M:List (List Int)}{p:Nat}{r:List Int}
theorem X5(hm:Mp M) (hr:M[p]?=some r) (inj:∀x∈r,∀y∈r,(∃n,itr (fw M) n x=y)->x=y) {a:Int}(ha:a∈r):ab a=ab (nx M a)∨Lk M r p (ab a) (ab (nx M a)):=by
 have one:=vg hm;have flat:∀{k:Nat}{s:List Int}{e:Int},M[k]?=some s->e∈s->e∈M.flatten:=λhk he=>mFq.mpr ⟨_,mGq hk,he⟩
 have haE:=flat hr ha;have hb:=Dq hm hr ha;generalize hbe:nx M a=b at hb;have hbE:=flat hr hb;obtain⟨l,cy,_,hmin⟩:=one.cy hbE;have hlen:=cy.len;have out:∀j,0<j->j<l.length->itr (fw M) j b∉r:=λj h1 h2 h=>hmin j h1 h2 (inj b hb _ h ⟨j,rfl⟩).symm
 obtain⟨m,em⟩:∃m,l.length=m+1:=⟨l.length-1,by lia⟩
 have back:=cy.back;rw[em]at back;have mE:=one.itr_mem hbE m;have ea:-(itr (fw M) m b)=a:=Fp hm.hn (hm.hneg _ mE) haE (by rw[hbe];exact back)
 by_cases c:m=0
 .subst c;left;rw[←ea];exact zT b
 .right;have nxt:∀{j k:Nat}{s:List Int},M[k]?=some s->itr (fw M) (j+1) b∈s->-(itr (fw M) j b)∈s:=λ{j k s} hk hs=>by
   obtain⟨k',s',hk',hs'⟩:=xi (hm.hneg _ (one.itr_mem hbE j));have h2:itr (fw M) (j+1) b∈s':=Dq hm hk' hs';have:=uQ hm hk hk' hs h2;subst this;rw[hk]at hk';cases hk';exact hs'
  have np:∀{j k:Nat}{s:List Int},0<j->j<l.length->M[k]?=some s->itr (fw M) j b∈s->k≠p:=λh1 h2 hk hs q=>by
   subst q;rw[hk]at hr;cases hr;exact out _ h1 h2 hs
  obtain⟨k1,s1,hk1,hs1⟩:=xi (one.itr_mem hbE 1);have chain:∀j,1<=j->j<=m->∀(k:Nat) (s:List Int),M[k]?=some s->itr (fw M) j b∈s->sG (Cr (gr r) M) k1 k:=by
   intro j
   induction j with
   |zero=>intro h;lia
   |succ j ih =>
    intro h1 h2 k s hk hs
    by_cases j0:j=0
    .subst j0;rw[uQ hm hk1 hk hs1 hs];exact .base
    .obtain ⟨k',s',hk',hs'⟩:=xi (one.itr_mem hbE j);have t1:Qa M (ab (itr (fw M) j b)) k':=⟨_,s',hk',hs',rfl⟩;have t2:Qa M (ab (itr (fw M) j b)) k:=⟨_,s,hk,nxt hk hs,zT _⟩;exact(ih (by lia) (by lia) k' s' hk' hs').trans (t1.two hm hr t2 (np (by lia) (by lia) hk' hs') (np (by lia) (by lia) hk hs))
  obtain⟨km,s2,hkm,hs2⟩:=xi mE;have rc:=chain m (by lia) (af _) km s2 hkm hs2
  have mp:=K41.CY hm (g:=gr r) λe h=>zL h
  refine⟨km,k1,np (by lia) (by lia) hkm hs2,np (by lia) (by lia) hk1 hs1,⟨_,s2,hkm,hs2,?_⟩,⟨_,s1,hk1,nxt hk1 hs1,zT _⟩,rc.symm (K45.Yf mp)⟩
  rw[←ea,zT]
theorem few{X:List (List Int)}{E:Int->Int->Prop}(hm:Mp M) (hr:M[p]?=some r) (fam:XH E (Ms.dd (r.map ab)) X) (h:∀a∈r,E (ab a) (ab (nx M a))):X.length<=1:=by
 have nX:X.flatten.Nodup:=fam.fl.nodup_iff.mpr (Ms.JA _);have inX:∀e∈r,∃x∈X,ab e∈x:=λe he=>mFq.mp (fam.fl.mem_iff.mpr (Ms.zY.mpr (mMq.mpr ⟨e,he,rfl⟩)))
 have step:∀x∈X,∀e∈r,ab e∈x->ab (nx M e)∈x:=λx hx e he hz=>by
  obtain⟨y,hy,h2⟩:=inX _ (Dq hm hr he);rw[fam.on x hx y hy _ hz _ h2 (h e he)];exact h2
 have all:∀x∈X,∀e0,r[0]?=some e0->ab e0∈x->∀(i:Nat) (e:Int),r[i]?=some e->ab e∈x:=by
  intro x hx e0 h0 hz i
  induction i with
  |zero =>
   intro e he;rw[h0]at he;cases he;exact hz
  |succ i ih =>
   intro e he;have hi:=(gSq.mp he).1;have hp:r[i]?=some r[i]:=gEg (by lia)
   have:=step x hx r[i] (gRq _) (ih _ hp);rw[Ef hm.hn (mGq hr) hp (by rw[fi hi];exact he)]at this
   exact this
 have same:∀x∈X,∀y∈X,x=y:=λx hx y hy=>by
  have Co:∀z∈X,∃e0,r[0]?=some e0/\ab e0∈z:=λz hz=>by
   obtain⟨w,w',ew⟩:=K18.sV (fam.ne z hz);have hw:w∈z:=by rw[ew];exact ag ..
   obtain⟨e,he,q⟩:=mMq.mp (Ms.zY.mp (fam.fl.mem_iff.mp (mFq.mpr ⟨z,hz,hw⟩)));obtain⟨e0,r',er⟩:=K18.sV (show r≠[] from λq=>by rw[q]at he;cases he)
   have h0:r[0]?=some e0:=by rw[er];rfl
   refine⟨e0,h0,?_⟩;obtain⟨x0,hx0,hz0⟩:=inX e0 (mGq h0);obtain⟨i,hi⟩:=ar.mp he;have h1:=all x0 hx0 e0 h0 hz0 i e hi;rw[q]at h1;rw[K45.flat_one nX hz hx0 hw h1];exact hz0
  obtain⟨e0,a1,a2⟩:=Co x hx;obtain⟨e1,b1,b2⟩:=Co y hy;rw[a1]at b1;cases b1;exact K45.flat_one nX hx hy a2 b2
 have nd:=K45.EE nX fam.ne;cases X with
 |nil=>exact bp _
 |cons x X =>
  cases X with
  |nil=>exact af _
  |cons y X =>
   have:=same x (ag ..) y (by simp)
   exact absurd (ag ..) (this ▸ (aq.mp nd).1)
theorem GI{s:List Int}(a:Int):∀{X:List (List Int)}{i:Nat},X[i]?=some r->(X.set i s).flatten.count a+r.count a=X.flatten.count a+s.count a
 | [],_,h=>by simp at h
 |t::X,0,h=>by
  simp only[eP,aD.injEq]at h;subst h;rw[cG,fCq,fCq,cAq,cAq];lia
 |t::X,i+1,h=>by
  rw[cH,fCq,fCq,cAq,cAq];have:=GI (s:=s) a (X:=X) (i:=i) (by simpa using h)
  lia
theorem UL(hm:Mp M) (nz:∀e∈M.flatten,e≠0) (hl:M.length<=150) (hn:M.flatten.length<=128) {LL:List (List Int)}(ln:Ln M LL) {kn:List Nat}{PS:List (List Nat)}(hp:Ps M M.length kn PS) (bal:4*PS.length+M.flatten.length=2*M.length+2*nL M LL) (hr:M[p]?=some r) {x y:Int}(hx:x∈r) (hy:y∈r) (ne:x≠y) {c:List Int}(hc:c∈LL) (cx:x∈c) (cy:y∈c):¬ ∀a∈r,∀b∈r,ab a=ab b∨Lk M r p (ab a) (ab b):=by
 intro all;obtain⟨A,B,hAB⟩:=Jg hx hy ne;have pr:(x::A++y::B).Perm r:=by
  have:(cp (x::A++y::B)).Perm (cp r):=bT.mpr hAB;have:=this.map (·.1)
  rwa [E2,E2]at this
 obtain⟨LL',l1,l2⟩:=Ln.split ln hm.hn hm.hneg hr hAB ne hc cx cy;have fN:(M.set p (x::A)++[y::B]).flatten.Perm M.flatten:=bT.mpr λa=>by
  rw[fAq,bo,cAq];have h1:=GI (s:=x::A) a hr;have h2:=bT.mp pr a;rw[cAq]at h2;lia
 have lN:(M.set p (x::A)++[y::B]).length=M.length+1:=by rw[lAq,lZq];rfl
 have rows0:∀t∈M.set p (x::A)++[y::B],t=x::A∨t=y::B∨∃k:Nat,k≠p/\M[k]?=some t:=λt ht=>by
  rcases mAq.mp ht with h|h
  .obtain ⟨k,hk⟩:=ar.mp h
   by_cases q:p=k
   .subst q;rw[aC (gSq.mp hr).1]at hk;exact .inl (aD.inj hk).symm
   .rw [aA q]at hk;exact .inr (.inr ⟨k,λz=>q z.symm,hk⟩)
  .exact .inr (.inl (mSq.mp h))
 have in0:∀(k:Nat) (t:List Int),k≠p->M[k]?=some t->t∈M.set p (x::A)++[y::B]:=λk t q h=>aw _ (mGq (i:=k) (by rw[aA (λz=>q z.symm)];exact h))
 have rne:r≠[]:=λq=>by rw[q]at hx;cases hx
 have c0:(M.set p (x::A)++[y::B]).count []=M.count []:=by
  have cs:=vo (r':=x::A) hr;rw[pJ rne,pJ (by simp)]at cs
  rw[cAq];have:([y::B]:List (List Int)).count []=0:=by simp
  lia
 generalize M.set p (x::A)++[y::B]=N0 at l1 l2 fN lN rows0 in0 c0;have mp:Mp N0:=⟨fN.nodup_iff.mpr hm.hn,by rw[fN.length_eq];exact hm.hl,by lia,λe he=>fN.mem_iff.mpr (hm.hneg e (fN.mem_iff.mp he))⟩
 obtain⟨kn',PN,hpN,_⟩:=K51.Bv (K43.Ei mp);obtain⟨g,eq⟩:=K18.Wg _ rfl mp (λe he=>nz e (fN.mem_iff.mp he)) (by lia) hpN l1
 rw[fN.length_eq,lN,l2]at eq;have same:=K17.Ib (K43.Ei hm) (K43.Ei mp) hp hpN (λz=>fN.mem_iff.symm) c0.symm (λS neg row0 t ht u hu v hv su=>?_) (λS neg rowS t ht u hu v hv su=>?_)
 .lia
 .obtain ⟨k,hk⟩:=ar.mp ht
  by_cases kp:k=p
  .subst kp;rw[hr]at hk;cases hk;have link:∀a∈r,∀b∈r,S a->S b:=λa ha b hb sa=>by
    rcases all a ha b hb with q|⟨ka,kb,na,nb,⟨ea,ra,h1,h2,h3⟩,⟨eb,rb,h4,h5,h6⟩,rc⟩
    .rcases CS q with z|z
     .rw [←z];exact sa
     .have:b = -a:=by lia
      rw[this];exact neg a sa
    .have sea:S ea:=by
      rcases CS h3 with z|z
      .rw [z];exact sa
      .rw [z];exact neg a sa
     have UJ:∀k',sG (Cr (gr r) M) ka k'->k'≠k/\∀s,M[k']?=some s->∀e∈s,S e:=λk' rc'=>by
      induction rc' with
      |base=>exact⟨na,λs hs e he=>row0 s (in0 ka s na hs) ea (by rw[h1]at hs;cases hs;exact h2) e he sea⟩
      | @step k2 row e rc2 hk2 he ih =>
       obtain⟨s,hs,er⟩:=Ou hk2;rw[er]at he;obtain⟨he1,he2⟩:=Ae.mp he;have sE:=ih.2 s hs e he1;have eM:-e∈M.flatten:=hm.hneg e (mFq.mpr ⟨s,mGq hs,he1⟩);obtain⟨k3,s3,hk3,hs3⟩:=xi eM;have mpP:=K41.CY hm (g:=gr r) λe h=>zL h
       have n3:-e∉gr r:=λh=>he2 (zL h)
       have e3:K51.plc (Cr (gr r) M) (-e)=k3:=K51.plc_eq mpP.hn (Fy hk3) (Ae.mpr ⟨hs3,n3⟩);rw[e3];have k3p:k3≠k:=λq=>by
        subst q;rw[hr]at hk3;cases hk3;exact n3 (Bn.mpr (.inl hs3))
       exact⟨k3p,λs' hs' e' he'=>row0 s' (in0 k3 s' k3p hs') (-e) (by rw[hk3]at hs';cases hs';exact hs3) e' he' (neg e sE)⟩
     have seb:=(UJ kb rc).2 rb h4 eb h5;rcases CS h6 with z|z
     .rw [←z];exact seb
     .have:b = -eb:=by lia
      rw[this];exact neg eb seb
   exact link u hu v hv su
  .exact row0 t (in0 k t kp hk) u hu v hv su
 .have hrM:=mGq hr;rcases rows0 t ht with e|e|⟨k,_,hk⟩
  .subst e;exact rowS r hrM u (pr.mem_iff.mp (aw _ hu)) v (pr.mem_iff.mp (aw _ hv)) su
  .subst e;exact rowS r hrM u (pr.mem_iff.mp (aj _ hu)) v (pr.mem_iff.mp (aj _ hv)) su
  .exact rowS t (mGq hk) u hu v hv su
end K46
namespace K18
open PySem L2 Mr Z
end K18
--ZQ3 --ZQ4 --ZQ5 --ZQ6 --ZQ8 --ZQ9 --ZQB --ZQC --ZQD --ZQE --ZQF --ZQG
namespace K18
open PySem L2 Mr Z Xe Zl
open K12 (cN aP Bb J2 O9)
end K18
--ZQ3 --ZQ4 --ZQ5 --ZQ6 --ZQ8 --ZQ9 --ZQB --ZQC --ZQD --ZQE --ZQF --ZQG
namespace K18
open PySem L2 Mr Z Xe Zl
open K12 (cN aP both yg Nm)
open K11 (BU Cn)
def Wl(last:List (List Int)):Nat->List Nat->Prop
 |_,[]=>True
 |h,p::rest=>(p<h/\∃e p0 n0,last[p]?=some (p0++[e])/\last[h]?=some (-e::n0))/\Wl last p rest
theorem Wl.keep{last last':List (List Int)}:∀{t:List Nat}{h:Nat},Wl last h t->(∀k,k<h->last'[k]?=last[k]?)->(∀s,last[h]?=some s->∃x,last'[h]?=some (s++x))->Wl last' h t
 | [],_,_,_,_=>trivial
 |p::rest,h,⟨⟨lt,e,p0,n0,h1,h2⟩,w⟩,hk,hs=>by
  obtain⟨x,hx⟩:=hs _ h2;exact⟨⟨lt,e,p0,n0++x,by rw[hk p lt];exact h1,hx⟩,w.keep (λk hk'=>hk k (by lia)) λs hs'=>⟨[],by rw[hk p lt,hs',aNq]⟩⟩
section
variable {nm:List Int}{n:Nat}{P0:List (List (List Int))}{last:List (List Int)}{t0:List Nat}{h:Nat}{left:List Int}{used kn:Nat}
theorem SN(A:List (List Int)) (l:List (List Int)) (h:Nat) (y:List Int):(A++l).set (A.length+h) y=A++l.set h y:=by
 rw[iF _ _ (by lia),fE]
theorem CW(hh:h<last.length):last[h]?=some (last.getD h []):=by rw[gDq,gEg hh];rfl
end
end K18
--ZQ3 --ZQ4 --ZQ5 --ZQ6 --ZQ8 --ZQ9 --ZQB --ZQC --ZQD --ZQE --ZQF --ZQG
namespace K44
open PySem L2 Mr Z Xe Zl
open K18 (Wl Ln nL rX)
open K31 (Wd WOk wstep sg C6 zM w0)
def Cm(w:Wd):List (List Int):=w.T.set w.h (w.T.getD w.h []++w.loose.reverse)
structure Pl (nm:List Int) (w:Wd):Prop where
 wl:Wl w.T w.h w.t0.reverse
 ln:∃LL,Ln (Cm w) LL/\nL (Cm w) LL+w.T.length+w.left.length=nm.length+2
theorem WZ{nm:List Int}{w:Wd}{n:Nat}(ok:WOk nm w n) (hn:(zM nm).Nodup):(Cm w).flatten.Nodup:=by
 refine cL.mpr λa=>?_
 have hr:=K18.CW ok.hh;unfold Cm;rw[K12.yg a hr,jf];have:=ok.cnt a;have:=cL.mp hn a;lia
theorem Pl.step{nm:List Int}{w:Wd}{n:Nat}(ok:WOk nm w n) (hn:(zM nm).Nodup) (k:Pl nm w) (c:Int):Pl nm (wstep false w c):=by
 have nd:=WZ ok hn;obtain⟨T,t0,h,loose,left⟩:=w;have hlt:h<T.length:=ok.hh;have hr:T[h]?=some (T.getD h []):=K18.CW hlt;obtain⟨wl,LL,ln,eu⟩:=k;simp only at wl eu;have ca:(Cm ⟨T,t0,h,loose,left⟩)[h]?=some (T.getD h []++loose.reverse):=aC hlt;have same:∀y,(Cm ⟨T,t0,h,loose,left⟩).set h y=T.set h y:=λy=>dC ..
 unfold wstep;simp only;have cmE:Cm ⟨T,t0,h,loose,left⟩=T.set h (T.getD h []++loose.reverse):=rfl;generalize T.getD h []=r at hr ca cmE;have keepW:∀x,Wl (T.set h (r++x)) h t0.reverse:=λx=>wl.keep (λj hj=>aA (by lia)) λs hs=>⟨x,by
  rw[aC hlt];rw[hr]at hs;cases hs;rfl⟩
 split
 .rename_i q;obtain⟨t,p,et⟩:∃t p,t0=t++[p]:=⟨t0.dropLast,t0.getLast q.2,(gO q.2).symm⟩;subst et;rw[dk,gD];simp only[fG,iP,gg];rw[dE]at wl;obtain⟨⟨lt,e,p0,n0,h1,h2⟩,w'⟩:=wl;rw[hr]at h2;have er:r = -e::n0:=aD.inj h2;rw[er]at ca;have cp:(Cm ⟨T,t++[p],h,loose,left⟩)[p]?=some (p0++[e]):=by
   rw[cmE,aA (by lia)]
   exact h1
  obtain⟨LL',l1,l2⟩:=ln.back nd (show h≠p by lia) ca cp
  have own:T.set h r=T:=Z.zG hr;have eC:((Cm ⟨T,t++[p],h,loose,left⟩).set h (-e::n0)).set p (p0++[e]++loose.reverse)=Cm ⟨T,t,p,loose,left⟩:=by
   rw[same,←er,own];show _=T.set p (T.getD p []++loose.reverse);rw[gDq,h1];rfl
  rw[eC]at l1 l2;exact⟨w',LL',l1,by simp only;lia⟩
 .split
  .rename_i q;obtain⟨l',x,el⟩:=rX q.2;subst el;have e1:C6 false c (l'++[x])=l'.length:=by
    show (l'++[x]).length-1=_;rw[lAq,lSq,Nat.add_sub_cancel]
   have e2:(l'++[x]).getD l'.length 0=x:=by
    rw[gDq,cP];rfl
   have e3:(l'++[x]).eraseIdx l'.length=l':=by
    rw[fK (af _),dB];simp
   rw[e1,e2,e3];have cm':Cm ⟨T.set h (r++[x]),t0,h,l',left⟩=Cm ⟨T,t0,h,l'++[x],left⟩:=by
    rw[cmE];show (T.set h (r++[x])).set h ((T.set h (r++[x])).getD h []++l'.reverse)=_;rw[gDq,aC hlt,dC,dE];show T.set h ((r++[x])++l'.reverse)=T.set h (r++([x]++l'.reverse));rw[ah]
   exact⟨keepW _,LL,by rw[cm'];exact ln,by rw[cm'];simp only[lZq];exact eu⟩
  .cases left with
   |nil=>exact⟨wl,LL,ln,eu⟩
   |cons x left =>
    simp only;rw[lCq]at eu;generalize sg c x=e;split
    .obtain ⟨LL',l1,l2⟩:=ln.newp nd ca e;have ll:(T.set h (r++[e])).length=T.length:=lZq;have cm':Cm ⟨T.set h (r++[e])++[[-e]],t0++[h],T.length,loose,left⟩=T.set h (r++[e])++[-e::loose.reverse]:=by
      show (T.set h (r++[e])++[[-e]]).set T.length ((T.set h (r++[e])++[[-e]]).getD T.length []++loose.reverse)=_;have g:(T.set h (r++[e])++[[-e]]).getD T.length []=[-e]:=by
       rw[←ll];exact K11.GD
      rw[g];have:=K18.SN (T.set h (r++[e])) [[-e]] 0 ([-e]++loose.reverse);rw[ll,ir]at this;exact this
     rw[same,←cm']at l1 l2;refine⟨?_,LL',l1,?_⟩
     .show Wl (T.set h (r++[e])++[[-e]]) T.length (t0++[h]).reverse;rw[dE];have gh:(T.set h (r++[e])++[[-e]])[h]?=some (r++[e]):=by
       rw[gZq (by lia),aC hlt]
      have gn:(T.set h (r++[e])++[[-e]])[T.length]?=some (-e::[]):=by
       rw[←ll,cP]
      refine⟨⟨hlt,e,r,[],gh,gn⟩,(keepW [e]).keep (λj hj=>gZq (by lia)) λs hs=>⟨[],?_⟩⟩
      rw[aNq,gZq (by lia)]
      exact hs
     .simp only [lAq,ll,lSq];lia
    .obtain ⟨LL',l1,l2⟩:=ln.open ca e
     have cm':Cm ⟨T.set h (r++[e]),t0,h,loose++[-e],left⟩=T.set h (r++[e]++(-e::loose.reverse)):=by
      show (T.set h (r++[e])).set h ((T.set h (r++[e])).getD h []++(loose++[-e]).reverse)=_;rw[gDq,aC hlt,dC,dE];rfl
     rw[same,←cm']at l1 l2;exact⟨keepW _,LL',l1,by simp only[lZq];lia⟩
theorem Zv(nm:List Int):Pl nm (w0 nm):=⟨trivial,[],⟨λx y=>rfl,λc hc=>(by cases hc)⟩,by show 0+1+1+nm.length=nm.length+2;lia⟩
theorem Hb{nm:List Int}(hn:(zM nm).Nodup):∀(cs:List Int) {w:Wd}{n:Nat},WOk nm w n->Pl nm w->Pl nm (cs.foldl (wstep false) w)
 | [],w,n,_,h=>h
 |c::cs,w,n,ok,h=>Hb hn cs (ok.step (wild:=false) c) (h.step ok hn c)
theorem PL{nm cs:List Int}{wild:Bool}(hc:cs.length<=63) (hn:nm.length<=100) (hb:(zM nm).Nodup):∃(T:List (List Int)) (left:List Int),K31.tG [dI cs,dI nm,.bl wild]=some (.ow (T.map aI))/\(∀a,T.flatten.count a+(zM left).count a=(zM nm).count a)/\K11.BU T/\0<T.length/\T.length<=64/\(wild=false->∃LL,Ln T LL/\nL T LL+T.length+left.length=nm.length+2):=by
 obtain⟨v7,v8,v9,v10,e⟩:=K31.HA (nm:=nm) (wild:=wild) (v7:=none) (v8:=none) (v9:=none) (v10:=none) hc (by lia)
 have ok:=K31.CF (nm:=nm) (wild:=wild) cs (K31.Qc nm);have pl:wild=false->Pl nm (cs.foldl (wstep wild) (w0 nm)):=λh=>by
  subst h;exact Hb hb cs (K31.Qc nm) (Zv nm)
 rw[bZ]at ok;generalize cs.foldl (wstep wild) (w0 nm)=w at e ok pl;have hlen:=ok.len;obtain⟨T,t0,hd,loose,left⟩:=w;obtain⟨hh,ht,lw,lT,lf,cnt,tr⟩:=ok;simp only at hh ht lw lT lf cnt tr hlen;have hr:T[hd]?=some (T.getD hd []):=K18.CW hh;have cmE:Cm ⟨T,t0,hd,loose,left⟩=T.set hd (T.getD hd []++loose.reverse):=rfl;have hrl:=K12.EW hr;generalize T.getD hd []=r at hr hrl cmE;have e2:=K31.Ld (t0:=t0) (loose:=loose) (left:=left) (wild:=wild) (v0:=some (.sh (dI cs))) (v1:=some (.sh (dI nm))) (v7:=v7) (v8:=v8) (v9:=v9) (v10:=v10) hr (by lia)
 have e':sN 7 K31.sF (cs.map D.int) [some (.sh (dI cs)),some (.sh (dI nm)),some (.sh (.bl wild)),some (.ow [.ow []]),some (.ow [.sh (.int 0)]),some (.ow []),some (aI nm),none,none,none,none]=some (.nx (K31.st (some (.sh (dI cs))) (some (.sh (dI nm))) wild ⟨T,t0,hd,loose,left⟩ v7 v8 v9 v10)):=e;refine⟨T.set hd (r++loose.reverse),left,?_,λa=>?_,tr.set hr,by rw[lZq];lia,by rw[lZq];lia,λhw=>?_⟩
 .have e3:((nm.map D.int).map AV.sh)=nm.map λn=>AV.sh (.int n):=by rw[mPq];rfl
  simp_arith [K31.tG,K31.DC,dI,e3]
  simp -implicitDefEqProofs only [Z.Qz,cU,cV,cv,cw,bL,↓reduceIte,reduceCtorEq,dI]at e';rw[e']
  simp_arith [e2]
  simp_arith [K31.st]
 .rw [K12.yg a hr,jf,cnt a]
 .obtain ⟨_,LL,l1,l2⟩:=pl hw;rw[cmE]at l1 l2;exact⟨LL,l1,by rw[lZq];exact l2⟩
end K44
--ZQ3 --ZQ4 --ZQ5 --ZQ6 --ZQ8 --ZQ9 --ZQB --ZQC --ZQD --ZQE --ZQF
namespace K19
open PySem L2 Mr Z Xe Zl K15 K16
def nr(t:List Int):List Int:=t.reverse.map λz=>-z
def mr(rs:List (List Int)):List (List Int):=wX ((rs.map List.reverse).map good)
end K19
--ZQ3 --ZQ4 --ZQ5 --ZQ6 --ZQ8 --ZQ9 --ZQB --ZQC --ZQD --ZQE --ZQF
namespace K19
open PySem L2 Mr Z Xe Zl K15 K16
end K19
--ZQ3 --ZQ4 --ZQ5 --ZQ6 --ZQ8 --ZQ9 --ZQB --ZQC --ZQD --ZQE --ZQF --ZQG
namespace K17
open PySem L2 Mr Z Xe Zl
open K15 (nx fw)
open K25 (Rt)
open K43 (Ei rds)
open K51 (sG Ps Pc)
section
variable {M N:List (List Int)}{S:Int->Prop}
theorem UD{q:List (List Int)}(cn:K11.Cn q) (hneg:∀x,S x->S (-x)) (hrow:∀r∈q,∀x∈r,∀y∈r,S x->S y) {x:Int}(hx:x∈q.flatten) (h:S x):∀y∈q.flatten,S y:=by
 have up:∀k,k<q.length->∀x∈q.getD k [],S x->∀y∈q.getD 0 [],S y:=by
  intro k
  induction k using gF with
  |_ k ih =>
   intro hk x hx h y hy
   by_cases c:0<k
   .obtain ⟨j,e,h1,h2,h3⟩:=cn.tr k c hk;have s:=hneg _ (hrow _ (K11.getD_mem hx) x hx _ h3 h);rw[bw]at s;exact ih j h1 (by lia) e h2 s y hy
   .have:k=0:=by lia
    subst this;exact hrow _ (K11.getD_mem hx) x hx y hy h
 obtain⟨r,hr,hxr⟩:=mFq.mp hx;obtain⟨i,hi⟩:=ar.mp hr;have hD:∀{i:Nat}{r:List Int},q[i]?=some r->q.getD i []=r:=λh=>by rw[gDq,h];rfl
 have h0:=up i (gSq.mp hi).1 x (by rw[hD hi];exact hxr) h
 have down:∀k,k<q.length->∀y∈q.getD k [],S y:=by
  intro k
  induction k using gF with
  |_ k ih =>
   intro hk y hy
   by_cases c:0<k
   .obtain ⟨j,e,h1,h2,h3⟩:=cn.tr k c hk;exact hrow _ (K11.getD_mem hy) _ h3 y hy (hneg e (ih j h1 (by lia) e h2))
   .have:k=0:=by lia
    subst this;exact h0 y hy
 intro y hy;obtain⟨t,ht,hyt⟩:=mFq.mp hy;obtain⟨j,hj⟩:=ar.mp ht;exact down j (gSq.mp hj).1 y (by rw[hD hj];exact hyt)
theorem IP:∀rs:List (List Int),(rs.map good).count []=rs.count []
 | []=>rfl
 | []::rs=>by rw[au,PK,iT,iT,IP rs]
 | (x::r)::rs=>by
  have hg:good (x::r)≠[]:=λq=>by
   have:=congrArg cm q;rw[GA]at this;cases this
  rw[au,iN hg,iN (by simp),IP rs]
theorem Fx{P:List (List (List Int))}(hn:P.flatten.flatten.Nodup) (cn:∀p∈P,K11.Cn p) (hm:Mp (wX (P.flatten.map good))) {kn:List Nat}{PS:List (List Nat)}(hp:Ps (wX (P.flatten.map good)) (wX (P.flatten.map good)).length kn PS):PS.length=P.length:=by
 have pm:=K12.wL hp;have fl:(wX (P.flatten.map good)).flatten.Perm P.flatten.flatten:=(rF (se _)).trans (tH qV _);have pnd:∀p∈P,p.flatten.Nodup:=λp h=>by
  rw[iS]at hn;exact hn.sublist (aF (mMq.mpr ⟨p,h,rfl⟩))
 have bB:Bp P:=⟨hn,λp h=>(cn p h).ne,λp h hb=>K11.K6 (cn p h) hb (pnd p h)⟩
 have rowM:∀r∈wX (P.flatten.map good),∃p∈P,∃t∈p,∀x,x∈r↔x∈t:=λr hr=>by
  obtain⟨t,ht,rfl⟩:=mMq.mp ((se _).mem_iff.mp hr);obtain⟨p,h1,h2⟩:=mFq.mp ht;exact⟨p,h1,t,h2,λx=>(qV t).mem_iff⟩
 have:=Eg (Ik (Ei hm) hp) bB (λx=>(zd pm).mem_iff.trans fl.mem_iff) (λp h q hq x hx hx' y=>by
  obtain⟨ps,hps,rfl⟩:=mMq.mp h;obtain⟨s,_,pc⟩:=hp.pc ps hps;refine⟨Od (S:=(· ∈ q.flatten)) (Ei hm) pc (λz hz=>(cn q hq).clo z hz) (λr hr a ha b hb h=>?_) hx hx' y,UD (S:=(· ∈ (ps.map λk=>(wX (P.flatten.map good)).getD k []).flatten)) (cn q hq) (λz hz=>Ad (Ei hm) pc hz) (λr hr a ha b hb h=>?_) hx' hx y⟩
  .obtain ⟨p',hp',t,ht,qq⟩:=rowM r hr;have:=K11.Hi hn hp' hq (mFq.mpr ⟨t,ht,(qq a).mp ha⟩) h;subst this;exact mFq.mpr ⟨t,ht,(qq b).mp hb⟩
  .exact EK (Ei hm) pc (r:=good r) ((se _).mem_iff.mpr (mMq.mpr ⟨r,mFq.mpr ⟨q,hq,hr⟩,rfl⟩)) ((qV r).mem_iff.mpr ha) ((qV r).mem_iff.mpr hb) h) (by rw[pm.count_eq,(se _).count_eq,IP])
 rwa [lMq]at this
end
end K17
--ZQ3 --ZQ4 --ZQ5 --ZQ6 --ZQ8 --ZQ9 --ZQB --ZQC --ZQD --ZQE --ZQF --ZQG
namespace K17
open PySem L2 Mr Z Xe Zl
open K43 (Ei rds)
open K51 (sG Ps Pc)
def tl:MS:=(oE (oS 2 (pH K13.J3 (oH (pH Zl.uX (oH (oQ 1) oW)) oW)))
 (oE (oS 3 (kSc (rP ql (ot (oy 2) oC))))
 (oE (oS 4 (kSc (pK yq (rP ql (ot (rOf (pH Zl.uX (oH (oQ 2) oW))) oC)) (rC (.int 2)))))
 (oE (oS 5 (kSc (rP ql (ot (rOf (pH K15.f_L_lands (oH (oQ 2) oW))) oC))))
 (oE (oS 6 (qM (wm (oQ 2)) [] qt (vJ (sR 0))))
 (oE (oS 7 (pH K43.AI (oH (oQ 6) oW)))
 (oE (wt (IT (uv (rp (rP zO (ot (oy 7) (ot (rC (.ty "tuple")) oC))))) (rp (pK Jq (rP ql (ot (oy 7) oC)) (rC (.int 5))))) (qa (kSc (rC (.bl false)))) pU)
 (oE (wt (uv (rp (qj K13.ro (ot (rOf (Yd (oQ 7) zC (wQ (rC (.int 4))))) (ot (rOf (RG (oH (oQ 3) (oH (oQ 4) (oH (oQ 5) (oH (kSc (rP ql (ot (oy 1) oC))) oW)))))) oC))))) (qa (kSc (rC (.bl false)))) pU)
 (oE (oS 8 (kSc (pK UV (oy 7) (rC (.int 4)))))
 (oE (wt (IT (uv (rp (qj K13.ro (ot (oy 8) (ot (pK yq (pK yu (pK BC (rC (.int 2)) (rP ql (ot (oy 1) oC))) (pK xx (pK yu (oy 3) (oy 4)) (oy 5))) (rC (.int 2))) oC))))) (rp (pK S8 (oy 8) (rC (.int 0))))) (qa (kSc (rC (.bl false)))) pU)
 (oE (wt (rp (pK Jq (pK xx (pK yu (oy 3) (oy 4)) (oy 5)) (pK yu (pK BC (rC (.int 2)) (rP ql (ot (oy 1) oC))) (pK BC (rC (.int 2)) (oy 8))))) (qa (kSc (rC (.bl false)))) pU)
 (oE (wt (IT (uv (rp (qj K13.ro (ot (qj K17.LF (ot (oy 6) oC)) (ot (oy 8) oC))))) (uv (rp (qj K13.ro (ot (oy 6) (ot (oy 2) oC)))))) (qa (kSc (rC (.bl false)))) pU)
 (oE (wt (uv (rp (qj K13.ro (ot (rOf (pH K43.AI (oH (pH K15.JS (oH (oQ 6) oW)) oW))) (ot (rOf (RG (oH (oQ 5) (oH (oQ 4) (oH (oQ 3) (oH (kSc (rP ql (ot (oy 1) oC))) (oH (oQ 8) oW))))))) oC))))) (qa (kSc (rC (.bl false)))) pU)
 (qa (kSc (DD (qj K13.ro (ot (rOf (pH K43.AI (oH (U8 K19.PQ (ot (oy 6) oC)) oW))) (ot (oy 7) oC))) (qj K13.ro (ot (oy 6) (ot (oy 2) oC)))))))))))))))))))
def md:MS:=(oE (wt (rp (pK DT (pK sr (qj Zl.oN (ot (oy 0) (ot (rC (.int 0)) oC))) (rC (.int 2))) (rC (.int 1)))) (oS 1 (pH K17.Gj (oH (Yu (pH K16.f_L_any (oH (oQ 0) oW)) (rC (.int 0))) oW))) pU) tl)
end K17
--ZQ3 --ZQ4 --ZQ5 --ZQ6 --ZQ8 --ZQ9 --ZQB --ZQC --ZQD --ZQE --ZQF --ZQG
namespace K44
open PySem L2 Mr Z Xe Zl
open K15 (nx fw vg OB Rd Th EF)
open K16 (tY Au Ai B3)
open K18 (Ln nL)
open K43 (Mh)
open K51 (sG Ps Pc)
theorem Po(P:List (Int×Int)) (t:Int):(Z.getD (tY P) (.inl t)).isSome=decide (t∈P.map (·.1)):=by
 unfold Z.getD tY;rw[eW,bI,hU,decide_eq_true_iff];constructor
 .rintro ⟨x,hx,q⟩;obtain⟨p,hp,rfl⟩:=mMq.mp hx;have:=aH.inj (of_decide_eq_true q);exact mMq.mpr ⟨p,hp,this⟩
 .intro h;obtain⟨p,hp,rfl⟩:=mMq.mp h;exact⟨_,mMq.mpr ⟨p,hp,rfl⟩,decide_eq_true rfl⟩
def rR(L:List (List Int)):List (Int×Int):=L.flatMap λl=>l.map λx=>(x,l.headD 0)
theorem AO(L:List (List Int)):(rR L).map (·.1)=L.flatten:=by
 induction L with
 |nil=>rfl
 |cons l L ih =>
  show (l.map (λx=>(x,l.headD 0))++rR L).map (·.1)=l++L.flatten
  rw[mBq,ih,mPq];congr 1;exact dR _
theorem Lv(L:List (List Int)) (l:List Int):rR (L++[l])=rR L++l.map λx=>(x,l.headD 0):=by
 unfold rR;rw[gN];simp
theorem Ce{f:Int->Int}{e:Int}{l:List Int}(c:Cy f e l):l.headD 0=e:=by
 have h0:=c.at (i:=0) (by have:=c.len;lia)
 cases l with
 |nil=>have:=c.len;simp at this
 |cons a l=>exact aD.inj h0
def Zi(N:Nat):AS->Nat
 | [_,_,some (.owd kvs),_,_]=>N+1-kvs.length
 |_=>0
section
variable {rs:List (List Int)}
theorem N9(hm:Mp rs) {P:List (Int×Int)}{L0:List (List Int)}(hr:Rd (fw rs) rs.flatten (P.map (·.1)) L0) {e:Int}(heE:e∈rs.flatten) (he:e∉P.map (·.1)) {v0:Option AV}:∃l v4,Cy (fw rs) e l/\qT (rp (rY (oy 4) (oy 2))) mb_L_lands_0 100000 [v0,some (.sh (.fd (K51.xn (K51.qg rs)))),some (.owd (tY P)),some (.sh (.int e)),some (.sh (.int e))]=some (.nx [v0,some (.sh (.fd (K51.xn (K51.qg rs)))),some (.owd (tY (P++l.map λx=>(x,e)))),some (.sh (.int e)),v4]):=by
 have one:=vg hm;obtain⟨l,cy,hle,hmin⟩:=one.cy heE;have hl:=hm.hl;have hvl:=Sm _ _ hr.nd hr.sub;rw[lMq]at hvl;have ho:=hr.out cy he;have hst:∀n,Z.getD (K51.xn (K51.qg rs)) (.inl (-(itr (fw rs) n e)))=some (.int (itr (fw rs) (n+1) e)):=λn=>OB hm.hn (hm.hneg _ (one.itr_mem heE n))
 have ks:∀n,(P++(l.take n).map λx=>(x,e)).map (·.1)=P.map (·.1)++l.take n:=λn=>by
  rw[mBq,mPq];congr 1;exact dR _
 have key:=xD (c:=rp (rY (oy 4) (oy 2))) (body:=mb_L_lands_0) (λS=>∃n,n<=l.length/\S=[v0,some (.sh (.fd (K51.xn (K51.qg rs)))),some (.owd (tY (P++(l.take n).map λx=>(x,e)))),some (.sh (.int e)),some (.sh (.int (itr (fw rs) n e)))]) (Zi (P.length+l.length)) (λS=>∃v4,S=[v0,some (.sh (.fd (K51.xn (K51.qg rs)))),some (.owd (tY (P++l.map λx=>(x,e)))),some (.sh (.int e)),v4]) (by
  rintro S ⟨n,h2,rfl⟩;have hg:=Po (P++(l.take n).map λx=>(x,e)) (itr (fw rs) n e)
  rw[ks]at hg
  by_cases hn:n<l.length
  .have hat:=cy.at hn;have hnew:itr (fw rs) n e∉P.map (·.1)++l.take n:=λm=>by
    rcases mAq.mp m with q|q
    .exact ho _ (mGq hat) q
    .have:=aY.sublist (bC (n+1) l) cy.nd;rw[qK hat]at this;exact(nAq.mp this).2.2 _ q _ (by simp) rfl
   rw[decide_eq_false hnew]at hg;have hp:=Ai (M:=P++(l.take n).map λx=>(x,e)) (z:=itr (fw rs) n e) (x:=e) (by rw[ks];exact hnew)
   have e1:P++(l.take n).map (λx=>(x,e))++[(itr (fw rs) n e,e)]=P++(l.take (n+1)).map λx=>(x,e):=by rw[qK hat,mBq,ah];rfl
   rw[e1]at hp;have hs:=hst n;have l1:(tY (P++(l.take n).map λx=>(x,e))).length<rh:=by rw[Au,lAq,lMq,lTq];show _<16777216;lia
   refine⟨true,[v0,some (.sh (.fd (K51.xn (K51.qg rs)))),some (.owd (tY (P++(l.take n).map λx=>(x,e)))),some (.sh (.int e)),some (.sh (.int (itr (fw rs) n e)))],?_,λ_=>⟨[v0,some (.sh (.fd (K51.xn (K51.qg rs)))),some (.owd (tY (P++(l.take (n+1)).map λx=>(x,e)))),some (.sh (.int e)),some (.sh (.int (itr (fw rs) (n+1) e)))],?_,⟨n+1,by lia,rfl⟩,?_⟩,λq=>(nomatch q)⟩
   .simp_arith [hg]
   .simp_arith [mb_L_lands_0,l1,hp,hs]
   .show P.length+l.length+1-_<P.length+l.length+1-_;simp only[Au,lAq,lMq,lTq];lia
  .have en:n=l.length:=by lia
   subst en;have hb:=cy.back;rw[hb,bA]at hg ⊢;rw[decide_eq_true (mAq.mpr (.inr cy.self))]at hg;refine⟨false,[v0,some (.sh (.fd (K51.xn (K51.qg rs)))),some (.owd (tY (P++l.map λx=>(x,e)))),some (.sh (.int e)),some (.sh (.int e))],?_,λq=>(nomatch q),λ_=>⟨_,rfl⟩⟩
   simp_arith [hg])
 obtain⟨S',ew,v4,rfl⟩:=key 100000 [v0,some (.sh (.fd (K51.xn (K51.qg rs)))),some (.owd (tY P)),some (.sh (.int e)),some (.sh (.int e))] ⟨0,bp _,by simp[itr]⟩ (by
  show P.length+l.length+1-_<100000;lia)
 exact⟨l,v4,cy,ew⟩
theorem Io(hm:Mp rs):∃v3 v4 L,sN 3 mb_L_lands_1 (rs.flatten.map D.int) [some (.sh (dM rs)),some (.sh (.fd (K51.xn (K51.qg rs)))),some (.owd []),none,none]=some (.nx [some (.sh (dM rs)),some (.sh (.fd (K51.xn (K51.qg rs)))),some (.owd (tY (rR L))),v3,v4])/\Ck (fw rs) rs.flatten L:=by
 have one:=vg hm;have key:=vk (x:=3) (body:=mb_L_lands_1) (λi S=>∃L v3 v4,S=[some (.sh (dM rs)),some (.sh (.fd (K51.xn (K51.qg rs)))),some (.owd (tY (rR L))),v3,v4]/\Rd (fw rs) rs.flatten L.flatten L/\∀j x,j<i->rs.flatten[j]?=some x->x∈L.flatten) (ds:=rs.flatten.map D.int) (S:=[some (.sh (dM rs)),some (.sh (.fd (K51.xn (K51.qg rs)))),some (.owd []),none,none]) ⟨[],none,none,rfl,⟨by simp,rfl,aU,by simp,by simp⟩,λj x h=>absurd h (cQ _)⟩ (by
  rintro i d S hd ⟨L,v3,v4,rfl,hr,hall⟩;rw[gMq]at hd;obtain⟨e,he,rfl⟩:=oMq.mp hd;have heE:e∈rs.flatten:=mGq he;have hg:=Po (rR L) e;rw[AO]at hg
  by_cases c:e∈L.flatten
  .rw [decide_eq_true c]at hg;refine⟨[some (.sh (dM rs)),some (.sh (.fd (K51.xn (K51.qg rs)))),some (.owd (tY (rR L))),some (.sh (.int e)),some (.sh (.int e))],?_,L,_,_,rfl,hr,λj x hj hx=>?_⟩
   .have ew:qT (rp (rY (oy 4) (oy 2))) mb_L_lands_0 100000 [some (.sh (dM rs)),some (.sh (.fd (K51.xn (K51.qg rs)))),some (.owd (tY (rR L))),some (.sh (.int e)),some (.sh (.int e))]=some (.nx [some (.sh (dM rs)),some (.sh (.fd (K51.xn (K51.qg rs)))),some (.owd (tY (rR L))),some (.sh (.int e)),some (.sh (.int e))]):=by
     obtain⟨S',e1,e2⟩:=xD (c:=rp (rY (oy 4) (oy 2))) (body:=mb_L_lands_0) (λS=>S=[some (.sh (dM rs)),some (.sh (.fd (K51.xn (K51.qg rs)))),some (.owd (tY (rR L))),some (.sh (.int e)),some (.sh (.int e))]) (λ_=>0) (λS=>S=[some (.sh (dM rs)),some (.sh (.fd (K51.xn (K51.qg rs)))),some (.owd (tY (rR L))),some (.sh (.int e)),some (.sh (.int e))]) (by
      rintro S rfl;refine⟨false,_,?_,λq=>(nomatch q),λ_=>rfl⟩
      simp_arith [hg]) 100000 _ rfl (by decide)
     rw[e1,e2]
    simp_arith [mb_L_lands_1,ew]
   .rcases cF.mp hj with q|rfl
    .exact hall j x q hx
    .rw [he]at hx;cases hx;exact c
  .have hr':Rd (fw rs) rs.flatten ((rR L).map (·.1)) L:=by rw[AO];exact hr
   obtain⟨l,v4',cy,ew⟩:=N9 hm hr' heE (by rw[AO];exact c) (v0:=some (.sh (dM rs)))
   have hr2:=hr.add one cy heE c;have ef:L.flatten++l=(L++[l]).flatten:=by rw[fAq,bo]
   rw[ef]at hr2;have en:rR L++l.map (λx=>(x,e))=rR (L++[l]):=by rw[Lv,Ce cy]
   rw[en]at ew;refine⟨[some (.sh (dM rs)),some (.sh (.fd (K51.xn (K51.qg rs)))),some (.owd (tY (rR (L++[l])))),some (.sh (.int e)),v4'],?_,L++[l],_,_,rfl,hr2,λj x hj hx=>?_⟩
   .simp_arith [mb_L_lands_1,ew]
   .rw [←ef];rcases cF.mp hj with q|rfl
    .exact mAq.mpr (.inl (hall j x q hx))
    .rw [he]at hx;cases hx;exact mAq.mpr (.inr cy.self))
 obtain⟨S',e,L,v3,v4,rfl,hr,hall⟩:=key;refine⟨_,_,L,e,hr.orb λx hx=>?_⟩
 obtain⟨j,hj⟩:=ar.mp hx;exact hall j x (by rw[lMq];exact(gSq.mp hj).1) hj
theorem G0(hm:Mp rs):∃L,Ck (fw rs) rs.flatten L/\f_L_lands [dM rs]=some (.owd (tY (rR L))):=by
 obtain⟨v3,v4,L,e,ho⟩:=Io hm;have nk:=EF hm;have kk:=Th rs;refine⟨L,ho,?_⟩;have q31:((3:Nat)≠1)=True:=by simp
 simp_arith [f_L_lands,mf_L_lands,nk,dM,q31,kk,e]
theorem Fq{f:Int->Int}{E:List Int}{L:List (List Int)}(o:Ck f E L) {l:List Int}(hl:l∈L) {x:Int}(hx:x∈l):Z.getD (tY (rR L)) (.inl x)=some (.int (l.headD 0)):=by
 rw[B3];refine K15.yL ?_ (mMq.mpr ⟨(x,l.headD 0),bE.mpr ⟨l,hl,mMq.mpr ⟨x,hx,rfl⟩⟩,rfl⟩);rw[mPq];have h1:(rR L).map (((·.1):oU×Int->oU)∘λp:Int×Int=>((aH p.1:oU),p.2))=((rR L).map (·.1)).map aH:=by rw[mPq];rfl
 rw[h1,AO,aJ,bg];exact(aJ.mp o.dj).imp λh q=>h (aH.inj q)
theorem GJ{f:Int->Int}{E:List Int}{L:List (List Int)}(o:Ck f E L) {l l':List Int}(hl:l∈L) (hl':l'∈L) (h:l.headD 0=l'.headD 0):l=l':=by
 obtain⟨e,c⟩:=o.cy l hl;obtain⟨e',c'⟩:=o.cy l' hl';rw[Ce c,Ce c']at h;subst h;exact c.one c'
end
end K44
--ZQ3 --ZQ4 --ZQ5 --ZQ6 --ZQ8 --ZQ9 --ZQB --ZQC --ZQD --ZQE --ZQF --ZQG
namespace K44
open PySem L2 Mr Z Xe Zl
open K15 (Rd kI OL Pq MD)
open K16 (tY Au Ai B3 pm Kr Iv OD JR S0 A4)
open K18 (Ln nL)
theorem TY(c:Int) {n:Nat}(hn:n<=30):∃nm,sO [.int c,.int (n:Int)]=some (aI nm)/\nm.length=n/\nm.Nodup/\∀z∈nm,1<=z:=by
 have key:=vk (x:=4) (body:=uL) (λi S=>∃c' last l v4,S=[some (.sh (.int c')),some (.sh (.int (n:Int))),some (.sh (.int last)),some (aI l),v4]/\l.length=i/\l.Nodup/\(∀z∈l,1<=z/\z<=last)/\0<=last) (ds:=pV 0 n) (S:=[some (.sh (.int c)),some (.sh (.int (n:Int))),some (.sh (.int 0)),some (.ow []),none])
  ⟨c,0,[],none,rfl,rfl,aU,λz hz=>(by cases hz),by decide⟩ (by
  rintro i d S hd ⟨c',last,l,v4,rfl,hl,hnd,hr,h0⟩;have hi:i<n:=by
   have:=(gSq.mp hd).1
   rwa [pZ]at this
  have m1:=qX (i:=c') (j:=10 ^ 57) (by decide)
  have m2:=bx c' (b:=10 ^ 57) (by decide)
  have d1:=JR (i:=c') (j:=10 ^ 57) (by decide) (by decide +kernel)
  have hp:=S0;have l3:l.length<rh:=by show _<16777216;lia
  generalize hx:last+1+c' % 10 ^ 57=x;have hx1:last+1<=x:=by lia
  have ap:l.map (λn=>AV.sh (.int n))++[.sh (.int x)]=(l++[x]).map λn=>.sh (.int n):=by rw[mBq];rfl
  refine⟨[some (.sh (.int (c' / 10 ^ 57))),some (.sh (.int (n:Int))),some (.sh (.int x)),some (aI (l++[x])),some (.sh d)],?_,c' / 10 ^ 57,x,l++[x],some (.sh d),rfl,by rw[lAq,hl];rfl,?_,?_,by lia⟩
  .simp_arith [uL,hp,m1,hx,d1,l3,ap]
  .rw [nAq];refine⟨hnd,by simp,λa ha b hb e=>?_⟩
   rw[mSq.mp hb]at e;have:=hr a ha;lia
  .intro z hz;rcases mAq.mp hz with hz|hz
   .have:=hr z hz;exact⟨this.1,by lia⟩
   .rw [mSq.mp hz];exact⟨by lia,fZ _⟩)
 obtain⟨S',e,c',last,l,v4,rfl,hl,hnd,hr,h0⟩:=key;rw[pZ]at hl;have rg:=vt (n:=n) (by lia)
 refine⟨l,?_,hl,hnd,λz hz=>(hr z hz).1⟩
 simp_arith [sO,yv,rg,e]
theorem GM(c:Int) {l:List Int}(hl:l.length<=60):∃d,uM [.int c,dI l]=some (aI d)/\d.Perm l:=by
 have key:=vk (x:=4) (body:=yf) (λi S=>∃cell left found v4,S=[some (.sh (.int cell)),some (.sh (dI l)),some (aI left),some (aI found),v4]/\left.length+i=l.length/\found.length=i/\(found++left).Perm l) (ds:=pV 0 l.length) (S:=[some (.sh (.int c)),some (.sh (dI l)),some (aI l),some (.ow []),none])
  ⟨c,l,[],none,rfl,rfl,rfl,.refl _⟩ (by
  rintro i d S hd ⟨cell,l2,fo,v4,rfl,h2,h3,pm⟩;have hi:i<l.length:=by
   have:=(gSq.mp hd).1
   rwa [pZ]at this
  have hpos:(0:Int)<((l2.length:Nat):Int):=by lia
  have m1:=qX (i:=cell) (j:=((l2.length:Nat):Int)) hpos;have b0:=bx cell (b:=((l2.length:Nat):Int)) (by lia)
  have b1:=bz cell hpos;obtain⟨k,hk⟩:∃k:Nat,cell % ((l2.length:Nat):Int)=(k:Int):=⟨(cell % ((l2.length:Nat):Int)).toNat,by lia⟩
  have kl:k<l2.length:=by lia
  have hx:l2[k]?=some (l2.getD k 0):=by rw[gDq,gEg kl];rfl
  have ce:=λa=>K12.BB a kl
  generalize l2.getD k 0=x at hx ce;have hx':(l2.map λn=>AV.sh (D.int n))[k]?=some (.sh (.int x)):=by rw[gMq,hx];rfl
  have c1:(0:Int)<=(k:Int):=by lia
  have c2:(k:Int)<((l2.length:Nat):Int):=by lia
  have c3:l2.length<=rh:=by show _<=16777216;lia
  have he:=A4 (λn=>AV.sh (D.int n)) l2 k
  have hle:(l2.eraseIdx k).length=l2.length-1:=List.length_eraseIdx_of_lt kl;have d1:=xK (i:=cell) (j:=((l2.eraseIdx k).length:Int)+1) (by lia) (by rw[hle];lia)
  have tn:=dq k;have lf:fo.length<rh:=by show _<16777216;lia
  have ap:fo.map (λn=>AV.sh (.int n))++[.sh (.int x)]=(fo++[x]).map λn=>.sh (.int n):=by rw[mBq];rfl
  have s2:=pI l2;have s3:=pI (l2.eraseIdx k);refine⟨[some (.sh (.int (cell / (((l2.eraseIdx k).length:Int)+1)))),some (.sh (dI l)),some (aI (l2.eraseIdx k)),some (aI (fo++[x])),some (.sh d)],?_,_,_,_,_,rfl,by rw[hle];lia,by rw[lAq,h3];rfl,?_⟩
  .simp_arith [yf,s2,s3,dI,m1,hk,c1,c2,c3,and_self,tn,hx',he,lf,ap,d1]
  .refine bT.mpr λa=>?_
   have:=bT.mp pm a;have:=ce a;simp only[cAq]at *;lia)
 obtain⟨S',e,cell,left,found,v4,rfl,h2,h3,pm⟩:=key;rw[pZ]at h2;have:left=[]:=bq.mp (by lia)
 subst this;rw[aNq]at pm;have rg:=vt (n:=l.length) (by lia)
 have e3:((l.map D.int).map AV.sh)=l.map λn=>AV.sh (.int n):=by rw[mPq];rfl
 refine⟨found,?_,pm⟩;simp -implicitDefEqProofs only [Z.Qz,cU,cV,cv,cw,bL,↓reduceIte,reduceCtorEq,dI]at e
 simp_arith [uM,CB,dI,rg,e3,e]
theorem LS(c:Int):∃cs,vX [.int c]=some (aI cs)/\cs.length=60:=by
 have key:=vk (x:=2) (body:=wY) (λi S=>∃cell l v2,S=[some (.sh (.int cell)),some (aI l),v2]/\l.length=i) (ds:=pV 0 60) (S:=[some (.sh (.int c)),some (.ow []),none])
  ⟨c,[],none,rfl,rfl⟩ (by
  rintro i d S hd ⟨cell,l,v2,rfl,hl⟩;have hi:i<60:=by
   have:=(gSq.mp hd).1
   rwa [pZ]at this
  have m1:=qX (i:=cell) (j:=8) (by decide)
  have d1:=xK (i:=cell) (j:=8) (by decide) (by decide)
  have l3:l.length<rh:=by show _<16777216;lia
  have ap:l.map (λn=>AV.sh (.int n))++[.sh (.int (cell % 8))]=(l++[cell % 8]).map λn=>.sh (.int n):=by rw[mBq];rfl
  refine⟨[some (.sh (.int (cell / 8))),some (aI (l++[cell % 8])),some (.sh d)],?_,_,_,_,rfl,by rw[lAq,hl];rfl⟩
  simp_arith [wY,m1,d1,l3,ap])
 obtain⟨S',e,cell,l,v2,rfl,hl⟩:=key;rw[pZ]at hl;have rg:B1 [.int 60]=some (pV 0 60):=vt (n:=60) (by decide)
 exact⟨l,by simp_arith [vX,BF,rg,e],hl⟩
theorem Te:∀(l acc:List (Int×Int)),(acc.map (·.1)++l.map (·.1)).Nodup->l.foldl (λm p=>xZ m (.inl p.1) (.int p.2)) (tY acc)=tY (acc++l)
 | [],acc,_=>by rw[aNq];rfl
 |p::l,acc,h=>by
  rw[bD];have hp:p.1∉acc.map (·.1):=λq=>(nAq.mp h).2.2 p.1 q p.1 (by simp) rfl
  rw[Ai hp,show (p.1,p.2)=p from rfl,Te l (acc++[p]) (by rw[mBq,ah];exact h),ah]
  rfl
theorem Cj:∀{a b:List Int},a.length=b.length->(a.zip b).map (·.1)=a
 | [],b,_=>by simp
 |x::a,[],h=>by simp at h
 |x::a,y::b,h=>by
  rw[gR,au,Cj (by simpa using h)]
theorem Wz{E d:List Int}(hE:E.Nodup) (h:E.length=d.length):dz E d=tY (E.zip d):=by
 unfold dz;have:=Te (E.zip d) [] (by rw[Cj h];exact hE)
 exact this
def fl(P:List (Int×Int)) (x:Int):Int:=match Z.getD (tY P) (.inl x) with
 |some (.int y)=>y
 |_=>0
theorem JM{E d:List Int}(hE:E.Nodup) (h:E.length=d.length) {i:Nat}{x:Int}(hx:E[i]?=some x):∃y,d[i]?=some y/\Z.getD (tY (E.zip d)) (.inl x)=some (.int y)/\fl (E.zip d) x=y:=by
 have hi:=(gSq.mp hx).1;have hy:d[i]?=some d[i]:=gEg (by lia)
 have hm:(x,d[i])∈E.zip d:=mGq (eh.mpr ⟨hx,hy⟩);have g:Z.getD (tY (E.zip d)) (.inl x)=some (.int d[i]):=by
  rw[B3];refine K15.yL ?_ (mMq.mpr ⟨_,hm,rfl⟩);have h1:((E.zip d).map λp=>((aH p.1:oU),p.2)).map (·.1)=E.map aH:=by
   rw[mPq,←Cj h,mPq,Cj h];rfl
  rw[h1,aJ,bg];exact(aJ.mp hE).imp λh q=>h (aH.inj q)
 refine⟨_,hy,g,?_⟩;unfold fl;rw[g]
theorem P3{E d:List Int}(hE:E.Nodup) (pd:d.Perm E):IC (fl (E.zip d)) E:=by
 have hl:=pd.length_eq.symm;have nd:=pd.nodup_iff.mpr hE;refine⟨hE,λe he=>?_,λa ha b hb q=>?_⟩
 .obtain ⟨i,hi⟩:=ar.mp he;obtain⟨y,h1,_,h2⟩:=JM hE hl hi;rw[h2];exact pd.mem_iff.mp (mGq h1)
 .obtain ⟨i,hi⟩:=ar.mp ha;obtain⟨j,hj⟩:=ar.mp hb;obtain⟨y,h1,_,h2⟩:=JM hE hl hi;obtain⟨y',h1',_,h2'⟩:=JM hE hl hj;rw[h2,h2']at q;subst q;have:=(jk (i:=i) (j:=j) (gSq.mp h1).1 nd).mp (by rw[h1,h1'])
  subst this;rw[hi]at hj;exact aD.inj hj
def Zz(N:Nat):AS->Nat
 | [_,_,_,_,_,_,_,_,some (.ow l),_]=>N+1-l.length
 |_=>0
section
variable {E d:List Int}{v0 v1 v2 v3 v9:Option AV}
theorem Ry(hE:E.Nodup) (pd:d.Perm E) (hl:E.length<=60) {e:Int}(he:e∈E) {v5 v6:Option AV}:∃l,Cy (fl (E.zip d)) e l/\l.length<=E.length/\qT (rp (pK Jq (xC (oy 4) (pK G2 (oy 8) (DV xk (rC (.int 1))))) (oy 7))) tZ 100000 [v0,v1,v2,v3,some (.owd (tY (E.zip d))),v5,v6,some (.sh (.int e)),some (.ow [.sh (.int e)]),v9]=some (.nx [v0,v1,v2,v3,some (.owd (tY (E.zip d))),v5,v6,some (.sh (.int e)),some (aI l),v9]):=by
 have one:=P3 hE pd;obtain⟨l,cy,hle,hmin⟩:=one.cy he;have hst:∀n,Z.getD (tY (E.zip d)) (.inl (itr (fl (E.zip d)) n e))=some (.int (itr (fl (E.zip d)) (n+1) e)):=λn=>by
  obtain⟨i,hi⟩:=ar.mp (one.itr_mem he n);obtain⟨y,_,h1,h2⟩:=JM hE pd.length_eq.symm hi;rw[h1,←h2];rfl
 refine⟨l,cy,hle,?_⟩;have key:=xD (c:=rp (pK Jq (xC (oy 4) (pK G2 (oy 8) (DV xk (rC (.int 1))))) (oy 7))) (body:=tZ) (λS=>∃n,n<l.length/\S=[v0,v1,v2,v3,some (.owd (tY (E.zip d))),v5,v6,some (.sh (.int e)),some (aI (l.take (n+1))),v9]) (Zz l.length) (λS=>S=[v0,v1,v2,v3,some (.owd (tY (E.zip d))),v5,v6,some (.sh (.int e)),some (aI l),v9]) (by
  rintro S ⟨n,hn,rfl⟩;have hat:=cy.at hn;have hs:=hst n;have sl:=pI (l.take (n+1));have at1:atI ((l.take (n+1)).map D.int) (-1)=some (.int (itr (fl (E.zip d)) n e)):=by
   rw[qK hat,mBq];exact Ov _ _
  by_cases h2:n+1<l.length
  .have ne:=hmin (n+1) (by lia) h2
   have hat2:=cy.at h2;have l2:(l.take (n+1)).length<rh:=by rw[lTq];show _<16777216;lia
   have ap:(l.take (n+1)).map (λn=>AV.sh (.int n))++[.sh (.int (itr (fl (E.zip d)) (n+1) e))]=(l.take (n+1+1)).map λn=>.sh (.int n):=by rw[qK hat2,mBq];rfl
   refine⟨true,[v0,v1,v2,v3,some (.owd (tY (E.zip d))),v5,v6,some (.sh (.int e)),some (aI (l.take (n+1))),v9],?_,λ_=>⟨[v0,v1,v2,v3,some (.owd (tY (E.zip d))),v5,v6,some (.sh (.int e)),some (aI (l.take (n+1+1))),v9],?_,⟨n+1,h2,rfl⟩,?_⟩,λq=>(nomatch q)⟩
   .have nd:(!decide (itr (fl (E.zip d)) (n+1) e=e))=true:=by rw[decide_eq_false ne];rfl
    simp_arith [sl,dI,at1,hs,nd]
   .simp_arith [tZ,sl,dI,at1,hs,l2,ap]
   .show l.length+1-_<l.length+1-_;simp only[lMq,lTq];lia
  .have en:n+1=l.length:=by lia
   have nd:(!decide (itr (fl (E.zip d)) (n+1) e=e))=false:=by rw[en,cy.back];simp
   refine⟨false,[v0,v1,v2,v3,some (.owd (tY (E.zip d))),v5,v6,some (.sh (.int e)),some (aI (l.take (n+1))),v9],?_,λq=>(nomatch q),λ_=>by rw[en,bA]⟩
   simp_arith [sl,dI,at1,hs,nd])
 have h0:=cy.at (i:=0) (by have:=cy.len;lia)
 have ht:l.take 1=[e]:=by
  cases l with
  |nil=>simp at h0
  |cons a l =>
   have:a=e:=aD.inj h0;rw[this];rfl
 obtain⟨S',ew,rfl⟩:=key 100000 [v0,v1,v2,v3,some (.owd (tY (E.zip d))),v5,v6,some (.sh (.int e)),some (.ow [.sh (.int e)]),v9] ⟨0,by have:=cy.len;lia,by rw[bZ,ht];rfl⟩ (by
  show l.length+1-1<100000;lia)
 exact ew
theorem Mq{kn l:List Int}{v4 v5 v7 v8:Option AV}(hn:(kn++l).Nodup) (hl:kn.length+l.length<500000):∃v9',sN 9 uf (l.map D.int) [v0,v1,v2,v3,v4,v5,some (.owd (kI kn)),v7,v8,v9]=some (.nx [v0,v1,v2,v3,v4,v5,some (.owd (kI (kn++l))),v7,v8,v9']):=by
 have key:=vk (x:=9) (body:=uf) (λi S=>∃v9',S=[v0,v1,v2,v3,v4,v5,some (.owd (kI (kn++l.take i))),v7,v8,v9']) (ds:=l.map D.int) (S:=[v0,v1,v2,v3,v4,v5,some (.owd (kI kn)),v7,v8,v9]) ⟨v9,by simp⟩ (by
  rintro i d S hd ⟨v6',rfl⟩;rw[gMq]at hd;obtain⟨e,he,rfl⟩:=oMq.mp hd;have hi:=(gSq.mp he).1;have hnew:e∉kn++l.take i:=λm=>by
   have h2:(kn++l.take (i+1)).Nodup:=aY.sublist (fe.append (fe.refl kn) (bC (i+1) l)) hn;rw[qK he,←ah]at h2;exact(nAq.mp h2).2.2 e m e (by simp) rfl
  have hp:=Pq hnew;rw[ah,←qK he]at hp;have l1:(kI (kn++l.take i)).length<rh:=by rw[MD,lAq,lTq];show _<16777216;lia
  refine⟨_,?_,some (.sh (.int e)),rfl⟩
  simp_arith [uf,l1,hp])
 obtain⟨S',e,v6',rfl⟩:=key;rw[lMq,bA]at e;exact⟨v6',e⟩
theorem ON(hE:E.Nodup) (pd:d.Perm E) (hl:E.length<=60):∃L v6 v7 v8 v9',sN 7 tu (E.map D.int) [v0,v1,v2,v3,some (.owd (tY (E.zip d))),some (.ow []),some (.owd []),none,none,none]=some (.nx [v0,v1,v2,v3,some (.owd (tY (E.zip d))),some (K13.oM L),v6,v7,v8,v9'])/\Ck (fl (E.zip d)) E L/\L.length<=E.length:=by
 have one:=P3 hE pd;have key:=vk (x:=7) (body:=tu) (λi S=>∃kn L v7 v8 v9',S=[v0,v1,v2,v3,some (.owd (tY (E.zip d))),some (K13.oM L),some (.owd (kI kn)),v7,v8,v9']/\Rd (fl (E.zip d)) E kn L/\L.length<=i/\∀j x,j<i->E[j]?=some x->x∈kn) (ds:=E.map D.int) (S:=[v0,v1,v2,v3,some (.owd (tY (E.zip d))),some (.ow []),some (.owd []),none,none,none]) ⟨[],[],none,none,none,rfl,⟨by simp,rfl,aU,by simp,by simp⟩,af _,λj x h=>absurd h (cQ _)⟩ (by
  rintro i dd S hd ⟨kn,L,v7,v8,v9',rfl,hr,hLl,hall⟩;rw[gMq]at hd;obtain⟨e,he,rfl⟩:=oMq.mp hd;have hi:=(gSq.mp he).1;have heE:e∈E:=mGq he;have hg:=OL kn e
  by_cases c:e∈kn
  .rw [decide_eq_true c]at hg;refine⟨[v0,v1,v2,v3,some (.owd (tY (E.zip d))),some (K13.oM L),some (.owd (kI kn)),some (.sh (.int e)),v8,v9'],?_,kn,L,_,_,_,rfl,hr,by lia,λj x hj hx=>?_⟩
   .simp_arith [tu,hg]
   .rcases cF.mp hj with q|rfl
    .exact hall j x q hx
    .rw [he]at hx;cases hx;exact c
  .rw [decide_eq_false c]at hg;obtain⟨l,cy,hle,ew⟩:=Ry hE pd hl heE (v0:=v0) (v1:=v1) (v2:=v2) (v3:=v3) (v9:=v9') (v5:=some (K13.oM L)) (v6:=some (.owd (kI kn)));have hr2:=hr.add one cy heE c;have hkl:=Sm _ _ hr.nd hr.sub;obtain⟨v9'',em⟩:=Mq (kn:=kn) (l:=l) (v0:=v0) (v1:=v1) (v2:=v2) (v3:=v3) (v4:=some (.owd (tY (E.zip d)))) (v5:=some (K13.oM L)) (v7:=some (.sh (.int e))) (v8:=some (.sh (dI l))) (v9:=v9') hr2.nd (by lia)
   have sl:=pI l;have l1:L.length<rh:=by show _<16777216;lia
   have ea:(L.map λl=>AV.sh (dI l))++[.sh (dI l)]=(L++[l]).map λl=>.sh (dI l):=by rw[mBq];rfl
   refine⟨[v0,v1,v2,v3,some (.owd (tY (E.zip d))),some (K13.oM (L++[l])),some (.owd (kI (kn++l))),some (.sh (.int e)),some (.sh (dI l)),v9''],?_,kn++l,L++[l],_,_,_,rfl,hr2,by rw[lAq,lSq];lia,λj x hj hx=>?_⟩
   .unfold K13.oM at ew em ⊢;simp -implicitDefEqProofs only [Z.Qz,cU,cV,cv,cw,bL,↓reduceIte,reduceCtorEq,dI]at em
    simp_arith [tu,hg,ew,sl,dI,em,l1]
    simp -implicitDefEqProofs only [Z.Qz,cU,cV,cv,cw,bL,↓reduceIte,reduceCtorEq,dI]at ea
    first|rw[ea]|simp
   .rcases cF.mp hj with q|rfl
    .exact mAq.mpr (.inl (hall j x q hx))
    .rw [he]at hx;cases hx;exact mAq.mpr (.inr cy.self))
 obtain⟨S',e,kn,L,v7,v8,v9',rfl,hr,hL,hall⟩:=key;rw[lMq]at hL;refine⟨L,_,_,_,_,e,hr.orb λx hx=>?_,hL⟩
 obtain⟨j,hj⟩:=ar.mp hx;exact hall j x (by rw[lMq];exact(gSq.mp hj).1) hj
end
theorem LJ{nm:List Int}(hn:nm.length<=30) {v0 v1 v3:Option AV}:∃v3',sN 3 uk (nm.map D.int) [v0,v1,some (.ow []),v3,none,none,none,none,none,none]=some (.nx [v0,v1,some (aI (pm nm)),v3',none,none,none,none,none,none]):=by
 have key:=vk (x:=3) (body:=uk) (λi S=>∃v3',S=[v0,v1,some (aI (pm (nm.take i))),v3',none,none,none,none,none,none]) (ds:=nm.map D.int) (S:=[v0,v1,some (.ow []),v3,none,none,none,none,none,none]) ⟨v3,rfl⟩ (by
  rintro i d S hd ⟨v3',rfl⟩;rw[gMq]at hd;obtain⟨x,hx,rfl⟩:=oMq.mp hd;have l3:(pm (nm.take i)).length+2<=rh:=by rw[Iv,lTq];show _<=16777216;lia
  have ap:(pm (nm.take i)).map (λn=>AV.sh (.int n))++[.sh (.int x),.sh (.int (-x))]=(pm (nm.take (i+1))).map λn=>.sh (.int n):=by rw[qK hx,Kr,mBq];rfl
  refine⟨_,?_,some (.sh (.int x)),rfl⟩
  simp_arith [uk,l3,ap])
 obtain⟨S',e,v3',rfl⟩:=key;rw[lMq,bA]at e;exact⟨v3',e⟩
structure Mt (T:List (List Int)):Prop where
 nd:T.flatten.Nodup
 ng:∀z∈T.flatten, -z∈T.flatten
 nz:∀z∈T.flatten,z≠0
 le:T.flatten.length<=60
 lt:T.length<=64
def Pn(T:List (List Int)):Prop:=K11.Cn T/\∃LL u,Ln T LL/\nL T LL+T.length=u+2/\T.flatten.length=2*u
theorem IH(c:Int) {nm:List Int}(hn:nm.length<=30) (nd:nm.Nodup) (lo:∀z∈nm,1<=z):∃T,uY [.int c,dI nm]=some (K13.oM T)/\Mt T:=by
 have nE:(pm nm).Nodup:=K12.DK nd lo;have gE:∀z∈pm nm, -z∈pm nm:=λz hz=>OD hz
 have lE:(pm nm).length<=60:=by rw[Iv];lia
 have zE:∀z∈pm nm,z≠0:=λz hz q=>by
  obtain⟨y,hy,c⟩:=bE.mp hz;have:=lo y hy;simp at c;lia
 obtain⟨v3,e0⟩:=LJ hn (v0:=some (.sh (.int c))) (v1:=some (.sh (dI nm))) (v3:=none);generalize pm nm=E at nE gE lE zE e0;obtain⟨d,ed,pd⟩:=GM c (l:=E) lE;have dzE:=Wz nE pd.length_eq.symm;have dzo:=KR (ns:=E) (ms:=d) pd.length_eq.symm;rw[dzE]at dzo;obtain⟨L,v6,v7,v8,v9,e1,o,lL⟩:=ON nE pd lE (v0:=some (.sh (.int c))) (v1:=some (.sh (dI nm))) (v2:=some (.sh (dI E))) (v3:=v3);have pL:L.flatten.Perm E:=(bP o.dj nE).mpr o.all;refine⟨L,?_,⟨o.dj,λz hz=>pL.mem_iff.mpr (gE z (pL.mem_iff.mp hz)),λz hz=>zE z (pL.mem_iff.mp hz),by rw[pL.length_eq];exact lE,by lia⟩⟩
 have sE:=pI E;have sd:=pI d;unfold K13.oM at e1 ⊢;simp -implicitDefEqProofs only [Z.Qz,cU,cV,cv,cw,bL,↓reduceIte,reduceCtorEq,dI]at e0 e1 ed
 simp_arith [uY,Aj,dI,e0,X6,sE,ed,sd,dzo,e1]
end K44
--ZQ3 --ZQ4 --ZQ5 --ZQ6 --ZQ8 --ZQ9 --ZQB --ZQC --ZQD --ZQE --ZQF --ZQG
namespace K43
open PySem L2 Mr Z Xe Zl K31
open K51 (sG Ps Pc)
theorem RO{nm R:List Int}(h:∀x∈R,x∈nm):qR qt (kSc (pK (Gq false) (oy 0) (oy 1))) [some (.sh (.list (nm.map D.int)))] (R.map D.int)=some ((R.map λ_=>D.bl true).map .sh):=by
 rw[Z.sk λ_=>AV.sh (.bl true)]
 .rw [mPq,mPq];rfl
 .intro d hd;obtain⟨x,hx,rfl⟩:=mMq.mp hd;have hi:=OC false x nm;rw[pJ (by simp),decide_eq_true (h x hx)]at hi
  refine⟨[some (.sh (.int x)),some (.sh (.list (nm.map D.int)))],?_⟩
  simp_arith [hi]
theorem Ua(R:List Int):Ge [.list (R.map λ_=>D.bl true)]=some (.bl true):=by
 rw[Tv]
 induction R with
 |nil=>rfl
 |cons x R ih =>
  show (uj (D.bl true::R.map λ_=>D.bl true)).map _=_
  cases e:uj (R.map λ_=>D.bl true) with
  |none=>rw[e]at ih;cases ih
  |some bs =>
   rw[e]at ih;have:uj (D.bl true::R.map λ_=>D.bl true)=some (true::bs):=by
    show (uj (R.map λ_=>D.bl true)).map (true :: ·)=_
    rw[e];rfl
   rw[this];exact ih
end K43
--ZQ3 --ZQ4 --ZQ5 --ZQ6 --ZQ8 --ZQ9 --ZQB --ZQC --ZQD --ZQE --ZQF --ZQG
namespace K44
open PySem L2 Mr Z Xe Zl
open K15 (fw)
open K16 (tY Au)
open K18 (Ln nL)
open K31 (zM Nm Wm ES Qt Iw zR A7)
open K43 (Mh rds)
open K51 (Ps)
theorem CD{nm cs:List Int}{wild:Bool}(hc:cs.length<=63) (hn:Nm nm) (h30:nm.length<=30):∃T,K31.tG [dI cs,dI nm,.bl wild]=some (.ow (T.map aI))/\Mt T/\(wild=false->Pn T):=by
 obtain⟨T,left,e,cnt,tr,tp,tlt,pl⟩:=PL (nm:=nm) (cs:=cs) (wild:=wild) hc (by lia) (K31.BD hn)
 have hw:Wm nm T:=⟨⟨left,cnt⟩,tr,tp,tlt⟩;have ng:∀z∈T.flatten, -z∈T.flatten:=λz h=>hw.neg hn h
 refine⟨T,e,⟨hw.nodup hn,ng,λz h=>?_,by have:=hw.le;lia,tlt⟩,λh=>⟨⟨λq=>(by rw[q]at tp;cases tp),ng,tr⟩,?_⟩⟩
 .obtain ⟨y,hy,q⟩:=K31.R7.mp (hw.sub h);have:=hn.lo y hy;lia
 .obtain ⟨LL,l1,l2⟩:=pl h;have pm:(T.flatten++zM left).Perm (zM nm):=bT.mpr λa=>by rw[cAq];exact cnt a
  have:=pm.length_eq;rw[lAq,K31.AF,K31.AF]at this;exact⟨LL,nm.length-left.length,l1,by lia,by lia⟩
theorem Vf(ns:List Int):∃T x,f_L_any [.scr ns]=some x/\oP x=dM T/\Mt T/\(cell ns 2 % 2=0->Pn T):=by
 have c0:oN [.scr ns,.int 0]=some (.sh (.int (cell ns 0))):=wD ns (by decide)
 have c1:oN [.scr ns,.int 1]=some (.sh (.int (cell ns 1))):=wD ns (by decide)
 have c2:oN [.scr ns,.int 2]=some (.sh (.int (cell ns 2))):=wD ns (by decide)
 have c3:oN [.scr ns,.int 3]=some (.sh (.int (cell ns 3))):=wD ns (by decide)
 obtain⟨nm0,e0,l0,n0,p0⟩:=TY (cell ns 0) (n:=30) (af _);have e0:sO [.int (cell ns 0),.int 30]=some (aI nm0):=e0;obtain⟨nm,e1,pm⟩:=GM (cell ns 1) (l:=nm0) (by lia)
 have nn:nm.Nodup:=pm.nodup_iff.mpr n0;have np:∀z∈nm,1<=z:=λz hz=>p0 z (pm.mem_iff.mp hz)
 have nl:nm.length=30:=by rw[pm.length_eq];exact l0
 have m2:=qX (i:=cell ns 2) (j:=2) (by decide)
 have s0:=pI nm0;have s1:=pI nm
 by_cases q:cell ns 2 % 2=1
 .have d2:=xK (i:=cell ns 2) (j:=2) (by decide) (by decide)
  have m31:=qX (i:=cell ns 2 / 2) (j:=31) (by decide)
  have b0:=bx (cell ns 2 / 2) (b:=31) (by decide)
  have b1:=bz (cell ns 2 / 2) (b:=31) (by decide)
  obtain⟨k,hk⟩:∃k:Nat,cell ns 2 / 2 % 31=(k:Int):=⟨(cell ns 2 / 2 % 31).toNat,by lia⟩
  have ct:=Kt nm k (by lia)
  obtain⟨T,e2,mt⟩:=IH (cell ns 3) (nm:=nm.take k) (by rw[lTq];lia) (nn.sublist (bC ..)) λz hz=>np z (bK hz)
  have sT:=K13.Na T;refine⟨T,K13.oM T,?_,sT,mt,λh=>by lia⟩
  simp -implicitDefEqProofs only [Z.Qz,cU,cV,cv,cw,bL,↓reduceIte,reduceCtorEq,dI]at e1 e2
  simp_arith [f_L_any,mf_L_any,c0,c1,c2,c3,e0,s0,s1,dI,e1,m2,q,d2,m31,hk,A3,ct,e2]
 .obtain ⟨cs,e3,l3⟩:=LS (cell ns 3);obtain⟨T,e2,mt,pn⟩:=CD (nm:=nm) (cs:=cs) (wild:=false) (by lia) ⟨by lia,nn,np⟩ (by lia)
  have s3:=pI cs;have sT:oP (.ow (T.map aI))=dM T:=by rw[qO,mPq];exact congrArg D.list (mCq λr _=>pI r)
  refine⟨T,.ow (T.map aI),?_,sT,mt,λ_=>pn rfl⟩
  simp -implicitDefEqProofs only [Z.Qz,cU,cV,cv,cw,bL,↓reduceIte,reduceCtorEq,dI]at e1 e2
  simp_arith [f_L_any,mf_L_any,c0,c1,c2,c3,e0,s0,s1,s3,dI,e1,m2,q,e3,e2]
end K44
--ZQ3 --ZQ4 --ZQ5 --ZQ6 --ZQ8 --ZQ9 --ZQB --ZQC --ZQD --ZQE --ZQF --ZQG
namespace K46
open PySem L2 Mr Z Xe Zl
open K15 (nx fw vg)
open K16 (tY)
open K18 (Ln nL PC Bj)
open K31 (Nm ES Qt Iw zR A7)
open K41 (ab FP)
open K44 (rR Fq GJ Ce fl Mt Pn G0 CD)
open K45 (Lk XH DP)
open K51 (sG Ps)
theorem J0{f:Int->Int}:∀{l:List Int},(l.map f).Nodup->∀x∈l,∀y∈l,f x=f y->x=y
 | [],_,x,hx,_,_,_=>by cases hx
 |a::l,h,x,hx,y,hy,e=>by
  rw[au]at h;obtain⟨h1,h2⟩:=aq.mp h;rcases ae.mp hx with rfl|hx' <;> rcases ae.mp hy with rfl|hy'
  .rfl
  .exact absurd (mMq.mpr ⟨y,hy',e.symm⟩) h1
  .exact absurd (mMq.mpr ⟨x,hx',e⟩) h1
  .exact J0 h2 x hx' y hy' e
theorem Kb{f:Int->Int}:∀{l:List Int},l.Nodup->(∀x∈l,∀y∈l,f x=f y->x=y)->(l.map f).Nodup
 | [],_,_=>aU
 |a::l,h,inj=>by
  obtain⟨h1,h2⟩:=aq.mp h;rw[au];refine aq.mpr ⟨λq=>?_,Kb h2 λx hx y hy=>inj x (mCo _ hx) y (mCo _ hy)⟩
  obtain⟨b,hb,e⟩:=mMq.mp q;have:=inj b (mCo _ hb) a (ag ..) e;exact h1 (this ▸ hb)
theorem Kg{l:List Int}:(Ms.dd l).length<l.length↔¬ l.Nodup:=by
 constructor
 .intro h nd;have:(Ms.dd l).Perm l:=(bP (Ms.JA l) nd).mpr λx=>Ms.zY
  have:=this.length_eq;lia
 .intro h;have le:=Ms.Hu l;refine Nat.lt_of_le_of_ne le λq=>h ?_
  have key:∀(n:Nat) (l:List Int),l.length=n->(Ms.dd l).length=l.length->l.Nodup:=by
   intro n
   induction n with
   |zero=>intro l hl _;rw[bq.mp hl];exact aU
   |succ n ih =>
    intro l hl q;rcases dU l with rfl|⟨l',a,rfl⟩
    .cases hl
    .rw [dW]at hl q ⊢;rw[lAq,lSq]at hl;rw[Ms.Km,lAq,lSq]at q;have le':=Ms.Hu l';have na:a∉l':=λh=>by
      have:Ms.wU (Ms.dd l') a=Ms.dd l':=by
       unfold Ms.wU;rw[pN (Ms.zY.mpr h)]
      rw[this]at q;lia
     have:(Ms.wU (Ms.dd l') a).length=(Ms.dd l').length+1:=by
      unfold Ms.wU;rw[pJ λh=>na (Ms.zY.mp h),lAq]
      rfl
     rw[nAq];exact⟨ih l' (by lia) (by lia),by simp,λx hx y hy e=>na (by rw[mSq.mp hy]at e;exact e ▸ hx)⟩
  exact key _ l rfl q
section
variable {M L:List (List Int)}{p:Nat}{r:List Int}
theorem DM{f:Int->Int}{E:List Int}(o:Ck f E L) {l:List Int}(hl:l∈L) {x:Int}(hx:x∈l):fl (rR L) x=l.headD 0:=by
 unfold K44.fl;rw[Fq o hl hx]
theorem We{f:Int->Int}{e:Int}{l:List Int}(c:Cy f e l) {x:Int}(hx:x∈l):f x∈l:=by
 obtain⟨j,hj⟩:=ar.mp hx;have hlt:=(gSq.mp hj).1;rw[c.at hlt]at hj;have e1:=aD.inj hj
 by_cases q:j+1<l.length
 .have:=mGq (c.at q);rw[←e1];exact this
 .have en:j+1=l.length:=by lia
  have:f x=e:=by
   rw[←e1];show itr f (j+1) e=e;rw[en];exact c.back
  rw[this];exact c.self
theorem O8{f:Int->Int}{e:Int}{l:List Int}(c:Cy f e l) {x:Int}(hx:x∈l):∀n,itr f n x∈l
 |0=>hx
 |n+1=>We c (O8 c hx n)
def XJ(M:List (List Int)):Prop:=∃LL,Ln M LL/\∀{kn:List Nat}{PS:List (List Nat)},Ps M M.length kn PS->4*PS.length+M.flatten.length=2*M.length+2*nL M LL
theorem Yp(hm:Mp M) (nz:∀e∈M.flatten,e≠0) (h150:M.length<=150) (hn:M.flatten.length<=128) (o:Ck (fw M) M.flatten L) (hr:M[p]?=some r):∃G:List (List Int),K41.tm [dM M,.int (p:Int)]=some (.ow (G.map aI))/\(2<=G.length->(Ms.dd (r.map (fl (rR L)))).length<r.length)/\(XJ M->(Ms.dd (r.map (fl (rR L)))).length<r.length->2<=G.length):=by
 obtain⟨X,e,fam⟩:=DP hm nz hr;have rM:∀x∈r,x∈M.flatten:=λx hx=>mFq.mpr ⟨r,mGq hr,hx⟩
 have lm:r.length=(r.map (fl (rR L))).length:=(lMq _).symm;have Y6:r.Nodup:=hm.hn.sublist (aF (mGq hr));refine⟨wX X,e,λh=>?_,λ⟨LL,ln,bal⟩ h=>?_⟩
 .rw [yi]at h;rw[lm,Kg];intro nd;have inj:∀x∈r,∀y∈r,(∃n,itr (fw M) n x=y)->x=y:=λx hx y hy ⟨n,q⟩=>by
   obtain⟨l,hl,hxl⟩:=mFq.mp ((o.all x).mpr (rM x hx));obtain⟨e,c⟩:=o.cy l hl;have hyl:y∈l:=q ▸ O8 c hxl n;exact J0 nd x hx y hy (by rw[DM o hl hxl,DM o hl hyl])
  have:=few hm hr fam λa ha=>X5 hm hr inj ha
  lia
 .rw [lm,Kg]at h;rw[yi];refine ft λlt=>?_
  obtain⟨x,hx,y,hy,q,ne⟩:∃x∈r,∃y∈r,fl (rR L) x=fl (rR L) y/\x≠y:=ft λno=>h (Kb Y6 λx hx y hy q=>ft λne=>no ⟨x,hx,y,hy,q,ne⟩)
  obtain⟨l,hl,hxl⟩:=mFq.mp ((o.all x).mpr (rM x hx));obtain⟨l',hl',hyl⟩:=mFq.mp ((o.all y).mpr (rM y hy));rw[DM o hl hxl,DM o hl' hyl]at q;have:=GJ o hl hl' q;subst this;have pm:=Ck.perm (vg hm) o (ln.orb hm);obtain⟨c,hc,gq⟩:=mMq.mp (pm.mem_iff.mp (mMq.mpr ⟨l,hl,rfl⟩));have cx:x∈c:=(qV c).mem_iff.mp (by rw[gq];exact(qV l).mem_iff.mpr hxl)
  have cy:y∈c:=(qV c).mem_iff.mp (by rw[gq];exact(qV l).mem_iff.mpr hyl)
  obtain⟨kn,PS,hp,_⟩:=K51.Bv (K43.Ei hm);refine UL hm nz h150 hn ln hp (bal hp) hr hx hy ne hc cx cy λa ha b hb=>?_
  have inX:∀e∈r,∃x∈X,ab e∈x:=λe he=>mFq.mp (fam.fl.mem_iff.mpr (Ms.zY.mpr (mMq.mpr ⟨e,he,rfl⟩)))
  obtain⟨xa,h1,h2⟩:=inX a ha;obtain⟨xb,h3,h4⟩:=inX b hb;have:xa=xb:=by
   cases X with
   |nil=>cases h1
   |cons w X =>
    cases X with
    |nil=>rw[mSq.mp h1,mSq.mp h3]
    |cons _ _=>exact absurd (show 2<=_+1+1 by lia) lt
  subst this;exact fam.eq xa h1 _ h2 _ h4
end
section
variable {M L:List (List Int)}
theorem N7{f:Int->Int}{E:List Int}(o:Ck f E L) {r:List Int}(hr:∀x∈r,x∈E):qR qt (kSc (xC (oy 1) (oy 0))) [some (.sh (.dict (tY (rR L))))] (r.map D.int)=some ((r.map (fl (rR L))).map λn=>.sh (.int n)):=by
 rw[Z.sk λd=>match d with|.int x=>.sh (.int (fl (rR L) x))|_=>.sh .non]
 .rw [mPq,mPq];rfl
 .intro d hd;obtain⟨x,hx,rfl⟩:=mMq.mp hd;obtain⟨l,hl,hxl⟩:=mFq.mp ((o.all x).mpr (hr x hx));have g:=Fq o hl hxl;have e:=DM o hl hxl;refine⟨[some (.sh (.int x)),some (.sh (.dict (tY (rR L))))],?_⟩
  simp_arith [g,e]
def tw(L M:List (List Int)) (k:Nat):Bool:=decide ((Ms.dd ((M.getD k []).map (fl (rR L)))).length<(M.getD k []).length)
def FH(L M:List (List Int)) (n:Nat):List Int:=((bN n).filter (tw L M)).map λk:Nat=>(k:Int)
theorem M3(L M:List (List Int)) (n:Nat):FH L M (n+1)=FH L M n++(if tw L M n=true then [(n:Int)] else []):=by
 unfold FH;rw[List.range_succ,dQ,mBq];congr 1
 by_cases h:tw L M n=true
 .rw [pN h,eO h];rfl
 .rw [pJ h,dD h];rfl
theorem Sy(L M:List (List Int)) (n:Nat):(FH L M n).length<=n:=by
 unfold FH;rw[lMq];have:=cY (tw L M) (bN n)
 rwa [bh]at this
theorem Ur{x:AV}{ds:List D}(h:oP x = .list ds):Xs x=some ds:=by
 cases x with
 |sh d =>
  rw[rq]at h;subst h;rfl
 |ow avs =>
  rw[qO]at h;rw[Oa];exact congrArg some (D.list.inj h)
 |owd kvs=>rw[vz]at h;cases h
 |owl kvs=>cases h
theorem Lh(x:AV):oP (T4 x)=oP x:=by
 cases x with
 |ow avs =>
  rw[Pp,qO,qO,mPq];exact congrArg D.list (List.map_id' (avs.map oP))
 |_=>rfl
theorem Py(hm:Mp M) (o:Ck (fw M) M.flatten L) {x y:AV}(hx:oP x=dM M) (hy:oP y = .dict (tY (rR L))) {v0 v1 v2 v3 v4 v6:Option AV}:∃x' y' v9,sN 9 xA (pV 0 M.length) [v0,v1,v2,v3,v4,some x,v6,some y,some (.ow []),none]=some (.nx [v0,v1,v2,v3,v4,some x',v6,some y',some (aI (FH L M M.length)),v9]):=by
 have hl:=hm.hl;have hr1000:=hm.hr;have key:=vk (x:=9) (body:=xA) (λi S=>∃x y v9,S=[v0,v1,v2,v3,v4,some x,v6,some y,some (aI (FH L M i)),v9]/\oP x=dM M/\oP y = .dict (tY (rR L))) (ds:=pV 0 M.length) (S:=[v0,v1,v2,v3,v4,some x,v6,some y,some (.ow []),none]) ⟨x,y,none,rfl,hx,hy⟩ (by
  rintro i d S hd ⟨x,y,v9,rfl,hx,hy⟩;rw[yT]at hd;have hi:i<M.length:=by
   have:=(gSq.mp hd).1
   rwa [lMq,bh]at this
  rw[gMq,cR hi]at hd;have hd:=aD.inj hd;subst hd;have hr:M[i]?=some (M.getD i []):=K18.CW hi;have tws:tw L M i=decide ((Ms.dd ((M.getD i []).map (fl (rR L)))).length<(M.getD i []).length):=rfl;generalize M.getD i []=r at hr tws;have at5:atI (M.map dI) (i:Int)=some (dI r):=xO (by rw[gMq,hr];rfl)
  have rle:r.length<=M.flatten.length:=K12.EW hr;have nc:=N7 o (r:=r) λx hx=>mFq.mpr ⟨r,mGq hr,hx⟩
  have lr:r.length<=rh:=tK (by lia)
  have l4:(r.map (fl (rR L))).length<=4000:=by rw[lMq];lia
  have l5:r.length<=4000:=by lia
  have dl:=Sy L M i;have ld:(FH L M i).length<rh:=by show _<16777216;lia
  have ap:(FH L M i).map (λn=>AV.sh (.int n))++[.sh (.int (i:Int))]=(FH L M i++[(i:Int)]).map λn=>.sh (.int n):=by rw[mBq];rfl
  have dc:decide ((((Ms.dd (r.map (fl (rR L)))).length:Nat):Int)<((r.length:Nat):Int))=decide ((Ms.dd (r.map (fl (rR L)))).length<r.length):=decide_eq_decide.mpr (by lia)
  have ds:=M3 L M i;have lq:=Ur hx;have sh:=(Lh x).trans hx
  by_cases q:tw L M i=true
  .rw [pN q]at ds;rw[←tws,q]at dc;refine⟨[v0,v1,v2,v3,v4,some (T4 x),v6,some (.sh (.dict (tY (rR L)))),some (aI (FH L M (i+1))),some (.sh (.int (i:Int)))],?_,_,_,_,rfl,sh,rq _⟩;rw[ds]
   simp_arith [xA,hx,hy,lq,sh,at5,dI,nc,lr,Nr,l5,dc,ld,ap]
  .rw [pJ q,aNq]at ds;rw[←tws,(dG _).mp q]at dc;refine⟨[v0,v1,v2,v3,v4,some (T4 x),v6,some (.sh (.dict (tY (rR L)))),some (aI (FH L M (i+1))),some (.sh (.int (i:Int)))],?_,_,_,_,rfl,sh,rq _⟩;rw[ds]
   simp_arith [xA,hx,hy,lq,sh,at5,dI,nc,lr,Nr,l5,dc,ld,ap])
 obtain⟨S',e,x,y,v9,rfl,_,_⟩:=key;rw[pZ]at e;exact⟨_,_,_,e⟩
end
theorem FU:∀k:Nat,(aB k [([]:List Int)]).flatten=aB k []
 |0=>rfl
 |k+1=>by rw[gL,fCq,FU k,gL];rfl
theorem Mv{T:List (List Int)}(mt:Mt T) (pn:Pn T) (k:Nat) (hk:k<=10):XJ (wX ((T++aB k []).map good)):=by
 obtain⟨cn,LL,u,ln,bal,hu⟩:=pn;have fR:(T++aB k ([]:List Int)).flatten=T.flatten:=by simp
 have pc:∀q,(PC (T++aB k ([]:List Int))).count q=(PC T).count q:=λq=>by
  rw[Bj];have:PC (aB k ([]:List Int))=[]:=by
   unfold K18.PC;rw[List.flatMap_eq_nil_iff];intro r hr;rw[(gS.mp hr).2];rfl
  rw[this];rfl
 have ln2:Ln (T++aB k ([]:List Int)) LL:=⟨λx y=>by rw[pc];exact ln.cnt x y,ln.ne⟩
 have n2:nL (T++aB k ([]:List Int)) LL=nL T LL+k:=by
  unfold K18.nL;rw[cAq,List.count_replicate_self];lia
 have lT:(T++aB k ([]:List Int)).length=T.length+k:=by rw[lAq,cE]
 have ef:([T]++aB k [([]:List Int)]).flatten=T++aB k []:=by
  rw[fAq,bo,FU]
 have hle:=mt.le;have hlt:=mt.lt;generalize hW:T++aB k ([]:List Int)=W at ln2 n2 lT ef fR;have pG:(wX (W.map good)).flatten.Perm W.flatten:=(rF (se _)).trans (tH qV _);have lG:(wX (W.map good)).length=W.length:=by rw[yi,lMq]
 have mp:Mp (wX (W.map good)):=⟨pG.nodup_iff.mpr (by rw[fR];exact mt.nd),by rw[pG.length_eq,fR];lia,by lia,λe he=>pG.mem_iff.mpr (by rw[fR];exact mt.ng e (by rw[←fR];exact pG.mem_iff.mp he))⟩
 refine⟨LL,ln2.rows,λ{kn PS} hp=>?_⟩
 have pl:=K17.Fx (P:=[T]++aB k [([]:List Int)]) (by rw[ef,fR];exact mt.nd) (λp hp=>by
  rcases mAq.mp hp with h|h
  .rw [mSq.mp h];exact cn
  .rw [(gS.mp h).2];exact⟨by simp,λz hz=>(by simp at hz),K11.FO []⟩) (by rw[ef];exact mp) (kn:=kn) (PS:=PS) (by rw[ef];exact hp)
 rw[lAq,cE]at pl;have l1:[T].length=1:=rfl;rw[K18.Sf,lG,pG.length_eq,fR,n2,lT,pl,hu];lia
def QY:MS:=(oE (oS 6 (pH K41.zh (oH (pH K51.xq (oH (oQ 5) oW)) oW)))
 (oE (oS 7 (pH K44.f_L_lands (oH (oQ 5) oW)))
 (oE (oS 8 (rQ oW))
 (oE (vM 9 (ot (rP ql (ot (oy 5) oC)) oC) xA)
 (oE (wt (uv (rp (qj K31.uK (ot (oy 6) oC)))) (qa (kSc (rC (.bl false)))) pU)
 (oE (wt (rp (pK DT (pK sr (oy 3) (rC (.int 2))) (rC (.int 0)))) (qa (kSc (pK D0 (oy 6) (oy 8)))) pU)
 (qa (kSc (DD (pK D0 (oy 6) (rOf (yz (sR 6)))) (rP Ge (ot (rOf (qM (wm (oQ 6)) [8] qt (kSc (pK (Gq false) (oy 0) (oy 1))))) oC)))))))))))
theorem Kj{T:List (List Int)}(mt:Mt T) {k:Nat}(hk:k<=10) {p:Int}(hp:p % 2=0->Pn T) {x:AV}(hx:oP x=dM (wX ((T++aB k []).map good))) {v0 v1 v2 v4:Option AV}:QY [v0,v1,v2,some (.sh (.int p)),v4,some x,none,none,none,none]=some (.rt (.sh (.bl true))):=by
 have hlt:=mt.lt;have hle:=mt.le;have bal:p % 2=0->XJ (wX ((T++aB k []).map good)):=λh=>Mv mt (hp h) k hk
 have fR:(T++aB k ([]:List Int)).flatten=T.flatten:=by simp
 have lT:(T++aB k ([]:List Int)).length=T.length+k:=by rw[lAq,cE]
 generalize T++aB k ([]:List Int)=W at hx bal fR lT;have pG:(wX (W.map good)).flatten.Perm T.flatten:=by rw[←fR];exact(rF (se _)).trans (tH qV _)
 have lG:(wX (W.map good)).length=T.length+k:=by rw[yi,lMq,lT]
 have mp:Mp (wX (W.map good)):=⟨pG.nodup_iff.mpr mt.nd,by rw[pG.length_eq];lia,by lia,λe he=>pG.mem_iff.mpr (mt.ng e (pG.mem_iff.mp he))⟩
 have nz:∀e∈(wX (W.map good)).flatten,e≠0:=λe he=>mt.nz e (pG.mem_iff.mp he)
 have hn:(wX (W.map good)).flatten.length<=60:=by rw[pG.length_eq];lia
 generalize wX (W.map good)=M at hx bal pG lG mp nz hn;have cM:=K12.K8 M;have lM':M.length<=rh:=tK (by lia)
 have cp:K51.xq [dM M]=some (.ow (M.map aI)):=by
  simp_arith [K51.xq,K51.Ep,cM,lM']
 have sM:(M.map aI).map oP=M.map dI:=by rw[mPq];exact mCq λr _=>pI r
 obtain⟨L,o,el⟩:=G0 mp;have each:∀j,∃G:List (List Int),j<M.length->K41.tm [dM M,.int (j:Int)]=some (.ow (G.map aI))/\(2<=G.length->tw L M j=true)/\(XJ M->tw L M j=true->2<=G.length):=λj=>by
  by_cases h:j<M.length
  .have hr:M[j]?=some (M.getD j []):=K18.CW h;obtain⟨G,e1,e2,e3⟩:=Yp mp nz (by lia) (by lia) o hr
   exact⟨G,λ_=>⟨e1,λz=>decide_eq_true (e2 z),λb z=>e3 b (of_decide_eq_true z)⟩⟩
  .exact ⟨[],λz=>absurd z h⟩
 obtain⟨g,hg⟩:=Classical.axiomOfChoice each;have dr:=K41.Pr (g:=g) (by lia) λj hj=>(hg j hj).1
 have rg:=vt (n:=M.length) (by lia)
 have lM:(M.map dI).length=M.length:=lMq _;obtain⟨x',y',v9,dl⟩:=Py mp o (x:=.sh (dM M)) (y:=.owd (tY (rR L))) (rq _) (vz _) (v0:=v0) (v1:=v1) (v2:=v2) (v3:=some (.sh (.int p))) (v4:=v4) (v6:=some (aI (FP M.length g)));have ldr:=K41.RD M.length g;have wh:=A7 (l:=FP M.length g) (by lia)
 have sB:=pI (FP M.length g);have sD:=pI (FH L M M.length);have m2:=qX (i:=p) (j:=2) (by decide)
 by_cases q:p % 2=0
 .have b:=bal q;have same:FP M.length g=FH L M M.length:=by
   unfold K41.FP FH;congr 1;refine jl λj hj=>?_
   have h:=hg j (bW.mp hj);rw[bI,decide_eq_true_iff];exact⟨h.2.1,h.2.2 b⟩
  rw[same]at dr wh sB dl;generalize FH L M M.length=R at dr wh sB dl sD;have eq:=My R R
  simp_arith [QY,hx,cp,sM,dr,el,lM,rg,dl,sB,wh,m2,q,sD,eq]
 .have sub2:∀z∈FP M.length g,z∈FH L M M.length:=λz hz=>by
   unfold K41.FP at hz;obtain⟨j,hj,rfl⟩:=mMq.mp hz;obtain⟨h1,h2⟩:=aQ.mp hj;exact mMq.mpr ⟨j,aQ.mpr ⟨h1,(hg j (bW.mp h1)).2.1 (of_decide_eq_true h2)⟩,rfl⟩
  have srt2:=K41.IK M.length g;generalize FP M.length g=B at dr wh sB dl sub2 srt2 ldr;generalize FH L M M.length=R at dl sD sub2;have ic:=K43.RO sub2;have ab:=K43.Ua B;have lB:B.length<=rh:=tK (by lia)
  have eq:=My B B
  simp_arith [QY,hx,cp,sM,dr,el,lM,rg,dl,sB,wh,m2,q,sD,srt2,eq,dI,ic,ab,lB]
theorem T3{ns:List Int}(hns:ns.length<=63):Ju [.scr ns]=some (.sh (.bl true)):=by
 obtain⟨st,sh,a,b,h1,h1',h2,h2',h3,h4,en⟩:=ES (cell ns 0) (cell ns 1);have hnm:=Iw (b:=b) (n:=20) (by decide) h1 h2 h3 h4
 have nc:=zR (n:=20) en;have hnl:(Qt st sh a b 20).length=20:=by unfold K31.Qt;rw[lMq,bh]
 generalize Qt st sh a b 20=nm at hnm nc hnl;have hcs:zF ns (some 3) (some 66)=(ns.drop 3).take 63:=Oi ns 3 66;have hl:((ns.drop 3).take 63).length<=63:=by rw[lTq];exact Nat.min_le_left ..
 generalize (ns.drop 3).take 63=cs at hcs hl;obtain⟨T,et,mt,pn⟩:=CD (nm:=nm) (cs:=cs) (wild:=decide (cell ns 2 % 2=1)) hl hnm (by lia)
 have sT:(T.map aI).map oP=T.map dI:=by rw[mPq];exact mCq λr _=>pI r
 have c0:oN [.scr ns,.int 0]=some (.sh (.int (cell ns 0))):=wD ns (by decide)
 have c1:oN [.scr ns,.int 1]=some (.sh (.int (cell ns 1))):=wD ns (by decide)
 have c2:oN [.scr ns,.int 2]=some (.sh (.int (cell ns 2))):=wD ns (by decide)
 have c4:oN [.scr ns,.int 4]=some (.sh (.int (cell ns 4))):=wD ns (by decide)
 have r20:B1 [.int 20]=some (pV 0 20):=vt (n:=20) (by decide)
 have l20:(20:Nat)<=rh:=by show 20<=16777216;decide
 have sn:=pI nm;have m2:=qX (i:=cell ns 2) (j:=2) (by decide)
 have d2:=xK (i:=cell ns 2) (j:=2) (by decide) (by decide)
 have m3:=qX (i:=cell ns 2 / 2) (j:=3) (by decide)
 have b0:=bx (cell ns 2 / 2) (b:=3) (by decide)
 have b1:=bz (cell ns 2 / 2) (b:=3) (by decide)
 obtain⟨k,hk⟩:∃k:Nat,cell ns 2 / 2 % 3=(k:Int):=⟨(cell ns 2 / 2 % 3).toNat,by lia⟩
 rw[hk]at m3 b1;have m4:=qX (i:=cell ns 4) (j:=4) (by decide)
 have b2:=bx (cell ns 4) (b:=4) (by decide)
 have b3:=bz (cell ns 4) (b:=4) (by decide)
 obtain⟨k',hk'⟩:∃k:Nat,cell ns 4 % 4=(k:Int):=⟨(cell ns 4 % 4).toNat,by lia⟩
 rw[hk']at m4 b3;have mlen:=qX (i:=((ns.length:Nat):Int)) (j:=2) (by decide)
 have rgK:∀j:Nat,j<=10->B1 [.int (j:Int)]=some (pV 0 j):=λj h=>vt (n:=j) (by lia)
 have nk:=K41.KB;have rd:=λj:Nat=>pZ 0 j
 have sK:∀j:Nat,((aB j ([]:List Int)).map aI).map oP=(aB j ([]:List Int)).map dI:=λj=>by rw[mPq];exact mCq λr _=>pI r
 have lR:∀j:Nat,(aB j ([]:List Int)).length=j:=λj=>cE
 have q2:∀(T:List (List Int)) (j:Nat),T.map dI++(aB j ([]:List Int)).map dI=(T++aB j []).map dI:=λT j=>by rw[mBq]
 have igo:∀{W:List (List Int)}(j:Nat),Mt W->j<=10->pQ [dM (W++aB j [])]=some (.ow ((wX ((W++aB j []).map good)).map aI)):=λ{W} j h hj=>Bs (rs:=W++aB j []) (λr hr=>by
  have:=h.le;rcases mAq.mp hr with hr|hr
  .have:=fe.length_le (aF hr);lia
  .rw [(gS.mp hr).2];exact bp _) (tK (by rw[lAq,cE];have:=h.lt;lia))
 have sW:∀W:List (List Int),oP (.ow (W.map aI))=dM W:=λW=>by rw[qO,mPq];exact congrArg D.list (mCq λr _=>pI r)
 have ig:=igo k mt (by lia)
 have hlt:=mt.lt;have lk:k<=rh:=tK (by lia)
 have lk':k'<=rh:=tK (by lia)
 have l5:T.length+k<=rh:=tK (by lia)
 have rk:=rgK k (by lia)
 have rk':=rgK k' (by lia)
 have lw:Nv=(oE (oS 1 (kSc (qj Zl.oN (ot (oy 0) (ot (rC (.int 0)) oC)))))
  (oE (oS 2 (kSc (qj Zl.oN (ot (oy 0) (ot (rC (.int 1)) oC)))))
  (oE (oS 3 (kSc (qj Zl.oN (ot (oy 0) (ot (rC (.int 2)) oC)))))
  (oE (oS 4 (qM (QA (ot (rC (.int 20)) oC)) [1,2] qt (kSc (qj K31.tP (ot (oy 1) (ot (oy 2) (ot (oy 0) oC)))))))
  (oE (oS 5 (pH Zl.pQ (oH (Da (lOf (pH K31.tG (oH (Oq (sR 0) (wQ (rC (.int 3))) (wQ (rC (.int 66)))) (oH (oQ 4) (oH (kSc (pK DT (pK sr (oy 3) (rC (.int 2))) (rC (.int 1)))) oW))))) (lOf (qM (QA (ot (pK sr (pK yq (oy 3) (rC (.int 2))) (rC (.int 3))) oC)) [] qt (rQ oW)))) oW)))
  (oE (wt (rp (pK DT (pK sr (rP ql (ot (oy 0) oC)) (rC (.int 2))) (rC (.int 0)))) (oS 5 (pH Zl.pQ (oH (Da (lOf (pH K44.f_L_any (oH (oQ 0) oW))) (lOf (qM (QA (ot (pK sr (qj Zl.oN (ot (oy 0) (ot (rC (.int 4)) oC))) (rC (.int 4))) oC)) [] qt (rQ oW)))) oW))) pU) QY)))))):=rfl
 by_cases q:((ns.length:Nat):Int) % 2=0
 .obtain ⟨T2,x,ea,sx,mt2,pn2⟩:=K44.Vf ns;have ig2:=igo k' mt2 (by lia)
  have hlt2:=mt2.lt;have l6:T2.length+k'<=rh:=tK (by lia)
  have lx:VM x=some (T2.map dI):=by
   cases x with
   |sh d=>rw[rq]at sx;subst sx;rfl
   |ow avs=>rw[qO]at sx;exact congrArg some (D.list.inj sx)
   |owd kvs=>rw[vz]at sx;cases sx
   |owl kvs=>cases sx
  have fin:=λv0 v1 v2 v4=>Kj mt2 (k:=k') (by lia) (p:=cell ns 2) pn2 (sW _) (v0:=v0) (v1:=v1) (v2:=v2) (v4:=v4)
  simp -implicitDefEqProofs only [Z.Qz,cU,cV,cv,cw,bL,↓reduceIte,reduceCtorEq,dI]at et
  simp_arith [Ju,lw,c0,c1,c2,c4,r20,l20,nc,A3,hcs,sn,dI,m2,et,sT,d2,m3,hk,rk,nk,rd,lk,sK,lR,l5,q2,ig,mlen,q,ea,lx,m4,hk',rk',lk',l6,ig2,fin]
 .have fin:=λv0 v1 v2 v4=>Kj mt (k:=k) (by lia) (p:=cell ns 2) (λh=>pn (decide_eq_false (by lia))) (sW _) (v0:=v0) (v1:=v1) (v2:=v2) (v4:=v4)
  simp -implicitDefEqProofs only [Z.Qz,cU,cV,cv,cw,bL,↓reduceIte,reduceCtorEq,dI]at et
  simp_arith [Ju,lw,c0,c1,c2,r20,l20,nc,A3,hcs,sn,dI,m2,et,sT,d2,m3,hk,rk,nk,rd,lk,sK,lR,l5,q2,ig,mlen,q,fin]
end K46
namespace K46
open PySem L2 Mr Z
theorem T8{l:W.OpenLaw}{w:ki}{K:W.Frag}{h:Heap}{mg:Str->Option Value}{fa:Addr}(X:K.In h) (G:h.Ns kg mg) (hfa:mg "law" = some (.ref fa))
  (a0:At K "places_at" tS f0 fd0)
  (a1:At K "thinned" xB f1 fd1)
  (a2:At K "reached" xp f2 fd2)
  (a3:At K "without_roads" sL f3 fd3)
  (a4:At K "groups" yV f4 fd4)
  (a5:At K "doors" AX f5 fd5)
  (a6:At K "_law_cell" xF f6 fd6)
  (a7:At K "_law_name" yF f7 fd7)
  (a8:At K "_law_turns" vB f8 fd8)
  (a9:At K "_law_turned" vL f9 fd9)
  (a10:At K "_law_good" yP f10 fd10)
  (a11:At K "_law_copy" yD f11 fd11)
  (a12:At K "_law_wholes" vU f12 fd12)
  (a13:At K "_law_follow" wg f13 fd13)
  (a14:At K "_law_lands" xE f14 fd14)
  (a15:At K "_law_gap_names" tO f15 fd15)
  (a16:At K "_law_dealt" vC f16 fd16)
  (a17:At K "_law_any_map" uZ f17 fd17)
  (a18:At K "_law_eights" vQ f18 fd18)
  (a19:At K "_law_any" Ag f19 fd19)
  (a20:W.nsIn K kg "law" = some (some (.ref f20))) (l20:K.lookup f20=some ⟨oc20,od20,.func (W.fnOf "law" "law" (vx zw) (uS zw) (pB zw) .none kV20 dc20 pm20 an20 cd20 ct20),sl20⟩) (c20:W.codeIn K cd20 "law" = true) (k20:W.keepIn K (.ref f20)=true)
  (bx_set:W.nsIn K kg "set" = some none)
  (z0:W.nsIn K kg "len" = some none) (z1:W.nsIn K kg "min" = some none) (z2:W.nsIn K kg "max" = some none) (z3:W.nsIn K kg "abs" = some none) (z4:W.nsIn K kg "all" = some none) (z5:W.nsIn K kg "sorted" = some none) (z6:W.nsIn K kg "isinstance" = some none) (z7:W.nsIn K kg "list" = some none) (z8:W.nsIn K kg "int" = some none) (z9:W.nsIn K kg "bool" = some none) (z10:W.nsIn K kg "str" = some none) (z11:W.nsIn K kg "dict" = some none) (z12:W.nsIn K kg "zip" = some none) (z13:W.nsIn K kg "enumerate" = some none) (z14:W.nsIn K kg "range" = some none) (z15:W.nsIn K kg "reversed" = some none) :
  ∃fd:kA,(∀(s:Shared) (v:Value),mZ s fd ⟨[v],[]⟩ [("_law_script", v)])/\∀base:Heap,K.In base->base.Ns kg mg->BS l.prog w K mg base Vi 5 fa fd ["_law_script"] (JT K):=by
 have e:=hfa.symm.trans (W.mg_of X G a20);cases e;have B:Bt mg:=⟨W.mg_none_of X G z0,W.mg_none_of X G z1,W.mg_none_of X G z2,W.mg_none_of X G z3,W.mg_none_of X G z4,W.mg_none_of X G z5,W.mg_none_of X G z6,W.mg_none_of X G z7,W.mg_none_of X G z8,W.mg_none_of X G z9,W.mg_none_of X G z10,W.mg_none_of X G z11,W.mg_none_of X G z12,W.mg_none_of X G z13,W.mg_none_of X G z14,W.mg_none_of X G z15⟩;have D20:Cd K mg "law" zw ["_law_script"] _ _:=⟨IJ l20 c20 k20,W.mg_of X G a20,b1 (IJ l20 c20 k20) λ_ _ _ _ _ _ _=>rfl⟩
 refine⟨W.fnOf "law" "law" (vx zw) (uS zw) (pB zw) .none kV20 dc20 pm20 an20 cd20 ct20,λs v=>.of_eq rfl,λbase kb nb=>?_⟩
 have bX_set:=W.mg_none_of X G bx_set;have F0:=FE (P:=l.prog) (w:=w) (base:=base) (Ey X G a0 (b1 a0.F λ_ _ _ _ _ _ _=>rfl)) B
 have F1:=IA (P:=l.prog) (w:=w) (base:=base) (Ey X G a1 (b2 a1.F λ_ _ _ _ _ _ _ _=>rfl)) B
 have F2:=Ji (Ey X G a2 (b2 a2.F λ_ _ _ _ _ _ _ _=>rfl)) B F0
 have F3:=A9 (Ey X G a3 (b2 a3.F λ_ _ _ _ _ _ _ _=>rfl)) B F1
 have F4:=Lc (Ey X G a4 (b2 a4.F λ_ _ _ _ _ _ _ _=>rfl)) B F0 F3 F2
 have F5:=Ql (Ey X G a5 (b1 a5.F λ_ _ _ _ _ _ _=>rfl)) B F4
 have F6:=Lb (P:=l.prog) (w:=w) (base:=base) (Ey X G a6 (b2 a6.F λ_ _ _ _ _ _ _ _=>rfl)) B
 have F7:=LX (P:=l.prog) (w:=w) (base:=base) (Ey X G a7 (b3 a7.F λ_ _ _ _ _ _ _ _ _=>rfl)) B
 have F8:=HB (P:=l.prog) (w:=w) (base:=base) (Ey X G a8 (b3 a8.F λ_ _ _ _ _ _ _ _ _=>rfl)) B
 have F9:=Gw (P:=l.prog) (w:=w) (base:=base) (Ey X G a9 (b1 a9.F λ_ _ _ _ _ _ _=>rfl)) B
 have F10:=K2 (Ey X G a10 (b1 a10.F λ_ _ _ _ _ _ _=>rfl)) B F9
 have F11:=Li (P:=l.prog) (w:=w) (base:=base) (Ey X G a11 (b1 a11.F λ_ _ _ _ _ _ _=>rfl)) B
 have F12:=GT (P:=l.prog) (w:=w) (base:=base) (Ey X G a12 (b1 a12.F λ_ _ _ _ _ _ _=>rfl)) B
 have F13:=GY (P:=l.prog) (w:=w) (base:=base) (Ey X G a13 (b1 a13.F λ_ _ _ _ _ _ _=>rfl)) B
 have F14:=HG (Ey X G a14 (b1 a14.F λ_ _ _ _ _ _ _=>rfl)) B F13
 have F15:=CJ (P:=l.prog) (w:=w) (base:=base) (Ey X G a15 (b2 a15.F λ_ _ _ _ _ _ _ _=>rfl)) B
 have F16:=Jh (P:=l.prog) (w:=w) (base:=base) (Ey X G a16 (b2 a16.F λ_ _ _ _ _ _ _ _=>rfl)) B
 have F17:=Fu (Ey X G a17 (b2 a17.F λ_ _ _ _ _ _ _ _=>rfl)) B F16
 have F18:=Gz (P:=l.prog) (w:=w) (base:=base) (Ey X G a18 (b1 a18.F λ_ _ _ _ _ _ _=>rfl)) B
 have F19:=N5 (Ey X G a19 (b1 a19.F λ_ _ _ _ _ _ _=>rfl)) B F6 F16 F8 F15 F17 F18
 have F20:=UT D20 B bX_set F6 F10 F5 F14 F7 F11 F12 F8 F19;exact F20.ok.imp (Q4 λns h=>T3 h)
theorem UJ{l:W.OpenLaw}{q:kf}{loose:List Str}{XP:(Str->Option Value)->Heap->Prop}{YP:ki->Heap->Prop}{d:DefRec}{K:Params->W.Frag}(hn:l.most=some 63) (hdf:d.params.defaults=[])
  (hY:∀(w:ki) (h:Heap),YP w h->(K w.params).In h)
  (F:∀(w:ki) (mg:Str->Option Value) (fa:Addr) (h:Heap),(K w.params).In h->h.Ns kg mg->mg d.name=some (.ref fa) ->
   ∃fd:kA,(∀(s:Shared) (u:Value),mZ s fd ⟨[u],[]⟩ [("_law_script", u)])/\∀base:Heap,(K w.params).In base->base.Ns kg mg->BS l.prog w (K w.params) mg base Vi 5 fa fd ["_law_script"] (JT (K w.params))) :
  W.WalkO q loose XP YP l.row.toRowW d [] (λf vs=>PySem.call f vs) :=
 L2.Ru (n:=63) (k:=5) (x := "_law_script") (CX:=λ_=>Vi) (sp:=λw=>JT (K w.params)) hn (by decide) hdf ⟨rfl,by decide,by decide⟩ hY F (λ_ _ a ns hl _ hS=>⟨a,ns,rfl,hS,hl,λ_=>rfl⟩) λ_ _ _ _ _ z=>z
end K46
structure PySem.W.Fast:Prop where(tw13891343332185141794 tw18058089891131107498 tw89620126736913561 tw2474247308448833818 tw9276905439264920899 tw17002647602053428645 tw10572476263287712983 tw103877063338587085 tw12263362453223646229 tw4994284685794221740 tw17622191267075357266 tw9594582869018115492 tw3500560449994464918 tw5485359581902472343 tw2656419560923588801 tw13857681476405453447 tw8457369955368803978 tw18373093129718180955 tw17413644330844736103 tw13011430601476391948 tw13072149501889118976 tw8238076560412961224 tw15126167694722632401 tw16376725642762714344 tw16017663606209829961 tw18347502775050457804 tw9321884357552720490 tw1986785704375689002 tw16323692797633349130 tw16471212469186429205 tw14315041939687720673 tw13478827303081724959 tw17418310330985639831 tw16141025827616220036 tw888111931913903526 tw4607055376504900698 tw7978342432759498099 tw5448261977116655074 tw9333145478213850115 tw9116324705634999109 tw10781427253752347930 tw6891941050987023119 tw10294353345304937698 tw13217094467395478511 tw4140460439390654951 tw17412081189659569564 tw16303098132192351836 tw8932783305292748687 tw9872736789052319368 tw2559145580216429643 tw2608295354617068654 tw1724914957441748079 tw4939299487484489420 tw1320075579842154741 tw12002506549614368559 tw9316220249755476186 tw6111310137703867513 tw7121587973130654105 tw11211999298201804933 tw6562599009258854144 tw1790425456293189735 tw7687362855832944122 tw1643238586767243182 tw15243859452047235379 tw14994640427531739249 tw1986518261212062425 tw3875887231241754528 tw12805185046851872260 tw9099490837468902534 tw9943980188495009886 tw6827715846287767786 tw1015207234048128421 tw4778431500439901072 tw5019250507415534519 tw5699985881138044224 tw7839490206635399371 tw11974406239452567020 tw2261958049640721524 tw15835598040290422383 tw17241357161204556715 tw7176310862071215569 tw4689988940549791319 tw17158398836179938469 tw8528471266572471937 tw178814908858030154 tw10061376486786057372 tw9269335069368804055 tw5318517490355787246 tw1191006902413284281 tw12456775741236015775 tw14623632681755226964:True)
open PySem PySem.W PyProof.Rows
set_option maxRecDepth 100000 in
set_option maxHeartbeats 0 in
theorem PySem.Challenge.cw_mapround_k46_whole_doors_and_lands_holds : PySem.Challenge.rw_mapround_k46_whole_doors_and_lands.Holds := by
 w_on;o_law;k_head;(case hw=>w_witness2)
 k_fill
 refine K46.UJ (l:=PySem.Challenge.rw_mapround_k46_whole_doors_and_lands) rfl rfl (λw h Y=>W.kIn_of Y) ?F
 case F =>
  intro w mg fa h KX G hmg;apply K46.T8 KX G hmg
  all_goals first|exact Mr.WO (by k_is) (by k_is) (by k_is) (by k_is)|exact Mr.atM_mk (by k_is) (by k_is) (by k_is) (by k_is) (by k_is)|k_is|kernel_rfl

import PyProof.Rows.All
import Wide.All
import OpenK.AllK
import Wide.FinOn
import Lean
import PyProof.EqAt
import PyProof.EqKinds
import PyProof.TupleCall
import KE.KIntText
import PyProof.ConsumeWalk
import PySem.Challenge.RW_mapround_k47_fallen_at_a_place
set_option Elab.async false
set_option linter.all false
set_option maxRecDepth 100000
set_option maxHeartbeats 4000000
open Option renaming bind_eq_some_iff->oBq,map_eq_some_iff->oMq
open List renaming getElem?_eq_some_iff->gSq,getElem?_eq_getElem->gEg,getD_eq_getElem?_getD->gDq,length_append->lAq,length_map->lMq,mem_append->mAq,mem_flatten->mFq,mem_map->mMq,getElem?_map->gMq,mem_of_getElem?->mGq,map_congr_left->mCq,getElem_mem->gRq,length_singleton->lSq,mem_singleton->mSq,length_take->lTq,nodup_append->nAq,append_nil->aNq,flatten_append->fAq,getElem?_append_right->gYq,getElem?_append_left->gZq,length_cons->lCq,map_map->mPq,map_append->mBq,mem_cons_of_mem->mCo,length_set->lZq,flatten_cons->fCq,count_append->cAq,mem_cons->ae,mem_cons_self->af,mem_append_right->ag,mem_append_left->ah,append_assoc->ai,mem_filter->ao,nodup_cons->aq,map_cons->ar,replicate->ax,getElem?_set_self->aA,getElem?_set_ne->aB,mem_iff_getElem?->aC,perm_append_comm->aF,length_drop->aJ,pairwise_append->aN,sublist_flatten_of_mem->aO,nodup_iff_pairwise_ne->aQ,size_toArray->aS,drop_eq_getElem_cons->aT,Perm->aU,nodup_nil->aV,count_pos_iff->aX,take_append_drop->aY,Pairwise->aZ,pairwise_map->bb,length_eq_zero_iff->bc,getElem?_eq_none->bf,take_length->bo,perm_ext_iff_of_nodup->bA,length_range->bC,length_replicate->bD,mem_of_mem_drop->bE,take_sublist->bG,take_add_one->bH,getElem?_set->bI,count_nil->bJ,zipWith->bL,flatten_singleton->bO,pairwise_cons->bP,count_cons->bS,mem_flatMap->bT,mem_of_mem_take->bU,length->bV,append_of_mem->bW,any_cons->cg,pairwise_iff_getElem->cj,countP_eq_length_filter->cm,drop_sublist->cv,range->cw,mem_reverse->cC,filter_congr->cD,foldl_cons->cG,getElem?_drop->cI,set_cons_zero->cJ,cons_append->cL,nodup_iff_count->cM,getElem?_replicate->cP,eraseIdx_cons_succ->cQ,getElem?_concat_length->cV,find?_cons->cW,take_of_length_le->cX,length_eq_countP_add_countP->cY,set_set->dc,mem_or_eq_of_mem_set->de,any_eq_true->df,perm_middle->dg,set_cons_succ->dh,filter_filter->dk,mem_range->dq,mem_iff_getElem->du,dropLast_concat->dw,nil_append->dC,ext_getElem?->dD,map_id->dF,length_pos_iff->dJ,reverse_append->dN,getElem?_range->dO,perm_iff_count->dQ,filter_sublist->dR,drop_eq_nil_of_le->dS,drop_length->dU,find?_cons_of_neg->dX,take_zero->ed,count_eq_zero->ee,getElem?_zipWith->eh,length_filter_le->eF,findIdx_lt_length_of_exists->eK,take_succ_eq_append_getElem->eN,getElem?_take_of_lt->eO,filter_eq_self->eS,filter_cons_of_neg->eT,mem_eraseIdx_iff_getElem?->eU,filter_append->eW,length_nil->eZ,find?_cons_of_pos->ff,set_getElem_self->fg,eq_nil_or_concat->fh,concat_eq_append->fi,drop_zero->fj,map_nil->fm,length_eraseIdx->fq,reduceReplicate->ft,extract_eq_take_drop->fE,count_replicate_self->fG,eq_of_mem_replicate->fJ,mem_replicate->fM,filter_cons_of_pos->fS,getElem?_cons_zero->fT,eraseIdx_cons_zero->fU,getLast?_singleton->fV,getElem_drop->gf,eraseIdx_append_of_length_le->gg,foldl_append->gm,length_pos_of_mem->gu,drop_of_length_le->gw,pairwise_lt_range->gA,zipWith_cons_cons->gB,append_eq_nil_iff->gC,filter_eq_nil_iff->gD,eraseIdxIfInBounds_toArray->gE,set_append_right->gG,all_eq_true->gI,min?_eq_some_iff->gM,reverse_reverse->gQ,findIdx_getElem->gR,getLast?_append->gS,filterMap_cons->gX,replicate_succ->gY,dropLast_concat_getLast->hZ,length_take_le->ic,perm_append_comm_assoc->ie,getElem_take->iy,getElem?_zip_eq_some->iz,findIdx?_eq_none_iff->iC,flatMap_cons->iD,countP_congr->iE,idxOf_lt_length_iff->iF,length_erase_of_mem->iH,not_mem_nil->iJ,flatten_nil->iK,nodup_range->iM,pairwise_mergeSort->iN,Sublist->iP,flatten_eq_nil_iff->iT,flatMap_eq_nil_iff->iU,of_mem_zip->iV,countP_map->iX,filter_nil->iY,mem_of_mem_erase->je,count_cons_of_ne->jf,flatten_flatten->jk,count_cons_self->jl,all_cons->jn,mergeSort_perm->jo,map_take->jq,findIdx?->jr,length_zipWith->jt,flatMap_append->ju,filter_flatten->jw,perm_singleton->jx,mem_filterMap->jy,getElem_idxOf->jz,getElem?_take->jA,count_reverse->jB,any_map->jE,cons->jJ,find?_isSome->jK,any_eq_false->jL,getElem_inj->jM,drop_append->jQ,append_inj'->jT,filter_map->jW
open And renaming intro->aa
open Nat renaming le_refl->aj,lt_of_lt_of_le->aG,ne_of_lt->aL,zero_le->bq,lt_succ_of_lt->cu,le_trans->cE,zero_add->cF,sub_self->cR,le_succ->cU,le_of_lt->cZ,not_lt_zero->dA,lt_irrefl->eI,lt_succ_iff_lt_or_eq->eP,min_eq_left->fc,ne_of_gt->fk,add_comm->fo,lt_succ_self->fA,add_one_sub_one->fF,strongRecOn->fI,lt_or_eq_of_le->fK,add_sub_cancel_left->fO,add_assoc->gF,reduceEqDiff->gJ,reduceLeDiff->gK,mod_eq_of_lt->gL,le_of_eq->gT,add_zero->gV,pos_of_ne_zero->ik,lt_trichotomy->iw,reduceAdd->iA,reduceSub->iB,mod_self->iS,lt_trans->jD,min_self->jG,le_of_lt_succ->jI,le_of_not_lt->jP,max_eq_right->jR,min_eq_right->jS,mod_lt->jY
open Array renaming getElem?_eq_getElem->ak,length_toList->aw,getElem?_toList->ay,toList_append->aR,getElem?_eq_some_iff->bg,getElem_mem->bu,toList_reverse->dv,toList_push->dB,size_extract->fL,toList_extract->gP,toList_setIfInBounds->iq,getD->iI,getElem?_extract->iW,mem_toList_iff->ji,toArray_toList->jj,Perm->jX,size_map->kc
open PySem.Heap renaming get?_push_of_some->au,lt_size->az,get?_push_size->bh,SameBut->cO,get?_update_ne->eQ,size_update->fB,get?_push_ne->gj,DictOf->il,get?_update_self->iZ,size_push->jg
open Option renaming some->aD,map_some->bR,isSome_map->fZ,getD_some->gH,some_or->jh,getD_none->jO,none->kq
open PySem.F renaming plainAttrs_list->aE,slot_list_append->bw,type_list_append->bx,called_set->cK,slot_list_pop->ez,type_list_pop->eE,slot_list_index->fP,slot_list_count->fQ,slot_dict_setdefault->gZ,slot_dict_values->iG,plainAttrs_dict->iO,type_list_index->iQ,type_list_count->iR,plain_set_new->ja
open Classical renaming propDecidable->aH,choose_spec->gN
open Bool renaming false_ne_true->aK,eq_iff_iff->bQ,not_eq_true->dW,false_eq_true->eV,and_eq_true->fu,not_eq_true'->gk,true_or->jC,or_true->jH,or_eq_true->jV,false_and->jZ,false_or->kj
open Sum renaming inl->aM,inr->iu
open Int renaming neg_neg->bj,emod_lt_of_pos->bK,emod_nonneg->bN,toNat_natCast->eJ,le_of_lt->gU,le_refl->ip,toNat->jd,zero_add->jF,mul_one->jN
open PySem.Value renaming ref->bZ,type->gq,bool->gW,int->ir,none->jm,isStrOf->kg,str->ki,isInt->ko
open PyProof.Rows renaming boot_abs->cH,boot_sorted->dr,boot_isinstance->dP,boot_list->dY,callWith_type1->dZ,callWith_builtin1->gO,boot_min->jb,boot_all->jc,eq_dataH_same->ke,ne_dataH_same->kf,boot_bool->km,boot_int->kr,boot_max->ku,lt_int->kx
open Prod renaming ext->jU
open PyProof.Rows renaming Keyed->kz,wpS_bind->kE,wpS_pure->kF,arrOf->kO,seqObj->kQ,IntsAre->kS,wpS_forRange->kX,setArr->kY,wpS_mono->lj,SortKind->lr,elem'->lC,pairsOf->lN,pendingOf->lY,wpS_modify->mh,oneType'->mj,wpS_get->mq,getElem?_mirror_all->mw,reverseSlice'->mJ,gallopOf->mL,AllBare->mP,pairsOf_size->mS,envOfC->nh,sortedHeap->nA,get?_update_seq->nO,subscriptTail->oe,listUpdate_at->og,seqEpoch_at->oj
open PySem renaming wpAny_bind->kC,model->kG,wpAny_pure->kH,wpAny->kJ,sizeLine->kK,Program->kL,mainGlobals->kM,World->kN,starEach->kP,wpAny_mono->kR,FuncData->kT,codeAny_builtin->kZ,call_isinstance->lg,wpAny_truthy_bool->ly,compareOp->lz,sysModules->lE,wpAny_passesOwn->lH,isinstance_true->lJ,sizeLine_eq->lK,wpAny_holding->lO,valueAt->lQ,intKind->lS,scanBound->lV,cLine->lZ,sliceBounds->mn,wpAny_Call_Name_kw->mz,bootBuiltins->mD,backTo->mG,Scope->mH,unsupported->mI,behindInMarks->mK,binaryOp->mM,codeAny->mO,wpAny_execs_nil->mQ,letOwnedTupleGo->mR,codeAny_mono->mT,call_meets->mV,relabel->mW,tupleKind_room_in1->mZ,wpAny_newList->ni,plainId_quiet->nj,attributeBase->nq,wpAny_pyIter_list->nt,foldedSetIterable->nu,wpAny_rule->nv,assignEach->nC,callerA->nE,wpAny_comprehension_free->nH,relayAll->nJ,wpAny_Call_method0_late->nK,tupleKind->nQ,atKey->nR,subscripted->nT,wpAny_isTrue_Compare1->nU,isSubtype_type->nV,getItem->nX,BindsTo->nY,lookup_relabel_local->nZ,intKind_is->oa,swapsWith->oh,seqIndex?->oi
noncomputable section
open Array renaming mem_of_getElem?->aQq
local macro_rules|`(tactic|trivial)=>`(tactic|first|exact Or.inl rfl|exact Or.inr rfl|exact Or.inr (Or.inl rfl)|exact Or.inr (Or.inr rfl)|exact⟨rfl,rfl,rfl,by decide +kernel,rfl,by decide +kernel,by decide +kernel⟩|fail)
theorem qe{c:Prop}{_:Decidable c}(h:c){α}{t e:α}:ite c t e=t:=if_pos h
theorem pV{c:Prop}{_:Decidable c}(h:¬c){α}{t e:α}:ite c t e=e:=if_neg h
namespace L2
open PySem PySem.Spec PyProof.Rows
abbrev pQ:=Sum Int Str
def EX:pQ->Value->Bool
 | .inl k,v=>ko k v
 | .inr x,v=>kg x v
def XF(w:kN):pQ->Int
 | .inl k=>hashInt k
 | .inr x=>hashStr w x
theorem rh:∀{k:pQ}{v:Value},EX k v=true->(∃i t,k=aM i/\v=ir i t)∨(∃x t,k=iu x/\v=ki x t)
 | .inl i,v,h=>by
  obtain⟨t,e⟩:=Value.isInt_shape (k:=i) (v:=v) h;exact .inl ⟨i,t,rfl,e⟩
 | .inr x,v,h=>by
  obtain⟨t,e⟩:=Value.isStrOf_shape (x:=x) (v:=v) h;exact .inr ⟨x,t,rfl,e⟩
theorem Ma(i:Int) (t:Tok):EX (.inl i) (.int i t)=true:=by simp[EX,ko]
theorem K3(x:Str) (t:Tok):EX (.inr x) (.str x t)=true:=by simp[EX,kg]
theorem Uo(a b:Int):decide ((aM a:pQ)=aM b)=(a == b):=by
 by_cases e:a=b
 .subst e;simp
 .have h:¬ (aM a:pQ)=aM b:=λq=>e (aM.inj q)
  rw[decide_eq_false h];exact(beq_eq_false_iff_ne.mpr e).symm
theorem Uw(a b:Str):decide ((iu a:pQ)=iu b)=decide (a=b):=by
 by_cases e:a=b
 .subst e;simp
 .have h:¬ (iu a:pQ)=iu b:=λq=>e (iu.inj q)
  rw[decide_eq_false h,decide_eq_false e]
theorem UD(a:Int) (b:Str):decide ((aM a:pQ)=iu b)=false:=decide_eq_false (λq=>nomatch q)
theorem UL(a:Str) (b:Int):decide ((iu a:pQ)=aM b)=false:=decide_eq_false (λq=>nomatch q)
def qQ(prog:kL) (w:kN):PySem.KeyKind prog w pQ where
 is:=EX
 hash:=XF w
 inj:=λv a b ha hb=>by
  rcases rh ha with ⟨i,t,rfl,rfl⟩|⟨x,t,rfl,rfl⟩
  .rcases rh hb with ⟨j,u,rfl,e⟩|⟨y,u,rfl,e⟩
   .injection e with e1 _;rw[e1]
   .exact nomatch e
  .rcases rh hb with ⟨j,u,rfl,e⟩|⟨y,u,rfl,e⟩
   .exact nomatch e
   .injection e with e1 _;rw[e1]
 byValue:=λk v h=>by
  rcases rh h with ⟨i,t,rfl,rfl⟩|⟨x,t,rfl,rfl⟩ <;> rfl
 pyHash:=λhv h=>by
  rcases rh hv with ⟨i,t,rfl,rfl⟩|⟨x,t,rfl,rfl⟩
  .exact wpAny_pyHash_int h
  .exact wpAny_pyHash_str h
 eqBool:=λhu hv h=>by
  rcases rh hu with ⟨i,t,rfl,rfl⟩|⟨x,t,rfl,rfl⟩
  .rcases rh hv with ⟨j,u,rfl,rfl⟩|⟨y,u,rfl,rfl⟩
   .rw [Uo]at h;exact wpAny_eqBool_int h
   .rw [UD]at h;exact SeqAt.EqAt.int_str i t y u _ _ _ _ h
  .rcases rh hv with ⟨j,u,rfl,rfl⟩|⟨y,u,rfl,rfl⟩
   .rw [UL]at h;exact SeqAt.EqAt.str_int x t j u _ _ _ _ h
   .rw [Uw]at h;exact wpAny_eqBool_str h
 «strs»:=λk x t v h=>by
  rcases rh h with ⟨i,u,rfl,e⟩|⟨y,u,rfl,e⟩
  .exact nomatch e
  .injection e with e1 _
   subst e1;cases v <;> rfl
theorem HK(prog:kL) (w:kN) (i:Int) (t:Tok):(qQ prog w).is (.inl i) (.int i t)=true:=Ma i t
theorem G1(prog:kL) (w:kN) (x:Str) (t:Tok):(qQ prog w).is (.inr x) (.str x t)=true:=K3 x t
inductive V where
 |non|bl (b:Bool)|int (i:Int)|str (x:Str)|byt (b:Array UInt8)|flt (b:UInt64)|ref (a:Addr)|ty (n:String)
 deriving DecidableEq
def qN:V->Value->Prop
 | .non,u=>u=jm
 | .bl b,u=>u=gW b
 | .int i,u=>∃t,u=ir i t
 | .str x,u=>∃t,u=ki x t
 | .byt b,u=>∃t,u=Value.bytes b t
 | .flt b,u=>∃t,u=Value.float b t
 | .ref a,u=>u=bZ a
 | .ty n,u=>u=gq n
abbrev qv:List V->List Value->Prop:=Paired qN
theorem qv.length{xs:List V}{us:List Value}(r:qv xs us):xs.length=us.length:=Paired.length r
theorem qv.get:∀{xs:List V}{us:List Value}{i:Nat}{x:V},qv xs us->xs[i]?=some x->∃u,us[i]?=some u/\qN x u
 |_,_,_,_,.nil,e=>by simp at e
 |_,_,0,_,.cons r _,e=>by simp at e;subst e;exact⟨_,rfl,r⟩
 |_,_,i+1,x,.cons _ t,e=>by
  obtain⟨u,h1,h2⟩:=qv.get (i:=i) (x:=x) t (by simpa using e)
  exact⟨u,by simpa using h1,h2⟩
theorem qv.set{x:V}{u:Value}(r:qN x u):∀{xs:List V}{us:List Value}(i:Nat),qv xs us->qv (xs.set i x) (us.set i u)
 |_,_,_,.nil=>.nil
 |_,_,0,.cons _ t=>.cons r t
 |_,_,i+1,.cons q t=>.cons q (qv.set r i t)
theorem qv.append:∀{xs ys:List V}{us ws:List Value},qv xs us->qv ys ws->qv (xs++ys) (us++ws)
 |_,_,_,_,.nil,s=>s
 |_,_,_,_,.cons r t,s=>.cons r (qv.append t s)
theorem qv.take:∀{xs:List V}{us:List Value}(n:Nat),qv xs us->qv (xs.take n) (us.take n)
 |_,_,0,_=>.nil
 |_,_,_+1,.nil=>.nil
 |_,_,n+1,.cons r t=>.cons r (qv.take n t)
theorem qv.drop:∀{xs:List V}{us:List Value}(n:Nat),qv xs us->qv (xs.drop n) (us.drop n)
 |_,_,0,r=>r
 |_,_,_+1,.nil=>.nil
 |_,_,n+1,.cons _ t=>qv.drop n t
def A3:Option V->Option Value->Prop
 |some v,some u=>qN v u
 |none,none=>True
 |_,_=>False
def KV{κ:Type}:List (κ×V)->List (κ×Value)->Prop:=Paired λ(p:κ×V) (q:κ×Value)=>p.1=q.1/\qN p.2 q.2
def kV:pQ->V
 | .inl i=>.int i
 | .inr x=>.str x
inductive HO where
 /-- a list -/
 |lst (xs:List V)
 /-- a tuple (never changes) -/
 |tup (xs:List V)
 /-- a dict whose keys are ints and texts;one whose keys are tuples of ints and texts (the empty one is Wi) -/
 |dK (kvs:List (pQ×V))|dT (kvs:List (List pQ×V))
 /-- a set of ints: its members,its size -/
 |set (S:Int->Bool) (n:Nat)
 /-- an instance of the class at C,its dict at dx,its attributes -/
 |ins (C dx:Addr) (fs:List (Str×V))
 /-- the dict of the instance at x -/
 |own (x:Addr)
 /-- the dict of an exception -/
 |xd (fs:List (Str×V))
 /-- a Sy method,f of x -/
 |met (f x:Addr)
 /-- a range object lo,lo+1,.. below hi -/
 |rng (lo hi:Int)
 /-- a thing that is known to the object (the script;a dict while a loop walks it): read,never written while it is so -/
 |frz (o:Obj) (u:HO)
 /-- a code object's table -/
 |tbl (ps:Array Value)
 /-- any other thing,by what is true of its one object (a def of one's own: SetO a S n:=HO.ext λh=>..) -/
 |ext (φ:Heap->Prop)
abbrev Hp:=Addr->Option HO
def rK(H:Hp) (a:Addr) (o:HO):Hp:=λb=>if b=a then some o else H b
theorem qa{H:Hp}{a:Addr}{o:HO}:rK H a o a=some o:=by unfold rK;rw[qe rfl]
theorem pS{H:Hp}{a b:Addr}{o:HO}(h:b≠a):rK H a o b=H b:=by unfold rK;rw[pV h]
theorem Vx{H:Hp}{a b:Addr}{o u:HO}(h:H a=some o) (h':H b=some u) (d:o≠u):a≠b:=by
 intro e;subst e;rw[h]at h';exact d (aD.inj h')
theorem rM{H:Hp}{a b:Addr}{o:HO}(h:H a=some o) (h':H b=none):a≠b:=by
 intro e;subst e;rw[h]at h';cases h'
section
variable (P:kL) (w:kN)
def rV(H:Hp) (h:Heap) (a:Addr):HO->Prop
 | .lst xs=>xs.length<=kK/\∃(its:List Value) (n:Nat),qv xs its/\h.get? a=some { cls:=.type "list", data:=.seq its.toArray n }
 | .tup xs=>xs.length<=kK/\∃its:List Value,qv xs its/\IsTup h a its.toArray
 | .dK kvs=>kvs.length<=kK/\(a == lE)=false/\∃vs,KV kvs vs/\h.DictOf (qQ P w) a vs
 | .dT kvs=>kvs.length<=kK/\(a == lE)=false/\∃xs:List (List pQ×Addr×Value),
   Paired (λ(p:List pQ×V) (q:List pQ×Addr×Value)=>p.1=q.1/\H q.2.1=some (.tup (p.1.map kV))/\qN p.2 q.2.2) kvs xs /\
   ∃o es ep,h.get? a=some o/\o.ExactDict/\o.data = .dict es ep/\es.toList=xs.map (entryOfKey (nQ (qQ P w)))/\(xs.map (·.1)).Nodup
 | .set S n=>h.SetOf (lS P w) a S n
 | .ins C dx fs=>H dx=some (.own a)/\fs.length<=1000/\dx≠a/\h.get? a=some (W.instObj C dx) /\
   ∃mA,h.Ns1 dx mA/\(∀f,A3 (fs.lookup f) (mA f))/\PySem.Within mA (fs.map (·.1))
 | .own _=>∃o,h.get? a=some o
 | .xd fs=>∃mA,h.Ns1 a mA/\∀f,A3 (fs.lookup f) (mA f)
 | .rng lo hi=>∃t u v,h.get? a=some { cls:=.type "range", data:=.fields #[.int lo t,.int hi u,.int 1 v] }
 | .frz o u=>h.get? a=some o/\rV H h a u
 | .tbl ps=>h.get? a=some { cls:=.none,data:=.fields ps }
 | .met f x=>h.get? a=some (W.methodObj (.ref f) (.ref x))
 | .ext φ=>φ h/\(∃o,h.get? a=some o)/\∀h1 h2:Heap,φ h1->(∀o,h1.get? a=some o->h2.get? a=some o)->φ h2
def AL(H:Hp) (h:Heap):Prop:=∀a o,H a=some o->rV P w H h a o
end
section
variable {P:kL}{w:kN}{H H':Hp}{h h':Heap}{a:Addr}{o:HO}
theorem rV.lt(x:rV P w H h a o):a<h.objs.size:=by
 cases o with
 |lst xs=>obtain⟨_,_,_,_,e⟩:=x;exact az e
 |tup xs=>obtain⟨_,_,_,p⟩:=x;exact p.lt
 |dK kvs=>obtain⟨_,_,_,_,o,_,_,e,_⟩:=x;exact az e
 |dT kvs=>obtain⟨_,_,_,_,o,_,_,e,_⟩:=x;exact az e
 |set S n=>obtain⟨o,_,_,_,e,_⟩:=x;exact az e
 |ins C dx fs=>obtain⟨_,_,_,e,_⟩:=x;exact az e
 |own y=>obtain⟨_,e⟩:=x;exact az e
 |xd fs=>obtain⟨_,⟨_,_,_,e,_⟩,_⟩:=x;exact az e
 |rng lo hi=>obtain⟨_,_,_,e⟩:=x;exact az e
 |frz ob u=>obtain⟨e,_⟩:=x;exact az e
 |tbl ps=>exact az (show h.get? a=some _ from x)
 |met f y=>exact az (show h.get? a=some _ from x)
 |ext φ=>obtain⟨_,⟨_,e⟩,_⟩:=x;exact az e
theorem Paired.mapP{α β:Type}{F G:α->β->Prop}:∀{l₁:List α}{l₂:List β},Paired F l₁ l₂->(∀a b,F a b->G a b)->Paired G l₁ l₂
 |_,_,.nil,_=>.nil
 |_,_,.cons r t,f=>.cons (f _ _ r) (Paired.mapP t f)
theorem rV.stay(x:rV P w H h a o) (k:∀b u,(b=a∨H b=some (.own a))->h.get? b=some u->h'.get? b=some u)
  (ho:∀b,H b=some (.own a)->H' b=some (.own a)) (ht:∀b xs,H b=some (.tup xs)->H' b=some (.tup xs)):rV P w H' h' a o:=by
 induction o with
 |lst xs=>obtain⟨z,its,n,r,e⟩:=x;exact⟨z,its,n,r,k _ _ (.inl rfl) e⟩
 |tup xs=>obtain⟨z,its,r,ob,e,c⟩:=x;exact⟨z,its,r,ob,k _ _ (.inl rfl) e,c⟩
 |dK kvs=>obtain⟨z,y,vs,r,ob,es,ep,e,c⟩:=x;exact⟨z,y,vs,r,ob,es,ep,k _ _ (.inl rfl) e,c⟩
 |dT kvs =>
  obtain⟨z,y,xs,r,ob,es,ep,e,c⟩:=x;exact⟨z,y,xs,Paired.mapP r λp q z=>⟨z.1,ht _ _ z.2.1,z.2.2⟩,ob,es,ep,k _ _ (.inl rfl) e,c⟩
 |set S n=>obtain⟨ob,es,ep,t,e,c⟩:=x;exact⟨ob,es,ep,t,k _ _ (.inl rfl) e,c⟩
 |ins C dx fs =>
  obtain⟨d,z,ne,e,mA,⟨od,es,ep,e2,c⟩,r⟩:=x;exact⟨ho _ d,z,ne,k _ _ (.inl rfl) e,mA,⟨od,es,ep,k _ _ (.inr d) e2,c⟩,r⟩
 |own y=>obtain⟨ob,e⟩:=x;exact⟨ob,k _ _ (.inl rfl) e⟩
 |xd fs=>obtain⟨mA,⟨od,es,ep,e,c⟩,r⟩:=x;exact⟨mA,⟨od,es,ep,k _ _ (.inl rfl) e,c⟩,r⟩
 |rng lo hi=>obtain⟨t,u,v,e⟩:=x;exact⟨t,u,v,k _ _ (.inl rfl) e⟩
 |frz ob u ih=>obtain⟨e,q⟩:=x;exact⟨k _ _ (.inl rfl) e,ih q⟩
 |tbl ps =>
  have e:h.get? a=some { cls:=.none,data:=.fields ps }:=x;show h'.get? a=some { cls:=.none,data:=.fields ps };exact k a _ (.inl rfl) e
 |met f y =>
  have e:h.get? a=some (W.methodObj (.ref f) (.ref y)):=x;show h'.get? a=some (W.methodObj (.ref f) (.ref y));exact k a _ (.inl rfl) e
 |ext φ=>obtain⟨p,⟨o,e⟩,st⟩:=x;exact⟨st _ _ p λo q=>k _ _ (.inl rfl) q,⟨o,k _ _ (.inl rfl) e⟩,st⟩
theorem AL.lt(x:AL P w H h) (e:H a=some o):a<h.objs.size:=(x a o e).lt
theorem AL.fresh(x:AL P w H h) (e:h.objs.size<=a):H a=none:=by
 cases q:H a with
 |none=>rfl
 |some u=>exact absurd (aG (x.lt q) e) (eI _)
theorem AL.kept(x:AL P w H h) (k:∀b u,h.get? b=some u->h'.get? b=some u):AL P w H h':=λa o e =>
 (x a o e).stay (λb u _ q=>k b u q) (λ_ q=>q) λ_ _ q=>q
theorem AL.laid(x:AL P w H h) (k:∀b u,h.get? b=some u->h'.get? b=some u) (hp:h.objs.size<=a) (new:rV P w (rK H a o) h' a o):AL P w (rK H a o) h':=λb u e=>by
 have hn:=x.fresh hp
 by_cases hb:b=a
 .subst hb;rw[qa]at e;cases e;exact new
 .rw [pS hb]at e;exact(x b u e).stay (λc v _ q=>k c v q) (λc q=>by rw[pS (rM q hn)];exact q) λc xs q=>by rw[pS (rM q hn)];exact q
end
def Rd(H:Hp) (a:Addr) (u:HO):Prop:=H a=some u∨∃o,H a=some (.frz o u)
theorem Rd.ok{P:kL}{w:kN}{H:Hp}{h:Heap}{a:Addr}{u:HO}(r:Rd H a u) (x:AL P w H h):rV P w H h a u:=by
 rcases r with r|⟨o,r⟩
 .exact x a u r
 .obtain ⟨_,q⟩:=x a _ r;exact q
def Wn:Option HO->Prop
 |some (.lst _)=>True
 |some (.dK _)=>True
 |some (.dT _)=>True
 |some (.set _ _)=>True
 |some (.ins _ _ _)=>True
 |some (.ext _)=>True
 |_=>False
section
variable {P:kL}{w:kN}{H:Hp}{h h':Heap}{x e:Addr}{o':HO}
theorem AL.write(ok:AL P w H h) (mu:Wn (H x)) (he:e=x∨H e=some (.own x)) (k:∀b u,b≠e->h.get? b=some u->h'.get? b=some u) (heo:∃u,h'.get? e=some u)
  (new:rV P w (rK H x o') h' x o'):AL P w (rK H x o') h':=λb u q=>by
 have nown:∀c y,H c=some (.own y)->c≠x:=λc y r z=>by subst z;rw[r]at mu;exact mu
 have ntup:∀c xs,H c=some (.tup xs)->c≠x:=λc xs r z=>by subst z;rw[r]at mu;exact mu
 by_cases hb:b=x
 .subst hb;rw[qa]at q;cases q;exact new
 .rw [pS hb]at q
  by_cases hbe:b=e
  .have q':H b=some (.own x):=by
    rcases he with z|z
    .exact absurd (hbe.trans z) hb
    .rw [hbe];exact z
   rw[q]at q';cases q';obtain⟨v,hv⟩:=heo;exact⟨v,by rw[hbe];exact hv⟩
  .refine (ok b u q).stay (λc v hc r=>k c v ?_ r) (λc r=>by rw[pS (nown c b r)];exact r) λc xs r=>by rw[pS (ntup c xs r)];exact r
   rcases hc with rfl|hc
   .exact hbe
   .rintro rfl;rcases he with z|z
    .exact nown c b hc z
    .rw [hc]at z;cases z;exact hb rfl
end
structure Un (fs ex:List Addr) (H H':Hp) (h h':Heap):Prop where
 keep:∀b o,h.get? b=some o->H b=none->b∉fs->b∉ex->h'.get? b=some o
 slot:∀b o,h.get? b=some o->H b=none->b∈fs->b∉ex->∃sl,h'.get? b=some { o with slots:=sl }
 free:∀b o,h.get? b=some o->H b=none->b∉ex->H' b=none
 there:∀b o,h.get? b=some o->b∉ex->∃o',h'.get? b=some o'
 tups:∀b xs,H b=some (.tup xs)->H' b=some (.tup xs)
 frzs:∀b o u,H b=some (.frz o u)->H' b=some (.frz o u)
 tbls:∀b ps,H b=some (.tbl ps)->∃more,H' b=some (.tbl (ps++more))
section
variable {fs fs' ex ex':List Addr}{H H1 H2:Hp}{h h1 h2 h':Heap}{a x e:Addr}{o:HO}
theorem Un.any(u:Un fs ex H H1 h h1) {b:Addr}{ob:Obj}(q:h.get? b=some ob) (n:H b=none) (hx:b∉ex):∃sl,h1.get? b=some { ob with slots:=sl }:=by
 by_cases hb:b∈fs
 .exact u.slot b ob q n hb hx
 .exact ⟨ob.slots,u.keep b ob q n hb hx⟩
theorem Un.kept(k:∀b u,h.get? b=some u->h'.get? b=some u):Un fs ex H H h h' :=
 ⟨λb ob q _ _ _=>k b ob q,λb ob q _ _ _=>⟨ob.slots,k b ob q⟩,λ_ _ _ n _=>n,λb ob q _=>⟨ob,k b ob q⟩,λ_ _ q=>q,λ_ _ _ q=>q,λ_ ps q=>⟨#[],by rw[q];simp⟩⟩
theorem Un.refl:Un fs ex H H h h:=Un.kept λ_ _ q=>q
theorem Un.laid(k:∀b u,h.get? b=some u->h'.get? b=some u) (hp:h.objs.size<=a) (hn:H a=none):Un fs ex H (rK H a o) h h' where
 keep:=λb u q _ _ _=>k b u q
 slot:=λb u q _ _ _=>⟨u.slots,k b u q⟩
 free:=λb u q n _=>by rw[pS (aL (aG (az q) hp))];exact n
 there:=λb u q _=>⟨u,k b u q⟩
 tups:=λb xs q=>by rw[pS (rM q hn)];exact q
 frzs:=λb u xs q=>by rw[pS (rM q hn)];exact q
 tbls:=λb ps q=>⟨#[],by rw[pS (rM q hn),q];simp⟩
theorem Un.write(mu:Wn (H x)) (he:e=x∨H e=some (.own x)) (k:∀b u,b≠e->h.get? b=some u->h'.get? b=some u) (heo:∃u,h'.get? e=some u):Un fs ex H (rK H x o) h h':=by
 have hx:∀b,H b=none->b≠x:=λb n z=>by subst z;rw[n]at mu;exact mu
 have hb:∀b,H b=none->b≠e:=λb n z=>by
  subst z;rcases he with r|r
  .exact hx b n r
  .rw [n]at r;cases r
 have hm:∀b u,H b=some u->¬ Wn (some u)->b≠x:=λb u q nm z=>by subst z;rw[q]at mu;exact nm mu
 refine⟨λb u q n _ _=>k b u (hb b n) q,λb u q n _ _=>⟨u.slots,k b u (hb b n) q⟩,λb u q n _=>by rw[pS (hx b n)];exact n,λb u q _=>?_,
  λb xs q=>by rw[pS (hm b _ q λz=>z)];exact q,λb u xs q=>by rw[pS (hm b _ q λz=>z)];exact q,λb ps q=>⟨#[],by rw[pS (hm b _ q λz=>z),q];simp⟩⟩
 by_cases hbe:b=e
 .subst hbe;exact heo
 .exact ⟨u,k b u hbe q⟩
end
def WT(h:Heap) (H:Hp):List Addr:=(cw h.objs.size).filter λa=>(H a).isSome
def Gv(h:Heap) (H:Hp):Heap:=W.hideAll h (WT h H)
theorem Mm(h:Heap) (H:Hp):(Gv h H).objs.size=h.objs.size:=W.hideAll_size _ _
theorem Pz{h:Heap}{H:Hp}{b:Addr}{o:Obj}(e:h.get? b=some o) (n:H b=none):(Gv h H).get? b=some o :=
 W.hideAll_get _ e λhm=>by
  have q:(H b).isSome=true:=(ao.mp hm).2;rw[n]at q;simp at q
theorem Q7{h:Heap}{H:Hp}{b:Addr}{o:Obj}(e:(Gv h H).get? b=some o):h.get? b=some o/\H b=none:=by
 have e':h.get? b=some o:=W.of_hideAll (WT h H) e;refine⟨e',?_⟩;cases q:H b with
 |none=>rfl
 |some x =>
  have hm:b∈WT h H:=ao.mpr ⟨dq.mpr (az e'),by simp[q]⟩
  have z:(Gv h H).get? b=none:=W.hideAll_none (WT h H) hm;rw[z]at e;cases e
def QK(g h:Heap) (L:Addr):List (Addr×Obj):=(cw h.objs.size).filterMap λa=>if a=L∨(g.get? a).isSome=true then none else (h.get? a).map λo=>(a,o)
def rest(g h:Heap) (L d:Addr):List (Addr×Obj):=(QK g h L).filter λp=>decide (p.1≠d)
structure Mod (K:W.Frag) (mg:Str->Option Value) (base:Heap):Prop where
 kin:K.In base
 glob:base.Ns kM mg
 blt:∃mb,base.Ns builtinsNs mb/\∀x:Str,x ≠ "__name__" -> mb x=mD x
 nolimit:base.NoLimit
structure Cx where
 prog:kL
 w:kN
 K:W.Frag
 mg:Str->Option Value
 base:Heap
 A:Around
 N:List Str
 s₀:Shared
 H₀:Hp
 env:Env
 outer:List Env
 stack:List Env
 ex:List Addr
 fn:Str->Bool
 calm:Bool
 pn:List (Addr×Obj)
 xe:Value->Shared->Prop
def NI(l:List Env):List Addr:=l.filterMap (·.frame)
abbrev Cx.fs(X:Cx):List Addr:=NI X.outer
def Xc(sc:mH) (x:Str):Prop:=sc.names.lookup x=some .local∨sc.names.lookup x=some .cell∨sc.names.lookup x=some .free
def VQ(sc:mH) (x:Str):Prop:=sc.names.lookup x=some .local∨sc.names.lookup x=some .cell
def XA(env:Env) (h:Heap) (m:Str->Option Value) (x:Str) (u:Value):Prop :=
 (env.kindOf x=some .local/\m x=some u)∨((env.kindOf x=some .cell∨env.kindOf x=some .free)/\∃c,env.cells.lookup x=some c/\h.IsCell c (some u))
structure Cx.Ok (X:Cx):Prop where
 mod:Mod X.K X.mg X.base
 kind:X.env.scope.kind = .function
 glob:X.env.globals=kM
 blt:X.env.builtins=builtinsNs
 above:X.s₀.heap.objs.size<=X.env.locals
 inj:∀x y c,X.env.cells.lookup x=some c->X.env.cells.lookup y=some c->x=y
 has:∀x,(X.env.kindOf x=some .cell∨X.env.kindOf x=some .free)->∃c,X.env.cells.lookup x=some c
 cab:∀x c,X.fn x=true->X.env.cells.lookup x=some c->X.s₀.heap.objs.size<=c
 hd:X.calm=true->X.A.handled=none
 frames:X.A.frames=some X.stack
 stk:X.stack=X.outer∨(X.stack=X.env::X.outer/\X.env.frame=some X.env.locals)
 exf:∀b∈X.ex,b≠X.env.locals/\∀x c,X.env.cells.lookup x=some c->c≠b
 bs:∀b o,X.base.get? b=some o->X.s₀.heap.get? b=some o/\X.H₀ b=none
 bsz:X.base.objs.size<=X.s₀.heap.objs.size
 noex:∀b o,X.base.get? b=some o->b∉X.ex
 exfs:∀b∈X.ex,b∉X.fs
 funs:X.s₀.heap.FunFrames X.base X.outer
 frf:∀b∈X.fs,X.H₀ b=none
structure Inv (X:Cx) (oV:List (Addr×Obj)) (σ:List (Option V)) (H:Hp) (s:Shared):Prop where
 ok:X.Ok
 os:s.os=X.s₀.os
 bare:mP s.gens
 base:Un X.fs X.ex X.H₀ H X.s₀.heap s.heap
 loc:∃m,s.heap.Ns X.env.locals m/\∀(i:Nat) (x:Str) (v:V),X.N[i]?=some x->σ[i]?=some (some v)->Xc X.env.scope x->∃u,qN v u/\XA X.env s.heap m x u
 cell:∀x c,X.env.cells.lookup x=some c->∃v,s.heap.IsCell c v
 free:H X.env.locals=none
 freeC:∀x c,X.env.cells.lookup x=some c->H c=none
 pin:∀p∈X.pn++oV,s.heap.get? p.1=some p.2/\H p.1=none/\p.1≠X.env.locals/\p.1∉X.fs/\∀v,p.2.data ≠ .cell v
 hok:AL X.prog X.w H s.heap
 len:σ.length=X.N.length
section
variable {X:Cx}{oV:List (Addr×Obj)}{σ:List (Option V)}{H H':Hp}{s:Shared}{h':Heap}
theorem Cx.Ok.nofr(ok:X.Ok) {b:Addr}{o:Obj}(e:X.base.get? b=some o):b∉X.fs:=λhb=>by
 have:=(ok.funs.mem hb).1;rw[e]at this;cases this
theorem Inv.bs(I:Inv X oV σ H s):∀b o,X.base.get? b=some o->s.heap.get? b=some o/\H b=none:=λb o e =>
 ⟨I.base.keep b o (I.ok.bs b o e).1 (I.ok.bs b o e).2 (I.ok.nofr e) (I.ok.noex b o e),I.base.free b o (I.ok.bs b o e).1 (I.ok.bs b o e).2 (I.ok.noex b o e)⟩
theorem Inv.bk(I:Inv X oV σ H s):∀b o,X.base.get? b=some o->s.heap.get? b=some o:=λb o e=>(I.bs b o e).1
theorem Inv.mod(I:Inv X oV σ H s):Mod X.K X.mg X.base:=I.ok.mod
theorem Inv.kIn(I:Inv X oV σ H s):X.K.In s.heap:=I.ok.mod.kin.keeps I.bk
theorem Inv.lt(I:Inv X oV σ H s):X.env.locals<s.heap.objs.size:=let ⟨_,hn,_⟩:=I.loc;hn.lt
theorem Inv.sz(I:Inv X oV σ H s):X.s₀.heap.objs.size<=s.heap.objs.size:=cE I.ok.above (cZ I.lt)
theorem Inv.nofs(I:Inv X oV σ H s) {a:Addr}(h:s.heap.objs.size<=a):a∉X.fs:=λhb=>by
 obtain⟨_,o,ho,_⟩:=I.ok.funs.mem hb;exact absurd (aG (az ho) (cE I.sz h)) (eI _)
theorem Inv.cne(I:Inv X oV σ H s):∀x c,X.env.cells.lookup x=some c->c≠X.env.locals:=λx c e z=>by
 obtain⟨v,o,ho,hd⟩:=I.cell x c e;obtain⟨m,⟨o',es,ep,ho',hd',_⟩,_⟩:=I.loc;rw[z,ho']at ho;cases ho;rw[hd']at hd;cases hd
theorem Inv.funs(I:Inv X oV σ H s):s.heap.FunFrames X.base X.outer:=by
 have all:∀(l:List Env),(∀b∈NI l,b∈X.fs)->X.s₀.heap.FunFrames X.base l->s.heap.FunFrames X.base l:=by
  intro l
  induction l with
  |nil=>intro _ _;trivial
  |cons env r ih =>
   intro hs hl;obtain⟨hk,⟨L,o,hf,hn,ho,hd⟩,hr⟩:=hl;have hL:L∈X.fs:=hs L (by unfold NI;rw[gX,hf];exact af)
   obtain⟨sl,e⟩:=I.base.slot L o ho (I.ok.frf L hL) hL λz=>I.ok.exfs L z hL
   exact⟨hk,⟨L,_,hf,hn,e,hd⟩,ih (λb hb=>hs b (by unfold NI;rw[gX,hf];exact mCo _ hb)) hr⟩
 exact all X.outer (λ_ hb=>hb) I.ok.funs
theorem Inv.stack(I:Inv X oV σ H s):s.heap.FunFrames X.base X.stack:=by
 rcases I.ok.stk with e|⟨e,hf⟩
 .rw [e];exact I.funs
 .rw [e];obtain⟨m,hn,_⟩:=I.loc;refine .cons (by rw[I.ok.kind];decide) hf hn ?_ I.funs
  exact Heap.get?_none_of_le (cE I.ok.bsz I.ok.above)
theorem Inv.stkSub(I:Inv X oV σ H s):∀b∈NI X.stack,b∈X.env.locals::X.fs:=λb hb=>by
 rcases I.ok.stk with e|⟨e,hf⟩
 .rw [e]at hb;exact mCo _ hb
 .rw [e]at hb;unfold NI at hb;rw[gX,hf]at hb;exact hb
theorem Inv.stkFree(I:Inv X oV σ H s):∀b∈NI X.stack,H b=none:=λb hb=>by
 rcases ae.mp (I.stkSub b hb) with e|hb
 .rw [e];exact I.free
 .obtain ⟨_,o,ho,_⟩:=I.ok.funs.mem hb;exact I.base.free b o ho (I.ok.frf b hb) λz=>I.ok.exfs b z hb
theorem Inv.step{g':Array GenState}{t':Nat}{d':Drawn}{ch:List Addr}(I:Inv X oV σ H s)
  (hch:∀b∈ch,(b∈X.ex∨X.s₀.heap.objs.size<=b)/\b≠X.env.locals/\(∀x c,X.env.cells.lookup x=some c->c≠b)/\∀p∈X.pn++oV,p.1≠b)
  (keep:∀b o,b≠X.env.locals->b∉X.fs->b∉ch->s.heap.get? b=some o->H b=none->h'.get? b=some o)
  (slot:∀b o,b≠X.env.locals->b∈X.fs->b∉ch->s.heap.get? b=some o->H b=none->∃sl,h'.get? b=some { o with slots:=sl }) (free:∀b o,b∉ch->s.heap.get? b=some o->H b=none->H' b=none)
  (there:∀b o,b∉ch->s.heap.get? b=some o->∃o',h'.get? b=some o')
  (tups:∀b xs,H b=some (.tup xs)->H' b=some (.tup xs)) (frzs:∀b o u,H b=some (.frz o u)->H' b=some (.frz o u)) (tbls:∀b ps,H b=some (.tbl ps)->∃more,H' b=some (.tbl (ps++more)))
  (ns:∀m,s.heap.Ns X.env.locals m->h'.Ns X.env.locals m) (hok:AL X.prog X.w H' h') (hg:mP g') :
  Inv X oV σ H' { s with heap:=h',gens:=g',drawn:=d',toks:=t' }:=by
 have neL:∀b o,X.s₀.heap.get? b=some o->b≠X.env.locals:=λb o e=>aL (aG (az e) I.ok.above)
 have neC:∀b o,X.s₀.heap.get? b=some o->b∉X.ex->b∉ch:=λb o e hx hb=>by
  rcases (hch b hb).1 with z|z
  .exact hx z
  .exact absurd (aG (az e) z) (eI _)
 have cellK:∀x c,X.env.cells.lookup x=some c->∀v,s.heap.IsCell c v->h'.IsCell c v:=λx c e v ⟨o,ho,hd⟩=>by
  have nch:c∉ch:=λz=>(hch c z).2.2.1 x c e rfl
  by_cases hc:c∈X.fs
  .obtain ⟨sl,q⟩:=slot c o (I.cne x c e) hc nch ho (I.freeC x c e);exact⟨_,q,hd⟩
  .exact ⟨o,keep c o (I.cne x c e) hc nch ho (I.freeC x c e),hd⟩
 refine⟨I.ok,I.os,hg,⟨λb o e n hb hx=>?_,λb o e n hb hx=>?_,λb o e n hx=>?_,λb o e hx=>?_,λb xs e=>tups b xs (I.base.tups b xs e),λb o xs e=>frzs b o xs (I.base.frzs b o xs e),λb ps e=>?_⟩,?_,λx c e=>?_,?_,λx c e=>?_,λp hp=>?_,hok,I.len⟩
 .exact keep b o (neL b o e) hb (neC b o e hx) (I.base.keep b o e n hb hx) (I.base.free b o e n hx)
 .obtain ⟨sl,e1⟩:=I.base.slot b o e n hb hx;obtain⟨sl',e2⟩:=slot b _ (neL b o e) hb (neC b o e hx) e1 (I.base.free b o e n hx);exact⟨sl',e2⟩
 .obtain ⟨o',e1⟩:=I.base.there b o e hx;exact free b o' (neC b o e hx) e1 (I.base.free b o e n hx)
 .obtain ⟨o',e1⟩:=I.base.there b o e hx;exact there b o' (neC b o e hx) e1
 .obtain ⟨m1,e1⟩:=I.base.tbls b ps e;obtain⟨m2,e2⟩:=tbls b _ e1;exact⟨m1++m2,by rw[e2,Array.append_assoc]⟩
 .obtain ⟨m,hn,hl⟩:=I.loc;refine⟨m,ns m hn,λi x v e1 e2 e3=>?_⟩
  obtain⟨u,r,l⟩:=hl i x v e1 e2 e3;refine⟨u,r,?_⟩;rcases l with l|⟨k,c,e,z⟩
  .exact .inl l
  .exact .inr ⟨k,c,e,cellK x c e _ z⟩
 .obtain ⟨v,z⟩:=I.cell x c e;exact⟨v,cellK x c e v z⟩
 .obtain ⟨m,⟨o,_,_,ho,_⟩,_⟩:=I.loc;exact free _ o (λz=>(hch _ z).2.1 rfl) ho I.free
 .obtain ⟨v,o,ho,hd⟩:=I.cell x c e;exact free c o (λz=>(hch c z).2.2.1 x c e rfl) ho (I.freeC x c e)
 .obtain ⟨e,n,ne,nf,d⟩:=I.pin p hp;have nch:p.1∉ch:=λz=>(hch p.1 z).2.2.2 p hp rfl
  exact⟨keep p.1 p.2 ne nf nch e n,free p.1 p.2 nch e n,ne,nf,d⟩
theorem Inv.un{t':Nat}(I:Inv X oV σ H s) (u:Un X.fs [] H H' s.heap h') (hok:AL X.prog X.w H' h'):Inv X oV σ H' { s with heap:=h',toks:=t' }:=by
 obtain⟨m,⟨o,es,ep,ho,r⟩,_⟩:=id I.loc;obtain⟨sl,hL⟩:=u.any ho I.free (by simp)
 exact I.step (g':=s.gens) (d':=s.drawn) (ch:=[]) (λ_ z=>nomatch z) (λb o _ hb _ e n=>u.keep b o e n hb (by simp)) (λb o _ hb _ e n=>u.slot b o e n hb (by simp)) (λb o _ e n=>u.free b o e n (by simp)) (λb o _ e=>u.there b o e (by simp)) u.tups u.frzs u.tbls (λm' hm=>by
  obtain⟨o',es',ep',ho',r'⟩:=hm;rw[ho]at ho';cases ho';exact⟨_,es',ep',hL,r'⟩) hok I.bare
theorem Inv.call{g':Array GenState}{t':Nat}{d':Drawn}{ch:List Addr}(I:Inv X oV σ H s) (u:Un (NI X.stack) ch H H' s.heap h') (hok:AL X.prog X.w H' h') (hg:mP g')
  (hch:∀b∈ch,(b∈X.ex∨X.s₀.heap.objs.size<=b)/\b≠X.env.locals/\(∀x c,X.env.cells.lookup x=some c->c≠b)/\∀p∈X.pn++oV,p.1≠b) :
  Inv X oV σ H' { s with heap:=h',gens:=g',drawn:=d',toks:=t' }:=by
 obtain⟨m,⟨o,es,ep,ho,r⟩,_⟩:=id I.loc;obtain⟨sl,hL⟩:=u.any ho I.free λz=>(hch _ z).2.1 rfl
 exact I.step (ch:=ch) hch (λb o hL hb hc e n=>u.keep b o e n (λz=>(ae.mp (I.stkSub b z)).elim hL hb) hc) (λb o _ _ hc e n=>u.any e n hc) (λb o hc e n=>u.free b o e n hc) (λb o hc e=>u.there b o e hc) u.tups u.frzs u.tbls (λm' hm=>by
  obtain⟨o',es',ep',ho',r'⟩:=hm;rw[ho]at ho';cases ho';exact⟨_,es',ep',hL,r'⟩) hok hg
theorem Inv.turned{t':Nat}{it:Addr}(I:Inv X oV σ H s) (k:∀b o,b≠it->s.heap.get? b=some o->h'.get? b=some o) (hn:H it=none) (hL:it≠X.env.locals)
  (h1:it∈X.ex∨X.s₀.heap.objs.size<=it) (h2:∀x c,X.env.cells.lookup x=some c->c≠it) (h3:∀p∈X.pn++oV,p.1≠it):Inv X oV σ H { s with heap:=h',toks:=t' }:=by
 have nit:∀b u,H b=some u->b≠it:=λb u e z=>by rw[z,hn]at e;cases e
 refine I.step (g':=s.gens) (d':=s.drawn) (ch:=[it]) (λb hb=>?_) (λb o _ _ hc e _=>k b o (λz=>hc (by simp[z])) e) (λb o _ _ hc e _=>⟨o.slots,k b o (λz=>hc (by simp[z])) e⟩) (λ_ _ _ _ n=>n)
  (λb o hc e=>⟨o,k b o (λz=>hc (by simp[z])) e⟩) (λ_ _ e=>e) (λ_ _ _ e=>e) (λb ps e=>⟨#[],by rw[e];simp⟩) (λm hm=>?_) (λb u e=>?_) I.bare
 .have e:b=it:=by simpa using hb
  subst e;exact⟨h1,hL,h2,h3⟩
 .obtain ⟨o,es,ep,ho,r⟩:=hm;exact⟨o,es,ep,k _ o (Ne.symm hL) ho,r⟩
 .refine (I.hok b u e).stay (λc v hc q=>k c v ?_ q) (λ_ q=>q) λ_ _ q=>q
  rcases hc with z|z
  .rw [z];exact nit b u e
  .exact nit c _ z
theorem Inv.tok(I:Inv X oV σ H s) (t:Nat):Inv X oV σ H { s with toks:=t }:=I.un (h':=s.heap) (t':=t) Un.refl I.hok
theorem Inv.kept{t':Nat}(I:Inv X oV σ H s) (k:∀b u,s.heap.get? b=some u->h'.get? b=some u):Inv X oV σ H { s with heap:=h',toks:=t' }:=I.un (Un.kept k) (I.hok.kept k)
theorem Inv.laid{a:Addr}{o:HO}{t':Nat}(I:Inv X oV σ H s) (k:∀b u,s.heap.get? b=some u->h'.get? b=some u) (hp:s.heap.objs.size<=a) (new:rV X.prog X.w (rK H a o) h' a o) :
  Inv X oV σ (rK H a o) { s with heap:=h',toks:=t' }:=I.un (Un.laid k hp (I.hok.fresh hp)) (I.hok.laid k hp new)
theorem Inv.write{x e:Addr}{o:HO}{t':Nat}(I:Inv X oV σ H s) (mu:Wn (H x)) (he:e=x∨H e=some (.own x)) (k:∀b u,b≠e->s.heap.get? b=some u->h'.get? b=some u) (heo:∃u,h'.get? e=some u)
  (new:rV X.prog X.w (rK H x o) h' x o):Inv X oV σ (rK H x o) { s with heap:=h',toks:=t' }:=I.un (Un.write mu he k heo) (I.hok.write mu he k heo new)
theorem Inv.pins_of{pins':List (Addr×Obj)}(I:Inv X oV σ H s) (h:∀p∈pins',s.heap.get? p.1=some p.2/\H p.1=none/\p.1≠X.env.locals/\p.1∉X.fs/\∀v,p.2.data ≠ .cell v):Inv X pins' σ H s :=
 ⟨I.ok,I.os,I.bare,I.base,I.loc,I.cell,I.free,I.freeC,λp hp=>(mAq.mp hp).elim (λz=>I.pin p (ah _ z)) (h p),I.hok,I.len⟩
theorem HR{N:List Str}(hN:N.Nodup) {i j:Nat}{x:Str}(a:N[i]?=some x) (b:N[j]?=some x):i=j:=by
 obtain⟨h1,e1⟩:=gSq.mp a;obtain⟨h2,e2⟩:=gSq.mp b;exact(jM hN).mp (e1.trans e2.symm)
theorem KZ{M:Model}{A:Around}{E:Value->Shared->Prop}{i:Nat}{x:Str}{v:V}{u:Value}{Q:Unit->Shared->Prop}(I:Inv X oV σ H s) (hN:X.N.Nodup) (hi:X.N[i]?=some x) (hx:VQ X.env.scope x) (r:qN v u)
  (h:∀s',Inv X oV (σ.set i (some v)) H s'->(∃a,cO a s.heap s'.heap/\(a=X.env.locals∨X.env.cells.lookup x=some a))->Q () s') (hf:X.fn x=true∨X.env.scope.names.lookup x=some .local:=by trivial):kJ M A (storeName X.env x u) Q E s:=by
 obtain⟨m,hn,hl⟩:=id I.loc;have hcls:(X.env.scope.kind == .class || (X.env.scope.kind == .module && X.env.locals != X.env.globals))=false:=by rw[I.ok.kind];rfl
 have hiσ:i<σ.length:=by rw[I.len];exact(gSq.mp hi).1
 have cne:=I.cne;have tracked:∀{a:Addr}{h':Heap},(∃o,s.heap.get? a=some o/\H a=none)->cO a s.heap h'->AL X.prog X.w H h':=λ{a h'} ha hs b ob e=>by
  obtain⟨_,_,hfree⟩:=ha;refine(I.hok b ob e).stay (λc w' hc q=>(hs.2 c ?_).trans q) (λ_ q=>q) λ_ _ q=>q
  rintro rfl;rcases hc with rfl|hc
  .rw [hfree]at e;cases e
  .rw [hfree]at hc;cases hc
 rcases hx with hk|hk
 .refine wpAny_storeName_local hk hn (λh' hn' hs=>?_) hcls
  obtain⟨oL,_,_,hoL,_⟩:=id hn;refine h _ ⟨I.ok,I.os,I.bare,⟨λb o e n hb hx=>?_,λb o e n hb hx=>?_,I.base.free,λb o e hx=>?_,I.base.tups,I.base.frzs,I.base.tbls⟩,⟨_,hn',λj y v' e1 e2 e3=>?_⟩,λy c e=>?_,I.free,I.freeC,λp hp=>?_,tracked ⟨oL,hoL,I.free⟩ hs,by simpa using I.len⟩ ⟨_,hs,.inl rfl⟩
  .exact (hs.2 b (aL (aG (az e) I.ok.above))).trans (I.base.keep b o e n hb hx)
  .obtain ⟨sl,e1⟩:=I.base.slot b o e n hb hx;exact⟨sl,(hs.2 b (aL (aG (az e) I.ok.above))).trans e1⟩
  .obtain ⟨o',e1⟩:=I.base.there b o e hx;exact⟨o',(hs.2 b (aL (aG (az e) I.ok.above))).trans e1⟩
  .by_cases hj:j=i
   .subst hj;rw[hi]at e1;cases e1;rw[aA hiσ]at e2;cases e2;exact⟨u,r,.inl ⟨hk,by simp⟩⟩
   .rw [aB (Ne.symm hj)]at e2;obtain⟨u',r',q⟩:=hl j y v' e1 e2 e3;refine⟨u',r',?_⟩;rcases q with ⟨k,e⟩|⟨k,c,e,z⟩
    .refine .inl ⟨k,?_⟩;have:y≠x:=λe=>hj (HR hN e1 (e ▸ hi))
     simp[this,e]
    .exact .inr ⟨k,c,e,z.sameBut hs (cne y c e)⟩
  .obtain ⟨w',z⟩:=I.cell y c e;exact⟨w',z.sameBut hs (cne y c e)⟩
  .obtain ⟨e,n,ne,nf,d⟩:=I.pin p hp;exact⟨(hs.2 p.1 ne).trans e,n,ne,nf,d⟩
 .have hfn:X.fn x=true:=by
   rcases hf with z|z
   .exact z
   .rw [z]at hk;cases hk
  obtain⟨c,hc⟩:=I.ok.has x (.inl hk);obtain⟨w',z⟩:=I.cell x c hc;refine wpAny_storeName_cell I.ok.kind hk hc z (λh' hc' hs=>?_)
  obtain⟨oc,hoc,hocd⟩:=id z;refine h { s with heap:=h' } ⟨I.ok,I.os,I.bare,⟨λb o e n hb hx=>?_,λb o e n hb hx=>?_,I.base.free,λb o e hx=>?_,I.base.tups,I.base.frzs,I.base.tbls⟩,⟨m,hn.sameBut hs (Ne.symm (cne x c hc)),λj y v' e1 e2 e3=>?_⟩,λy c' e=>?_,I.free,I.freeC,λp hp=>?_,tracked ⟨oc,hoc,I.freeC x c hc⟩ hs,by simpa using I.len⟩ ⟨c,hs,.inr hc⟩
  .exact (hs.2 b (aL (aG (az e) (I.ok.cab x c hfn hc)))).trans (I.base.keep b o e n hb hx)
  .obtain ⟨sl,e1⟩:=I.base.slot b o e n hb hx;exact⟨sl,(hs.2 b (aL (aG (az e) (I.ok.cab x c hfn hc)))).trans e1⟩
  .obtain ⟨o',e1⟩:=I.base.there b o e hx;exact⟨o',(hs.2 b (aL (aG (az e) (I.ok.cab x c hfn hc)))).trans e1⟩
  .by_cases hj:j=i
   .subst hj;rw[hi]at e1;cases e1;rw[aA hiσ]at e2;cases e2;exact⟨u,r,.inr ⟨.inl hk,c,hc,hc'⟩⟩
   .rw [aB (Ne.symm hj)]at e2;obtain⟨u',r',q⟩:=hl j y v' e1 e2 e3;refine⟨u',r',?_⟩;rcases q with q|⟨k,c',e,z'⟩
    .exact .inl q
    .refine .inr ⟨k,c',e,z'.sameBut hs ?_⟩;rintro rfl;exact hj (HR hN e1 (I.ok.inj _ _ _ e hc ▸ hi))
  .by_cases hcc:c'=c
   .subst hcc;exact⟨_,hc'⟩
   .obtain ⟨w2,z2⟩:=I.cell y c' e;exact⟨w2,z2.sameBut hs hcc⟩
  .obtain ⟨e,n,ne,nf,d⟩:=I.pin p hp;refine⟨(hs.2 p.1 ?_).trans e,n,ne,nf,d⟩;intro q;rw[q,hoc]at e;have q':oc=p.2:=aD.inj e;exact d w' (by rw[←q'];exact hocd)
theorem Ih{M:Model}{A:Around}{E:Value->Shared->Prop}{i:Nat}{x:Str}{v:V}{u:Value}{Q:Unit->Shared->Prop}(I:Inv X oV σ H s) (hN:X.N.Nodup) (hi:X.N[i]?=some x) (hx:VQ X.env.scope x) (r:qN v u)
  (h:∀s',Inv X oV (σ.set i (some v)) H s'->Q () s') (hf:X.fn x=true∨X.env.scope.names.lookup x=some .local:=by trivial):kJ M A (storeName X.env x u) Q E s :=
 KZ I hN hi hx r (λs' I' _=>h s' I') hf
theorem Inv.call'{s':Shared}{ch:List Addr}(I:Inv X oV σ H s) (ho:s'.os=s.os) (u:Un (NI X.stack) ch H H' s.heap s'.heap) (hok:AL X.prog X.w H' s'.heap) (hg:mP s'.gens)
  (hch:∀b∈ch,(b∈X.ex∨X.s₀.heap.objs.size<=b)/\b≠X.env.locals/\(∀x c,X.env.cells.lookup x=some c->c≠b)/\∀p∈X.pn++oV,p.1≠b):Inv X oV σ H' s':=by
 obtain⟨h',g',d',t',o'⟩:=s';have e:o'=s.os:=ho;subst e;exact I.call (g':=g') (t':=t') (d':=d') u hok hg hch
end
abbrev XK:=Value->Option Addr->Hp->Prop
abbrev St:=List (Option V)
abbrev VK:=V->Hp->Prop
abbrev TE:=St->Hp->VK->Prop
abbrev TT:=St->Hp->(Bool->Hp->Prop)->Prop
abbrev TA:=St->Hp->(List V->Hp->Prop)->Prop
structure Ad where
 nx:St->Hp->Prop
 rt:VK
 bk:St->Hp->Prop:=λ_ _=>False
 ct:St->Hp->Prop:=λ_ _=>False
abbrev TS:=Ad->St->Hp->Prop
def EP(X:Cx) (oV:List (Addr×Obj)) (σ:St) (Q:VK) (u:Value) (s':Shared):Prop:=∃v H',Inv X oV σ H' s'/\qN v u/\Q v H'
def TP(X:Cx) (oV:List (Addr×Obj)) (σ:St) (Q:Bool->Hp->Prop) (b:Bool) (s':Shared):Prop:=∃H',Inv X oV σ H' s'/\Q b H'
def AP(X:Cx) (oV:List (Addr×Obj)) (σ:St) (Q:List V->Hp->Prop) (us:List Value) (s':Shared):Prop:=∃vs H',Inv X oV σ H' s'/\qv vs us/\Q vs H'
def SP(X:Cx) (oV:List (Addr×Obj)) (D:Ad) (f:Flow) (s':Shared):Prop :=
 match f with
 | .next=>∃σ' H',Inv X oV σ' H' s'/\D.nx σ' H'
 | .brk=>∃σ' H',Inv X oV σ' H' s'/\D.bk σ' H'
 | .cont=>∃σ' H',Inv X oV σ' H' s'/\D.ct σ' H'
 | .ret u=>∃v σ' H',Inv X oV σ' H' s'/\qN v u/\D.rt v H'
def PE(X:Cx) (e:Expr) (t:TE):Prop :=
 ∀(oV:List (Addr×Obj)) (s:Shared) (σ:St) (H:Hp) (Q:VK),Inv X oV σ H s->t σ H Q->kJ (kG X.prog X.w) X.A (eval e X.env) (EP X oV σ Q) X.xe s
def PT(X:Cx) (e:Expr) (t:TT):Prop :=
 ∀(oV:List (Addr×Obj)) (s:Shared) (σ:St) (H:Hp) (Q:Bool->Hp->Prop),Inv X oV σ H s->t σ H Q->kJ (kG X.prog X.w) X.A (isTrue e X.env (eval e X.env)) (TP X oV σ Q) X.xe s
def PW(X:Cx) (e:Expr) (t:TT):Prop :=
 ∀(whole:Sem Value) (oV:List (Addr×Obj)) (s:Shared) (σ:St) (H:Hp) (Q:Bool->Hp->Prop),Inv X oV σ H s->t σ H Q->kJ (kG X.prog X.w) X.A (isTrue e X.env whole) (TP X oV σ Q) X.xe s
theorem PW.pt{X:Cx}{e:Expr}{t:TT}(h:PW X e t):PT X e t:=h _
def PA(X:Cx) (es:List Expr) (t:TA):Prop :=
 ∀(pos:Pos) (oV:List (Addr×Obj)) (s:Shared) (σ:St) (H:Hp) (Q:List V->Hp->Prop),Inv X oV σ H s->t σ H Q->kJ (kG X.prog X.w) X.A (spliced (mG pos (kP es X.env))) (AP X oV σ Q) X.xe s
def PS(X:Cx) (st:Stmt) (t:TS):Prop :=
 ∀(oV:List (Addr×Obj)) (s:Shared) (σ:St) (H:Hp) (D:Ad),Inv X oV σ H s->t D σ H->kJ (kG X.prog X.w) X.A (exec st X.env) (SP X oV D) X.xe s
def Lx(X:Cx) (st:List Stmt) (t:TS):Prop :=
 ∀(oV:List (Addr×Obj)) (s:Shared) (σ:St) (H:Hp) (D:Ad),Inv X oV σ H s->t D σ H->kJ (kG X.prog X.w) X.A (execs st X.env) (SP X oV D) X.xe s
theorem thn{α:Type}{t:Sem α}{Q Q':α->Shared->Prop}{M:Model}{A:Around}{E:Value->Shared->Prop}{s:Shared}(h:kJ M A t Q E s) (hQ:∀a s,Q a s->Q' a s):kJ M A t Q' E s:=kR h hQ λ_ _ x=>x
section
variable {X:Cx}
def xi(i:Nat):TE:=λσ H Q=>∃v,σ[i]?=some (some v)/\Q v H
def tC(v:V):TE:=λ_ H Q=>Q v H
theorem UK{i:Nat}{x:Str}{pos:Pos}(hN:X.N[i]?=some x) (hv:Xc X.env.scope x) (hd:(x == ("__debug__" : Str))=false:=by decide) (hcd:(x == ("__classdict__" : Str))=false:=by decide):PE X (.Name x pos) (xi i):=by
 intro oV s σ H Q I h;obtain⟨v,e,h⟩:=h;obtain⟨m,hn,hl⟩:=I.loc;obtain⟨u,r,l⟩:=hl i x v hN e hv;have fin:EP X oV σ Q u s:=⟨v,H,I,r,h⟩;rcases l with ⟨hk,hm⟩|⟨hk,c,hc,hcell⟩
 .exact wpAny_Name (wpAny_loadName_local I.ok.kind hk hn hm fin) hd
 .rcases hk with hk|hk
  .exact wpAny_Name (wpAny_loadName_cell I.ok.kind hk hc hcell fin) hd
  .exact wpAny_Name (wpAny_loadName_free I.ok.kind hk hc hcell fin hcd) hd
theorem pJ{i j pos}:PE X (.Constant (.int i) j pos) (tC (.int i)):=λ_ _ _ H _ I h=>wpAny_Constant_int ⟨.int i,H,I.tok _,⟨_,rfl⟩,h⟩
theorem Ds{b j pos}:PE X (.Constant (.bool b) j pos) (tC (.bl b)):=λ_ _ _ H _ I h=>Constant_bool ⟨.bl b,H,I,rfl,h⟩
def Gl(X:Cx) (x:Str):Prop:=X.env.kindOf x=some .globalImplicit
theorem RN{E:Value->Shared->Prop}{oV:List (Addr×Obj)}{s:Shared}{σ:St}{H:Hp}{x:Str}{u:Value}{pos:Pos}{Q:Value->Shared->Prop}(I:Inv X oV σ H s) (hg:Gl X x) (hm:X.mg x=some u) (h:Q u s)
  (hd:(x == ("__debug__" : Str))=false:=by decide):kJ (kG X.prog X.w) X.A (eval (.Name x pos) X.env) Q E s :=
 Calls.Name_function_global I.ok.kind hg (Calls.loadGlobal_global (by rw[I.ok.glob];exact I.mod.glob.keeps I.bk) hm h) hd
theorem AJ{E:Value->Shared->Prop}{oV:List (Addr×Obj)}{s:Shared}{σ:St}{H:Hp}{x:Str}{u:Value}{pos:Pos}{Q:Value->Shared->Prop}(I:Inv X oV σ H s) (hg:Gl X x) (hm:X.mg x=none) (hv:mD x=some u) (h:Q u s)
  (hn:x ≠ "__name__" := by decide) (hd:(x == ("__debug__" : Str))=false:=by decide):kJ (kG X.prog X.w) X.A (eval (.Name x pos) X.env) Q E s:=by
 obtain⟨mb,h1,h2⟩:=I.mod.blt;exact Calls.Name_function_global I.ok.kind hg (Calls.loadGlobal_builtin (by rw[I.ok.glob];exact I.mod.glob.keeps I.bk) hm (by rw[I.ok.blt];exact h1.keeps I.bk) ((h2 x hn).trans hv) h) hd
theorem Cw{x:Str}{v:V}{u:Value}{pos:Pos}(hg:Gl X x) (hm:X.mg x=none) (hv:mD x=some u) (r:qN v u) (hn:x ≠ "__name__" := by decide) (hd:(x == ("__debug__" : Str))=false:=by decide):PE X (.Name x pos) (tC v) :=
 λ_ _ _ H _ I h=>AJ I hg hm hv ⟨v,H,I,r,h⟩ hn hd
variable {a b:Expr}{ta tb:TE}{pos:Pos}
def PC(X:Cx) (op:CmpOp) (a b:Expr) (t:TE):Prop :=
 ∀(oV:List (Addr×Obj)) (s:Shared) (σ:St) (H:Hp) (Q:VK),Inv X oV σ H s->t σ H Q ->
  kJ (kG X.prog X.w) X.A (eval a X.env) (λv s₁=>kJ (kG X.prog X.w) X.A (eval b X.env) (λu s₂=>kJ (kG X.prog X.w) X.A (lz op v u) (EP X oV σ Q) X.xe s₂) X.xe s₁) X.xe s
def tB(t:TE):TT:=λσ H Q=>t σ H λx H1=>∃c,x = .bl c/\Q c H1
theorem Qm{op:CmpOp}{t:TE}(h:PC X op a b t) (h1:mK op b=false:=by first|exact nobehind _ (by decide) (by decide)|rfl):PT X (.Compare a [op] [b] pos) (tB t):=by
 intro oV s σ H Q I hw;refine nU (thn (h oV s σ H _ I hw) λv s1 h1=>thn h1 λu s2 h2=>thn h2 λc s3 ⟨x,H1,I1,r1,q1⟩=>?_) h1
 obtain⟨d,rfl,q⟩:=q1;cases r1;exact ly ⟨H1,I1,q⟩
theorem Fi{e:Expr}{t:TE}(h:PE X e t) (he:∀whole,isTrue e X.env whole=(do let v ←whole;standAt e.pos;holding [v] (truthy v)):=by intro _;rfl):PT X e (tB t):=by
 intro oV s σ H Q I hw;refine isTrue_plain (thn (h oV s σ H _ I hw) λv s1 ⟨x,H1,I1,r1,q1⟩=>?_) (he _)
 obtain⟨d,rfl,q⟩:=q1;cases r1;exact ly ⟨H1,I1,q⟩
variable {tA tB':TT}{rest:List Expr}
def Vo(t u:TT):TT:=λσ H Q=>t σ H λc H1=>if c=true then u σ H1 Q else Q false H1
def Yo(t u:TT):TT:=λσ H Q=>t σ H λc H1=>if c=true then Q true H1 else u σ H1 Q
def Vl(t:TT):TT:=λσ H Q=>t σ H λc H1=>Q (!c) H1
theorem Fl(ha:PT X a tA):PW X (.BoolOp .And [a] pos) tA:=by
 intro wh oV s σ H Q I h;refine isTrue_and (thn (ha oV s σ H Q I h) λc s1 e=>?_)
 cases c with
 |true=>exact isTrue_and_nil e
 |false=>exact e
theorem TN(ha:PT X a tA):PW X (.BoolOp .Or [a] pos) tA:=by
 intro wh oV s σ H Q I h;refine isTrue_or (thn (ha oV s σ H Q I h) λc s1 e=>?_)
 cases c with
 |false=>exact isTrue_or_nil e
 |true=>exact e
theorem IY(ha:PT X a tA) (hb:PW X (.BoolOp .And (b::rest) pos) tB'):PW X (.BoolOp .And (a::b::rest) pos) (Vo tA tB'):=by
 intro wh oV s σ H Q I h;refine isTrue_and (thn (ha oV s σ H _ I h) λc s1 ⟨H1,I1,q1⟩=>?_)
 cases c with
 |true=>exact hb wh oV s1 σ H1 Q I1 q1
 |false=>exact⟨H1,I1,q1⟩
theorem S5(ha:PT X a tA) (hb:PW X (.BoolOp .Or (b::rest) pos) tB'):PW X (.BoolOp .Or (a::b::rest) pos) (Yo tA tB'):=by
 intro wh oV s σ H Q I h;refine isTrue_or (thn (ha oV s σ H _ I h) λc s1 ⟨H1,I1,q1⟩=>?_)
 cases c with
 |true=>exact⟨H1,I1,q1⟩
 |false=>exact hb wh oV s1 σ H1 Q I1 q1
theorem IB(ha:PT X a tA):PT X (.UnaryOp .Not a pos) (Vl tA):=by
 intro oV s σ H Q I h;exact isTrue_not (ha oV s σ H (λc H1=>Q (!c) H1) I h)
def S7(ta tb:TE):TE:=λσ H Q=>ta σ H λx H1=>∃c,x = .bl c/\if c=true then tb σ H1 Q else Q (.bl false) H1
def S8(ta:TE):TE:=λσ H Q=>ta σ H λx H1=>∃c,x = .bl c/\Q (.bl (!c)) H1
theorem OX{op} {t:TE}(h:PE X a t):PE X (.BoolOp op [a] pos) t:=λoV s σ H Q I hw=>BoolOp_one (h oV s σ H Q I hw)
theorem Pi(ha:PE X a ta) (hb:PE X (.BoolOp .And (b::rest) pos) tb):PE X (.BoolOp .And (a::b::rest) pos) (S7 ta tb):=by
 intro oV s σ H Q I h;refine BoolOp_and (thn (ha oV s σ H _ I h) λv s1 ⟨x,H1,I1,r1,q1⟩=>?_)
 obtain⟨c,rfl,q1⟩:=q1;cases r1;refine ly ?_;cases c with
 |true=>exact hb oV s1 σ H1 Q I1 q1
 |false=>exact⟨.bl false,H1,I1,rfl,q1⟩
theorem UI(ha:PE X a ta):PE X (.UnaryOp .Not a pos) (S8 ta):=by
 intro oV s σ H Q I h;refine UnaryOp_ (thn (ha oV s σ H _ I h) λv s1 ⟨x,H1,I1,r1,q1⟩=>?_)
 obtain⟨c,rfl,q1⟩:=q1;cases r1;exact not_of (ly ⟨.bl (!c),H1,I1,rfl,q1⟩)
end
def tJ(K:W.Frag) (H:Hp) (a:Addr) (xs:List V):Prop :=
 Rd H a (.lst xs) ∨
  ∃(o:Obj) (its:Array Value) (n:Nat),K.lookup a=some o/\o.cls = .type "list" /\ o.dict=none/\o.data = .seq its n/\its.size<=kK/\qv xs its.toList
def IT(K:W.Frag) (H:Hp) (a:Addr) (xs:List V):Prop :=
 Rd H a (.tup xs) ∨
  ∃(o:Obj) (its:Array Value) (n:Nat),K.lookup a=some o/\o.cls = .type "tuple" /\ o.data = .seq its n/\its.size<=kK/\qv xs its.toList
def XC:Value->Option V
 | .none=>some .non
 | .bool b=>some (.bl b)
 | .int i _=>some (.int i)
 | .str x _=>some (.str x)
 | .bytes b _=>some (.byt b)
 | .float b _=>some (.flt b)
 | .ref a=>some (.ref a)
 | .type n=>some (.ty n)
 |_=>none
theorem qN.abs{x:V}{u:Value}(r:qN x u):XC u=some x:=by
 cases x with
 |non=>cases r;rfl
 |bl _=>cases r;rfl
 |int _=>obtain⟨t,rfl⟩:=r;rfl
 |str _=>obtain⟨t,rfl⟩:=r;rfl
 |byt _=>obtain⟨t,rfl⟩:=r;rfl
 |flt _=>obtain⟨t,rfl⟩:=r;rfl
 |ref _=>cases r;rfl
 |ty _=>cases r;rfl
theorem qN.inj{x y:V}{u:Value}(r:qN x u) (q:qN y u):x=y:=aD.inj (r.abs.symm.trans q.abs)
theorem qv.inj:∀{xs ys:List V}{us:List Value},qv xs us->qv ys us->xs=ys
 |_,_,_,.nil,.nil=>rfl
 |_,_,_,.cons r t,.cons r' t'=>by rw[r.inj r',qv.inj t t']
section
variable {X:Cx}{oV:List (Addr×Obj)}{σ:St}{H:Hp}{s:Shared}{a:Addr}{xs ys:List V}
theorem tJ.of{K:W.Frag}(h:H a=some (.lst xs)):tJ K H a xs:=.inl (.inl h)
theorem IT.of{K:W.Frag}(h:H a=some (.tup xs)):IT K H a xs:=.inl (.inl h)
theorem Inv.list(I:Inv X oV σ H s) (h:tJ X.K H a xs):∃its:List Value,qv xs its/\PlainL s.heap a its.toArray/\xs.length<=kK:=by
 rcases h with h|⟨o,its,n,hk,hc,hd,hs,hz,r⟩
 .obtain ⟨z,its,n,r,e⟩:=h.ok I.hok;exact⟨its,r,⟨_,n,e,rfl,rfl,rfl⟩,z⟩
 .refine ⟨its.toList,r,⟨o,n,I.kIn a o hk,hc,hd,by simpa using hs⟩,?_⟩
  have e:=r.length;simp only[aw]at e;lia
theorem Inv.tuple(I:Inv X oV σ H s) (h:IT X.K H a xs):∃its:List Value,qv xs its/\IsTup s.heap a its.toArray/\xs.length<=kK:=by
 rcases h with h|⟨o,its,n,hk,hc,hs,hz,r⟩
 .obtain ⟨z,its,r,p⟩:=h.ok I.hok;exact⟨its,r,p,z⟩
 .refine ⟨its.toList,r,⟨o,I.kIn a o hk,hc,n,by simpa using hs⟩,?_⟩
  have e:=r.length;simp only[aw]at e;lia
theorem Inv.list_inj(I:Inv X oV σ H s) (h:tJ X.K H a xs) (h':tJ X.K H a ys):xs=ys:=by
 obtain⟨its,r,⟨o,n,e,_,_,d⟩,_⟩:=I.list h;obtain⟨its',r',⟨o',n',e',_,_,d'⟩,_⟩:=I.list h';rw[e]at e';cases e';rw[d]at d';injection d' with d1 _
 have:its=its':=by simpa using congrArg Array.toList d1
 subst this;exact r.inj r'
end
abbrev Cx.wish(X:Cx) (E:Value->Shared->Prop):Cx:={ X with xe:=E }
abbrev Cx.nox(X:Cx):Cx:=X.wish λ_ _=>False
theorem Cx.Ok.wish{X:Cx}(ok:X.Ok) (E:Value->Shared->Prop):(X.wish E).Ok :=
 ⟨ok.mod,ok.kind,ok.glob,ok.blt,ok.above,ok.inj,ok.has,ok.cab,ok.hd,ok.frames,ok.stk,ok.exf,ok.bs,ok.bsz,ok.noex,ok.exfs,ok.funs,ok.frf⟩
theorem Cx.Ok.unwish{X:Cx}{E:Value->Shared->Prop}(ok:(X.wish E).Ok):X.Ok :=
 ⟨ok.mod,ok.kind,ok.glob,ok.blt,ok.above,ok.inj,ok.has,ok.cab,ok.hd,ok.frames,ok.stk,ok.exf,ok.bs,ok.bsz,ok.noex,ok.exfs,ok.funs,ok.frf⟩
section
variable {X:Cx}{oV:List (Addr×Obj)}{σ:St}{H:Hp}{s:Shared}{E:Value->Shared->Prop}
theorem Inv.wish(I:Inv X oV σ H s) (E:Value->Shared->Prop):Inv (X.wish E) oV σ H s:=⟨I.ok.wish E,I.os,I.bare,I.base,I.loc,I.cell,I.free,I.freeC,I.pin,I.hok,I.len⟩
theorem Inv.unwish(I:Inv (X.wish E) oV σ H s):Inv X oV σ H s:=⟨I.ok.unwish,I.os,I.bare,I.base,I.loc,I.cell,I.free,I.freeC,I.pin,I.hok,I.len⟩
theorem SP.unwish{D:Ad}{f:Flow}{s':Shared}(h:SP (X.wish E) oV D f s'):SP X oV D f s':=by
 cases f with
 |next=>obtain⟨σ',H',I,q⟩:=h;exact⟨σ',H',I.unwish,q⟩
 |brk=>obtain⟨σ',H',I,q⟩:=h;exact⟨σ',H',I.unwish,q⟩
 |cont=>obtain⟨σ',H',I,q⟩:=h;exact⟨σ',H',I.unwish,q⟩
 |ret u=>obtain⟨v,σ',H',I,r,q⟩:=h;exact⟨v,σ',H',I.unwish,r,q⟩
theorem Lx.nox{st:List Stmt}{t:TS}(h:Lx X.nox st t):Lx X st t:=λoV s σ H D I hw =>
 kR (h oV s σ H D (I.wish _) hw) (λ_ _ q=>q.unwish) λ_ _ z=>False.elim z
end
section
variable {X:Cx}{st:Stmt}{rest:List Stmt}{t u:TS}{e:Expr}{te:TE}{pos:Pos}
def Su:TS:=λD σ H=>D.nx σ H
def N0(t u:TS):TS:=λD σ H=>t { D with nx:=u D } σ H
theorem sH:Lx X [] Su:=λ_ _ σ H _ I h=>mQ ⟨σ,H,I,h⟩
theorem pB(h1:PS X st t) (h2:Lx X rest u):Lx X (st::rest) (N0 t u):=by
 intro oV s σ H D I h;refine wpAny_execs_cons (thn (h1 oV s σ H { D with nx:=u D } I h) λf s1 q=>?_)
 cases f with
 |next =>
  obtain⟨σ',H',I',q⟩:=q;exact h2 oV s1 σ' H' D I' q
 |ret v=>exact q
 |brk=>exact q
 |cont=>exact q
theorem pE(h1:PS X st t):Lx X [st] t:=by
 intro oV s σ H D I h;refine wpAny_execs_cons (thn (h1 oV s σ H D I h) λf s1 q=>?_)
 cases f with
 |next=>exact mQ q
 |ret v=>exact q
 |brk=>exact q
 |cont=>exact q
theorem Inv.quiet{oV:List (Addr×Obj)}{σ:St}{H:Hp}{s:Shared}(I:Inv X oV σ H s):interactive X.env=false:=by simp[interactive,I.ok.kind]
def B5(te:TE):TS:=λD σ H=>te σ H λ_ H1=>D.nx σ H1
theorem uR(he:PE X e te) (hs:oh e none pos.line X.env=pure false:=by rfl):PS X (.Expr e pos) (B5 te):=by
 intro oV s σ H D I h;exact wpAny_Expr_any (thn (he oV s σ H _ I h) λv s1 ⟨x,H1,I1,r1,q1⟩=>⟨σ,H1,I1,q1⟩) I.quiet hs
def QT(te:TE):TS:=λD σ H=>te σ H D.rt
theorem qU(he:PE X e te):PS X (.Return (some e) pos) (QT te):=by
 intro oV s σ H D I h;exact wpAny_Return_some (thn (he oV s σ H _ I h) λv s1 ⟨x,H1,I1,r1,q1⟩=>⟨x,σ,H1,I1,r1,q1⟩)
def Ri(c:TT) (t u:TS):TS:=λD σ H=>c σ H λb H1=>if b=true then t D σ H1 else u D σ H1
theorem uJ{c:Expr}{a b:List Stmt}{tc:TT}(hc:PT X c tc) (ha:Lx X a t) (hb:Lx X b u):PS X (.If c a b pos) (Ri tc t u):=by
 intro oV s σ H D I h;refine wpAny_If (thn (hc oV s σ H _ I h) λd s1 ⟨H1,I1,q1⟩=>?_)
 cases d with
 |true=>exact ha oV s1 σ H1 D I1 q1
 |false=>exact hb oV s1 σ H1 D I1 q1
end
abbrev TG:=V->St->Hp->(St->Hp->Prop)->Prop
abbrev Tt:=List V->St->Hp->(St->Hp->Prop)->Prop
def PG(X:Cx) (target:Expr) (t:TG):Prop :=
 ∀(oV:List (Addr×Obj)) (s:Shared) (σ:St) (H:Hp) (v:V) (u:Value) (Q:St->Hp->Prop),Inv X oV σ H s->qN v u->t v σ H Q ->
  kJ (kG X.prog X.w) X.A (assign target X.env u) (λ_ s'=>∃σ' H',Inv X oV σ' H' s'/\Q σ' H') X.xe s
def WV(X:Cx) (ts:List Expr) (t:Tt):Prop :=
 ∀(oV:List (Addr×Obj)) (s:Shared) (σ:St) (H:Hp) (vs:List V) (us:List Value) (Q:St->Hp->Prop),Inv X oV σ H s->qv vs us->t vs σ H Q ->
  kJ (kG X.prog X.w) X.A (assignInOrder ((nC ts X.env).map (·.2)) us) (λ_ s'=>∃σ' H',Inv X oV σ' H' s'/\Q σ' H') X.xe s
section
variable {X:Cx}{pos:Pos}
def uv(i:Nat):TG:=λv σ H Q=>Q (σ.set i (some v)) H
theorem sk{i:Nat}{x:Str}(hN:X.N.Nodup) (hi:X.N[i]?=some x) (hx:VQ X.env.scope x) (hf:X.fn x=true∨X.env.scope.names.lookup x=some .local:=by trivial):PG X (.Name x pos) (uv i):=by
 intro oV s σ H v u Q I r h;exact wpAny_assign_Name (Ih I hN hi hx r (λs' I'=>⟨_,H,I',h⟩) hf)
def Rp:Tt:=λvs σ H Q=>vs=[]/\Q σ H
def D6(t:TG) (u:Tt):Tt:=λvs σ H Q=>∃v r,vs=v::r/\t v σ H λσ' H'=>u r σ' H' Q
theorem Rm:WV X [] Rp:=by
 intro oV s σ H vs us Q I r h;obtain⟨e,h⟩:=h;subst e;cases r;exact assignInOrder_nil ⟨σ,H,I,h⟩
theorem HW{e:Expr}{es:List Expr}{t:TG}{u:Tt}(h1:PG X e t) (h2:WV X es u)
  (hs:(nC (e::es) X.env).map (·.2)=assign e X.env::(nC es X.env).map (·.2):=by rfl):WV X (e::es) (D6 t u):=by
 intro oV s σ H vs us Q I r h;obtain⟨v,vr,e1,h⟩:=h;subst e1;cases r with
 |cons r rr =>
  rw[hs];refine assignInOrder_cons (thn (h1 oV s σ H _ _ _ I r h) λ_ s1 ⟨σ1,H1,I1,q1⟩=>?_)
  exact h2 oV s1 σ1 H1 _ _ Q I1 rr q1
def QY(K:W.Frag) (n:Nat) (t:Tt):TG:=λv σ H Q=>∃a xs,v = .ref a/\IT K H a xs/\xs.length=n/\t xs σ H Q
theorem T9{es:List Expr}{k:Nat}{t:Tt}{n:Nat}(hc:X.calm=true) (h:WV X es t)
  (hn:(nC es X.env).length=n:=by rfl) (hst:(nC es X.env).findIdx? (·.1)=none:=by rfl):PG X (.Tuple es k pos) (QY X.K n t):=by
 intro oV s σ H v u Q I r hw;obtain⟨a,xs,e1,hq,hl,hw⟩:=hw;subst e1;cases r;obtain⟨its,rv,ht,hz⟩:=I.tuple hq;refine assign_Tuple_tuple (I.ok.hd hc) ht (by simp[hn,←hl,rv.length]) hst λh' hx=>?_
 have I1:Inv X oV σ H { s with heap:=h' }:=I.kept (t':=s.toks) λb o e=>hx b o (aL (az e)) e
 exact h oV _ σ H xs _ Q I1 (by simpa using rv) hw
def Jj(te:TE) (g:TG):TS:=λD σ H=>te σ H λx H1=>g x σ H1 D.nx
theorem qj{i:Nat}{x:Str}{e:Expr}{te:TE}{pos':Pos}(hN:X.N.Nodup) (hi:X.N[i]?=some x) (hx:VQ X.env.scope x) (he:PE X e te) (hs:oh e (some (.Name x pos')) pos.line X.env=pure false:=by rfl) (hf:X.fn x=true∨X.env.scope.names.lookup x=some .local:=by trivial) :
  PS X (.Assign [.Name x pos'] e pos) (Jj te (uv i)):=by
 intro oV s σ H D I h;refine wpAny_Assign_Name (thn (he oV s σ H _ I h) λv s1 ⟨y,H1,I1,r1,q1⟩=>?_) hs
 exact Ih I1 hN hi hx r1 (λs2 I2=>⟨_,H1,I2,q1⟩) hf
end
section
variable {X:Cx}{pos:Pos}
def P9(c:TT) (tb:TS):TS:=λD σ H=>∃W:Nat->St->Hp->Prop,(∃m,W m σ H)/\∀m σ H,W m σ H ->
 c σ H λb H1=>if b=true then ∃N:St->Hp->Prop,(∀σ' H',N σ' H'->∃m',m'<m/\W m' σ' H')/\tb { D with nx:=N,ct:=N,bk:=D.nx } σ H1 else D.nx σ H1
theorem C8{c:Expr}{body:List Stmt}{tc:TT}{tb:TS}(hp:PassesOwn (kG X.prog X.w) X.A X.env X.xe) (hc:PT X c tc) (hb:Lx X body tb):PS X (.While c body [] pos) (P9 tc tb):=by
 intro oV s σ H D I h;obtain⟨W,⟨m0,w0⟩,turn⟩:=h;refine wpAny_While (codeAny_whileLoop (λn s'=>∃σ' H',Inv X oV σ' H' s'/\W n σ' H') ?_ m0 ⟨σ,H,I,w0⟩)
 rintro n s1 ⟨σ1,H1,I1,w1⟩;refine lH hp (thn (hc oV s1 σ1 H1 _ I1 (turn n σ1 H1 w1)) λb s2 ⟨H2,I2,q2⟩=>?_)
 cases b with
 |true =>
  obtain⟨N,hN,q2⟩:=q2;rw[qe rfl];refine lH hp (thn (hb oV s2 σ1 H2 _ I2 q2) λf s3 q3=>?_)
  cases f with
  |next =>
   obtain⟨σ3,H3,I3,n3⟩:=q3;obtain⟨m',hm,w3⟩:=hN σ3 H3 n3;exact⟨m',hm,σ3,H3,I3,w3⟩
  |cont =>
   obtain⟨σ3,H3,I3,n3⟩:=q3;obtain⟨m',hm,w3⟩:=hN σ3 H3 n3;exact⟨m',hm,σ3,H3,I3,w3⟩
  |brk=>exact q3
  |ret v=>exact q3
 |false =>
  rw[pV aK];exact mQ ⟨σ1,H2,I2,q2⟩
end
structure It where
 go:Nat->Hp->Prop
 yld:Nat->Hp->V->Hp->Prop
 stop:Nat->Hp->Prop
def Du(X:Cx) (oV:List (Addr×Obj)) (H:Hp) (b:Addr):Prop :=
 H b=none/\b≠X.env.locals/\b∉X.fs/\(b∈X.ex∨X.s₀.heap.objs.size<=b)/\(∀x c,X.env.cells.lookup x=some c->c≠b)/\∀p∈X.pn++oV,p.1≠b
theorem Inv.fpOk{X:Cx}{oV:List (Addr×Obj)}{σ:St}{H H':Hp}{s:Shared}{b:Addr}(I:Inv X oV σ H s) (hb:s.heap.objs.size<=b) (hn:H' b=none):Du X oV H' b:=by
 refine⟨hn,fk (aG I.lt hb),I.nofs hb,.inr (cE I.sz hb),λx c e z=>?_,λp hp z=>?_⟩
 .obtain ⟨v,q⟩:=I.cell x c e;exact absurd (aG q.lt (by rw[z];exact hb)) (eI _)
 .exact absurd (aG (az (I.pin p hp).1) (by rw[z];exact hb)) (eI _)
structure IV (P:kL) (w:kN) (K:W.Frag) (tg:Expr) (J:It) (fp:List Addr) (it:Addr) (tn:Nat->Heap->Prop):Prop where
 mem:it∈fp
 obj:∀i h,tn i h->∀b∈fp,∃o,h.get? b=some o/\∀v,o.data ≠ .cell v
 keep:∀i h h',tn i h->(∀b∈fp,∀o,h.get? b=some o->h'.get? b=some o)->tn i h'
 item:∀(X:Cx),X.prog=P->X.w=w->X.K=K->X.calm=true->∀(i:Nat) (oV:List (Addr×Obj)) (s:Shared) (σ:St) (H:Hp) (E:Value->Shared->Prop),Inv X oV σ H s->(∀b∈fp,Du X oV H b)->tn i s.heap->J.go i H ->
  kJ (kG P w) X.A (pyNext (.ref it)) (λr s1=>∃u,r=some u /\
   kJ (kG P w) X.A (mR tg (.ref it) u) (λ_ s2=>∃x H',Inv X oV σ H' s2/\qN x u/\J.yld i H x H'/\tn (i+1) s2.heap/\∀b∈fp,H' b=none) E s1) E s
 done:∀(X:Cx),X.prog=P->X.w=w->X.K=K->X.calm=true->∀(i:Nat) (oV:List (Addr×Obj)) (s:Shared) (σ:St) (H:Hp) (E:Value->Shared->Prop),Inv X oV σ H s->(∀b∈fp,Du X oV H b)->tn i s.heap->J.stop i H ->
  kJ (kG P w) X.A (pyNext (.ref it)) (λr s1=>r=none/\Inv X oV σ H s1) E s
 self:∀(A:Around) (i:Nat) (s:Shared) (Q:Value->Shared->Prop) (E:Value->Shared->Prop),tn i s.heap->Q (.ref it) s->kJ (kG P w) A (pyIter (.ref it)) Q E s
abbrev TI:=St->Hp->(It->Hp->Prop)->Prop
def Yl(X:Cx) (oV:List (Addr×Obj)) (σ:St) (tg:Expr) (R:It->Hp->Prop) (itv:Value) (s2:Shared):Prop :=
 ∃(it:Addr) (fp:List Addr) (tn:Nat->Heap->Prop) (J:It) (H':Hp),itv = .ref it/\Inv X oV σ H' s2/\IV X.prog X.w X.K tg J fp it tn/\tn 0 s2.heap/\(∀b∈fp,Du X oV H' b)/\R J H'
def PI(X:Cx) (tg iter:Expr) (wi:TI):Prop :=
 ∀(oV:List (Addr×Obj)) (s:Shared) (σ:St) (H:Hp) (R:It->Hp->Prop),Inv X oV σ H s->wi σ H R ->
  kJ (kG X.prog X.w) X.A (eval iter X.env) (λv s1=>kJ (kG X.prog X.w) X.A (pyIter v) (Yl X oV σ tg R) X.xe s1) X.xe s
theorem KD{M:Model}{A:Around}{E:Value->Shared->Prop}{s:Shared}{tg:Expr}{it:Addr}{u:Value}{o:Obj}{n:String}{vs:Array Value}{Q:Unit->Shared->Prop}(ho:s.heap.get? it=some o) (hc:o.cls = .type n) (hd:o.data = .fields vs)
    (hn:["enumerate", "zip", "dict_itemiterator", "dict_reverseitemiterator", "odict_iterator", "itertools.zip_longest", "itertools.pairwise"].contains n=false) (hQ:Q () s):kJ M A (mR tg (.ref it) u) Q E s:=by
  unfold mR;cases tg <;> first
    |exact kH hQ
    | (cases u <;> first
        |exact kH hQ
        | (refine kC (wpAny_load ho ?_)
           rw[hc,hd];show kJ M A (if (["enumerate", "zip", "dict_itemiterator", "dict_reverseitemiterator", "odict_iterator", "itertools.zip_longest", "itertools.pairwise"].contains n && vs[0]? == some (rawInt _))=true then _ else _) Q E s
           rw[pV (by intro h;rw[hn,jZ]at h;cases h)]
           exact kH hQ))
def Vu(K:W.Frag) (a:Addr):It :=
 ⟨λi H=>∃xs x,tJ K H a xs/\xs[i]?=some x,λi H x H'=>H'=H/\∀xs,tJ K H a xs->xs[i]?=some x,λi H=>∃xs,tJ K H a xs/\xs.length<=i⟩
def Qx(lo:Int) (n:Nat):It:=⟨λi _=>i<n,λi H x H'=>H'=H/\x = .int (lo+i),λi _=>n<=i⟩
theorem LI{P:kL}{w:kN}{K:W.Frag}{tg:Expr}(a it:Addr):IV P w K tg (Vu K a) [it] it (λi h=>h.IsListIter it a i) where
 mem:=by simp
 obj:=λi h st b hb=>by
  have e:b=it:=by simpa using hb
  subst e;obtain⟨o,e,c,d⟩:=st;exact⟨o,e,λv z=>by rw[d]at z;cases z⟩
 keep:=λi h h' st k=>st.at λo e=>k it (by simp) o e
 item:=by
  intro X hP hw hK hc i oV s σ H E I hf st hg;subst hP hw hK;obtain⟨xs,x,hq,hx⟩:=hg;obtain⟨its,rv,p,hz⟩:=I.list hq;obtain⟨u,hu,ru⟩:=rv.get hx;obtain⟨f0,f1,f2,f3,f4,f5⟩:=hf it (by simp)
  refine wpAny_pyNext_list_item st p.isList (x:=u) (by simpa using hu) λh' st' sb=>?_
  have I1:Inv X oV σ H { s with heap:=h' }:=I.turned (t':=s.toks) (λb o hb e=>(sb.2 b hb).trans e) f0 f1 f3 f4 f5
  obtain⟨o,e,c,d⟩:=id st';exact⟨u,rfl,KD (s:={ s with heap:=h' }) e c d (by decide) ⟨x,H,I1,ru,⟨rfl,λys hy=>by rw[I.list_inj hy hq];exact hx⟩,st',λb hb=>(hf b hb).1⟩⟩
 done:=by
  intro X hP hw hK hc i oV s σ H E I hf st hg;subst hP hw hK;obtain⟨xs,hq,hx⟩:=hg;obtain⟨its,rv,p,hz⟩:=I.list hq;obtain⟨f0,f1,f2,f3,f4,f5⟩:=hf it (by simp)
  have hl:=rv.length;exact wpAny_pyNext_list_end (I.ok.hd hc) st p.isList (by simp;lia) λh' eb=>⟨rfl,I.turned (t':=s.toks) (λb o hb e=>eb b o hb e) f0 f1 f3 f4 f5⟩
 self:=λ_ _ _ _ _ st h=>wpAny_pyIter_listiter st h
theorem Im{P:kL}{w:kN}{K:W.Frag}{tg:Expr}(it:Addr) (lo:Int) (n:Nat):IV P w K tg (Qx lo n) [it] it (λi h=>IsRangeIter h it (lo+(i:Nat)*1) ((n:Int)-(i:Nat)) 1) where
 mem:=by simp
 obj:=λi h st b hb=>by
  have e:b=it:=by simpa using hb
  subst e;exact⟨_,st,λv z=>by
   have z':Data.fields _=Data.cell v:=z;cases z'⟩
 keep:=λi h h' st k=>k it (by simp) _ st
 item:=by
  intro X hP hw hK hc i oV s σ H E I hf st hg;subst hP hw hK;obtain⟨f0,f1,f2,f3,f4,f5⟩:=hf it (by simp)
  have W:=Walks.range (prog:=X.prog) (w:=X.w) (I.ok.hd hc) it lo 1 n;refine W.item i s _ _ hg st λv h' tk hv st' kk=>?_
  obtain⟨t,rfl⟩:=hv;have I1:Inv X oV σ H { s with heap:=h',toks:=tk }:=I.turned (λb o hb e=>kk b o (by simpa using hb) e) f0 f1 f3 f4 f5
  refine⟨_,rfl,KD (s:={ s with heap:=h',toks:=tk }) (n := "range_iterator") st' rfl rfl (by decide) ⟨.int (lo+i),H,I1,⟨t,?_⟩,⟨rfl,rfl⟩,st',λb hb=>(hf b hb).1⟩⟩
  rw[jN]
 done:=by
  intro X hP hw hK hc i oV s σ H E I hf st hg;subst hP hw hK;obtain⟨f0,f1,f2,f3,f4,f5⟩:=hf it (by simp)
  exact wpAny_pyNext_range_end (I.ok.hd hc) st (by have:n<=i:=hg;lia) λh' eb=>⟨rfl,I.turned (t':=s.toks) (λb o hb e=>eb b o hb e) f0 f1 f3 f4 f5⟩
 self:=λ_ _ _ _ _ st h=>wpAny_pyIter_rangeiter st h
section
variable {X:Cx}{tg:Expr}
def Ki(K:W.Frag) (tl:TE):TI:=λσ H R=>tl σ H λx H1=>∃a,x = .ref a/\(∃xs,tJ K H1 a xs)/\R (Vu K a) H1
theorem qR{l:Expr}{tl:TE}(hl:PE X l tl):PI X tg l (Ki X.K tl):=by
 intro oV s σ H R I h;refine thn (hl oV s σ H _ I h) λv s1 ⟨x,H1,I1,r1,q1⟩=>?_
 obtain⟨a,e,⟨xs,hq⟩,q⟩:=q1;subst e;cases r1;obtain⟨its,rv,p,hz⟩:=I1.list hq;refine nt p.isList ?_;refine⟨s1.heap.objs.size,[s1.heap.objs.size],_,_,H1,rfl,I1.kept (t':=s1.toks) λb o e=>au _ e,LI a _,⟨_,bh _ rfl,rfl,rfl⟩,λb hb=>?_,q⟩
 have e:b=s1.heap.objs.size:=by simpa using hb
 subst e;exact I1.fpOk (aj _) (I1.hok.fresh (aj _))
theorem Os{oV:List (Addr×Obj)}{σ:St}{H:Hp}{s:Shared}{R:It->Hp->Prop}{E:Value->Shared->Prop}{lo hi:Int}{t u v:Tok}{tk:Nat}(I:Inv X oV σ H s) (h1:-(2 ^ 62)<=lo) (h2:lo<2 ^ 62) (h3:-(2 ^ 62)<=hi) (h4:hi<2 ^ 62)
  (q:R (Qx lo (hi-lo).toNat) H):kJ (kG X.prog X.w) X.A (pyIter (.ref s.heap.objs.size)) (Yl X oV σ tg R) E { s with heap:=s.heap.push { cls:=.type "range", data:=.fields #[.int lo t,.int hi u,.int 1 v] },toks:=tk }:=by
 refine wpAny_pyIter_range (IsRange.new ..) (small_one h1 h2 h3 h4) ?_;have I1:Inv X oV σ H { s with heap:=s.heap.push { cls:=.type "range", data:=.fields #[.int lo t,.int hi u,.int 1 v] },toks:=tk }:=I.kept λb o e=>au _ e
 refine⟨(s.heap.push { cls:=.type "range", data:=.fields #[.int lo t,.int hi u,.int 1 v] }).objs.size,[(s.heap.push { cls:=.type "range", data:=.fields #[.int lo t,.int hi u,.int 1 v] }).objs.size],_,_,H,rfl,
  I1.kept (t':=tk) λb o e=>au _ e,Im _ lo (hi-lo).toNat,?_,λb hb=>?_,q⟩
 .have e1:lo+((0:Nat):Int)*1=lo:=by simp
  have e2:(((hi-lo).toNat:Nat):Int)-((0:Nat):Int)=Builtin.Range.rangeSize lo hi 1:=by rw[rangeSize_one];split <;> lia
  show IsRangeIter _ _ (lo+((0:Nat):Int)*1) ((((hi-lo).toNat:Nat):Int)-((0:Nat):Int)) 1;rw[e1,e2];exact bh _ rfl
 .have e:b=(s.heap.push { cls:=.type "range", data:=.fields #[.int lo t,.int hi u,.int 1 v] }).objs.size:=by simpa using hb
  subst e;exact I1.fpOk (aj _) (I1.hok.fresh (aj _))
def OR(ta:TA):TI:=λσ H R=>ta σ H λvs H1=>∃j:Int,vs=[.int j]/\-(2 ^ 62)<=j/\j<2 ^ 62/\R (Qx 0 j.toNat) H1
theorem BO{a:Expr}{ta:TA}{p pos:Pos}(hg:Gl X "range") (hm:X.mg "range" = none) (ha:PA X [a] ta) (hs:kP [a] X.env=[(false,eval a X.env)]:=by rfl):PI X tg (.Call (.Name "range" p) [a] [] pos) (OR ta):=by
 intro oV s σ H R I h;refine Call_ (AJ I hg hm boot_range (dZ (thn (ha pos oV s σ H _ I h) λus s1 ⟨vs,H1,I1,r1,q1⟩=>?_) hs rfl))
 obtain⟨j,e,q1,q2,q⟩:=q1;subst e;cases r1 with
 |cons r rr =>
  cases rr;obtain⟨t,rfl⟩:=r;exact call_range_1 (Os I1 (by lia) (by lia) q1 q2 (by simpa using q))
def Lw(wi:TI) (g:TG) (tb:TS):TS:=λD σ H=>wi σ H λJ H1=>∃W:Nat->Nat->St->Hp->Prop,(∃m,W 0 m σ H1)/\∀i m σ H,W i m σ H ->
 (J.stop i H/\D.nx σ H)∨(J.go i H/\∃N:St->Hp->Prop,(∀σ' H',N σ' H'->∃m',m'<m/\W (i+1) m' σ' H')/\∀x H',J.yld i H x H'->g x σ H' λσ2 H2=>tb { D with nx:=N,ct:=N,bk:=D.nx } σ2 H2)
def CT(fp:List Addr) (h:Heap):List (Addr×Obj):=fp.filterMap λb=>(h.get? b).map λo=>(b,o)
theorem yP{fp:List Addr}{h:Heap}{b:Addr}{o:Obj}(hb:b∈fp) (e:h.get? b=some o):(b,o)∈CT fp h:=jy.mpr ⟨b,hb,by rw[e];rfl⟩
theorem Me{fp:List Addr}{h:Heap}{p:Addr×Obj}(hp:p∈CT fp h):p.1∈fp/\h.get? p.1=some p.2:=by
 obtain⟨b,hb,e⟩:=jy.mp hp;cases q:h.get? b with
 |none=>rw[q]at e;cases e
 |some o =>
  rw[q]at e;have e':(b,o)=p:=aD.inj e;subst e';exact⟨hb,q⟩
theorem Inv.pinned{oV:List (Addr×Obj)}{σ:St}{H:Hp}{s:Shared}{fp:List Addr}(I:Inv X oV σ H s) (hf:∀b∈fp,Du X oV H b) (ho:∀b∈fp,∃o,s.heap.get? b=some o/\∀v,o.data ≠ .cell v):Inv X (oV++CT fp s.heap) σ H s :=
 I.pins_of λp hp=>(mAq.mp hp).elim (λz=>I.pin p (ag _ z)) λz=>by
  obtain⟨hb,e⟩:=Me z;obtain⟨f0,f1,f2,_⟩:=hf p.1 hb;obtain⟨o,e',d⟩:=ho p.1 hb;rw[e]at e';cases e';exact⟨e,f0,f1,f2,d⟩
theorem Inv.unpinned{oV pl:List (Addr×Obj)}{σ:St}{H:Hp}{s:Shared}(I:Inv X (oV++pl) σ H s):Inv X oV σ H s:=I.pins_of λp hp=>I.pin p (ag _ (ah _ hp))
theorem vf{iter:Expr}{body:List Stmt}{wi:TI}{g:TG}{tb:TS}{pos:Pos}(hp:PassesOwn (kG X.prog X.w) X.A X.env X.xe) (hc:X.calm=true) (hi:PI X tg iter wi) (hg:PG X tg g) (hb:Lx X body tb)
  (hs:∀x,nu iter X.env x=pure x:=by intro _;rfl):PS X (.For tg iter body [] pos) (Lw wi g tb):=by
 intro oV s σ H D I h;refine wpAny_For (thn (hi oV s σ H _ I h) λv s1 h1=>thn h1 λitv s2 h2=>?_) hs
 obtain⟨it,fp,tn,J,H2,e,I2,T,Eg,f2,W,⟨m0,w0⟩,turn⟩:=h2;subst e;have stat:∀{H':Hp},(∀b∈fp,H' b=none)->∀b∈fp,Du X oV H' b:=λhn b hb=>⟨hn b hb,(f2 b hb).2⟩
 refine codeAny_forLoop_any (λn s'=>∃i σ' H',Inv X oV σ' H' s'/\tn i s'.heap/\(∀b∈fp,H' b=none)/\W i n σ' H') ?_ m0 ⟨0,σ,H2,I2,Eg,λb hb=>(f2 b hb).1,w0⟩
 rintro n s3 ⟨i,σ3,H3,I3,WU,fr3,w3⟩;rcases turn i n σ3 H3 w3 with ⟨stop,qn⟩|⟨go,N,hN,step⟩
 .refine lH hp (thn (T.done X rfl rfl rfl hc i oV s3 σ3 H3 X.xe I3 (stat fr3) WU stop) λr s4 ⟨hr,I4⟩=>?_)
  subst hr;exact mQ ⟨σ3,H3,I4,qn⟩
 .refine lH hp (thn (T.item X rfl rfl rfl hc i oV s3 σ3 H3 X.xe I3 (stat fr3) WU go) λr s4 ⟨u,hr,h4⟩=>?_)
  subst hr;refine lH hp (thn h4 λ_ s5 ⟨x,H5,I5,r5,y5,st5,fr5⟩=>?_)
  have I5':=I5.pinned (stat fr5) (T.obj _ _ st5);refine lH hp (thn (hg _ s5 σ3 H5 x u _ I5' r5 (step x H5 y5)) λ_ s6 ⟨σ6,H6,I6,q6⟩=>?_)
  refine lH hp (thn (hb _ s6 σ6 H6 _ I6 q6) λf s7 q7=>?_)
  have again:∀{σ7:St}{H7:Hp},Inv X (oV++CT fp s5.heap) σ7 H7 s7->N σ7 H7->∃m,m<n/\∃i σ' H',Inv X oV σ' H' s7/\tn i s7.heap/\(∀b∈fp,H' b=none)/\W i m σ' H':=λ{σ7 H7} I7 n7=>by
   obtain⟨m',hm,w7⟩:=hN σ7 H7 n7;refine⟨m',hm,i+1,σ7,H7,I7.unpinned,T.keep _ _ _ st5 λb hb o e=>(I7.pin (b,o) (ag _ (ag _ (yP hb e)))).1,λb hb=>?_,w7⟩
   obtain⟨o,e,d⟩:=T.obj _ _ st5 b hb;exact(I7.pin (b,o) (ag _ (ag _ (yP hb e)))).2.1
  cases f with
  |next=>obtain⟨σ7,H7,I7,n7⟩:=q7;exact again I7 n7
  |cont=>obtain⟨σ7,H7,I7,n7⟩:=q7;exact again I7 n7
  |brk=>obtain⟨σ7,H7,I7,q7⟩:=q7;exact⟨σ7,H7,I7.unpinned,q7⟩
  |ret v=>obtain⟨x7,σ7,H7,I7,r7,q7⟩:=q7;exact⟨x7,σ7,H7,I7.unpinned,r7,q7⟩
end
theorem Ii{K:W.Frag}{a:Addr}{xs:List V}{g:TG}{tb:TS}{D:Ad}{σ:St}{H:Hp}(Pv:Nat->St->Hp->Prop) (h0:Pv 0 σ H) (hl:∀i σ H,i<=xs.length->Pv i σ H->tJ K H a xs)
  (hs:∀i x σ H,xs[i]?=some x->Pv i σ H->g x σ H λσ2 H2=>tb { D with nx:=Pv (i+1),ct:=Pv (i+1),bk:=D.nx } σ2 H2) (hd:∀σ H,Pv xs.length σ H->D.nx σ H) :
  ∃W:Nat->Nat->St->Hp->Prop,(∃m,W 0 m σ H)/\∀i m σ H,W i m σ H ->
   ((Vu K a).stop i H/\D.nx σ H)∨((Vu K a).go i H/\∃N:St->Hp->Prop,(∀σ' H',N σ' H'->∃m',m'<m/\W (i+1) m' σ' H')/\∀x H',(Vu K a).yld i H x H'->g x σ H' λσ2 H2=>tb { D with nx:=N,ct:=N,bk:=D.nx } σ2 H2):=by
 refine⟨λi m σ H=>m=xs.length-i/\i<=xs.length/\Pv i σ H,⟨xs.length,by simp,bq _,h0⟩,?_⟩
 rintro i m σ H ⟨rfl,hi,p⟩;have q:=hl i σ H hi p
 by_cases hlt:i<xs.length
 .refine .inr ⟨⟨xs,xs[i],q,by simp[hlt]⟩,Pv (i+1),λσ' H' p'=>⟨xs.length-(i+1),by lia,rfl,hlt,p'⟩,λx H' y=>?_⟩
  obtain⟨e,y⟩:=y;subst e;exact hs i x σ _ (y xs q) p
 .have e:i=xs.length:=by lia
  subst e;exact .inl ⟨⟨xs,q,aj _⟩,hd σ H p⟩
theorem LF{lo:Int}{n:Nat}{g:TG}{tb:TS}{D:Ad}{σ:St}{H:Hp}(Pv:Nat->St->Hp->Prop) (h0:Pv 0 σ H)
  (hs:∀i σ H,i<n->Pv i σ H->g (.int (lo+i)) σ H λσ2 H2=>tb { D with nx:=Pv (i+1),ct:=Pv (i+1),bk:=D.nx } σ2 H2) (hd:∀σ H,Pv n σ H->D.nx σ H) :
  ∃W:Nat->Nat->St->Hp->Prop,(∃m,W 0 m σ H)/\∀i m σ H,W i m σ H ->
   ((Qx lo n).stop i H/\D.nx σ H)∨((Qx lo n).go i H/\∃N:St->Hp->Prop,(∀σ' H',N σ' H'->∃m',m'<m/\W (i+1) m' σ' H')/\∀x H',(Qx lo n).yld i H x H'->g x σ H' λσ2 H2=>tb { D with nx:=N,ct:=N,bk:=D.nx } σ2 H2):=by
 refine⟨λi m σ H=>m=n-i/\i<=n/\Pv i σ H,⟨n,by simp,bq _,h0⟩,?_⟩
 rintro i m σ H ⟨rfl,hi,p⟩
 by_cases hlt:i<n
 .refine .inr ⟨hlt,Pv (i+1),λσ' H' p'=>⟨n-(i+1),by lia,rfl,hlt,p'⟩,λx H' y=>?_⟩
  obtain⟨e,y⟩:=y;subst e y;exact hs i σ _ hlt p
 .have e:i=n:=by lia
  subst e;exact .inl ⟨aj _,hd σ H p⟩
abbrev R2:=V->V->Hp->VK->Prop
def Ef(X:Cx) (f:Value->Value->Sem Value) (r:R2):Prop :=
 ∀(oV:List (Addr×Obj)) (s:Shared) (σ:St) (H:Hp) (x y:V) (v u:Value) (Q:VK),Inv X oV σ H s->qN x v->qN y u->r x y H Q ->
  kJ (kG X.prog X.w) X.A (f v u) (EP X oV σ Q) X.xe s
def Xp(X:Cx) (f:Value->Sem Value) (r:V->Hp->VK->Prop):Prop :=
 ∀(oV:List (Addr×Obj)) (s:Shared) (σ:St) (H:Hp) (x:V) (v:Value) (Q:VK),Inv X oV σ H s->qN x v->r x H Q ->
  kJ (kG X.prog X.w) X.A (f v) (EP X oV σ Q) X.xe s
def xw(X:Cx) (f:Value) (r:List V->Hp->VK->Prop):Prop :=
 ∀(oV:List (Addr×Obj)) (s:Shared) (σ:St) (H:Hp) (xs:List V) (us:List Value) (Q:VK),Inv X oV σ H s->qv xs us->r xs H Q ->
  kJ (kG X.prog X.w) X.A (call f us) (EP X oV σ Q) X.xe s
def MN(r:R2) (ta tb:TE):TE:=λσ H Q=>ta σ H λx H1=>tb σ H1 λy H2=>r x y H2 Q
def XO(r:V->Hp->VK->Prop) (ta:TE):TE:=λσ H Q=>ta σ H λx H1=>r x H1 Q
def rI(C:Int->Int->Prop) (g:Int->Int->V):R2:=λx y H Q=>∃i j,x = .int i/\y = .int j/\C i j/\Q (g i j) H
def NH(g:Int->Int->V):R2:=λx y H Q=>∃i j,x = .int i/\y = .int j/\Q (g i j) H
def rU(g:Int->V):V->Hp->VK->Prop:=λx H Q=>∃i,x = .int i/\Q (g i) H
section
variable {X:Cx}{a b c:Expr}{ta tb tc:TE}{pos:Pos}
theorem TY(ha:PE X a ta) (hb:PE X b tb) {oV:List (Addr×Obj)}{s:Shared}{σ:St}{H:Hp}{R:V->V->Hp->Prop}(I:Inv X oV σ H s)
  (h:ta σ H λx H1=>tb σ H1 λy H2=>R x y H2) {Q:Value->Shared->Prop}{f:Value->Value->Sem Value}
  (hf:∀v u s2 x y H2,Inv X oV σ H2 s2->qN x v->qN y u->R x y H2->kJ (kG X.prog X.w) X.A (f v u) Q X.xe s2) :
  kJ (kG X.prog X.w) X.A (eval a X.env) (λv s₁=>kJ (kG X.prog X.w) X.A (eval b X.env) (λu s₂=>kJ (kG X.prog X.w) X.A (f v u) Q X.xe s₂) X.xe s₁) X.xe s:=by
 refine thn (ha oV s σ H _ I h) λv s1 ⟨x,H1,I1,r1,q1⟩=>?_
 refine thn (hb oV s1 σ H1 _ I1 q1) λu s2 ⟨y,H2,I2,r2,q2⟩=>?_
 exact hf v u s2 x y H2 I2 r1 r2 q2
theorem qm{op:Operator}{r:R2}(ho:Ef X (mM op) r) (ha:PE X a ta) (hb:PE X b tb):PE X (.BinOp a op b pos) (MN r ta tb):=by
 intro oV s σ H Q I h;exact wpAny_BinOp (TY ha hb I h λv u s2 x y H2 I2 rx ry q=>ho oV s2 σ H2 x y v u Q I2 rx ry q)
theorem EG{op:UnaryOp}{r:V->Hp->VK->Prop}(ho:Xp X (unaryOp op) r) (ha:PE X a ta):PE X (.UnaryOp op a pos) (XO r ta):=by
 intro oV s σ H Q I h;exact UnaryOp_ (thn (ha oV s σ H _ I h) λv s1 ⟨x,H1,I1,r1,q1⟩=>ho oV s1 σ H1 x v Q I1 r1 q1)
theorem WM{f:Value->Value->Sem Value}{C:Int->Int->Prop}{g:Int->Int->Int}
  (rule:∀(i j:Int) (t u:Tok) (s:Shared) (Q:Value->Shared->Prop) (E:Value->Shared->Prop),C i j->Q (.int (g i j) s.toks) { s with toks:=s.toks+1 }->kJ (kG X.prog X.w) X.A (f (.int i t) (.int j u)) Q E s) :
  Ef X f (rI C λi j=>.int (g i j)):=by
 intro oV s σ H x y v u Q I rx ry h;obtain⟨i,j,rfl,rfl,hc,q⟩:=h;obtain⟨t,rfl⟩:=rx;obtain⟨t',rfl⟩:=ry;exact rule i j t t' s _ _ hc ⟨.int (g i j),H,I.tok _,⟨_,rfl⟩,q⟩
theorem Ww{f:Value->Value->Sem Value}{g:Int->Int->Int}
  (rule:∀(i j:Int) (t u:Tok) (s:Shared) (Q:Value->Shared->Prop) (E:Value->Shared->Prop),Q (.int (g i j) s.toks) { s with toks:=s.toks+1 }->kJ (kG X.prog X.w) X.A (f (.int i t) (.int j u)) Q E s) :
  Ef X f (NH λi j=>.int (g i j)):=by
 intro oV s σ H x y v u Q I rx ry h;obtain⟨i,j,rfl,rfl,q⟩:=h;obtain⟨t,rfl⟩:=rx;obtain⟨t',rfl⟩:=ry;exact rule i j t t' s _ _ ⟨.int (g i j),H,I.tok _,⟨_,rfl⟩,q⟩
theorem VE{f:Value->Value->Sem Value}{g:Int->Int->Bool}
  (rule:∀(i j:Int) (t u:Tok) (s:Shared) (Q:Value->Shared->Prop) (E:Value->Shared->Prop),Q (.bool (g i j)) s->kJ (kG X.prog X.w) X.A (f (.int i t) (.int j u)) Q E s) :
  Ef X f (NH λi j=>.bl (g i j)):=by
 intro oV s σ H x y v u Q I rx ry h;obtain⟨i,j,rfl,rfl,q⟩:=h;obtain⟨t,rfl⟩:=rx;obtain⟨t',rfl⟩:=ry;exact rule i j t t' s _ _ ⟨.bl (g i j),H,I,rfl,q⟩
def Ug(i j:Int):Prop:=0<j/\j<1073741824
def UG(i j:Int):Prop:=0<=j/\j<=1000000/\i.natAbs<2 ^ 64
def O2(i j:Int):Prop:=(-(2 ^ 64)<i/\i<2 ^ 64)∨(-(2 ^ 64)<j/\j<2 ^ 64)
theorem O2.ok{i j:Int}(h:O2 i j):IntMulOk i j:=by
 rcases h with ⟨h1,h2⟩|⟨h1,h2⟩
 .exact .of_left (intBits_le_64 h1 h2)
 .exact .of_right (intBits_le_64 h1 h2)
theorem vX:Ef X (mM .Add) (NH λi j=>.int (i+j)):=Ww λ_ _ _ _ _ _ _ q=>add_int q
theorem AH:Ef X (mM .Sub) (NH λi j=>.int (i-j)):=Ww λ_ _ _ _ _ _ _ q=>sub_int q
theorem Dk:Ef X (mM .Mult) (rI O2 λi j=>.int (i*j)):=WM λ_ _ _ _ _ _ _ hc q=>mul_int q hc.ok
theorem yQ:Ef X (mM .FloorDiv) (rI Ug λi j=>.int (i / j)):=WM λi j _ _ _ _ _ hc q=>by
 have h1:(0:Int)<j:=hc.1;have h2:j<1073741824:=hc.2;exact floordiv_int (by lia) (by rw[Int.fdiv_eq_ediv_of_nonneg i (by lia)];exact q) (.inl (PyProof.noPylong_small (by lia)))
theorem uG:Ef X (mM .Mod) (rI (λ_ j=>0<j) λi j=>.int (i % j)):=WM λi j _ _ _ _ _ hc q=>by
 have h1:(0:Int)<j:=hc;exact mod_int' (by lia) (by rw[Int.fmod_eq_emod_of_nonneg i (by lia)];exact q)
theorem Nw:Ef X (mM .Pow) (rI UG λi j=>.int (i ^ j.toNat)):=WM λ_ _ _ _ _ _ _ hc q=>pow_int_small hc.1 hc.2.1 hc.2.2 q
theorem Yx{f:Value->Sem Value}{g:Int->Int}
  (rule:∀(i:Int) (t:Tok) (s:Shared) (Q:Value->Shared->Prop) (E:Value->Shared->Prop),Q (.int (g i) s.toks) { s with toks:=s.toks+1 }->kJ (kG X.prog X.w) X.A (f (.int i t)) Q E s) :
  Xp X f (rU λi=>.int (g i)):=by
 intro oV s σ H x v Q I rx h;obtain⟨i,rfl,q⟩:=h;obtain⟨t,rfl⟩:=rx;exact rule i t s _ _ ⟨.int (g i),H,I.tok _,⟨_,rfl⟩,q⟩
theorem BX:Xp X (unaryOp .USub) (rU λi=>.int (-i)):=Yx λ_ _ _ _ _ q=>neg_int q
end
def scal:V->V->Bool
 | .non,.non=>true|.non,.int _=>true|.int _,.non=>true|.non,.bl _=>true|.bl _,.non=>true|.non,.str _=>true|.str _,.non=>true
 | .int _,.int _=>true|.bl _,.bl _=>true|.str _,.str _=>true|.byt _,.byt _=>true
 | .int _,.str _=>true|.str _,.int _=>true|.bl _,.str _=>true|.str _,.bl _=>true
 |_,_=>false
def XT:R2:=λx y H Q=>scal x y=true/\Q (.bl (decide (x=y))) H
def X2:R2:=λx y H Q=>scal x y=true/\Q (.bl (!decide (x=y))) H
theorem Kt{i j:Int}:decide (V.int i=V.int j)=(i == j):=by
 rw[bQ];simp
theorem Ph{i j:Bool}:decide (V.bl i=V.bl j)=(i == j):=by
 rw[bQ];simp
theorem KO{i j:Str}:decide (V.str i=V.str j)=(i == j):=by
 rw[bQ];simp
theorem J5{i j:Array UInt8}:decide (V.byt i=V.byt j)=(i.toList == j.toList):=by
 rw[bQ];cases i;cases j;simp
section
variable {X:Cx}{a b c:Expr}{ta tb tc:TE}{pos:Pos}
theorem qI{oV:List (Addr×Obj)}{σ:St}{H:Hp}{s:Shared}{Q:VK}{k k':Bool}(I:Inv X oV σ H s) (q:Q (.bl k) H) (e:k=k'):EP X oV σ Q (.bool k') s:=by
 subst e;exact⟨.bl k,H,I,rfl,q⟩
theorem A0:Ef X (lz .Eq) XT:=by
 intro oV s σ H x y v u Q I rx ry h;obtain⟨hs,q⟩:=h;cases x with
 |non =>
  cases rx;cases y with
  |non=>cases ry;exact PySem.EqNone.eq_none_none (qI I q (by simp))
  |bl j=>cases ry;exact PySem.EqNone.eq_none_bool (qI I q (by simp))
  |int j=>obtain⟨t',rfl⟩:=ry;exact PySem.EqNone.eq_none_int (qI I q (by simp))
  |str j=>obtain⟨t',rfl⟩:=ry;exact PySem.EqNone.eq_none_str (qI I q (by simp))
  |_=>exact absurd (show false=true from hs) aK
 |bl i =>
  cases rx;cases y with
  |non=>cases ry;exact PySem.EqNone.eq_bool_none (qI I q (by simp))
  |bl j=>cases ry;exact eq_bool (qI I q Ph)
  |str j=>obtain⟨t',rfl⟩:=ry;exact PySem.EqMixed.eq_bool_str (qI I q (by simp))
  |_=>exact absurd (show false=true from hs) aK
 |int i =>
  obtain⟨t,rfl⟩:=rx;cases y with
  |non=>cases ry;exact PySem.EqNone.eq_int_none (qI I q (by simp))
  |int j=>obtain⟨t',rfl⟩:=ry;exact eq_int (qI I q Kt)
  |str j=>obtain⟨t',rfl⟩:=ry;exact PySem.EqMixed.eq_int_str (qI I q (by simp))
  |_=>exact absurd (show false=true from hs) aK
 |str i =>
  obtain⟨t,rfl⟩:=rx;cases y with
  |non=>cases ry;exact PySem.EqNone.eq_str_none (qI I q (by simp))
  |bl j=>cases ry;exact PySem.EqMixed.eq_str_bool (qI I q (by simp))
  |int j=>obtain⟨t',rfl⟩:=ry;exact PySem.EqMixed.eq_str_int (qI I q (by simp))
  |str j=>obtain⟨t',rfl⟩:=ry;exact eq_str (qI I q KO)
  |_=>exact absurd (show false=true from hs) aK
 |byt i =>
  obtain⟨t,rfl⟩:=rx;cases y with
  |byt j=>obtain⟨t',rfl⟩:=ry;exact W.eq_bytes (qI I q J5)
  |_=>exact absurd (show false=true from hs) aK
 |_=>cases y <;> exact absurd (show false=true from hs) aK
theorem M8:Ef X (lz .NotEq) X2:=by
 intro oV s σ H x y v u Q I rx ry h;obtain⟨hs,q⟩:=h;cases x with
 |non =>
  cases rx;cases y with
  |non=>cases ry;exact PySem.EqNone.ne_none_none (qI I q (by simp))
  |bl j=>cases ry;exact PySem.EqNone.ne_none_bool (qI I q (by simp))
  |int j=>obtain⟨t',rfl⟩:=ry;exact PySem.EqNone.ne_none_int (qI I q (by simp))
  |str j=>obtain⟨t',rfl⟩:=ry;exact PySem.EqNone.ne_none_str (qI I q (by simp))
  |_=>exact absurd (show false=true from hs) aK
 |bl i =>
  cases rx;cases y with
  |non=>cases ry;exact PySem.EqNone.ne_bool_none (qI I q (by simp))
  |bl j=>cases ry;exact ne_bool (qI I q (congrArg not Ph))
  |str j=>obtain⟨t',rfl⟩:=ry;exact PySem.EqMixed.ne_bool_str (qI I q (by simp))
  |_=>exact absurd (show false=true from hs) aK
 |int i =>
  obtain⟨t,rfl⟩:=rx;cases y with
  |non=>cases ry;exact PySem.EqNone.ne_int_none (qI I q (by simp))
  |int j=>obtain⟨t',rfl⟩:=ry;exact ne_int (qI I q (congrArg not Kt))
  |str j=>obtain⟨t',rfl⟩:=ry;exact PySem.EqMixed.ne_int_str (qI I q (by simp))
  |_=>exact absurd (show false=true from hs) aK
 |str i =>
  obtain⟨t,rfl⟩:=rx;cases y with
  |non=>cases ry;exact PySem.EqNone.ne_str_none (qI I q (by simp))
  |bl j=>cases ry;exact PySem.EqMixed.ne_str_bool (qI I q (by simp))
  |int j=>obtain⟨t',rfl⟩:=ry;exact PySem.EqMixed.ne_str_int (qI I q (by simp))
  |str j=>obtain⟨t',rfl⟩:=ry;exact ne_str (qI I q (congrArg not KO))
  |_=>exact absurd (show false=true from hs) aK
 |byt i =>
  obtain⟨t,rfl⟩:=rx;cases y with
  |byt j=>obtain⟨t',rfl⟩:=ry;exact W.ne_bytes (qI I q (congrArg not J5))
  |_=>exact absurd (show false=true from hs) aK
 |_=>cases y <;> exact absurd (show false=true from hs) aK
theorem Wo:Ef X (lz .Lt) (NH λi j=>.bl (decide (i<j))):=VE λ_ _ _ _ _ _ _ q=>lt_int q
theorem Do:Ef X (lz .Gt) (NH λi j=>.bl (decide (j<i))):=VE λ_ _ _ _ _ _ _ q=>gt_int q
theorem rQ(b:Expr) {op:CmpOp}(h:op ≠ .In:=by decide) (h2:op ≠ .NotIn:=by decide):mK op b=false:=by
 have e1:(op == CmpOp.In)=false:=by cases op <;> first|rfl|exact absurd rfl h
 have e2:(op == CmpOp.NotIn)=false:=by cases op <;> first|rfl|exact absurd rfl h2
 cases b <;> simp[mK,e1,e2]
theorem FZ{op:CmpOp}{r:R2}(ho:Ef X (lz op) r) (ha:PE X a ta) (hb:PE X b tb) (hm:mK op b=false):PE X (.Compare a [op] [b] pos) (MN r ta tb):=by
 intro oV s σ H Q I h;exact wpAny_Compare1 (TY ha hb I h λv u s2 x y H2 I2 rx ry q=>ho oV s2 σ H2 x y v u Q I2 rx ry q) hm
def Sm(t:TE):TT:=λσ H Q=>t σ H λx H'=>∃k,x = .bl k/\Q k H'
theorem qL{op:CmpOp}{r:R2}(ho:Ef X (lz op) r) (ha:PE X a ta) (hb:PE X b tb) (hm:mK op b=false):PT X (.Compare a [op] [b] pos) (Sm (MN r ta tb)):=by
 intro oV s σ H Q I h;refine nU (thn (ha oV s σ H _ I h) λv s1 ⟨x,H1,I1,r1,q1⟩=>thn (hb oV s1 σ H1 _ I1 q1) λu s2 ⟨y,H2,I2,r2,q2⟩ =>
  thn (ho oV s2 σ H2 x y v u _ I2 r1 r2 q2) λc s3 ⟨z,H3,I3,r3,k,e,q3⟩=>?_) hm
 subst e;cases r3;exact ly ⟨H3,I3,q3⟩
theorem Ol:(kK:Nat)<2 ^ 63:=by rw[lK];decide
theorem xl{x:V}{us:List Value}(r:qv [x] us):∃u,us=[u]/\qN x u:=by
 cases r with
 |cons r1 r2=>cases r2;exact⟨_,rfl,r1⟩
theorem SU{x y:V}{us:List Value}(r:qv [x,y] us):∃u w',us=[u,w']/\qN x u/\qN y w':=by
 cases r with
 |cons r1 r2 =>
  cases r2 with
  |cons r3 r4=>cases r4;exact⟨_,_,rfl,r1,r3⟩
theorem wO:xw X (.builtin "abs") (λxs H Q=>∃i,xs=[.int i]/\Q (.int (if i<0 then -i else i)) H):=by
 intro oV s σ H xs us Q I r h;obtain⟨i,rfl,q⟩:=h;obtain⟨u,rfl,t,rfl⟩:=xl r;exact call_abs_int λu tk=>⟨.int (if i<0 then -i else i),H,I.tok _,⟨_,rfl⟩,q⟩
theorem Mh(hc:X.calm=true):xw X (.builtin "max") (λxs H Q=>∃i j,xs=[.int i,.int j]/\Q (.int (if j>i then j else i)) H):=by
 intro oV s σ H xs us Q I r h;obtain⟨i,j,rfl,q⟩:=h;obtain⟨u,w',rfl,⟨t,rfl⟩,⟨t',rfl⟩⟩:=SU r;refine max_two_ints (I.ok.hd hc) λh' tk k=>⟨_,H,I.kept k,?_,q⟩
 by_cases hj:j>i
 .rw [qe hj,qe hj];exact⟨_,rfl⟩
 .rw [pV hj,pV hj];exact⟨_,rfl⟩
def Wb(K:W.Frag) (x:V) (H:Hp) (n:Nat):Prop :=
 match x with
 | .str y=>y.length<=kK/\n=y.length
 | .byt y=>y.size<=kK/\n=y.size
 | .ref p=>(∃xs,tJ K H p xs/\n=xs.length)∨∃xs,IT K H p xs/\n=xs.length
 |_=>False
theorem qO:xw X (.builtin "len") (λxs H Q=>∃x n,xs=[x]/\Wb X.K x H n/\Q (.int n) H):=by
 intro oV s σ H xs us Q I r h;obtain⟨x,n,rfl,e,q⟩:=h;obtain⟨u,rfl,rx⟩:=xl r;have hl:=Ol;have hs:kK=16777216:=lK;cases x with
 |str y =>
  obtain⟨t,rfl⟩:=rx;obtain⟨hy,e'⟩:y.length<=kK/\n=y.length:=e;subst e';exact len_str (by lia) ⟨.int _,H,I.tok _,⟨_,rfl⟩,q⟩
 |byt y =>
  obtain⟨t,rfl⟩:=rx;obtain⟨hy,e'⟩:y.size<=kK/\n=y.size:=e;subst e';exact W.len_bytes (by lia) ⟨.int _,H,I.tok _,⟨_,rfl⟩,q⟩
 |ref p =>
  cases rx;have e':(∃xs,tJ X.K H p xs/\n=xs.length)∨∃xs,IT X.K H p xs/\n=xs.length:=e;rcases e' with ⟨xs,hx,e'⟩|⟨xs,hx,e'⟩
  .subst e';obtain⟨its,r',pl,hz⟩:=I.list hx;have hlen:=r'.length;exact Calls.call_len_list pl.isList (by simp only[aS];lia) ⟨.int xs.length,H,I.tok _,⟨_,by simp only[aS];rw[hlen]⟩,q⟩
  .subst e';obtain⟨its,r',pl,hz⟩:=I.tuple hx;have hlen:=r'.length;exact len_tuple pl (by simp only[aS];lia) ⟨.int xs.length,H,I.tok _,⟨_,by simp only[aS];rw[hlen]⟩,q⟩
 |_=>exact(show False from e).elim
end
theorem A3.some_of{v:V}{o:Option Value}(r:A3 (some v) o):∃u,o=some u/\qN v u:=by
 cases o with
 |none=>exact(show False from r).elim
 |some u=>exact⟨u,rfl,r⟩
theorem A3.none_of{o:Option Value}(r:A3 none o):o=none:=by
 cases o with
 |none=>rfl
 |some u=>exact(show False from r).elim
structure wY (k:Nat) (A:Around):Prop where
 hd:A.handled=none
 dp:A.depth+3*k+5<recursionLimit
 un:A.units+16*k+200<lZ
theorem wY.mono{j k:Nat}{A:Around}(r:wY k A) (h:j<=k):wY j A:=⟨r.hd,by have:=r.dp;lia,by have:=r.un;lia⟩
theorem wY.deeper{k:Nat}{A:Around}(r:wY (k+1) A) (env:Env):wY k (A.deeper env) :=
 ⟨r.hd,by have:=r.dp;show A.depth+1+3*k+5<_;lia,by have:=r.un;show A.units+3+16*k+200<_;lia⟩
theorem wY.depth{k:Nat}{A:Around}(r:wY k A):A.depth<recursionLimit:=by have:=r.dp;lia
theorem wY.units{k:Nat}{A:Around}(r:wY k A):A.units+64<lZ:=by have:=r.un;lia
def wQ:TA:=λ_ H Q=>Q [] H
def uM(ta:TE) (tr:TA):TA:=λσ H Q=>ta σ H λx H1=>tr σ H1 λxs H2=>Q (x::xs) H2
section
variable {X:Cx}{e:Expr}{es:List Expr}{te:TE}{t:TA}{pos:Pos}
theorem oY:PA X [] wQ:=λ_ _ _ _ H Q I h=>Calls.spliced_nil ⟨[],H,I,.nil,h⟩
theorem oW(ha:PE X e te) (hr:PA X es t) (hs:kP (e::es) X.env=(false,eval e X.env)::kP es X.env:=by rfl):PA X (e::es) (uM te t):=by
 intro pos oV s σ H Q I h;rw[hs];show kJ _ _ (spliced ((false,eval e X.env)::mG pos (kP es X.env))) _ _ s;refine Calls.spliced_cons (thn (ha oV s σ H _ I h) λu s1 ⟨x,H1,I1,r1,q1⟩=>?_)
 exact thn (hr pos oV s1 σ H1 _ I1 q1) λus s2 ⟨xs,H2,I2,r2,q2⟩=>⟨x::xs,H2,I2,.cons r1 r2,q2⟩
def Rc(t:TA):TE:=λσ H Q=>t σ H λxs H1=>xs.length<=kK/\∀p,H1 p=none->Q (.ref p) (rK H1 p (.lst xs))
theorem uH(h:PA X es t):PE X (.List es pos) (Rc t):=by
 intro oV s σ H Q I hq;refine wpAny_List_spliced (thn (h pos oV s σ H _ I hq) λus s1 ⟨xs,H1,I1,r,z,q⟩=>⟨by rw[←r.length];exact z,?_⟩)
 have hf:H1 s1.heap.objs.size=none:=I1.hok.fresh (aj _);refine⟨.ref s1.heap.objs.size,rK H1 s1.heap.objs.size (.lst xs),I1.laid (t':=s1.toks) (λb u e=>au _ e) (aj _) ?_,rfl,q _ hf⟩
 exact⟨z,us,0,r,bh _ rfl⟩
end
abbrev Sp:=List V->Hp->VK->XK->Prop
abbrev P4:=List Env->Hp->Shared->XK->Value->Shared->Prop
structure Rb (P:kL) (w:kN) (K:W.Frag) (mg:Str->Option Value) (base:Heap) (A:Around) (outer:List Env) (s:Shared) (H:Hp):Prop where
 frames:A.frames=some outer
 mod:Mod K mg base
 bs:∀b o,base.get? b=some o->s.heap.get? b=some o/\H b=none
 bsz:base.objs.size<=s.heap.objs.size
 funs:s.heap.FunFrames base outer
 frf:∀b∈NI outer,H b=none
 hok:AL P w H s.heap
 bare:mP s.gens
def CE(outer:List Env) (P:kL) (w:kN) (H:Hp) (s:Shared) (Q:VK) (u:Value) (s':Shared):Prop :=
 ∃v H',s'.os=s.os/\mP s'.gens/\Un (NI outer) [] H H' s.heap s'.heap/\AL P w H' s'.heap/\qN v u/\Q v H'
def CR(CX:P4) (outer:List Env) (P:kL) (w:kN) (H:Hp) (s:Shared) (Q:VK) (E:XK) (r:Result) (s':Shared):Prop :=
 match r with
 | .ok (.ret u)=>CE outer P w H s Q u s'
 | .ok _=>False
 | .error e=>CX outer H s E e s'
structure Co (P:kL) (w:kN) (K:W.Frag) (mg:Str->Option Value) (base:Heap) (CX:P4) (k:Nat) (f:Addr) (fd:kT) (ps:List Str) (sp:Sp):Prop where
 len:∀vs H Q E,sp vs H Q E->vs.length=ps.length
 run:∀(A:Around) (outer:List Env) (s:Shared) (H:Hp) (args:Args) (us:List Value) (vs:List V) (Q:VK) (E:XK),wY k A->Rb P w K mg base A outer s H->nY s fd args (ps.zip us)->qv vs us->sp vs H Q E ->
  mO (kG P w) A (.call (.ref f) args) (CR CX outer P w H s Q E) s
theorem Co.imp{P:kL}{w:kN}{K:W.Frag}{mg:Str->Option Value}{base:Heap}{CX:P4}{k:Nat}{f:Addr}{fd:kT}{ps:List Str}{sp sp':Sp}(F:Co P w K mg base CX k f fd ps sp)
  (h:∀vs H Q E,sp' vs H Q E->sp vs H Q E):Co P w K mg base CX k f fd ps sp' :=
 ⟨λvs H Q E q=>F.len vs H Q E (h _ _ _ _ q),λA outer s H args us vs Q E hr he hb hv hs=>F.run A outer s H args us vs Q E hr he hb hv (h _ _ _ _ hs)⟩
section
variable {X:Cx}{oV:List (Addr×Obj)}{σ:St}{H:Hp}{s s':Shared}
theorem Inv.env0(I:Inv X oV σ H s):Rb X.prog X.w X.K X.mg X.base X.A X.stack s H :=
 ⟨I.ok.frames,I.ok.mod,I.bs,cE I.ok.bsz I.sz,I.stack,I.stkFree,I.hok,I.bare⟩
theorem Inv.after{Q:VK}{u:Value}(I:Inv X oV σ H s) (h:CE X.stack X.prog X.w H s Q u s'):EP X oV σ Q u s':=by
 obtain⟨v,H',os,bare,un,hok,r,q⟩:=h;obtain⟨hh,g,d,t,os'⟩:=s';obtain rfl:os'=s.os:=os;exact⟨v,H',I.call (h':=hh) (g':=g) (d':=d) (t':=t) (ch:=[]) un hok bare (λb z=>absurd z (by simp)),r,q⟩
end
def J9(sp:Sp) (dvs:List V) (E:XK) (t:TA):TE:=λσ H Q=>t σ H λvs H1=>sp (vs++dvs) H1 Q E
def Ae(K:W.Frag) (fd:kT) (ps:List Str) (ds:List Value):Prop :=
 ∀(s:Shared) (us:List Value),K.In s.heap->(us++ds).length=ps.length->nY s fd ⟨us,[]⟩ (ps.zip (us++ds))
theorem Ae.all{K:W.Frag}{fd:kT}{ps:List Str}(h:∀us:List Value,us.length=ps.length->bindArgs fd ⟨us,[]⟩=pure (ps.zip us)):Ae K fd ps []:=λs us _ hl=>by
 rw[aNq]at hl ⊢;exact .of_eq (h us hl)
def Jf(CX:P4) (X:Cx) (E:XK):Prop:=∀(oV:List (Addr×Obj)) (σ:St) (H:Hp) (s:Shared) (e:Value) (s':Shared),Inv X oV σ H s->CX X.stack H s E e s'->X.xe e s'
section
variable {X:Cx}{CX:P4}{k:Nat}{f C:Addr}{fd:kT}{ps:List Str}{sp:Sp}{dvs:List V}{ds:List Value}{E:XK}{x m:Str}{p pos apos:Pos}{e o:Expr}{es:List Expr}{ta:TE}{t:TA}
theorem Tu{oV:List (Addr×Obj)}{σ:St}{H:Hp}{s:Shared}{Q:VK}{us:List Value}{vs:List V}(F:Co X.prog X.w X.K X.mg X.base CX k f fd ps sp) (hr:wY k X.A) (hb:Ae X.K fd ps ds) (hd:qv dvs ds) (hx:Jf CX X E)
  (I:Inv X oV σ H s) (r:qv vs us) (h:sp (vs++dvs) H Q E):kJ (kG X.prog X.w) X.A (call (.ref f) us) (EP X oV σ Q) X.xe s:=by
 have r2:qv (vs++dvs) (us++ds):=r.append hd;have hl:(us++ds).length=ps.length:=by rw[←r2.length];exact F.len _ _ _ _ h
 refine wpAny_call (mT (F.run X.A X.stack s H ⟨us,[]⟩ (us++ds) (vs++dvs) Q E hr I.env0 (hb s us I.kIn hl) r2 h) λr s' hq=>?_)
 cases r with
 |error e=>exact hx oV σ H s e s' I hq
 |ok fl =>
  cases fl with
  |ret u=>exact I.after hq
  |next=>exact False.elim hq
  |brk=>exact False.elim hq
  |cont=>exact False.elim hq
theorem QI(F:Co X.prog X.w X.K X.mg X.base CX k f fd ps sp) (hr:wY k X.A) (hg:Gl X x) (hm:X.mg x=some (.ref f)) (hk:W.keepIn X.K (.ref f)=true) (hb:Ae X.K fd ps ds) (hd:qv dvs ds) (hx:Jf CX X E)
  (ha:PA X (e::es) t) (hdb:(x == ("__debug__" : Str))=false:=by decide) (he:kP (e::es) X.env=(false,eval e X.env)::kP es X.env:=by rfl) (hpl:(mG pos (kP es X.env)).any (·.1)=false:=by rfl) :
  PE X (.Call (.Name x p) (e::es) [] pos) (J9 sp dvs E t):=by
 intro oV s σ H Q I h;refine mz (RN I hg hm ?_ hdb);refine W.callWith_K (h₀:=X.base) I.ok.mod.kin hk (thn (ha pos oV s σ H _ I h) λus s1 ⟨vs,H1,I1,r,q⟩=>⟨I1.kIn,?_⟩) he hpl
 exact Tu F hr hb hd hx I1 r q
end
structure qT (N P:List Str) (sc:mH):Prop where
 kind:sc.kind = .function
 co:sc.isCoroutine=false
 gen:sc.isGenerator=false
 nd:N.Nodup
 pre:N.take P.length=P
 par:∀x∈P,sc.names.lookup x=some .local∨sc.names.lookup x=some .cell
 nofree:∀y∈sc.names,y.2 ≠ .free
theorem EY{kindOf:Str->Option NameKind}{x:Str}:∀{binds:List (Str×Value)}{m:Str->Option Value},(∀v,(x,v)∉binds)->bindL kindOf binds m x=m x
 | [],_,_=>rfl
 | (n,v)::r,m,h=>by
  unfold bindL;rw[EY λw hw=>h w (mCo _ hw)]
  split
  .have:x≠n:=by rintro rfl;exact h v af
   simp[this]
  .rfl
theorem Fe{kindOf:Str->Option NameKind}{x:Str}:∀{binds:List (Str×Value)}{m:Str->Option Value},(∀v,(x,v)∉binds)->bindC kindOf binds m x=m x
 | [],_,_=>rfl
 | (n,v)::r,m,h=>by
  unfold bindC;rw[Fe λw hw=>h w (mCo _ hw)]
  split
  .rfl
  .have:x≠n:=by rintro rfl;exact h v af
   simp[this]
theorem Er{kindOf:Str->Option NameKind}{x:Str}{v:Value}:∀{P:List Str}{vs:List Value}{i:Nat}{m:Str->Option Value},P.Nodup->P[i]?=some x->vs[i]?=some v->kindOf x=some .local ->
  bindL kindOf (P.zip vs) m x=some v
 | [],_,_,_,_,h,_,_=>by simp at h
 |_::_,[],_,_,_,_,h,_=>by simp at h
 |p::P,w::vs,0,m,nd,h1,h2,hk=>by
  simp at h1 h2;subst h1;subst h2;show bindL kindOf ((p,w)::P.zip vs) m p=_;unfold bindL;rw[EY λv hv=>(aq.mp nd).1 (iV hv).1,qe hk]
  simp
 |p::P,w::vs,i+1,m,nd,h1,h2,hk=>by
  show bindL kindOf ((p,w)::P.zip vs) m x=_;unfold bindL;exact Er (i:=i) (aq.mp nd).2 (by simpa using h1) (by simpa using h2) hk
theorem EN{kindOf:Str->Option NameKind}{x:Str}{v:Value}:∀{P:List Str}{vs:List Value}{i:Nat}{m:Str->Option Value},P.Nodup->P[i]?=some x->vs[i]?=some v->kindOf x≠some .local ->
  bindC kindOf (P.zip vs) m x=some v
 | [],_,_,_,_,h,_,_=>by simp at h
 |_::_,[],_,_,_,_,h,_=>by simp at h
 |p::P,w::vs,0,m,nd,h1,h2,hk=>by
  simp at h1 h2;subst h1;subst h2;show bindC kindOf ((p,w)::P.zip vs) m p=_;unfold bindC;rw[Fe λv hv=>(aq.mp nd).1 (iV hv).1,pV hk]
  simp
 |p::P,w::vs,i+1,m,nd,h1,h2,hk=>by
  show bindC kindOf ((p,w)::P.zip vs) m x=_;unfold bindC;exact EN (i:=i) (aq.mp nd).2 (by simpa using h1) (by simpa using h2) hk
def yV(N:List Str) (vs:List V):St:=vs.map some++ax (N.length-vs.length) none
def Lc(CX:P4) (P:kL) (w:kN) (K:W.Frag) (mg:Str->Option Value) (base:Heap) (N:List Str) (qual:Str) (scope:mH) (f:Addr) (cd:Value) (A:Around) (outer:List Env) (s:Shared) (H:Hp) (E:XK):Cx where
 prog:=P
 w:=w
 K:=K
 mg:=mg
 base:=base
 A:=A.deeper (nh qual scope s.heap.objs.size f cd)
 N:=N
 s₀:=s
 H₀:=H
 env:=nh qual scope s.heap.objs.size f cd
 outer:=outer
 stack:=nh qual scope s.heap.objs.size f cd::outer
 ex:=[]
 calm:=true
 fn:=λ_=>true
 pn:=[]
 xe:=λe s'=>kJ (kG P w) (A.deeper (nh qual scope s.heap.objs.size f cd)) (leaving (nh qual scope s.heap.objs.size f cd) e) (λ_ s''=>CX outer H s E e s'') (λe' s''=>CX outer H s E e' s'') s'
theorem HZ{sc:mH}{n:Nat}{x:Str}(h:sc.names.lookup x=some .cell):∃c,(cellsFrom n sc.names []).lookup x=some c:=by
 have q:=W.cellsFrom_some sc.names n [] (.inl h);exact Option.isSome_iff_exists.mp q
theorem L9{CX:P4}{P:kL}{w:kN}{K:W.Frag}{mg:Str->Option Value}{base:Heap}{N ps:List Str}{qual:Str}{scope:mH}{f:Addr}{cd:Value}{A:Around}{outer:List Env}{s s1:Shared}{H:Hp}{E:XK}{us:List Value}{vs:List V}
  (S:qT N ps scope) (hd:A.handled=none) (e0:Rb P w K mg base A outer s H) (hl:vs.length=ps.length) (r:qv vs us)
  (x:InCallC s s.heap.objs.size (bindL (nh qual scope s.heap.objs.size f cd).kindOf (ps.zip us) λ_=>none) (cellsFrom (s.heap.objs.size+1) scope.names []) (bindC (nh qual scope s.heap.objs.size f cd).kindOf (ps.zip us) λ_=>none) s1) :
  Inv (Lc CX P w K mg base N qual scope f cd A outer s H E) [] (yV N vs) H s1:=by
 have hpl:ps.length<=N.length:=by have:=congrArg bV S.pre;rw[lTq]at this;lia
 obtain⟨h1,tk,rfl,hk⟩:=x.done;have noA:∀b:Addr,b∉(Lc CX P w K mg base N qual scope f cd A outer s H E).ex:=λb z=>absurd (show b∈([]:List Addr) from z) (by simp)
 refine⟨⟨e0.mod,S.kind,rfl,rfl,aj _,λy z c h1 h2=>?_,λy hy=>?_,λy c _ h=>?_,λ_=>hd,Around.frames_deeper e0.frames,.inr ⟨rfl,rfl⟩,λb z=>absurd z (noA b),e0.bs,e0.bsz,λb _ _=>noA b,λb z=>absurd z (noA b),e0.funs,e0.frf⟩,
  rfl,e0.bare,Un.kept hk,⟨_,x.toInCall.ns,λi y v h1 h2 h3=>?_⟩,λy c h=>⟨_,x.cell y c h⟩,e0.hok.fresh (aj _),λy c h=>?_,λp hp=>absurd (show p∈([]:List (Addr×Obj)) from hp) (by simp),e0.hok.kept hk,?_⟩
 .exact name_of_addr x.apart (PySem.mem_of_lookup h1) (PySem.mem_of_lookup h2)
 .have hy:scope.names.lookup y=some .cell∨scope.names.lookup y=some .free:=hy;rcases hy with hy|hy
  .exact HZ hy
  .exact absurd rfl (S.nofree _ (PySem.mem_of_lookup hy))
 .exact cZ (x.above y c (PySem.mem_of_lookup h))
 .have hi:i<vs.length:=by
   unfold yV at h2
   by_cases hi:i<vs.length
   .exact hi
   .rw [gYq (by simpa using hi)]at h2
    rw[cP]at h2;split at h2 <;> cases h2
  have ha:vs[i]?=some v:=by
   unfold yV at h2;rw[gZq (by simpa using hi),gMq]at h2
   cases e:vs[i]? with
   |none=>rw[e]at h2;cases h2
   |some a=>rw[e]at h2;cases h2;rfl
  obtain⟨u,hu,rv⟩:=r.get ha;have hp:ps[i]?=some y:=by
   rw[←S.pre,eO (by lia)];exact h1
  have ndP:ps.Nodup:=by rw[←S.pre];exact S.nd.sublist (bG _ _)
  refine⟨u,rv,?_⟩;rcases S.par y (mGq hp) with k|k
  .exact .inl ⟨k,Er ndP hp hu k⟩
  .obtain ⟨c,e⟩:=HZ (n:=s.heap.objs.size+1) k;refine .inr ⟨.inl k,c,e,?_⟩;have q:=x.cell y c e;rw[EN ndP hp hu (by show scope.names.lookup y≠_;rw[k];decide)]at q
   exact q
 .exact e0.hok.fresh (cZ (x.above y c (PySem.mem_of_lookup h)))
 .unfold yV;show _=N.length;rw[lAq,lMq,bD];lia
theorem WE{CX:P4}{P:kL}{w:kN}{K:W.Frag}{mg:Str->Option Value}{base:Heap}{k:Nat}{f:Addr}{name qual:Str}{params:Arguments}{body:List Stmt}{scope:mH}{dV kV doc pm vW ct oc:Value}{an od:Option Addr}
  {osl:Array (Option Value)}{N ps:List Str}{sp:Sp}(lk:K.lookup f=some ⟨oc,od,.func (W.fnOf name qual params body scope dV kV doc pm an vW ct),osl⟩) (hcd:W.codeIn K vW qual=true) (S:qT N ps scope)
  (len:∀vs H Q E,sp vs H Q E->vs.length=ps.length)
  (hbody:∀(A:Around) (outer:List Env) (s:Shared) (H:Hp) (vs:List V) (Q:VK) (E:XK),wY k (A.deeper (nh qual scope s.heap.objs.size f vW))->sp vs H Q E ->
   ∃t,Lx (Lc CX P w K mg base N qual scope f vW A outer s H E) body t/\t { nx:=λ_ H'=>Q .non H',rt:=Q } (yV N vs) H) :
  Co P w K mg base CX (k+1) f (W.fnOf name qual params body scope dV kV doc pm an vW ct) ps sp:=by
 refine⟨len,λA outer s H args us vs Q E hr e0 hb r hsp=>?_⟩
 have hl:=len _ _ _ _ hsp;have KX:K.In s.heap:=e0.mod.kin.keeps λb o e=>(e0.bs b o e).1
 have lim:s.heap.NoLimit:=e0.mod.nolimit.keeps λb o e=>(e0.bs b o e).1
 have hkind:∀y∈ps.zip us,scope.names.lookup y.1=some .local∨(scope.names.lookup y.1=some .cell/\((cellsFrom (s.heap.objs.size+1) scope.names []).lookup y.1).isSome=true):=λ⟨n,v⟩ hy=>by
  rcases S.par n (iV hy).1 with q|q
  .exact .inl q
  .exact .inr ⟨q,W.cellsFrom_some _ _ _ (.inl q)⟩
 refine codeAny_call_function hr.depth (KX _ _ lk) rfl S.co S.gen rfl (W.codeRec_of KX hcd) (hb _ _ _ _ ?_);refine wpAny_newFunctionEnv_cells S.kind hkind λenv he s1 x=>?_
 subst he;refine⟨lim.keeps x.toInCall.keep,codeAny_func ?_⟩;obtain⟨t,ht,hq⟩:=hbody A outer s H vs Q E (hr.deeper _) hsp;have I:Inv (Lc CX P w K mg base N qual scope f vW A outer s H E) [] (yV N vs) H s1:=L9 S hr.hd e0 hl r x;refine kR (ht [] s1 (yV N vs) H _ I hq) (λfl s' hs=>?_) λe s' hs=>hs
 have fin:∀{σ':St}{H':Hp}{v:V}{u:Value},Inv (Lc CX P w K mg base N qual scope f vW A outer s H E) [] σ' H' s'->qN v u->Q v H'->CE outer P w H s Q u s' :=
  λ{σ' H' v u} J rv q=>⟨v,H',J.os,J.bare,J.base,J.hok,rv,q⟩
 cases fl with
 |ret u =>
  obtain⟨v,σ',H',J,rv,q⟩:=hs;exact fin J rv q
 |next =>
  obtain⟨σ',H',J,q⟩:=hs;exact fin (v:=V.non) (u:=jm) J rfl q
 |brk =>
  obtain⟨_,_,_,q⟩:=hs;exact False.elim q
 |cont =>
  obtain⟨_,_,_,q⟩:=hs;exact False.elim q
section
variable {X:Cx}{x:Str}{p pos:Pos}{e:Expr}{es:List Expr}{t:TA}{id T:String}{r:List V->Hp->VK->Prop}
def Qe(r:List V->Hp->VK->Prop) (t:TA):TE:=λσ H Q=>t σ H λvs H1=>r vs H1 Q
theorem pP(hc:xw X (.builtin id) r) (hg:Gl X x) (hm:X.mg x=none) (hv:mD x=some (.builtin id)) (ha:PA X (e::es) t) (hn:x ≠ "__name__" := by decide) (hdb:(x == ("__debug__" : Str))=false:=by decide)
  (he:kP (e::es) X.env=(false,eval e X.env)::kP es X.env:=by rfl) (hpl:(mG pos (kP es X.env)).any (·.1)=false:=by rfl):PE X (.Call (.Name x p) (e::es) [] pos) (Qe r t):=by
 intro oV s σ H Q I h;refine mz (AJ I hg hm hv ?_ hn hdb);exact gO (thn (ha pos oV s σ H _ I h) λus s1 ⟨vs,H1,I1,r1,q1⟩=>hc oV s1 σ H1 vs us Q I1 r1 q1) he hpl
theorem BP(hc:xw X (.type T) r) (hg:Gl X x) (hm:X.mg x=none) (hv:mD x=some (.type T)) (ha:PA X (e::es) t) (hn:x ≠ "__name__" := by decide) (hdb:(x == ("__debug__" : Str))=false:=by decide)
  (he:kP (e::es) X.env=(false,eval e X.env)::kP es X.env:=by rfl) (hpl:(mG pos (kP es X.env)).any (·.1)=false:=by rfl):PE X (.Call (.Name x p) (e::es) [] pos) (Qe r t):=by
 intro oV s σ H Q I h;refine mz (AJ I hg hm hv ?_ hn hdb);exact dZ (thn (ha pos oV s σ H _ I h) λus s1 ⟨vs,H1,I1,r1,q1⟩=>hc oV s1 σ H1 vs us Q I1 r1 q1) he hpl
end
end L2
namespace HT
open PySem PyProof.Rows
def tU:List Int->List Int->Bool
 | [],[]=>false
 | [],_::_=>true
 |_::_,[]=>false
 |x::xs,y::ys=>if x=y then tU xs ys else decide (x<y)
theorem yq(x y:Int) (xs ys:List Int):tU (x::xs) (y::ys)=if x=y then tU xs ys else decide (x<y):=rfl
theorem En:tU [] []=false:=rfl
theorem CS(y:Int) (ys:List Int):tU [] (y::ys)=true:=rfl
theorem Ed(x:Int) (xs:List Int):tU (x::xs) []=false:=rfl
theorem N6(A:Around) (s:Shared) (a:Int) (t:Tok) (c:Int) (u:Tok):∃e,SeqAt.EqAt A s (.int a t) (.int c u) e/\(e=true↔a=c) :=
 ⟨(a == c),SeqAt.EqAt.int_int a t c u,by simp⟩
theorem O4(A:Around) (s:Shared) (a:Int) (t:Tok) (c:Int) (u:Tok) (prog:kL) (w:kN) (E:Value->Shared->Prop) (Q:Value->Shared->Prop) (h:Q (.bool (decide (a<c))) s) :
  kJ (kG prog w) A (richCompare .Lt (.int a t) (.int c u)) Q E s :=
 (kx h:kJ (kG prog w) A (lz .Lt (.int a t) (.int c u)) Q E s)
section
open PySem.SeqAt
open PySem.AutoSeq1 (wpAny_loadPart')
open PySem.MeetsSeq PySem.MeetsSeq2 PySem.MeetsSeq3
end
section
variable {prog:kL}{w:kN}{A:Around}{E:Value->Shared->Prop}{s:Shared}
def Et(n d:Nat):Option Int->Nat
 |none=>d
 |some v=>if v<0 then (v+(n:Int)).toNat else min v.toNat n
theorem HN(n d:Nat):Et n d none=d:=rfl
theorem CG(n d k:Nat):Et n d (some (k:Int))=min k n:=by
 show (if (k:Int)<0 then ((k:Int)+(n:Int)).toNat else min (k:Int).toNat n)=min k n
 rw[pV (by lia),eJ]
end
end HT
namespace L2
open PySem PySem.Spec PyProof.Rows
abbrev TO:=St->Hp->(Option Int->Hp->Prop)->Prop
def PO(X:Cx) (e:Option Expr) (t:TO):Prop :=
 ∀(oV:List (Addr×Obj)) (s:Shared) (σ:St) (H:Hp) (Q:Option Int->Hp->Prop),Inv X oV σ H s->t σ H Q ->
  kJ (kG X.prog X.w) X.A (evalPart e X.env) (λu s'=>∃o H',Inv X oV σ H' s'/\IsPart u o/\Q o H') X.xe s
def J2:TO:=λ_ H Q=>Q none H
def Ta(t:TE):TO:=λσ H Q=>t σ H λx H1=>∃i,x = .int i/\Q (some i) H1
theorem AA{ns:List Int}:∀{us:List Value},qv (ns.map V.int) us->kS us ns:=by
 induction ns with
 |nil=>intro us r;rw[fm]at r;cases r;exact .nil
 |cons n ns ih =>
  intro us r;rw[ar]at r;cases r with
  |cons r1 r2 =>
   obtain⟨t,e⟩:=r1;subst e;exact .cons n t (ih r2)
section
variable {X:Cx}{e:Expr}{te:TE}{lo hi:Option Expr}{tl th:TO}{pos p2:Pos}
theorem xG:PO X none J2:=by
 intro oV s σ H Q I h;rw[evalPart_none];exact kH ⟨none,H,I,.none,h⟩
theorem vK(h:PE X e te):PO X (some e) (Ta te):=by
 intro oV s σ H Q I hw;rw[evalPart_some];refine thn (h oV s σ H _ I hw) λu s1 ⟨x,H1,I1,r1,q1⟩=>?_
 obtain⟨i,rfl,q⟩:=q1;obtain⟨t,rfl⟩:=r1;exact⟨some i,H1,I1,.int i t,q⟩
def Yc(X:Cx) (r:V->Option Int->Option Int->Hp->VK->Prop):Prop :=
 ∀(oV:List (Addr×Obj)) (s:Shared) (σ:St) (H:Hp) (x:V) (v vl vu:Value) (lo hi:Option Int) (sl:Addr) (Q:VK),Inv X oV σ H s->qN x v->s.heap.IsSliceOf sl vl vu .none->IsPart vl lo->IsPart vu hi->r x lo hi H Q ->
  ∃T id,typeLookup (.type T) "__getitem__" = pure (some (.builtin id))/\s.TypeIs v T/\kJ (kG X.prog X.w) X.A (nX v (.ref sl)) (EP X oV σ Q) X.xe s
def XS(r:V->Option Int->Option Int->Hp->VK->Prop) (te:TE) (tl th:TO):TE:=λσ H Q=>te σ H λx H1=>tl σ H1 λl H2=>th σ H2 λu H3=>r x l u H3 Q
theorem vk{r:V->Option Int->Option Int->Hp->VK->Prop}(hr:Yc X r) (he:PE X e te) (hl:PO X lo tl) (hu:PO X hi th):PE X (.Subscript e (.Slice lo hi none p2) pos) (XS r te tl th):=by
 intro oV s σ H Q I h;refine Subscript_ (thn (he oV s σ H _ I h) λv s1 ⟨x,H1,I1,r1,q1⟩=>?_)
 refine wpAny_Slice (thn (hl oV s1 σ H1 _ I1 q1) λvl s2 ⟨l,H2,I2,pl,q2⟩=>thn (hu oV s2 σ H2 _ I2 q2) λvu s3 ⟨u,H3,I3,pu,q3⟩=>?_)
 rw[evalPart_none];refine kH ?_;have I4:Inv X oV σ H3 { s3 with heap:=s3.heap.push { cls:=.type "slice", data:=.fields #[vl,vu,.none] } }:=I3.kept (t':=s3.toks) λb ob q=>au _ q
 obtain⟨T,id,hT,ht,hg⟩:=hr oV { s3 with heap:=s3.heap.push { cls:=.type "slice", data:=.fields #[vl,vu,.none] } } σ H3 x v vl vu l u s3.heap.objs.size Q I4 r1 (Heap.IsSliceOf.new ..) pl pu q3
 show kJ (kG X.prog X.w) X.A (oe e (.Slice lo hi none p2) v (.ref s3.heap.objs.size)) (EP X oV σ Q) X.xe { s3 with heap:=s3.heap.push { cls:=.type "slice", data:=.fields #[vl,vu,.none] } }
 exact tail_any (ops:=[.ref s3.heap.objs.size,v]) ht hT hg (by with_unfolding_all rfl)
def IA(xs:List V) (lo hi:Option Int):List V:=(xs.drop (HT.Et xs.length 0 lo)).take (HT.Et xs.length xs.length hi-HT.Et xs.length 0 lo)
theorem Ie(xs:List V) (lo hi:Option Int):(IA xs lo hi).length<=xs.length:=by
 unfold IA;rw[lTq,aJ];lia
end
def Jc(n:Nat) (i:Int):Option Nat:=if 0<=i then (if i<n then some i.toNat else none) else if -(n:Int)<=i then some (i+n).toNat else none
def atI{α:Type}(xs:List α) (i:Int):Option α:=(Jc xs.length i).bind λj=>xs[j]?
theorem J6{n:Nat}{i:Int}{j:Nat}(h:Jc n i=some j):oi i n=some j/\j<n/\-(n:Int)<=i/\i<n:=by
 unfold Jc at h
 by_cases h0:0<=i
 .rw [qe h0]at h
  by_cases h1:i<n
  .rw [qe h1]at h;have e:i.toNat=j:=aD.inj h;exact⟨by rw[seqIndex_of h0 h1,e],by lia,by lia,h1⟩
  .rw [pV h1]at h;cases h
 .rw [pV h0]at h
  by_cases h1:-(n:Int)<=i
  .rw [qe h1]at h;have e:(i+n).toNat=j:=aD.inj h;exact⟨by rw[seqIndex_neg (by lia) h1,e],by lia,h1,by lia⟩
  .rw [pV h1]at h;cases h
theorem Rw{α:Type}{xs:List α}{i:Int}{v:α}(h:atI xs i=some v):∃j,oi i xs.length=some j/\xs[j]?=some v/\j<xs.length/\-(xs.length:Int)<=i/\i<xs.length:=by
 unfold atI at h;cases e:Jc xs.length i with
 |none=>rw[e]at h;cases h
 |some j =>
  rw[e]at h;obtain⟨h1,h2,h3,h4⟩:=J6 e;exact⟨j,h1,h,h2,h3,h4⟩
theorem vL{α:Type}{xs:List α}{j:Nat}{v:α}(h:xs[j]?=some v):atI xs (j:Int)=some v:=by
 have hj:j<xs.length:=(gSq.mp h).1;have e:Jc xs.length (j:Int)=some j:=by
  unfold Jc;rw[qe (by lia),qe (by lia)];simp
 unfold atI;rw[e];exact h
def Rj(b:Expr):Prop:=∀o i,nT b false o i=operate [o,i] (nX o i)
def XQ(X:Cx) (r:R2):Prop :=
 ∀(value slice:Expr) (oV:List (Addr×Obj)) (s:Shared) (σ:St) (H:Hp) (x y:V) (v u:Value) (Q:VK),Inv X oV σ H s->qN x v->qN y u->r x y H Q ->
  nT slice false v u=operate [v,u] (nX v u)->kJ (kG X.prog X.w) X.A (oe value slice v u) (EP X oV σ Q) X.xe s
def VX(X:Cx) (id:String) (r:V->List V->Hp->VK->Prop):Prop :=
 ∀(oV:List (Addr×Obj)) (s:Shared) (σ:St) (H:Hp) (x:V) (xs:List V) (v:Value) (us:List Value) (Q:VK),Inv X oV σ H s->qN x v->qv xs us->r x xs H Q ->
  kJ (kG X.prog X.w) X.A (call (.builtin id) (v::us)) (EP X oV σ Q) X.xe s
section
variable {X:Cx}{a b:Expr}{ta tb:TE}{pos:Pos}
theorem wa{r:R2}(hr:XQ X r) (ha:PE X a ta) (hb:PE X b tb) (hs:Rj b):PE X (.Subscript a b pos) (MN r ta tb):=by
 intro oV s σ H Q I h;exact Subscript_ (TY ha hb I h λv u s2 x y H2 I2 rx ry q=>hr a b oV s2 σ H2 x y v u Q I2 rx ry q (hs _ _))
def Sj(K:W.Frag):R2:=λx y H Q=>∃p xs i v,x = .ref p/\y = .int i/\tJ K H p xs/\atI xs i=some v/\Q v H
theorem sL:XQ X (Sj X.K):=by
 intro value slice oV s σ H x y v u Q I rx ry h hs;obtain⟨p,xs,i,z,rfl,rfl,hq,he,q⟩:=h;cases rx;obtain⟨t,rfl⟩:=ry;obtain⟨its,r,pl,hz⟩:=I.list hq;obtain⟨j,h1,h2,h3,h4,h5⟩:=Rw he;obtain⟨w,ew,rw'⟩:=r.get h2;have hl:=r.length;have hn:=Ol;have fin:EP X oV σ Q w s:=⟨z,H,I,rw',q⟩
 by_cases h0:0<=i
 .have hj:i.toNat=j:=by
   rw[seqIndex_of h0 h5]at h1;exact aD.inj h1
  exact item_listR pl.isList h0 (by lia) (by rw[hj];simpa using ew) fin hs
 .have hj:(i+(its.toArray.size:Int)).toNat=j:=by
   rw[seqIndex_neg (by lia) h4]at h1
   rw[aS,←hl];exact aD.inj h1
  exact subscriptTail_builtinR (x:=w) pl.isList.typeIs slot_list_getitem.lookup
   (wpAny_getItem_list_neg (Q:=λr s'=>r=w/\EP X oV σ Q r s') pl.isList (by lia) (by rw[aS] <;> lia) (by lia) (by rw[hj];simpa using ew) ⟨rfl,fin⟩) hs
theorem Fo(lo hi:Option Int) (n:Nat):(mn lo hi none n).1=((HT.Et n 0 lo:Nat):Int)/\(mn lo hi none n).2.1=((HT.Et n n hi:Nat):Int)/\(mn lo hi none n).2.2=1:=by
 refine⟨?_,?_,rfl⟩
 .cases lo with
  |none=>simp[mn,HT.Et]
  |some i =>
   simp only[mn,HT.Et,jO,show (1:Int)>0 by decide,if_true]
   by_cases h:i<0
   .simp only [h,if_true] <;> lia
   .simp only [h,if_false] <;> lia
 .cases hi with
  |none=>simp[mn,HT.Et]
  |some i =>
   simp only[mn,HT.Et,jO,show (1:Int)>0 by decide,if_true]
   by_cases h:i<0
   .simp only [h,if_true] <;> lia
   .simp only [h,if_false] <;> lia
theorem El(its:List Value) (lo hi:Option Int):slicePick its.toArray lo hi none=((its.drop (HT.Et its.length 0 lo)).take (HT.Et its.length its.length hi-HT.Et its.length 0 lo)).toArray:=by
 obtain⟨h1,h2,h3⟩:=Fo lo hi its.toArray.size;unfold slicePick;rw[h1,h2,h3];simp only[sliceRange_one,pick_run,aS] <;> rfl
def VP(K:W.Frag):V->Option Int->Option Int->Hp->VK->Prop:=λx lo hi H Q=>∃a xs,x = .ref a/\tJ K H a xs/\∀p,H p=none->Q (.ref p) (rK H p (.lst (IA xs lo hi)))
theorem wx:Yc X (VP X.K):=by
 intro oV s σ H x v vl vu lo hi sl Q I rx hs pl pu h;obtain⟨a,xs,rfl,hx,q⟩:=h;cases rx;obtain⟨its,r,ht,hz⟩:=I.list hx;have hlen:=r.length;refine⟨"list", _,slot_list_getitem.lookup,ht.isList.typeIs,?_⟩;refine wpAny_getItem_list_slice ht.isList hs pl pu .none (by simp) ?_ (by rw[aS] <;> lia)
 rw[El,←hlen];refine⟨.ref s.heap.objs.size,_,I.laid (t':=s.toks) (o:=.lst (IA xs lo hi)) (λb ob q=>au _ q) (aj _) ?_,rfl,q _ (I.hok.fresh (aj _))⟩
 exact⟨cE (Ie xs lo hi) hz,_,0,(r.drop (HT.Et xs.length 0 lo)).take (HT.Et xs.length xs.length hi-HT.Et xs.length 0 lo),bh _ rfl⟩
def Ak:V->Bool
 | .non=>true
 | .bl _=>true
 | .int _=>true
 | .str _=>true
 |_=>false
def SG:V->V->Bool
 | .non,.non=>true
 | .bl a,.bl b=>a == b
 | .bl a,.int b=>(if a then 1 else 0) == b
 | .int a,.bl b=>a == (if b then 1 else 0)
 | .int a,.int b=>a == b
 | .str a,.str b=>a == b
 |_,_=>false
theorem Um{A:Around}{s:Shared}{y x:V}{u v:Value}(ry:qN y u) (rx:qN x v) (fy:Ak y=true) (fx:Ak x=true):SeqAt.EqAt A s u v (SG y x):=by
 cases y with
 |non =>
  cases ry;cases x with
  |non=>cases rx;exact SeqAt.EqAt.same _
  |bl b=>cases rx;exact SeqAt.EqAt.none_bool b
  |int b=>obtain⟨t,rfl⟩:=rx;exact SeqAt.EqAt.none_int b t
  |str b=>obtain⟨t,rfl⟩:=rx;exact SeqAt.EqAt.none_str b t
  |_=>exact absurd (show false=true from fx) aK
 |bl a =>
  cases ry;cases x with
  |non=>cases rx;exact SeqAt.EqAt.bool_none a
  |bl b=>cases rx;exact SeqAt.EqAt.bool_bool a b
  |int b=>obtain⟨t,rfl⟩:=rx;exact SeqAt.EqAt.bool_int a b t
  |str b=>obtain⟨t,rfl⟩:=rx;exact SeqAt.EqAt.bool_str a b t
  |_=>exact absurd (show false=true from fx) aK
 |int a =>
  obtain⟨t',rfl⟩:=ry;cases x with
  |non=>cases rx;exact SeqAt.EqAt.int_none a t'
  |bl b=>cases rx;exact SeqAt.EqAt.int_bool a t' b
  |int b=>obtain⟨t,rfl⟩:=rx;exact SeqAt.EqAt.int_int a t' b t
  |str b=>obtain⟨t,rfl⟩:=rx;exact SeqAt.EqAt.int_str a t' b t
  |_=>exact absurd (show false=true from fx) aK
 |str a =>
  obtain⟨t',rfl⟩:=ry;cases x with
  |non=>cases rx;exact SeqAt.EqAt.str_none a t'
  |bl b=>cases rx;exact SeqAt.EqAt.str_bool a t' b
  |int b=>obtain⟨t,rfl⟩:=rx;exact SeqAt.EqAt.str_int a t' b t
  |str b=>obtain⟨t,rfl⟩:=rx;exact SeqAt.EqAt.str_str a t' b t
  |_=>exact absurd (show false=true from fx) aK
 |_=>exact absurd (show false=true from fy) aK
def IH(x:V) (u:Value):Bool:=match u with
 | .none=>SG .non x
 | .bool b=>SG (.bl b) x
 | .int i _=>SG (.int i) x
 | .str z _=>SG (.str z) x
 |_=>false
theorem OE{x y:V}{u:Value}(r:qN y u) (f:Ak y=true):IH x u=SG y x:=by
 cases y with
 |non=>cases r;rfl
 |bl b=>cases r;rfl
 |int i=>obtain⟨t,rfl⟩:=r;rfl
 |str z=>obtain⟨t,rfl⟩:=r;rfl
 |_=>exact absurd (show false=true from f) aK
theorem Bo{x:V}:∀{xs:List V}{us:List Value},qv xs us->xs.all Ak=true->us.any (IH x)=xs.any λy=>SG y x
 |_,_,.nil,_=>rfl
 |y::xs,u::us,.cons r t,f=>by
  rw[jn,fu]at f;rw[cg,cg,OE r f.1,Bo t f.2]
theorem zG{A:Around}{s:Shared}{x:V}{v:Value}(rx:qN x v) (fx:Ak x=true):∀{xs:List V}{us:List Value},qv xs us->xs.all Ak=true->∀u∈us,SeqAt.EqAt A s u v (IH x u)
 |_,_,.nil,_=>λu hu=>by cases hu
 |y::xs,u::us,.cons r t,f=>λu' hu=>by
  rw[jn,fu]at f;rcases ae.mp hu with rfl|hu
  .rw [OE r f.1];exact Um r rx f.1 fx
  .exact zG rx fx t f.2 u' hu
def Ve(x:V) (xs:List V):Bool:=xs.any λy=>SG y x
def Xd(K:W.Frag) (neg:Bool):R2:=λx y H Q=>∃p xs,y = .ref p/\(tJ K H p xs∨IT K H p xs)/\Ak x=true/\xs.all Ak=true/\Q (.bl (if neg then !Ve x xs else Ve x xs)) H
theorem BZ:Ef X (lz .In) (Xd X.K false):=by
 intro oV s σ H x y v u Q I rx ry h;obtain⟨p,xs,rfl,hq,fx,fs,q⟩:=h;cases ry;rcases hq with hq|hq
 .obtain ⟨its,r,pl,hz⟩:=I.list hq;refine SeqAt.in_listAt (IH x) pl.isList (λw hw=>zG rx fx r fs w (by simpa using hw)) ⟨.bl _,H,I,rfl,?_⟩
  rw[show its.toArray.any (IH x)=its.any (IH x) by simp,Bo r fs]
  exact q
 .obtain ⟨its,r,pl,hz⟩:=I.tuple hq;refine SeqAt.in_tupleAt (IH x) pl (λw hw=>zG rx fx r fs w (by simpa using hw)) ⟨.bl _,H,I,rfl,?_⟩
  rw[show its.toArray.any (IH x)=its.any (IH x) by simp,Bo r fs]
  exact q
theorem Ft:Ef X (lz .NotIn) (Xd X.K true):=by
 intro oV s σ H x y v u Q I rx ry h;obtain⟨p,xs,rfl,hq,fx,fs,q⟩:=h;cases ry;rcases hq with hq|hq
 .obtain ⟨its,r,pl,hz⟩:=I.list hq;refine SeqAt.notIn_listAt (IH x) pl.isList (λw hw=>zG rx fx r fs w (by simpa using hw)) ⟨.bl _,H,I,rfl,?_⟩
  rw[show its.toArray.any (IH x)=its.any (IH x) by simp,Bo r fs]
  exact q
 .obtain ⟨its,r,pl,hz⟩:=I.tuple hq;refine SeqAt.notIn_tupleAt (IH x) pl (λw hw=>zG rx fx r fs w (by simpa using hw)) ⟨.bl _,H,I,rfl,?_⟩
  rw[show its.toArray.any (IH x)=its.any (IH x) by simp,Bo r fs]
  exact q
theorem Bj:xw X (.type "list") (λxs H Q=>∃p ys,xs=[.ref p]/\(tJ X.K H p ys∨IT X.K H p ys)/\∀l,H l=none->Q (.ref l) (rK H l (.lst ys))):=by
 intro oV s σ H xs us Q I r h;obtain⟨p,ys,rfl,hq,q⟩:=h;obtain⟨u,rfl,rx⟩:=xl r;cases rx;have fin:∀(its:List Value),qv ys its->ys.length<=kK->∀(h':Heap) (c':Nat),(∀b o',s.heap.get? b=some o'->h'.get? b=some o') ->
   h'.get? s.heap.objs.size=some { cls:=.type "list", dict:=none,data:=.seq its.toArray c',slots:=#[] }->EP X oV σ Q (.ref s.heap.objs.size) { s with heap:=h' }:=λits r' hz h' c' kp e =>
  ⟨.ref s.heap.objs.size,_,I.laid (t':=s.toks) kp (aj _) (show rV X.prog X.w _ h' _ (.lst ys) from ⟨hz,its,c',r',e⟩),rfl,q _ (I.hok.fresh (aj _))⟩
 rcases hq with hq|hq
 .obtain ⟨its,r',pl,hz⟩:=I.list hq;have hlen:=r'.length;obtain⟨o,ho,hc,n,hd⟩:=pl.isList;exact call_list_seq p (.inl rfl) ho hc hd (λh' c' kp e=>fin its r' hz h' c' kp e) (by simp only[aS] <;> lia)
 .obtain ⟨its,r',pl,hz⟩:=I.tuple hq;have hlen:=r'.length;obtain⟨o,ho,hc,n,hd⟩:=pl;exact call_list_seq p (.inr rfl) ho hc hd (λh' c' kp e=>fin its r' hz h' c' kp e) (by simp only[aS] <;> lia)
def Vy(K:W.Frag) (T:String) (x:V) (H:Hp):Prop:=match x with
 | .str _=>T = "str"
 | .int _=>T = "int"
 | .ref p=>(T = "list" /\ ∃xs,tJ K H p xs)∨(T = "tuple" /\ ∃o,K.lookup p=some o/\o.cls = .type "tuple" /\ o.dict=none) ∨
   (T = "dict" /\ ((∃kvs,H p=some (.dK kvs))∨∃kvs,H p=some (.dT kvs)))∨(T = "set" /\ ∃S n,H p=some (.set S n))
 |_=>False
theorem Pq{oV:List (Addr×Obj)}{σ:St}{H:Hp}{s:Shared}{T:String}{x:V}{v:Value}(I:Inv X oV σ H s) (r:qN x v) (ty:Vy X.K T x H) :
  s.TypeIs v T/\∀a,v = .ref a->∃ob,s.heap.get? a=some ob/\ob.dict=none:=by
 cases x with
 |str z =>
  obtain⟨t,rfl⟩:=r;cases (show T = "str" from ty)
  exact⟨typeIs_str s z t,λ_ e=>nomatch e⟩
 |int i =>
  obtain⟨t,rfl⟩:=r;cases (show T = "int" from ty)
  exact⟨typeIs_int s i t,λ_ e=>nomatch e⟩
 |ref p =>
  cases r;rcases ty with ⟨rfl,xs,hq⟩|⟨rfl,o,hk,hc,hd⟩|⟨rfl,hk⟩|⟨rfl,S,n,hk⟩
  .obtain ⟨its,_,pl,_⟩:=I.list hq;refine⟨pl.isList.typeIs,λa e=>?_⟩
   cases e;obtain⟨o,n,e,c,hd,_⟩:=pl;exact⟨o,e,hd⟩
  .refine ⟨⟨o,I.kIn p o hk,hc⟩,λa e=>?_⟩
   cases e;exact⟨o,I.kIn _ o hk,hd⟩
  .have z:∃o,s.heap.get? p=some o/\o.ExactDict:=by
    rcases hk with ⟨kvs,hk⟩|⟨kvs,hk⟩
    .obtain ⟨_,_,_,_,o,_,_,e,ex,_⟩:=I.hok p _ hk;exact⟨o,e,ex⟩
    .obtain ⟨_,_,_,_,o,_,_,e,ex,_⟩:=I.hok p _ hk;exact⟨o,e,ex⟩
   obtain⟨o,e,ex⟩:=z;refine⟨⟨o,e,ex.1⟩,λa e2=>?_⟩
   cases e2;exact⟨o,e,ex.2.1⟩
  .obtain ⟨o,_,_,_,e,ex,_⟩:=I.hok p _ hk;refine⟨⟨o,e,ex.1⟩,λa e2=>?_⟩
   cases e2;exact⟨o,e,ex.2.1⟩
 |_=>exact False.elim ty
def VF(K:W.Frag) (T:String) (r:V->List V->Hp->VK->Prop) (to:TE):TE:=λσ H Q=>to σ H λx H1=>Vy K T x H1/\r x [] H1 Q
def Qg(K:W.Frag) (T:String) (r:V->List V->Hp->VK->Prop) (to:TE) (t:TA):TE:=λσ H Q=>to σ H λx H1=>Vy K T x H1/\t σ H1 λxs H2=>r x xs H2 Q
variable {o e:Expr}{es:List Expr}{to:TE}{t:TA}{name:Str}{apos cpos:Pos}{T id:String}{r:V->List V->Hp->VK->Prop}
theorem Ip(pa:PlainAttrs T) (slot:Slot T name id) (hty:typeOf (.builtin id)=pure (.type "method_descriptor")) (hm:VX X id r) (ho:PE X o to)
  (hbase:nq o name X.env (eval o X.env)=eval o X.env:=by rfl) (hline:(apos.endLine == cpos.line)=true:=by rfl):PE X (.Call (.Attribute o name apos) [] [] cpos) (VF X.K T r to):=by
 intro oV s σ H Q I h;refine nK hbase hline (thn (ho oV s σ H _ I h) λv s1 ⟨x,H1,I1,r1,ty,q1⟩=>?_)
 obtain⟨h1,h2⟩:=Pq I1 r1 ty;exact⟨T,id,pa,slot,hty,h1,h2,Calls.callWith_builtin rfl (PySem.evalArgs_none (hm oV s1 σ H1 x [] v [] Q I1 r1 .nil q1))⟩
theorem wg(pa:PlainAttrs T) (slot:Slot T name id) (hty:typeOf (.builtin id)=pure (.type "method_descriptor")) (hm:VX X id r) (ho:PE X o to) (ha:PA X (e::es) t)
  (hbase:nq o name X.env (eval o X.env)=eval o X.env:=by rfl)
  (hfew:((mG cpos (kP (e::es) X.env)).all (λx=>!x.1) && (backToKw cpos (keywordEach [] X.env)).all (λx=>x.1.isSome)
   && decide ((e::es).length+([]:List Keyword).length+(if ([]:List Keyword).isEmpty then 0 else 1)<30))=true:=by rfl)
  (hline:(apos.endLine == cpos.line)=true:=by rfl) (hs:kP (e::es) X.env=(false,eval e X.env)::kP es X.env:=by rfl) (hplain:(mG cpos (kP es X.env)).any (·.1)=false:=by rfl) :
  PE X (.Call (.Attribute o name apos) (e::es) [] cpos) (Qg X.K T r to t):=by
 intro oV s σ H Q I h;refine wpAny_Call_method_late hbase hfew hline rfl (thn (ho oV s σ H _ I h) λv s1 ⟨x,H1,I1,r1,ty,q1⟩=>?_)
 obtain⟨h1,h2⟩:=Pq I1 r1 ty;refine⟨T,id,pa,slot,hty,h1,h2,?_⟩;have hA:=ha cpos oV s1 σ H1 _ I1 q1;rw[hs]at hA ⊢;refine Calls.callWith_builtin (by show (false || (mG cpos (kP es X.env)).any (·.1))=false;rw[hplain] <;> rfl) (Calls.evalArgs_plain ?_)
 exact thn hA λus s2 ⟨vs,H2,I2,r2,q2⟩=>hm oV s2 σ H2 x vs v us Q I2 r1 r2 q2
/- xs.append(e),list.index on a module's tuple .. are VX facts of 06m -/
end
def W7(X:Cx) (id:String) (r:V->List V->Hp->VK->Prop):Prop :=
 ∀(oV:List (Addr×Obj)) (s:Shared) (σ:St) (H:Hp) (x:V) (xs:List V) (v:Value) (us:List Value) (Q:VK),Inv X oV σ H s->qN x v->qv xs us->r x xs H Q ->
  kJ (kG X.prog X.w) X.A (call (.builtin id) (v::us)) (EP X oV σ Q) X.xe s
theorem qv.one:∀{x:V}{us:List Value},qv [x] us->∃u,us=[u]/\qN x u
 |_,_,.cons r .nil=>⟨_,rfl,r⟩
theorem qv.zero:∀{us:List Value},qv [] us->us=[]
 |_,.nil=>rfl
theorem qv.dropLast{xs:List V}{us:List Value}(h:qv xs us):qv xs.dropLast us.dropLast:=by
 induction h with
 |nil=>exact .nil
 |cons r t ih =>
  cases t with
  |nil=>exact .nil
  |cons q t'=>exact .cons r ih
theorem qv.eraseIdx:∀{xs:List V}{us:List Value}(i:Nat),qv xs us->qv (xs.eraseIdx i) (us.eraseIdx i)
 |_,_,_,.nil=>.nil
 |_,_,0,.cons _ t=>t
 |_,_,i+1,.cons r t=>.cons r (qv.eraseIdx i t)
theorem AF{α:Type}(l:List α):l.eraseIdx (l.length-1)=l.dropLast:=by
 induction l with
 |nil=>rfl
 |cons a r ih =>
  cases r with
  |nil=>rfl
  |cons b r =>
   have e:(a::b::r).length-1=((b::r).length-1)+1:=by
    have h1:(a::b::r).length=r.length+2:=rfl;have h2:(b::r).length=r.length+1:=rfl;lia
   rw[e,cQ,ih]
   all_goals rfl
theorem EH{α:Type}:∀(l:List α) (i:Nat),(l.eraseIdx i).length<=l.length
 | [],_=>aj _
 |_::_,0=>cU _
 |_::r,i+1=>Nat.succ_le_succ (EH r i)
section
variable {X:Cx}{oV:List (Addr×Obj)}{σ:St}{H:Hp}{s:Shared}{l b:Addr}{xs ys zs:List V}
theorem Inv.lset{its its':List Value}{n:Nat}{f:Array Value->Array Value}{t':Nat}(I:Inv X oV σ H s) (hH:H l=some (.lst xs))
  (e:s.heap.get? l=some { cls:=.type "list", data:=.seq its.toArray n }) (hf:f its.toArray=its'.toArray) (hv:qv ys its') (hz:ys.length<=kK) :
  Inv X oV σ (rK H l (.lst ys)) { s with heap:=s.heap.update l (Obj.mapSeq f),toks:=t' }:=by
 have q:=PySem.IsL.update e f;rw[hf]at q;refine I.write (x:=l) (e:=l) (by rw[hH];exact trivial) (.inl rfl) (λb' u hb hu=>(Heap.get?_update_other s.heap (Obj.mapSeq f) (Ne.symm hb)).trans hu) ⟨_,q⟩ ?_
 exact⟨hz,its',_,hv,q⟩
theorem Inv.lnew{its:List Value}{t':Nat}(I:Inv X oV σ H s) (hv:qv ys its) (hz:ys.length<=kK) :
  Inv X oV σ (rK H s.heap.objs.size (.lst ys)) { s with heap:=s.heap.push { cls:=.type "list", data:=.seq its.toArray },toks:=t' } :=
 I.laid (λ_ _ q=>au _ q) (aj _) ⟨hz,its,0,hv,bh _ rfl⟩
theorem Inv.fresh(I:Inv X oV σ H s):H s.heap.objs.size=none:=I.hok.fresh (aj _)
theorem Inv.lstM(I:Inv X oV σ H s) (hH:H l=some (.lst xs)):xs.length<=kK/\∃(its:List Value) (n:Nat),qv xs its/\xs.length=its.length/\s.heap.get? l=some { cls:=.type "list", data:=.seq its.toArray n }:=by
 obtain⟨z,its,n,r,e⟩:=I.hok l _ hH;exact⟨z,its,n,r,r.length,e⟩
end
section
variable {X:Cx}
def xB:V->List V->Hp->VK->Prop:=λx vs H Q=>∃l xs y,x = .ref l/\vs=[y]/\H l=some (.lst xs)/\xs.length<kK/\Q .non (rK H l (.lst (xs++[y])))
theorem sQ:W7 X "list.append" xB:=by
 intro oV s σ H x vs v us Q I rx rv h;obtain⟨l,xs,y,rfl,rfl,hH,hz,q⟩:=h;cases rx;obtain⟨u,rfl,ru⟩:=rv.one;obtain⟨z,its,n,r,hl,e⟩:=I.lstM hH;refine mV F.slot_list_append ⟨_,e,rfl⟩ F.entry_list_append (F.args_list_append_2 _ _) (PySem.list_append l its.toArray n u (by rw[aS];lia)) ⟨e,?_⟩
 refine⟨.non,_,I.lset (its':=its++[u]) hH e (by simp) (r.append (.cons ru .nil)) ?_,rfl,q⟩
 rw[lAq,lSq];lia
def Ux:V->List V->Hp->VK->Prop:=λx vs H Q=>∃l xs y,x = .ref l/\vs=[]/\H l=some (.lst xs)/\xs[xs.length-1]?=some y/\Q y (rK H l (.lst xs.dropLast))
theorem IJ:W7 X "list.pop" Ux:=by
 intro oV s σ H x vs v us Q I rx rv h;obtain⟨l,xs,y,rfl,rfl,hH,hy,q⟩:=h;cases rx;have hus:=rv.zero;subst hus;obtain⟨z,its,n,r,hl,e⟩:=I.lstM hH;obtain⟨u,hu,ru⟩:=r.get hy;have hy':its.toArray[its.toArray.size-1]?=some u:=by
  show its.toArray[its.length-1]?=some u;rw[←ay,←hl];exact hu
 refine mV F.slot_list_pop ⟨_,e,rfl⟩ F.entry_list_pop (F.args_list_pop_1 _) (MeetsSeq.list_pop_last l its.toArray n u hy' (by rw[aS];lia)) ⟨e,?_⟩
 refine⟨y,_,I.lset (its':=its.dropLast) hH e ?_ r.dropLast ?_,ru,q⟩
 .show its.toArray.eraseIdxIfInBounds (its.toArray.size-1)=its.dropLast.toArray;rw[aS,gE,AF]
 .rw [List.length_dropLast];lia
def P6:V->List V->Hp->VK->Prop:=λx vs H Q=>∃l xs i k y,x = .ref l/\vs=[.int i]/\H l=some (.lst xs)/\-(2 ^ 63)<=i/\i<2 ^ 63/\oi i xs.length=some k/\xs[k]?=some y/\Q y (rK H l (.lst (xs.eraseIdx k)))
theorem GJ:W7 X "list.pop" P6:=by
 intro oV s σ H x vs v us Q I rx rv h;obtain⟨l,xs,i,k,y,rfl,rfl,hH,h1,h2,hk,hy,q⟩:=h;cases rx;obtain⟨u,rfl,ru⟩:=rv.one;obtain⟨t,rfl⟩:=ru;obtain⟨z,its,n,r,hl,e⟩:=I.lstM hH;obtain⟨w,hw,rw'⟩:=r.get hy;refine mV F.slot_list_pop ⟨_,e,rfl⟩ F.entry_list_pop (F.args_list_pop_2 _ _)
  (MeetsSeq.list_pop_at l its.toArray n i t k w (fitsIndex_both h1 h2) (by rw[aS,←hl];exact hk) (by rw[←ay];exact hw) (by rw[aS];lia)) ⟨e,?_⟩
 refine⟨y,_,I.lset (its':=its.eraseIdx k) hH e ?_ (r.eraseIdx k) ?_,rw',q⟩
 .show its.toArray.eraseIdxIfInBounds k=(its.eraseIdx k).toArray;rw[gE]
 .have:=EH xs k;lia
def Tn:R2:=λx y H Q=>∃l b xs zs,x = .ref l/\y = .ref b/\H l=some (.lst xs)/\H b=some (.lst zs)/\xs.length+zs.length<=kK/\∀p,H p=none->Q (.ref p) (rK H p (.lst (xs++zs)))
theorem yM:Ef X (mM .Add) Tn:=by
 intro oV s σ H x y v u Q I rx ry h;obtain⟨l,b,xs,zs,rfl,rfl,hH,hB,hz,q⟩:=h;cases rx;cases ry;obtain⟨z,its,n,r,hl,e⟩:=I.lstM hH;obtain⟨z2,its2,n2,r2,hl2,e2⟩:=I.lstM hB;refine PySem.P.add_list e e2 ?_ (by rw[aS,aS];lia)
 have ea:its.toArray++its2.toArray=(its++its2).toArray:=by simp
 rw[ea];exact⟨.ref _,_,I.lnew (t':=s.toks) (r.append r2) (by rw[lAq];lia),rfl,q _ I.fresh⟩
end
section
variable {κ:Type} [DecidableEq κ]
def vo(kvs:List (κ×V)) (k:κ):Option V:=(kvs.find? λkv=>decide (kv.1=k)).map (·.2)
def yW(kvs:List (κ×V)) (k:κ) (v:V):List (κ×V) :=
 if (kvs.any λkv=>decide (kv.1=k))=true then kvs.map (λkv=>if kv.1=k then (kv.1,v) else kv) else kvs++[(k,v)]
theorem DN{p:κ×V}{r:List (κ×V)}{k:κ}(e:p.1=k):vo (p::r) k=some p.2:=by simp[vo,cW,e]
theorem D4{p:κ×V}{r:List (κ×V)}{k:κ}(e:¬ p.1=k):vo (p::r) k=vo r k:=by simp[vo,cW,e]
theorem Hz(k:κ):∀kvs:List (κ×V),(kvs.any λkv=>decide (kv.1=k))=(vo kvs k).isSome
 | []=>rfl
 |p::r=>by
  rw[cg]
  by_cases e:p.1=k
  .simp only [DN e,decide_eq_true e,jC,Option.isSome_some]
  .rw [D4 e,decide_eq_false e,kj];exact Hz k r
theorem zc(kvs:List (κ×V)) (k:κ) (v:V):(yW kvs k v).length<=kvs.length+1:=by
 unfold yW;split
 .rw [lMq];lia
 .rw [lAq,lCq,eZ];lia
theorem A3.isSome_eq{o:Option V}{u:Option Value}(r:A3 o u):o.isSome=u.isSome:=by
 cases o with
 |none=>cases u with
  |none=>rfl
  |some _=>exact(show False from r).elim
 |some _=>cases u with
  |none=>exact(show False from r).elim
  |some _=>rfl
theorem KV.val{kvs:List (κ×V)}{vs:List (κ×Value)}(r:KV kvs vs) (k:κ):A3 (vo kvs k) (lQ vs k):=by
 unfold KV at r
 induction r with
 |nil=>exact True.intro
 | @cons p q ps qs h t ih =>
  obtain⟨h1,h2⟩:=h
  by_cases e:p.1=k
  .have e':q.1=k:=h1.symm.trans e;have b:lQ (q::qs) k=some q.2:=by simp[lQ,cW,e']
   rw[DN e,b];exact h2
  .have e':¬ q.1=k:=λz=>e (h1.trans z)
   have b:lQ (q::qs) k=lQ qs k:=by simp[lQ,cW,e']
   rw[D4 e,b];exact ih
theorem KV.any{kvs:List (κ×V)}{vs:List (κ×Value)}(r:KV kvs vs) (k:κ):(kvs.any λkv=>decide (kv.1=k))=vs.any λkv=>decide (kv.1=k):=by
 unfold KV at r
 induction r with
 |nil=>rfl
 |cons h t ih=>rw[cg,cg,ih,h.1]
theorem KV.repl{kvs:List (κ×V)}{vs:List (κ×Value)}(r:KV kvs vs) (k:κ) {y:V}{u:Value}(ry:qN y u) :
  KV (kvs.map λkv=>if kv.1=k then (kv.1,y) else kv) (vs.map λkv=>if kv.1=k then (kv.1,u) else kv):=by
 unfold KV at r ⊢
 induction r with
 |nil=>exact .nil
 | @cons p q ps qs h t ih =>
  rw[ar,ar];refine .cons ?_ ih;obtain⟨h1,h2⟩:=h
  by_cases e:p.1=k
  .rw [qe e,qe (h1.symm.trans e)];exact⟨h1,ry⟩
  .rw [pV e,pV (λz=>e (h1.trans z))];exact⟨h1,h2⟩
theorem KV.put{kvs:List (κ×V)}{vs:List (κ×Value)}(r:KV kvs vs) (k:κ) {y:V}{u:Value}(ry:qN y u):KV (yW kvs k y) (stored vs k u):=by
 unfold yW stored;rw[r.any k]
 by_cases e:(vs.any λkv=>decide (kv.1=k))=true
 .rw [qe e,qe e];exact r.repl k ry
 .rw [pV e,pV e];exact Paired.snoc r ⟨rfl,ry⟩
theorem KV.length{kvs:List (κ×V)}{vs:List (κ×Value)}(r:KV kvs vs):kvs.length=vs.length:=Paired.length r
end
theorem Fd{P:kL}{w:kN}{k:pQ}{u:Value}(r:qN (kV k) u):(qQ P w).is k u=true:=by
 cases k with
 |inl i=>obtain⟨t,e⟩:=(show ∃t,u=ir i t from r);subst e;exact HK P w i t
 |inr x=>obtain⟨t,e⟩:=(show ∃t,u=ki x t from r);subst e;exact G1 P w x t
theorem EC{P:kL}{w:kN}:∀{ks:List pQ}{us:List Value},qv (ks.map kV) us->ItemsAre (qQ P w) ks us
 | [],_,r=>by rw[fm]at r;cases r;exact .nil
 |k::ks,_,r=>by
  rw[ar]at r;cases r with
  |cons h t=>exact .cons (Fd h) (EC t)
abbrev KT(H:Hp):List (List pQ×V)->List (List pQ×Addr×Value)->Prop:=Paired λp q=>p.1=q.1/\H q.2.1=some (.tup (p.1.map kV))/\qN p.2 q.2.2
theorem KT.val{H:Hp}{kvs:List (List pQ×V)}{xs:List (List pQ×Addr×Value)}(r:KT H kvs xs) (k:List pQ):A3 (vo kvs k) ((nR xs k).map (·.2)):=by
 induction r with
 |nil=>exact True.intro
 | @cons p q ps qs h t ih =>
  obtain⟨h1,_,h2⟩:=h
  by_cases e:p.1=k
  .have e':q.1=k:=h1.symm.trans e;have b:nR (q::qs) k=some q.2:=by simp[nR,cW,e']
   rw[DN e,b];exact h2
  .have e':¬ q.1=k:=λz=>e (h1.trans z)
   have b:nR (q::qs) k=nR qs k:=by simp[nR,cW,e']
   rw[D4 e,b];exact ih
theorem KT.repl{H:Hp}{kvs:List (List pQ×V)}{xs:List (List pQ×Addr×Value)}(r:KT H kvs xs) (k:List pQ) {y:V}{u:Value}(ry:qN y u) :
  KT H (kvs.map λkv=>if kv.1=k then (kv.1,y) else kv) (xs.map (putAt k u)):=by
 induction r with
 |nil=>exact .nil
 | @cons p q ps qs h t ih =>
  rw[ar,ar];refine .cons ?_ ih;obtain⟨h1,h2,h3⟩:=h;unfold putAt
  by_cases e:p.1=k
  .rw [qe e,qe (h1.symm.trans e)];exact⟨h1,h2,ry⟩
  .rw [pV e,pV (λz=>e (h1.trans z))];exact⟨h1,h2,h3⟩
theorem KT.put{H:Hp}{kvs:List (List pQ×V)}{xs:List (List pQ×Addr×Value)}(r:KT H kvs xs) (k:List pQ) {b:Addr}{y:V}{u:Value}(hb:H b=some (.tup (k.map kV))) (ry:qN y u) :
  KT H (yW kvs k y) (storedH xs k b u):=by
 have e:(kvs.any λkv=>decide (kv.1=k))=(nR xs k).isSome:=by
  rw[Hz,(r.val k).isSome_eq,fZ]
 unfold yW storedH;rw[e]
 by_cases q:(nR xs k).isSome=true
 .rw [qe q,qe q];exact r.repl k ry
 .rw [pV q,pV q];exact Paired.snoc r ⟨rfl,hb,ry⟩
theorem KT.keeps{H H':Hp}{kvs:List (List pQ×V)}{xs:List (List pQ×Addr×Value)}(r:KT H kvs xs) (ht:∀b ys,H b=some (.tup ys)->H' b=some (.tup ys)):KT H' kvs xs :=
 Paired.mapP r λ_ _ z=>⟨z.1,ht _ _ z.2.1,z.2.2⟩
section
variable {P:kL}{w:kN}{H:Hp}{h:Heap}{a:Addr}
theorem Sr{u:HO}(ok:AL P w H h) (e:Rd H a u):rV P w H h a u:=e.ok ok
theorem EF{kvs:List (pQ×V)}(ok:AL P w H h) (e:Rd H a (.dK kvs)):kvs.length<=kK/\(a == lE)=false/\∃vs,KV kvs vs/\h.DictOf (qQ P w) a vs :=
 show rV P w H h a (.dK kvs) from Sr ok e
theorem Ot{kvs:List (pQ×V)}(ok:AL P w H h) (e:H a=some (.dK kvs)):kvs.length<=kK/\(a == lE)=false/\∃vs,KV kvs vs/\h.DictOf (qQ P w) a vs:=EF ok (.inl e)
theorem FQ{ks:List pQ}(ok:AL P w H h) (e:H a=some (.tup (ks.map kV))):(nQ (qQ P w)).is h ks a:=by
 obtain⟨_,its,r,o,h1,h2,n,h3⟩:=(show rV P w H h a (.tup (ks.map kV)) from ok a _ e)
 exact⟨o,its.toArray,n,h1,h2,h3,by simpa using EC r⟩
theorem HP{kvs:List (List pQ×V)}(ok:AL P w H h) (e:Rd H a (.dT kvs)):kvs.length<=kK/\(a == lE)=false /\
  ∃xs,KT H kvs xs/\h.DictOfH (nQ (qQ P w)) a xs:=by
 obtain⟨z,y,xs,r,o,es,ep,h1,h2,h3,h4,h5⟩:=(show rV P w H h a (.dT kvs) from Sr ok e)
 refine⟨z,y,xs,r,o,es,ep,h1,h2,h3,h4,λx hx=>?_,h5⟩
 have all:∀{l:List (List pQ×V)}{m:List (List pQ×Addr×Value)},KT H l m->∀x∈m,(nQ (qQ P w)).is h x.1 x.2.1:=by
  intro l m q
  induction q with
  |nil=>intro x hx;exact nomatch hx
  | @cons p q ps qs hq t ih =>
   intro x hx;rcases ae.mp hx with e|hx
   .subst e;exact FQ ok (by rw[←hq.1];exact hq.2.1)
   .exact ih x hx
 exact all r x hx
theorem Vz{kvs:List (List pQ×V)}(ok:AL P w H h) (e:H a=some (.dT kvs)):kvs.length<=kK/\(a == lE)=false /\
  ∃xs,KT H kvs xs/\h.DictOfH (nQ (qQ P w)) a xs:=HP ok (.inl e)
end
def C3(H:Hp) (a:Addr) (y:V) (r:Option V):Prop :=
 (∃kvs k,Rd H a (.dK kvs)/\y=kV k/\r=vo kvs k)∨∃kvs k b,Rd H a (.dT kvs)/\y = .ref b/\H b=some (.tup (k.map kV))/\r=vo kvs k
def Ov(H:Hp) (a:Addr) (y v:V) (H':Hp):Prop :=
 (∃kvs k,H a=some (.dK kvs)/\y=kV k/\kvs.length<kK/\H'=rK H a (.dK (yW kvs k v))) ∨
 ∃kvs k b,H a=some (.dT kvs)/\y = .ref b/\H b=some (.tup (k.map kV))/\kvs.length<kK/\H'=rK H a (.dT (yW kvs k v))
theorem C3.k{H:Hp}{a:Addr}{kvs:List (pQ×V)}{k:pQ}(e:H a=some (.dK kvs)):C3 H a (kV k) (vo kvs k):=.inl ⟨kvs,k,.inl e,rfl,rfl⟩
theorem Ov.k{H:Hp}{a:Addr}{kvs:List (pQ×V)}{k:pQ}{v:V}(e:H a=some (.dK kvs)) (hl:kvs.length<kK):Ov H a (kV k) v (rK H a (.dK (yW kvs k v))):=.inl ⟨kvs,k,e,rfl,hl,rfl⟩
section
variable {X:Cx}{oV:List (Addr×Obj)}{σ:St}{H:Hp}{s:Shared}{a:Addr}{y v:V}{u r:Value}{o:Option V}{A:Around}{E:Value->Shared->Prop}
theorem Inv.big(I:Inv X oV σ H s):lE<s.heap.objs.size:=by
 have h:kM<s.heap.objs.size:=(I.mod.glob.keeps I.bk).lt;exact jD (by decide) h
theorem Lm{Q:Value->Shared->Prop}(hu:A.units+1<lZ) (I:Inv X oV σ H s) (g:C3 H a y (some v)) (ry:qN y u) (h:∀w' s',Inv X oV σ H s'->qN v w'->Q w' s') :
  kJ (kG X.prog X.w) A (nX (.ref a) u) Q E s:=by
 rcases g with ⟨kvs,k,e,ey,l⟩|⟨kvs,k,b,e,ey,eb,l⟩
 .subst ey;obtain⟨z,hd,vs,rel,dd⟩:=EF I.hok e;obtain⟨w',hw,rw'⟩:=A3.some_of (v:=v) (o:=lQ vs k) (by rw[l];exact rel.val k)
  exact wpAny_getItem_of (Fd ry) dd.mapOf hw (h w' _ (I.tok _) rw')
 .subst ey;cases (show u=bZ b from ry)
  obtain⟨z,hd,xs,rel,dd⟩:=HP I.hok e;obtain⟨w',hw,rw'⟩:=A3.some_of (v:=v) (o:=(nR xs k).map (·.2)) (by rw[l];exact rel.val k)
  obtain⟨p,hp,hp2⟩:=oMq.mp hw;refine wpAny_getItem_heap (mZ hu) (FQ I.hok eb) dd hp ?_;rw[hp2];exact h w' _ (I.tok _) rw'
theorem Sa{Q:Value->Shared->Prop}(hu:A.units+1<lZ) (I:Inv X oV σ H s) (g:C3 H a y o) (ry:qN y u) (h:∀s',Inv X oV σ H s'->Q (.bool (!o.isSome)) s') :
  kJ (kG X.prog X.w) A (lz .NotIn u (.ref a)) Q E s:=by
 rcases g with ⟨kvs,k,e,ey,l⟩|⟨kvs,k,b,e,ey,eb,l⟩
 .subst ey;obtain⟨z,hd,vs,rel,dd⟩:=EF I.hok e;refine wpAny_notIn_of (Fd ry) hd dd.mapOf ?_;rw[← (rel.val k).isSome_eq,←l];exact h _ (I.tok _)
 .subst ey;cases (show u=bZ b from ry)
  obtain⟨z,hd,xs,rel,dd⟩:=HP I.hok e;refine wpAny_notIn_heap (mZ hu) (FQ I.hok eb) hd dd ?_;have q:=(rel.val k).isSome_eq;rw[fZ]at q;rw[←q,←l];exact h _ (I.tok _)
theorem Cu{h':Heap}{t':Nat}{ob:HO}(I:Inv X oV σ H s) (mu:Wn (H a)) (hs:cO a s.heap h') (he:∃q,h'.get? a=some q) (new:rV X.prog X.w (rK H a ob) h' a ob) :
  Inv X oV σ (rK H a ob) { s with heap:=h',toks:=t' } :=
 I.write (x:=a) (e:=a) mu (.inl rfl) (λb q hb z=>(hs.2 b hb).trans z) he new
theorem JI{P:kL}{w:kN}{H':Hp}{h':Heap}{kvs:List (pQ×V)}{vs:List (pQ×Value)}(z:kvs.length<=kK) (hd:(a == lE)=false) (rel:KV kvs vs) (dd:h'.DictOf (qQ P w) a vs) :
  rV P w H' h' a (.dK kvs):=⟨z,hd,vs,rel,dd⟩
theorem K8{H':Hp}{Q:Unit->Shared->Prop}(hu:A.units+1<lZ) (I:Inv X oV σ H s) (g:Ov H a y v H') (ry:qN y u) (rv:qN v r) (h:∀s',Inv X oV σ H' s'->Q () s') :
  kJ (kG X.prog X.w) A (setItem (.ref a) u r) Q E s:=by
 rcases g with ⟨kvs,k,e,ey,l,eH⟩|⟨kvs,k,b,e,ey,eb,l,eH⟩
 .subst ey eH;obtain⟨z,hd,vs,rel,dd⟩:=Ot I.hok e;have hz:vs.length<=kK:=by rw[←rel.length];exact z
  have hl:(yW kvs k v).length<=kK:=by have:=zc kvs k v;lia
  refine wpAny_setItem_pairs (hsz:=hz) (Fd ry) dd λh' dd' hs=>h _ ?_
  have he:∃q,h'.get? a=some q:=let ⟨q,_,_,hq,_⟩:=dd';⟨q,hq⟩
  exact Cu I (by rw[e];exact True.intro) hs he (JI hl hd (rel.put k rv) dd')
 .subst ey eH;cases (show u=bZ b from ry)
  obtain⟨z,hd,xs,rel,dd⟩:=Vz I.hok e;have hz:xs.length<=kK:=by rw[←Paired.length rel];exact z
  have hl:(yW kvs k v).length<=kK:=by have:=zc kvs k v;lia
  refine wpAny_setItem_heap (hsz:=hz) (mZ hu) (FQ I.hok eb) dd λh' dd' hs=>h _ ?_
  obtain⟨q,es,ep,hq,h2,h3,h4,_,h5⟩:=dd';refine Cu I (by rw[e];exact True.intro) hs ⟨q,hq⟩ ⟨hl,hd,_,(rel.put k eb rv).keeps λc ys ec=>?_,q,es,ep,hq,h2,h3,h4,h5⟩
  rw[pS (Vx ec e (λz=>nomatch z))]
  exact ec
end
section
variable {X:Cx}{oV:List (Addr×Obj)}{σ:St}{H:Hp}{s:Shared}{a:Addr}{kvs:List (pQ×V)}{k:pQ}{u:Value}{A:Around}{E:Value->Shared->Prop}
theorem VY{Q:Value->Shared->Prop}(I:Inv X oV σ H s) (e:Rd H a (.dK kvs)) (h:∀t s',Inv X oV σ H s'->Q (.int kvs.length t) s'):kJ (kG X.prog X.w) A (call (.builtin "len") [.ref a]) Q E s:=by
 obtain⟨z,hd,vs,rel,dd⟩:=EF I.hok e;refine call_len_dict hd dd (by rw[←rel.length];rw[lK]at z;lia) ?_
 rw[←rel.length];exact h _ _ (I.tok _)
end
def Wp(i:Expr):Prop:=∀ov iv,nT i false ov iv=operate [ov,iv] (nX ov iv)
theorem R9{prog:kL}{w:kN}{A:Around}{E:Value->Shared->Prop}{s:Shared}{env:Env}{value slice:Expr}{pos:Pos}{T id:String}{Q:Value->Shared->Prop}
  (hl:typeLookup (.type T) "__getitem__" = pure (some (.builtin id))) (hs:Wp slice)
  (h:kJ (kG prog w) A (eval value env) (λo s₁=>kJ (kG prog w) A (eval slice env) (λi s₂=>s₂.TypeIs o T/\kJ (kG prog w) A (nX o i) Q E s₂) E s₁) E s) :
  kJ (kG prog w) A (eval (.Subscript value slice pos) env) Q E s:=by
 refine Subscript_ (kR h (λo s₁ h₁=>kR h₁ (λi s₂ h₂=>?_) λ_ _ x=>x) λ_ _ x=>x)
 obtain⟨hT,h₂⟩:=h₂;unfold oe;refine kC ?_;rw[getitemInPython_of_ne hT.not_modules];refine kC (wpAny_specialOf hT hl ?_);have fin:kJ (kG prog w) A (nT slice false o i) (λr s₃=>kJ (kG prog w) A (letTemporaryGo value o r >>= λ_=>pure r) Q E s₃) E s₂:=by
  rw[hs o i];exact wpAny_operating (kR h₂ (λr s₃ h₃=>kC (wpAny_letTemporaryGo (kH h₃))) λ_ _ x=>x)
 first
  |exact kH (kC fin)
  |exact kC (kH (kC fin))
  |exact kC fin
theorem GM{X:Cx}{oV:List (Addr×Obj)}{σ:St}{H:Hp}{s:Shared}{a:Addr}{y:V}{o:Option V}(I:Inv X oV σ H s) (g:C3 H a y o):s.TypeIs (.ref a) "dict" := by
 rcases g with ⟨kvs,k,e,_,_⟩|⟨kvs,k,b,e,_,_,_⟩
 .obtain ⟨_,_,vs,_,dd⟩:=EF I.hok e;exact dd.typeIs
 .obtain ⟨_,_,xs,_,dd⟩:=HP I.hok e;exact dd.typeIs
def Po(td ty:TE):TE:=λσ H Q=>td σ H λx H1=>ty σ H1 λy H2=>∃a v,x = .ref a/\C3 H2 a y (some v)/\Q v H2
def Kn(ty td:TE):TE:=λσ H Q=>ty σ H λy H1=>td σ H1 λx H2=>∃a o,x = .ref a/\C3 H2 a y o/\Q (.bl (!o.isSome)) H2
def Sv(td ty tv:TE):TS:=λD σ H=>tv σ H λv H1=>td σ H1 λx H2=>ty σ H2 λy H3=>∃a H4,x = .ref a/\Ov H3 a y v H4/\D.nx σ H4
section
variable {X:Cx}{o i e value:Expr}{pos pos' tpos:Pos}{td ty tv:TE}
theorem yO(hu:X.A.units+1<lZ) (ho:PE X o td) (hi:PE X i ty) (hs:Wp i):PE X (.Subscript o i pos) (Po td ty):=by
 intro oV s σ H Q I h;refine R9 PySem.F.slot_dict_getitem.lookup hs (thn (ho oV s σ H _ I h) λu s1 ⟨x,H1,I1,rx,q1⟩=>thn (hi oV s1 σ H1 _ I1 q1) λiv s2 ⟨y,H2,I2,ry,a,v,ex,g,q2⟩=>?_)
 subst ex;obtain rfl:u=bZ a:=rx;exact⟨GM I2 g,Lm hu I2 g ry λw' s3 I3 rw'=>⟨v,H2,I3,rw',q2⟩⟩
theorem Fb(hu:X.A.units+1<lZ) (hi:PE X i ty) (ho:PE X o td):PC X .NotIn i o (Kn ty td):=by
 intro oV s σ H Q I h;refine thn (hi oV s σ H _ I h) λiv s1 ⟨y,H1,I1,ry,q1⟩=>thn (ho oV s1 σ H1 _ I1 q1) λu s2 ⟨x,H2,I2,rx,a,ov,ex,g,q2⟩=>?_
 subst ex;obtain rfl:u=bZ a:=rx;exact Sa hu I2 g ry λs3 I3=>⟨.bl (!ov.isSome),H2,I3,rfl,q2⟩
theorem Aa(hu:X.A.units+1<lZ) (ho:PE X o td) (hi:PE X i ty) (hv:PE X value tv) (hs:oh value (some (.Subscript o i pos')) pos.line X.env=pure false) :
  PS X (.Assign [.Subscript o i pos'] value pos) (Sv td ty tv):=by
 intro oV s σ H D I h;refine wpAny_Assign_Subscript (thn (hv oV s σ H _ I h) λr s1 ⟨v,H1,I1,rv,q1⟩=>thn (ho oV s1 σ H1 _ I1 q1) λu s2 ⟨x,H2,I2,rx,q2⟩=>thn (hi oV s2 σ H2 _ I2 q2) λiv s3 ⟨y,H3,I3,ry,a,H4,ex,g,q3⟩=>?_) hs
 subst ex;obtain rfl:u=bZ a:=rx;exact K8 hu I3 g ry rv λs4 I4=>⟨σ,H4,I4,q3⟩
end
theorem GP{P:kL}{w:kN}{H:Hp}(h:Heap) (hb:lE<h.objs.size):rV P w H (h.push { cls:=.type "dict", data:=.dict #[] }) h.objs.size (.dK []) :=
 ⟨bq _,beq_eq_false_iff_ne.mpr (Ne.symm (aL hb)),[],.nil,il.new h⟩
def OO:TE:=λ_ H Q=>∀p,H p=none->Q (.ref p) (rK H p (.dK []))
section
variable {X:Cx}{pos:Pos}
theorem zD:PE X (.Dict [] [] pos) OO:=λoV s σ H Q I h =>
 wpAny_Dict_empty ⟨.ref s.heap.objs.size,_,I.laid (a:=s.heap.objs.size) (o:=.dK []) (t':=s.toks) (λ_ _ q=>au _ q) (aj _) (GP s.heap I.big),rfl,h _ (I.hok.fresh (aj _))⟩
end
def JK:List (TE×TE)->St->Hp->(List (V×V)->Hp->Prop)->Prop
 | [],_,H,Q=>Q [] H
 | (tk,tv)::r,σ,H,Q=>tk σ H λx H1=>tv σ H1 λy H2=>JK r σ H2 λps H3=>Q ((x,y)::ps) H3
abbrev VV:List (V×V)->List (Value×Value)->Prop:=Paired λp q=>qN p.1 q.1/\qN p.2 q.2
def WQ(X:Cx) (pos:Pos) (keys:List (Option Expr)) (values:List Expr) (trs:List (TE×TE)):Prop :=
 ∀(oV:List (Addr×Obj)) (s:Shared) (σ:St) (H:Hp) (Q:List (V×V)->Hp->Prop),Inv X oV σ H s->JK trs σ H Q ->
  kJ (kG X.prog X.w) X.A (evalPairs (pairTrees keys values X.env pos)) (λvs s'=>∃ps H',Inv X oV σ H' s'/\VV ps vs/\Q ps H') X.xe s
theorem Rk{X:Cx}{pos:Pos}:WQ X pos [] [] []:=λoV s σ H Q I h=>pairTrees_nil_walk ⟨[],H,I,.nil,h⟩
theorem M4{X:Cx}{pos:Pos}{k v:Expr}{ks:List (Option Expr)}{vs:List Expr}{tk tv:TE}{trs:List (TE×TE)}(hk:PE X k tk) (hv:PE X v tv) (hr:WQ X pos ks vs trs) :
  WQ X pos (some k::ks) (v::vs) ((tk,tv)::trs):=λoV s σ H Q I h =>
 pairTrees_cons_walk (thn (hk oV s σ H _ I h) λu s1 ⟨x,H1,I1,rx,q1⟩=>thn (hv oV s1 σ H1 _ I1 q1) λw2 s2 ⟨y,H2,I2,ry,q2⟩ =>
  thn (hr oV s2 σ H2 _ I2 q2) λws s3 ⟨ps,H3,I3,rel,q3⟩=>⟨(x,y)::ps,H3,I3,.cons ⟨rx,ry⟩ rel,q3⟩)
def Bs(kvs more:List (pQ×V)):List (pQ×V):=more.foldl (λacc kv=>yW acc kv.1 kv.2) kvs
theorem KV.merge:∀{more:List (pQ×V)}{rs:List (pQ×Value)}{kvs:List (pQ×V)}{vs:List (pQ×Value)},KV more rs->KV kvs vs->KV (Bs kvs more) (merged vs rs):=by
 intro more rs kvs vs r;unfold KV at r
 induction r generalizing kvs vs with
 |nil=>intro q;exact q
 | @cons p q ps qs h t ih =>
  intro r0;have e:KV (yW kvs p.1 p.2) (stored vs q.1 q.2):=by
   have:=r0.put p.1 h.2;rw[←h.1];exact this
  exact ih e
theorem Aj:∀(more kvs:List (pQ×V)),(Bs kvs more).length<=kvs.length+more.length
 | [],kvs=>by show kvs.length<=kvs.length+0;lia
 |p::r,kvs=>by
  have h1:=Aj r (yW kvs p.1 p.2);have h2:=zc kvs p.1 p.2;show (Bs (yW kvs p.1 p.2) r).length<=_;rw[lCq];lia
theorem Ec{P:kL}{w:kN}:∀{kvs:List (pQ×V)}{ws:List (Value×Value)},VV (kvs.map λkv=>(kV kv.1,kv.2)) ws->∃rs,Carries (qQ P w) ws rs/\KV kvs rs
 | [],_,r=>by rw[fm]at r;cases r;exact⟨[],True.intro,.nil⟩
 |p::kvs,_,r=>by
  rw[ar]at r;cases r with
  | @cons a b as bs h t =>
   obtain⟨rs,c,q⟩:=Ec (P:=P) (w:=w) t;obtain⟨b1,b2⟩:=b;exact⟨(p.1,b2)::rs,⟨Fd h.1,rfl,c⟩,.cons ⟨rfl,h.2⟩ q⟩
def SN(trs:List (TE×TE)):TE:=λσ H Q=>∀p,H p=none->JK trs σ (rK H p (.dK [])) λps H2=>H2 p=some (.dK [])/\∃kvs:List (pQ×V),ps=kvs.map (λkv=>(kV kv.1,kv.2))/\kvs.length<=15/\Q (.ref p) (rK H2 p (.dK (Bs [] kvs)))
theorem Q0{X:Cx}{pos:Pos}{keys:List (Option Expr)}{values:List Expr}{trs:List (TE×TE)}(h:WQ X pos keys values trs) (hall:keys.all (·.isSome)=true) (hl:keys.length=values.length) (h0:keys≠[])
  (h15:keys.length<=15):PE X (.Dict keys values pos) (SN trs):=by
 intro oV s σ H Q I q;have hn:=I.hok.fresh (aj s.heap.objs.size);have I1:=I.laid (a:=s.heap.objs.size) (o:=.dK []) (h':=s.heap.push { cls:=.type "dict", data:=.dict #[] }) (t':=s.toks) (λ_ _ q=>au _ q) (aj _) (GP s.heap I.big)
 refine wpAny_Dict_walk (knd:=qQ X.prog X.w) hall hl h0 h15 (thn (h oV _ σ _ _ I1 (q _ hn)) λws s2 ⟨ps,H2,I2,rel,e,kvs,ep,lk,q2⟩=>?_)
 subst ep;obtain⟨rs,c,rk⟩:=Ec (P:=X.prog) (w:=X.w) rel;obtain⟨z,hd,vs0,r0,dd⟩:=Ot I2.hok e;cases r0;refine⟨rs,c,dd,λh' dd' hs=>⟨.ref s.heap.objs.size,_,?_,rfl,q2⟩⟩
 have hz:(Bs [] kvs).length<=kK:=by
  have h1:=Aj kvs [];rw[eZ]at h1;rw[lK];lia
 have he:∃q,h'.get? s.heap.objs.size=some q:=let ⟨q,_,_,hq,_⟩:=dd';⟨q,hq⟩
 exact Cu I2 (by rw[e];exact True.intro) hs he (JI hz hd (rk.merge .nil) dd')
structure M2 (X:Cx) (o:Expr) (m:Str) (apos:Pos) (e f:Expr) (cpos:Pos):Prop where
 base:nq o m X.env (eval o X.env)=eval o X.env
 few:((mG cpos (kP [e,f] X.env)).all (λx=>!x.1) && (backToKw cpos (keywordEach [] X.env)).all (λx=>x.1.isSome)
  && decide (([e,f]:List Expr).length+([]:List Keyword).length+(if ([]:List Keyword).isEmpty then 0 else 1)<30))=true
 line:(apos.endLine == cpos.line)=true
 trees:mG cpos (kP [e,f] X.env)=[(false,eval e X.env),(false,eval f X.env)]
def X8(H:Hp) (a:Addr):Prop:=(∃kvs,Rd H a (.dK kvs))∨∃kvs,Rd H a (.dT kvs)
theorem NJ{X:Cx}{oV:List (Addr×Obj)}{σ:St}{H:Hp}{s:Shared}{a:Addr}(I:Inv X oV σ H s) (d:X8 H a) :
  s.TypeIs (.ref a) "dict" /\ (∀b,bZ a = .ref b->∃ob,s.heap.get? b=some ob/\ob.dict=none)/\(a == lE)=false:=by
 rcases d with ⟨kvs,e⟩|⟨kvs,e⟩
 .obtain ⟨_,hd,vs,_,dd⟩:=EF I.hok e;refine⟨dd.typeIs,λb q=>?_,hd⟩
  cases q;obtain⟨ob,_,_,h1,h2,_⟩:=dd;exact⟨ob,h1,h2.2.1⟩
 .obtain ⟨_,hd,xs,_,dd⟩:=HP I.hok e;refine⟨dd.typeIs,λb q=>?_,hd⟩
  cases q;obtain⟨ob,_,_,h1,h2,_⟩:=dd;exact⟨ob,h1,h2.2.1⟩
end L2
namespace Att
open PySem PySem.W PySem.Calls PyProof.Rows
theorem Cr{P:Params}{h:Heap}:∀(ns:List Int) (vs:List Value),WellAll P h vs (ns.map WData.int)->kS vs ns:=by
 intro ns
 induction ns with
 |nil =>
  intro vs w;rw[fm]at w;cases w;exact .nil
 |cons n ns ih =>
  intro vs w;rw[ar]at w;cases w with
  |cons a b =>
   cases a;exact .cons _ _ (ih _ b)
theorem Mg{l:OpenLaw}{n:Nat}(hn:l.most=some n) {P:Params}{h:Heap}{args:List WData}{vals:List Value}
  (hpre:l.row.toRowW.claim.pre args=true) (hwl:WellAll P h vals args) :
  ∃a vs ns,vals=[bZ a]/\args=[WData.list (ns.map WData.int)]/\h.get? a=some { cls:=.type "list", data:=.seq vs.toArray }/\kS vs ns/\ns.length<=n:=by
 have hsh:WShape.hasAll [] args [.list .int]=true:=(pre_splitW hpre).1;have hc:l.pre.holds [] { args:=args }=true:=(pre_splitW hpre).2;obtain⟨d,r,rfl,h1,h2⟩:=hasAllW_cons hsh;obtain rfl:=hasAllW_nil h2;obtain⟨xs,rfl,h3⟩:=hasW_list h1;obtain⟨ns,rfl⟩:=items_int h3;have hlen:ns.length<=n:=by
  unfold OpenLaw.pre at hc;have h4:(WTm.not (.lt (.lit (.int (n:Int))) (.len (.arg 0)))).holds [] { args:=[.list (ns.map .int)] }=true:=by
   have h4:=(holds_andW hc).1;rw[hn]at h4;exact h4
  have h5:=condW_of h4 (w_not (w_lt w_lit (w_len_list (w_arg rfl))));rw[lMq]at h5;refine jP λq=>?_
  have q':(n:Int)<((ns.length:Nat):Int):=by lia
  first
   | (rw[decide_eq_true q']at h5;exact absurd h5 (by decide))
   | (simp at h5;lia)
 cases hwl with
 |cons w1 w2 =>
  cases w2;cases w1 with
  |list ho hall=>exact⟨_,_,ns,rfl,rfl,ho,Cr ns _ hall,hlen⟩
theorem Lr(l:OpenLaw) (args:List WData):l.row.toRowW.claim.post args (.bool true) args=true :=
 postW_of (r:=l.row.toRowW) (X:=(true == true))
  (show WShape.has [] (.bool true) .bool=true by first|rfl|decide|simp[WShape.has,WShape.arms,WShape.armsAll])
  (show (WTm.eq .res (.lit (.bool true))).value [] { args:=args,res:=some (.bool true),after:=args }=some (.bool (true == true)) from w_eq_bool (w_res rfl) w_lit) rfl
theorem G7{l:OpenLaw}{n:Nat}{q:kL}{loose:List Str}{XP:(Str->Option Value)->Heap->Prop}{YP:kN->Heap->Prop}{d:DefRec}
  (hn:l.most=some n) (hdf:d.params.defaults=[])
  (call:∀(w:kN) (s₀ s₁:Shared) (mg mb:Str->Option Value) (fa:Addr) (o:Obj) (pm cd doc:Value) (a:Addr) (vs:List Value) (ns:List Int),
   Ground q loose [] XP w s₀ mg mb s₁.heap->YP w s₁.heap ->
   s₁.heap.get? fa=some o->o.data = .func (docDef d.name d.params d.body d.scope pm cd doc)->s₁.heap.CodeRec cd d.name->mg d.name=some (.ref fa) ->
   s₁.heap.get? a=some { cls:=.type "list", data:=.seq vs.toArray }->kS vs ns->ns.length<=n->s₁.gens=#[] ->
   mO (kG l.prog w) nE (.call (.ref fa) ⟨[.ref a],[]⟩) (λr s'=>r = .ok (.ret (.bool true))/\OldK s₁.heap s'.heap/\s'.os=s₁.os/\mP s'.gens) s₁) :
  WalkO q loose XP YP l.row.toRowW d [] (λf vs=>PySem.call f vs):=by
 intro w s₀ s₁ mg mb G Y fa o pm cd doc dV kV ho hd hcd hD hmg hg args vals as hpre hlay hrd hwl hlo;obtain rfl:dV = .none:=Dflts.none hD hdf;obtain rfl:kV = .none:=Dflts.noKw hD;obtain⟨a,vs,ns,rfl,rfl,hobj,hints,hlen⟩:=Mg hn hpre hwl;refine enter_call (mT (call w s₀ s₁ mg mb fa o pm cd doc a vs ns G Y ho (fd_plain hd) hcd hmg hobj hints hlen hg) λr s' hq=>?_)
 obtain⟨rfl,h2,h3,h4⟩:=hq;exact⟨.inl ⟨.bool true,.bool true,[],rfl,λ_=>rfl,.bool true,Lr l _,λ_=>⟨aZ.nil,λ_ hm=>(nomatch hm)⟩⟩,h2,h3,h4⟩
end Att
namespace L2
open PySem PySem.Spec PyProof.Rows
theorem vals_ints:∀{vs:List Value}{ns:List Int},kS vs ns->qv (ns.map V.int) vs
 |_,_,.nil=>.nil
 |_,_,.cons n t h=>.cons ⟨t,rfl⟩ (vals_ints h)
def U5(H:Hp):Prop:=∀b,H b=none∨∃o xs,H b=some (.frz o (.lst xs))
theorem P5{P:kL}{w:kN}{K:W.Frag}{mg mb:Str->Option Value}{CX:P4}{k:Nat}{fa a:Addr}{fd:kT}{x:Str}{sp:Sp}{s₁:Shared}{vs:List Value}{ns:List Int}
  (KX:K.In s₁.heap) (hns:s₁.heap.Ns kM mg) (hb:s₁.heap.Ns builtinsNs mb) (hbb:∀x:Str,x ≠ "__name__" -> mb x=mD x) (hlim:s₁.heap.NoLimit) (hg:s₁.gens=#[])
  (ha:s₁.heap.get? a=some { cls:=.type "list", data:=.seq vs.toArray }) (hi:kS vs ns) (hl:ns.length<=kK) (hr:wY k nE)
  (F:∀base:Heap,K.In base->base.Ns kM mg->Co P w K mg base CX k fa fd [x] sp) (hbind:∀(s:Shared) (u:Value),nY s fd ⟨[u],[]⟩ [(x,u)])
  (hsp:∀H:Hp,U5 H->tJ K H a (ns.map V.int)->sp [.ref a] H (λv _=>v = .bl true) λ_ _ _=>False)
  (hCX:∀H e s',CX [] H s₁ (λ_ _ _=>False) e s'->False) :
  mO (kG P w) nE (.call (.ref fa) ⟨[.ref a],[]⟩) (λr s'=>r = .ok (.ret (.bool true))/\OldK s₁.heap s'.heap/\s'.os=s₁.os/\mP s'.gens) s₁:=by
 have rv:=vals_ints hi;have lenV:=hi.length;have core:∀H:Hp,U5 H->tJ K H a (ns.map V.int)->AL P w H s₁.heap->(∀b,H b≠none->b=a)->(H a≠none->K.lookup a=none) ->
   mO (kG P w) nE (.call (.ref fa) ⟨[.ref a],[]⟩) (λr s'=>r = .ok (.ret (.bool true))/\OldK s₁.heap s'.heap/\s'.os=s₁.os/\mP s'.gens) s₁:=by
  intro H hO hS hok hA hK;have base_of:∀{b:Addr}{o:Obj},s₁.heap.get? b=some o->H b=none->(Gv s₁.heap H).get? b=some o:=λe n=>Pz e n
  have noA:∀{b:Addr}{o:Obj}{es:Array DictEntry}{ep:Nat},s₁.heap.get? b=some o->o.data = .dict es ep->H b=none:=λ{b o es ep} e d=>by
   cases q:H b with
   |none=>rfl
   |some u =>
    have e':b=a:=hA b (by rw[q];simp)
    subst e';rw[ha]at e;cases e;have d':Data.seq vs.toArray _=Data.dict es ep:=d;cases d'
  have nsK:∀{b:Addr}{m:Str->Option Value},s₁.heap.Ns b m->(Gv s₁.heap H).Ns b m:=λ{b m} ⟨o,es,ep,e,d,r⟩=>⟨o,es,ep,base_of e (noA e d),d,r⟩
  have hKb:K.In (Gv s₁.heap H):=λb o e=>base_of (KX b o e) (by
   cases q:H b with
   |none=>rfl
   |some u =>
    have e':b=a:=hA b (by rw[q];simp)
    subst e';rw[hK (by rw[q];simp)]at e;cases e)
  have hM:Mod K mg (Gv s₁.heap H):=⟨hKb,nsK hns,⟨mb,nsK hb,hbb⟩,let ⟨mc,h1,h2⟩:=hlim;⟨mc,nsK h1,h2⟩⟩
  have e0:Rb P w K mg (Gv s₁.heap H) nE [] s₁ H:=⟨rfl,hM,λb o e=>Q7 e,gT (Mm _ _),trivial,λb hb=>absurd (show b∈([]:List Addr) from hb) (by simp),hok,.of_eq hg⟩
  refine mT ((F _ hKb (nsK hns)).run nE [] s₁ H ⟨[.ref a],[]⟩ [.ref a] [.ref a] _ _ hr e0 (hbind s₁ (.ref a)) (.cons rfl .nil) (hsp H hO hS)) λr s' h=>?_
  cases r with
  |error e=>exact(hCX H e s' h).elim
  |ok fl =>
   cases fl with
   |next=>exact False.elim h
   |brk=>exact False.elim h
   |cont=>exact False.elim h
   |ret u =>
    obtain⟨v,H',os,bare,un,hok',r',q⟩:=h;have q':v = .bl true:=q;subst q';obtain rfl:u=gW true:=r';refine⟨rfl,OldK.of_keep λb o e=>?_,os,bare⟩
    cases q:H b with
    |none=>exact un.keep b o e q (by intro z;exact absurd (show b∈([]:List Addr) from z) (by simp)) (by simp)
    |some u =>
     rcases hO b with z|⟨ob,xs,z⟩
     .rw [q]at z;cases z
     .have z2:=un.frzs b ob _ z;obtain⟨e1,_⟩:=hok b _ z;obtain⟨e2,_⟩:=hok' b _ z2;rw[e]at e1;cases e1;exact e2
 cases hk:K.lookup a with
 |some o =>
  have e:=KX a o hk;rw[ha]at e;cases e;refine core (λ_=>none) (λ_=>.inl rfl) (.inr ⟨_,vs.toArray,_,hk,rfl,rfl,rfl,by rw[aS,lenV];exact hl,by simpa using rv⟩) (λb u z=>by have z':(none:Option HO)=some u:=z;cases z') (λb z=>absurd rfl z) λz=>absurd rfl z
 |none =>
  refine core (λb=>if b=a then some (.frz { cls:=.type "list", data:=.seq vs.toArray } (.lst (ns.map V.int))) else none) (λb=>?_) (.inl (.inr ⟨{ cls:=.type "list", data:=.seq vs.toArray },qe rfl⟩)) (λb u z=>?_) (λb z=>?_) λ_=>hk
  .by_cases hb:b=a
   .exact .inr ⟨_,_,qe hb⟩
   .exact .inl (pV hb)
  .by_cases hb:b=a
   .have z':=(qe hb).symm.trans z;cases z';subst hb;exact⟨ha,by rw[lMq];exact hl,vs,_,rv,ha⟩
   .have z':=(pV hb).symm.trans z;cases z'
  .by_cases hb:b=a
   .exact hb
   .exact absurd (pV hb) z
theorem RF{l:W.OpenLaw}{n k:Nat}{q:kL}{loose:List Str}{XP:(Str->Option Value)->Heap->Prop}{YP:kN->Heap->Prop}{d:DefRec}{K:Params->W.Frag}{CX:kN->P4}{sp:kN->Sp}{x:Str}
  (hn:l.most=some n) (hn2:n<=kK) (hdf:d.params.defaults=[]) (hr:wY k nE)
  (hY:∀(w:kN) (h:Heap),YP w h->(K w.params).In h)
  (F:∀(w:kN) (mg:Str->Option Value) (fa:Addr) (h:Heap),(K w.params).In h->h.Ns kM mg->mg d.name=some (.ref fa) ->
   ∃fd:kT,(∀(s:Shared) (u:Value),nY s fd ⟨[u],[]⟩ [(x,u)]) /\
    ∀base:Heap,(K w.params).In base->base.Ns kM mg->Co l.prog w (K w.params) mg base (CX w) k fa fd [x] (sp w))
  (hsp:∀(w:kN) (H:Hp) (a:Addr) (ns:List Int),ns.length<=n->U5 H->tJ (K w.params) H a (ns.map V.int)->sp w [.ref a] H (λv _=>v = .bl true) λ_ _ _=>False)
  (hCX:∀(w:kN) (H:Hp) (s:Shared) (e:Value) (s':Shared),CX w [] H s (λ_ _ _=>False) e s'->False) :
  W.WalkO q loose XP YP l.row.toRowW d [] (λf vs=>PySem.call f vs):=by
 refine Att.G7 hn hdf λw s₀ s₁ mg mb fa o pm cd doc a vs ns G Y ho hd hcd hmg hobj hints hlen hg=>?_
 have KX:=hY w _ Y;obtain⟨fd,hb,hF⟩:=F w mg fa _ KX G.T.g hmg;exact P5 KX G.T.g G.T.b G.T.builtins G.T.nolimit hg hobj hints (cE hlen hn2) hr hF hb (λH hO hS=>hsp w H a ns hlen hO hS) λH e s'=>hCX w H s₁ e s'
def wt(s:Stmt):Arguments:=match s with
 | .FunctionDef _ a _ _ _ _ _ _ _ _=>a
 |_=>{ posonlyargs:=[],args:=[],vararg:=none,kwonlyargs:=[],kw_defaults:=[],kwarg:=none,defaults:=[] }
def vN(s:Stmt):List Stmt:=match s with
 | .FunctionDef _ _ b _ _ _ _ _ _ _=>b
 |_=>[]
def qd(s:Stmt):mH:=match s with
 | .FunctionDef _ _ _ _ _ _ sc _ _ _=>sc
 |_=>{ kind:=.function,names:=[],isGenerator:=false,isCoroutine:=false }
abbrev Ti:P4:=λ_ _ _ _ _ _=>False
abbrev E0:XK:=λ_ _ _=>False
theorem WG{X:Cx}:Jf Ti X E0:=λ_ _ _ _ _ _ _ h=>h.elim
structure S9 (K:W.Frag) (x qual:Str) (st:Stmt) (f:Addr) (fd:kT):Prop where
 ex:∃(oc:Value) (od:Option Addr) (kV doc pm:Value) (an:Option Addr) (vW ct:Value) (osl:Array (Option Value)),
  fd=W.fnOf x qual (wt st) (vN st) (qd st) .none kV doc pm an vW ct/\K.lookup f=some ⟨oc,od,.func fd,osl⟩/\W.codeIn K vW qual=true
 kp:W.keepIn K (.ref f)=true
section
variable {P:kL}{w:kN}{K:W.Frag}{mg:Str->Option Value}{base:Heap}
theorem S9.ok{x qual:Str}{st:Stmt}{f:Addr}{fd:kT}{N ps:List Str}{k:Nat}{sp:Sp}(F:S9 K x qual st f fd) (S:qT N ps (qd st)) (len:∀vs H Q E,sp vs H Q E->vs.length=ps.length)
  (hbody:∀(vW:Value) (A:Around) (outer:List Env) (s:Shared) (H:Hp) (vs:List V) (Q:VK) (E:XK),wY k (A.deeper (nh qual (qd st) s.heap.objs.size f vW))->sp vs H Q E ->
   ∃t,Lx (Lc Ti P w K mg base N qual (qd st) f vW A outer s H E).nox (vN st) t/\t { nx:=λ_ H'=>Q .non H',rt:=Q } (yV N vs) H):Co P w K mg base Ti (k+1) f fd ps sp:=by
 obtain⟨oc,od,kV,doc,pm,an,vW,ct,osl,rfl,lk,hcd⟩:=F.ex;refine WE lk hcd S len λA outer s H vs Q E hr hsp=>?_
 obtain⟨t,h,q⟩:=hbody vW A outer s H vs Q E hr hsp;exact⟨t,h.nox,q⟩
theorem S9.binds{x qual:Str}{st:Stmt}{f:Addr}{fd:kT}{ps:List Str}(F:S9 K x qual st f fd)
  (h:∀(kV doc pm:Value) (an:Option Addr) (vW ct:Value) (us:List Value),us.length=ps.length->bindArgs (W.fnOf x qual (wt st) (vN st) (qd st) .none kV doc pm an vW ct) ⟨us,[]⟩=pure (ps.zip us)):Ae K fd ps []:=by
 obtain⟨oc,od,kV,doc,pm,an,vW,ct,osl,rfl,lk,hcd⟩:=F.ex;exact .all (h kV doc pm an vW ct)
theorem JA{x qual:Str}{st:Stmt}{f:Addr}{oc:Value}{od an:Option Addr}{osl:Array (Option Value)}{kV doc pm vW ct:Value}(l:K.lookup f=some ⟨oc,od,.func (W.fnOf x qual (wt st) (vN st) (qd st) .none kV doc pm an vW ct),osl⟩)
  (c:W.codeIn K vW qual=true) (k:W.keepIn K (.ref f)=true):S9 K x qual st f (W.fnOf x qual (wt st) (vN st) (qd st) .none kV doc pm an vW ct):=⟨⟨oc,od,kV,doc,pm,an,vW,ct,osl,rfl,l,c⟩,k⟩
end
theorem wF{A:Around}{k:Nat}(hr:wY k A):A.units+1<lZ:=Nat.lt_of_le_of_lt (Nat.add_le_add_left (by decide:1<=64) _) hr.units
section
variable {X:Cx}
theorem pv(i:Nat) {x:Str}{pos:Pos}(hN:X.N[i]?=some x:=by rfl) (hv:Xc X.env.scope x:=by trivial) (hd:(x == ("__debug__" : Str))=false:=by decide)
  (hcd:(x == ("__classdict__" : Str))=false:=by decide):PE X (.Name x pos) (xi i):=UK hN hv hd hcd
end
theorem GK{A B:Prop}(h:B):if false=true then A else B:=by
 rw[pV aK];exact h
theorem GF{A B:Prop}(h:A):if true=true then A else B:=by
 rw[qe rfl];exact h
def qB(H H':Hp):Prop:=∀b o,H b=some o->H' b=some o
theorem qB.refl(H:Hp):qB H H:=λ_ _ h=>h
theorem qB.trans{H H1 H2:Hp}(a:qB H H1) (b:qB H1 H2):qB H H2:=λc o h=>b c o (a c o h)
theorem qB.free{H H':Hp}(e:qB H H') {l:Addr}(h:H' l=kq):H l=kq:=by
 cases q:H l with
 |none=>rfl
 |some o =>
  rw[e l o q]at h;cases h
theorem qB.seq{K:W.Frag}{H H':Hp}{a:Addr}{xs:List V}(e:qB H H') (h:tJ K H a xs):tJ K H' a xs:=by
 rcases h with (h|⟨o,h⟩)|h
 .exact .inl (.inl (e _ _ h))
 .exact .inl (.inr ⟨o,e _ _ h⟩)
 .exact .inr h
section
variable {X:Cx}
theorem Lv:xw X (.builtin "len") (λxs H Q=>∃a kvs,xs=[V.ref a]/\H a=some (.dK kvs)/\Q (.int kvs.length) H):=by
 intro oV s σ H xs us Q I r h;obtain⟨a,kvs,rfl,ha,q⟩:=h;obtain⟨u,rfl,ru⟩:=xl r;cases ru;exact VY I (.inl ha) λt s' I'=>⟨.int kvs.length,H,I',⟨t,rfl⟩,q⟩
end
end L2
namespace Mr
def cell(ns:List Int) (k:Nat):Int:=ns.getD k 0
def qS(ns:List Int):Nat->Nat
 |0=>0
 |k+1=>if ns.getD k 0<ns.getD (qS ns k) 0 then k else qS ns k
def rot(ns:List Int) (i:Nat):List Int:=ns.drop i++ns.take i
def good(ns:List Int):List Int:=rot ns (qS ns ns.length)
theorem wq(ns:List Int):∀n,(0<n->qS ns n<n)/\(∀j,j<n->ns.getD (qS ns n) 0<=ns.getD j 0)/\(∀j,j<qS ns n->ns.getD (qS ns n) 0<ns.getD j 0)
 |0=>⟨λh=>absurd h (eI _),λj h=>absurd h (dA _),λj h=>absurd h (dA _)⟩
 |n+1=>by
  obtain⟨h1,h2,h3⟩:=wq ns n;simp only[qS]
  by_cases c:ns.getD n 0<ns.getD (qS ns n) 0
  .rw [qe c];refine⟨λ_=>fA n,λj hj=>?_,λj hj=>?_⟩
   .rcases fK (jI hj) with q|q
    .have:=h2 j q;lia
    .subst q;exact ip _
   .have:=h2 j hj;lia
  .rw [pV c];refine⟨λ_=>?_,λj hj=>?_,h3⟩
   .by_cases hn:0<n
    .exact cu (h1 hn)
    .have:n=0:=by lia
     subst this;exact fA 0
   .rcases fK (jI hj) with q|q
    .exact h2 j q
    .subst q;lia
theorem Jz(ns:List Int):qS ns ns.length<=ns.length:=by
 by_cases h:0<ns.length
 .exact cZ ((wq ns ns.length).1 h)
 .have:ns.length=0:=by lia
  rw[this];exact aj 0
theorem xv{ns:List Int}{j:Nat}(h:j<ns.length):ns.getD j 0=ns[j]:=by
 rw[gDq,gEg h];rfl
theorem B8{ns:List Int}{M:Int}(hm:M∈ns) (hl:∀a,a∈ns->M<=a):ns.idxOf M=qS ns ns.length:=by
 have h0:0<ns.length:=gu hm;obtain⟨h1,h2,h3⟩:=wq ns ns.length;have h1:=h1 h0;have hi:ns.idxOf M<ns.length:=iF.mpr hm;have e:ns.getD (ns.idxOf M) 0=M:=by rw[xv hi];exact jz hi
 have eL:ns.getD (qS ns ns.length) 0=M:=by
  have q1:=h2 _ hi;rw[e]at q1;have q2:=hl _ (by rw[xv h1];exact gRq h1:ns.getD (qS ns ns.length) 0∈ns)
  lia
 rcases iw (ns.idxOf M) (qS ns ns.length) with q|q|q
 .have:=h3 _ q;lia
 .exact q
 .exfalso;have:=List.not_of_lt_findIdx (p:=(· == M)) (xs:=ns) (i:=qS ns ns.length) (by simpa [List.idxOf] using q)
  rw[xv h1]at eL;simp[eL]at this
theorem N7:good []=[]:=rfl
theorem IE(ns:List Int) (i:Nat):(rot ns i).length=ns.length:=by
 unfold rot;rw[lAq,aJ,lTq];lia
theorem Hy(ns:List Int):(good ns).length=ns.length:=IE _ _
def step(ns:List Int):Int:=if 0<cell ns 0 % 3 then cell ns 0 % 10 ^ 40+1 else 1
def VR(ns:List Int):Int:=if 0<cell ns 1 % 3 then cell ns 1 % 10 ^ 40 else 0
def SY(ns:List Int) (k:Int):Int:=step ns*(((1+cell ns 1 / 3 % 66)*k+cell ns 0 / 3 % 67) % 67+1)+VR ns
def V5(ns:List Int) (k:Int):Int:=if cell ns 1 % 5=4 then 10 ^ 60-SY ns k else SY ns k
theorem Ax{A B:List Int}{m:Int}(h:∀x,x∈A->m<x) (h2:∀x,x∈B->m<=x):good (A++m::B)=m::B++A:=by
 have hm:m∈A++m::B:=by simp
 have hl:∀a,a∈A++m::B->m<=a:=λa ha=>by
  rcases mAq.mp ha with q|q
  .exact gU (h a q)
  .rcases ae.mp q with rfl|q
   .exact ip _
   .exact h2 a q
 have e:=B8 hm hl;have ei:(A++m::B).idxOf m=A.length:=by
  rw[List.idxOf_append,pV (λq=>absurd (h m q) (Int.lt_irrefl m)),List.idxOf_cons_self,cF]
 unfold good rot;rw[←e,ei,List.drop_left,List.take_left]
theorem Hs{t:List Int}(h0:t≠[]) (hn:t.Nodup):∃A m B,t=A++m::B/\(∀x,x∈A->m<x)/\∀x,x∈B->m<x:=by
 have hl:0<t.length:=dJ.mpr h0;obtain⟨h1,h2,h3⟩:=wq t t.length;have h1:=h1 hl;refine⟨t.take (qS t t.length),t[qS t t.length],t.drop (qS t t.length+1),?_,?_,?_⟩
 .rw [←aT h1,aY]
 .intro x hx;obtain⟨j,hj,rfl⟩:=List.mem_take_iff_getElem.mp hx;have:=h3 j (by lia)
  rw[xv h1,xv (by lia)]at this
  exact this
 .intro x hx;obtain⟨j,hj,rfl⟩:=List.mem_drop_iff_getElem.mp hx;have a:=h2 (qS t t.length+1+j) (by lia)
  rw[xv h1,xv (by lia)]at a
  have ne:t[qS t t.length]≠t[qS t t.length+1+j]:=cj.mp hn _ _ h1 (by lia) (by lia)
  lia
theorem NN{t:List Int}(hn:t.Nodup) (i:Nat):good (rot t i)=good t:=by
 by_cases h0:t=[]
 .subst h0;simp[rot]
 .obtain ⟨A,m,B,rfl,h1,h2⟩:=Hs h0 hn;rw[Ax h1 (λx q=>gU (h2 x q))]
  by_cases c:i<=A.length
  .have e:rot (A++m::B) i=A.drop i++m::(B++A.take i):=by
    unfold rot;rw[List.drop_append_of_le_length c,List.take_append_of_le_length c];simp
   rw[e,Ax (λx q=>h1 x (bE q)) (λx q=>?_)]
   .simp
   .rcases mAq.mp q with q|q
    .exact gU (h2 x q)
    .exact gU (h1 x (bU q))
  .have hi:A.length<i:=by lia
   obtain⟨j,rfl⟩:∃j,i=A.length+(j+1):=⟨i-A.length-1,by lia⟩
   have e:rot (A++m::B) (A.length+(j+1))=(B.drop j++A)++m::B.take j:=by
    unfold rot;rw[jQ,List.take_append];simp[dS,cX]
   rw[e,Ax (λx q=>?_) (λx q=>gU (h2 x (bU q)))]
   .rw [cL,cL,←ai,aY]
   .rcases mAq.mp q with q|q
    .exact h2 x (bE q)
    .exact h1 x q
theorem rot_perm(t:List Int) (i:Nat):(rot t i).Perm t:=by
 unfold rot;exact aF.trans (by rw[aY])
theorem rJ(t:List Int):(good t).Perm t:=rot_perm t _
theorem qb{rs ts:List (List Int)}(h:rs.Perm ts):rs.flatten.Perm ts.flatten:=by
 induction h with
 |nil=>exact .refl _
 |cons x _ ih=>rw[fCq,fCq];exact aU.append (.refl x) ih
 |swap x y l =>
  rw[fCq,fCq,fCq,fCq,←ai,←ai];exact aU.append aF (.refl _)
 |trans _ _ a b=>exact a.trans b
theorem rq{f:List Int->List Int}(hf:∀r,(f r).Perm r):∀rs:List (List Int),(rs.map f).flatten.Perm rs.flatten
 | []=>.refl _
 |r::rs=>by
  rw[ar,fCq,fCq];exact aU.append (hf r) (rq hf rs)
theorem zi{rs:List (List Int)}{r:List Int}(hr:r∈rs):r.length<=rs.flatten.length:=(aO hr).length_le
def Wj(r:List Int) (i:Nat) (e:Int):List Int:=r.take i++[e]++r.drop i
def YR(ts:List (List Int)) (a:Nat) (f:Nat->Nat) (e:Int):List (List Int):=ts.set a (Wj (ts.getD a []) (f (ts.getD a []).length) e)
theorem Kd:∀t:Fin 66,∀d:Fin 67,0<d.val->(t.val+1)*d.val % 67≠0:=by decide +kernel
end Mr
namespace MrS
open PySem PyProof.Rows
def xx:Bool->kz->Array kz->Nat->Nat->Nat->StateT SortSt Sem (Option Nat):=sortPriv% PySem.Builtin.gallop
structure zR (prog:kL) (w:kN) (A:Around) (s:Shared) (κ:lr) (P:kz->Prop) (lt:kz->kz->Bool):Prop where
 ask:∀x y,P x->P y->∀(E:Value->Shared->Prop) (Q:Bool->Shared->Prop),Q (lt x y) s->kJ (kG prog w) A (keyLt' κ x.1 y.1) Q E s
 asym:∀x y,P x->P y->lt x y=true->lt y x=false
 trans:∀x y z,P x->P y->P z->lt y x=false->lt z y=false->lt z x=false
section
variable {prog:kL}{w:kN}{A:Around}{E:Value->Shared->Prop}{s:Shared}{κ:lr}{P:kz->Prop}{lt:kz->kz->Bool}
theorem zR.refl(C:zR prog w A s κ P lt) {x:kz}(hx:P x):lt x x=false:=by
 cases e:lt x x with
 |false=>rfl
 |true=>rw[←C.asym x x hx hx e,e]
theorem zR.cmp(C:zR prog w A s κ P lt) {x y:kz}{st:SortSt}{Q:Option Bool->SortSt->Prop}(hx:P x) (hy:P y) (hk:kindOf st=κ) (h:Q (some (lt x y)) st) :
  wpS (kG prog w) A E s (lt' x y) Q st:=by
 rw[lt'_eq];refine kE (mq ?_);rw[hk];refine kE (wpS_lift (wpAny_attempt (C.ask x y hx hy _ _ ⟨rfl,?_⟩)));exact kF h
theorem qw{arr:Array kz}{i:Nat}{x:kz}{st:SortSt}{Q:kz->SortSt->Prop}(hx:arr[i]?=some x) (h:Q x st):wpS (kG prog w) A E s (lC arr i) Q st:=by
 rw[elem'_eq,hx];exact kF h
theorem zR.at(C:zR prog w A s κ P lt) {i j:Nat}{x y:kz}{st:SortSt}{Q:Option Bool->SortSt->Prop}(hi:(kO st)[i]?=some x) (hj:(kO st)[j]?=some y) (hx:P x) (hy:P y) (hk:kindOf st=κ) (h:Q (some (lt x y)) st) :
  wpS (kG prog w) A E s (ltAt' i j) Q st:=by
 rw[ltAt'_eq];refine kE (mq ?_);exact kE (qw hi (kE (qw hj (C.cmp hx hy hk h))))
def yr(lt:kz->kz->Bool) (left:Bool) (key:kz) (arr:Array kz) (base i:Nat):Bool :=
 if left then lt (arr.getD (base+i) key) key else !lt key (arr.getD (base+i) key)
theorem Jr(left:Bool) (key:kz) (arr:Array kz) (base n hint:Nat):xx left key arr base n hint=(do
 let beyond (i:Nat):StateT SortSt Sem (Option Bool):=do
  let x ←lC arr (base+i)
  if left then lt' x key else return (←lt' key x).map (!·)
 let mut lastofs:=0
 let mut ofs:=1
 let mut lo:=0
 let mut hi:=0
 let some right ←beyond hint|return none
 if right then
  let maxofs:=n-hint
  for _ in [0:n] do
   if ofs ≥ maxofs then break
   let some more ←beyond (hint+ofs)|return none
   if !more then break
   lastofs:=ofs
   ofs:=2*ofs+1
  lo:=hint+lastofs+1
  hi:=hint+min ofs maxofs
 else
  let maxofs:=hint+1
  for _ in [0:n] do
   if ofs ≥ maxofs then break
   let some found ←beyond (hint-ofs)|return none
   if found then break
   lastofs:=ofs
   ofs:=2*ofs+1
  lo:=hint+1-min ofs maxofs
  hi:=hint-lastofs
 for _ in [0:n] do
  if lo ≥ hi then break
  let m:=lo+(hi-lo) / 2
  let some more ←beyond m|return none
  if more then lo:=m+1 else hi:=m
 return some hi):=rfl
theorem wU(C:zR prog w A s κ P lt) {left:Bool}{key:kz}{arr:Array kz}{base i:Nat}{st:SortSt}{Q:Option Bool->SortSt->Prop}(hi:base+i<arr.size) (ha:∀x,x∈arr->P x) (hkey:P key) (hk:kindOf st=κ)
  (h:Q (some (yr lt left key arr base i)) st):wpS (kG prog w) A E s (do
   let x ←lC arr (base+i)
   if left=true then lt' x key else do
    let __x ←lt' key x
    pure (__x.map (!·))) Q st:=by
 have e:arr[base+i]?=some arr[base+i]:=ak hi;have e2:arr.getD (base+i) key=arr[base+i]:=by simp[iI,hi]
 refine kE (qw e ?_);have hp:P arr[base+i]:=ha _ (bu hi);unfold yr at h;rw[e2]at h;cases left with
 |true =>
  rw[qe rfl]at h ⊢;exact C.cmp hp hkey hk h
 |false =>
  rw[pV (by decide)]at h ⊢
  exact kE (C.cmp hkey hp hk (kF h))
theorem B2{left:Bool}{key:kz}{arr:Array kz}{base n lo hi:Nat}{st:SortSt}{f:Nat->Option (Option Nat)×Nat×Nat->StateT SortSt Sem (ForInStep (Option (Option Nat)×Nat×Nat))}
  (mono:∀i j,i<=j->j<n->yr lt left key arr base j=true->yr lt left key arr base i=true)
  (down:∀i j,i<=j->j<n->yr lt left key arr base i=false->yr lt left key arr base j=false)
  (hf:∀(i l u:Nat) (Q':ForInStep (Option (Option Nat)×Nat×Nat)->SortSt->Prop),u<=n->(u<=l->Q' (.done (none,l,u)) st)->(l<u->yr lt left key arr base (l+(u-l) / 2)=true->Q' (.yield (none,l+(u-l) / 2+1,u)) st) ->
   (l<u->yr lt left key arr base (l+(u-l) / 2)=false->Q' (.yield (none,l,l+(u-l) / 2)) st)->wpS (kG prog w) A E s (f i (none,l,u)) Q' st)
  (h1:lo<=hi) (h2:hi<=n) (h3:∀j,j<lo->yr lt left key arr base j=true) (h4:∀j,hi<=j->j<n->yr lt left key arr base j=false) :
  wpS (kG prog w) A E s (forIn [:n] ((none,lo,hi):Option (Option Nat)×Nat×Nat) f)
   (λc st'=>∃k,c=(none,k,k)/\st'=st/\k<=n/\(∀j,j<k->yr lt left key arr base j=true)/\(∀j,k<=j->j<n->yr lt left key arr base j=false)) st:=by
 refine kX
  (I:=λi c st'=>∃l u,c=(none,l,u)/\st'=st/\l<=u/\u<=n/\(∀j,j<l->yr lt left key arr base j=true)/\(∀j,u<=j->j<n->yr lt left key arr base j=false)/\(u-l)+i<=n)
  ?step ?fin ⟨lo,hi,rfl,rfl,h1,h2,h3,h4,by lia⟩
 case step =>
  rintro i c st' _ hi' ⟨l,u,rfl,rfl,a1,a2,a3,a4,a5⟩;refine hf i l u _ a2 (λc1=>?_) (λc1 e=>?_) (λc1 e=>?_)
  .have e:l=u:=by lia
   subst e;exact⟨l,rfl,rfl,a2,a3,a4⟩
  .exact ⟨_,u,rfl,rfl,by lia,a2,λj hj=>mono j _ (by lia) (by lia) e,a4,by lia⟩
  .exact ⟨l,_,rfl,rfl,by lia,by lia,a3,λj hj hn=>down _ j hj hn e,by lia⟩
 case fin =>
  rintro c st' ⟨l,u,rfl,rfl,a1,a2,a3,a4,a5⟩;have e:l=u:=by lia
  subst e;exact⟨l,rfl,rfl,a2,a3,a4⟩
theorem vB(C:zR prog w A s κ P lt) {left:Bool}{key:kz}{arr:Array kz}{base n hint:Nat}{st:SortSt}{Q:Option Nat->SortSt->Prop}(hh:hint<n) (hb:base+n<=arr.size) (ha:∀x,x∈arr->P x) (hkey:P key) (hk:kindOf st=κ)
  (mono:∀i j,i<=j->j<n->yr lt left key arr base j=true->yr lt left key arr base i=true)
  (h:∀k,k<=n->(∀j,j<k->yr lt left key arr base j=true)->(∀j,k<=j->j<n->yr lt left key arr base j=false)->Q (some k) st) :
  wpS (kG prog w) A E s (xx left key arr base n hint) Q st:=by
 have down:∀i j,i<=j->j<n->yr lt left key arr base i=false->yr lt left key arr base j=false:=λi j hij hj e=>by
  cases q:yr lt left key arr base j with
  |false=>rfl
  |true=>rw[mono i j hij hj q]at e;cases e
 rw[Jr];dsimp only;refine kE (wU C (base:=base) (i:=hint) (by lia) ha hkey hk ?_)
 cases er:yr lt left key arr base hint with
 |true =>
  dsimp only;rw[qe rfl];refine kE (lj (kX
   (I:=λi c st'=>∃l o,c=(none,l,o)/\st'=st/\l<o/\i+1<=o/\hint+l<n/\yr lt left key arr base (hint+l)=true)
   (Q:=λc st'=>∃l o,c=(none,l,o)/\st'=st/\l<o/\hint+l<n/\yr lt left key arr base (hint+l)=true/\(n-hint<=o∨(hint+o<n/\yr lt left key arr base (hint+o)=false)))
   ?step ?fin ⟨0,1,rfl,rfl,by lia,by lia,by lia,er⟩) ?post)
  case step =>
   rintro i c st' _ hi' ⟨l,o,rfl,rfl,a1,a2,a3,a4⟩;dsimp only
   by_cases c1:o ≥ n-hint
   .rw [qe c1];exact kF ⟨l,o,rfl,rfl,a1,a3,a4,.inl c1⟩
   .rw [pV c1];refine kE (wU C (base:=base) (i:=hint+o) (by lia) ha hkey hk ?_)
    cases e:yr lt left key arr base (hint+o) with
    |true =>
     dsimp only;rw[pV (by decide)]
     exact kF ⟨o,_,rfl,rfl,by lia,by lia,by lia,e⟩
    |false =>
     dsimp only;rw[qe (by decide)]
     exact kF ⟨l,o,rfl,rfl,a1,a3,a4,.inr ⟨by lia,e⟩⟩
  case fin =>
   rintro c st' ⟨l,o,rfl,rfl,a1,a2,a3,a4⟩;exact⟨l,o,rfl,rfl,a1,a3,a4,.inl (by lia)⟩
  case post =>
   rintro c st' ⟨l,o,rfl,rfl,a1,a3,a4,a5⟩;dsimp only;refine kE (lj (B2 (lt:=lt) (left:=left) (key:=key) (arr:=arr) (base:=base) mono down (λi l' u' Q' hu q1 q2 q3=>?_) (by lia) (by lia) (λj hj=>mono j _ (by lia) a3 a4) ?_) ?_)
   .dsimp only
    by_cases c1:l' ≥ u'
    .rw [qe c1];exact kF (q1 c1)
    .rw [pV c1];refine kE (wU C (base:=base) (i:=l'+(u'-l') / 2) (by lia) ha hkey hk ?_)
     cases e:yr lt left key arr base (l'+(u'-l') / 2) with
     |true =>
      dsimp only;rw[qe rfl];exact kF (q2 (by lia) e)
     |false =>
      dsimp only;rw[pV (by decide)]
      exact kF (q3 (by lia) e)
   .intro j hj hn;rcases a5 with a5|⟨a5,a6⟩
    .lia
    .exact down (hint+o) j (by lia) hn a6
   .rintro c st' ⟨k,rfl,rfl,k1,k2,k3⟩;exact kF (h k k1 k2 k3)
 |false =>
  dsimp only;rw[pV (by decide)]
  refine kE (lj (kX
   (I:=λi c st'=>∃l o,c=(none,l,o)/\st'=st/\l<o/\i+1<=o/\l<=hint/\yr lt left key arr base (hint-l)=false)
   (Q:=λc st'=>∃l o,c=(none,l,o)/\st'=st/\l<o/\l<=hint/\yr lt left key arr base (hint-l)=false/\(hint+1<=o∨(o<=hint/\yr lt left key arr base (hint-o)=true)))
   ?step ?fin ⟨0,1,rfl,rfl,by lia,by lia,by lia,er⟩) ?post)
  case step =>
   rintro i c st' _ hi' ⟨l,o,rfl,rfl,a1,a2,a3,a4⟩;dsimp only
   by_cases c1:o ≥ hint+1
   .rw [qe c1];exact kF ⟨l,o,rfl,rfl,a1,a3,a4,.inl c1⟩
   .rw [pV c1];refine kE (wU C (base:=base) (i:=hint-o) (by lia) ha hkey hk ?_)
    cases e:yr lt left key arr base (hint-o) with
    |true =>
     dsimp only;rw[qe rfl];exact kF ⟨l,o,rfl,rfl,a1,a3,a4,.inr ⟨by lia,e⟩⟩
    |false =>
     dsimp only;rw[pV (by decide)]
     exact kF ⟨o,_,rfl,rfl,by lia,by lia,by lia,e⟩
  case fin =>
   rintro c st' ⟨l,o,rfl,rfl,a1,a2,a3,a4⟩;exact⟨l,o,rfl,rfl,a1,a3,a4,.inl (by lia)⟩
  case post =>
   rintro c st' ⟨l,o,rfl,rfl,a1,a3,a4,a5⟩;dsimp only;refine kE (lj (B2 (lt:=lt) (left:=left) (key:=key) (arr:=arr) (base:=base) mono down (λi l' u' Q' hu q1 q2 q3=>?_) (by lia) (by lia) ?_ (λj hj hn=>down _ j hj hn a4)) ?_)
   .dsimp only
    by_cases c1:l' ≥ u'
    .rw [qe c1];exact kF (q1 c1)
    .rw [pV c1];refine kE (wU C (base:=base) (i:=l'+(u'-l') / 2) (by lia) ha hkey hk ?_)
     cases e:yr lt left key arr base (l'+(u'-l') / 2) with
     |true =>
      dsimp only;rw[qe rfl];exact kF (q2 (by lia) e)
     |false =>
      dsimp only;rw[pV (by decide)]
      exact kF (q3 (by lia) e)
   .intro j hj;rcases a5 with a5|⟨a5,a6⟩
    .lia
    .exact mono j (hint-o) (by lia) (by lia) a6
   .rintro c st' ⟨k,rfl,rfl,k1,k2,k3⟩;exact kF (h k k1 k2 k3)
end
abbrev yJ(lt:kz->kz->Bool) (l:List kz):Prop:=l.Pairwise λx y=>lt y x=false
structure MI (lt:kz->kz->Bool) (a b out:Array kz) (ia ib:Nat):Prop where
 la:ia<=a.size
 lb:ib<=b.size
 pm:(out.toList++(a.toList.drop ia++b.toList.drop ib)).Perm (a.toList++b.toList)
 so:yJ lt out.toList
 ua:∀x∈out.toList,∀y∈a.toList.drop ia,lt y x=false
 ub:∀x∈out.toList,∀y∈b.toList.drop ib,lt y x=false
section
variable {lt:kz->kz->Bool}{a b out out':Array kz}{ia ib k:Nat}
theorem MI.congr(m:MI lt a b out ia ib) (e:out'.toList=out.toList):MI lt a b out' ia ib:=⟨m.la,m.lb,by rw[e];exact m.pm,by rw[e];exact m.so,by rw[e];exact m.ua,by rw[e];exact m.ub⟩
theorem Hg(l:List kz) (i k:Nat):l.drop i=(l.drop i).take k++l.drop (i+k):=by
 rw[←List.drop_drop,aY]
theorem yu(a:Array kz) (i k:Nat):(a.extract i (i+k)).toList=(a.toList.drop i).take k:=by
 rw[gP,fE,fO]
theorem MI.moreA(m:MI lt a b out ia ib) (sa:yJ lt a.toList) (hk:ia+k<=a.size) (h:∀x∈(a.toList.drop ia).take k,∀y∈b.toList.drop ib,lt y x=false):MI lt a b (out++a.extract ia (ia+k)) (ia+k) ib:=by
 have e:(out++a.extract ia (ia+k)).toList=out.toList++(a.toList.drop ia).take k:=by rw[aR,yu]
 have sd:yJ lt (a.toList.drop ia):=sa.sublist (cv _ _);have c:=Hg a.toList ia k;have sd2:=sd;rw[c]at sd2;obtain⟨q1,q2,q3⟩:=aN.mp sd2;refine⟨hk,m.lb,?_,?_,?_,?_⟩
 .rw [e,ai];refine(aU.append_left _ ?_).trans m.pm;rw[←ai,←c]
 .rw [e];exact aN.mpr ⟨m.so,q1,λx hx y hy=>m.ua x hx y (bU hy)⟩
 .rw [e];intro x hx y hy;rcases mAq.mp hx with hx|hx
  .exact m.ua x hx y (by rw[c];exact ag _ hy)
  .exact q3 x hx y hy
 .rw [e];intro x hx y hy;rcases mAq.mp hx with hx|hx
  .exact m.ub x hx y hy
  .exact h x hx y hy
theorem MI.moreB(m:MI lt a b out ia ib) (sb:yJ lt b.toList) (hk:ib+k<=b.size) (h:∀x∈(b.toList.drop ib).take k,∀y∈a.toList.drop ia,lt y x=false):MI lt a b (out++b.extract ib (ib+k)) ia (ib+k):=by
 have e:(out++b.extract ib (ib+k)).toList=out.toList++(b.toList.drop ib).take k:=by rw[aR,yu]
 have sd:yJ lt (b.toList.drop ib):=sb.sublist (cv _ _);have c:=Hg b.toList ib k;have sd2:=sd;rw[c]at sd2;obtain⟨q1,q2,q3⟩:=aN.mp sd2;refine⟨m.la,hk,?_,?_,?_,?_⟩
 .rw [e,ai];refine(aU.append_left _ ?_).trans m.pm;refine((ie _ _ _).trans ?_);rw[←c]
 .rw [e];exact aN.mpr ⟨m.so,q1,λx hx y hy=>m.ub x hx y (bU hy)⟩
 .rw [e];intro x hx y hy;rcases mAq.mp hx with hx|hx
  .exact m.ua x hx y hy
  .exact h x hx y hy
 .rw [e];intro x hx y hy;rcases mAq.mp hx with hx|hx
  .exact m.ub x hx y (by rw[c];exact ag _ hy)
  .exact q3 x hx y hy
theorem yv{l:List kz}{i:Nat}{x:kz}(h:l[i]?=some x):(l.drop i).take 1=[x]:=by
 obtain⟨hi,e⟩:=gSq.mp h;rw[aT hi,e];rfl
theorem MI.pushA{x:kz}(m:MI lt a b out ia ib) (sa:yJ lt a.toList) (hx:a[ia]?=some x) (h:∀y∈b.toList.drop ib,lt y x=false):MI lt a b (out.push x) (ia+1) ib:=by
 have hi:ia<a.size:=(bg.mp hx).1;have hx':a.toList[ia]?=some x:=by rw[ay];exact hx
 refine(m.moreA sa (k:=1) hi λz hz y hy=>?_).congr ?_
 .rw [yv hx',mSq]at hz;rw[hz];exact h y hy
 .rw [dB,aR,yu,yv hx']
theorem MI.pushB{x:kz}(m:MI lt a b out ia ib) (sb:yJ lt b.toList) (hx:b[ib]?=some x) (h:∀y∈a.toList.drop ia,lt y x=false):MI lt a b (out.push x) ia (ib+1):=by
 have hi:ib<b.size:=(bg.mp hx).1;have hx':b.toList[ib]?=some x:=by rw[ay];exact hx
 refine(m.moreB sb (k:=1) hi λz hz y hy=>?_).congr ?_
 .rw [yv hx',mSq]at hz;rw[hz];exact h y hy
 .rw [dB,aR,yu,yv hx']
structure Qq (lt:kz->kz->Bool) (a b r:Array kz):Prop where
 pm:r.toList.Perm (a.toList++b.toList)
 so:yJ lt r.toList
theorem yc(a:Array kz) (i:Nat):(a.extract i a.size).toList=a.toList.drop i:=by
 rw[gP,fE];exact cX (by rw[aJ,aw];exact aj _)
theorem MI.endB(m:MI lt a b out ia ib) (sa:yJ lt a.toList) (e:ib=b.size):Qq lt a b (out++a.extract ia a.size++b.extract ib b.size):=by
 have eb:b.toList.drop ib=[]:=by rw[e,←aw,dU]
 have et:(out++a.extract ia a.size++b.extract ib b.size).toList=out.toList++a.toList.drop ia:=by
  rw[aR,aR,yc,yc,eb,aNq]
 have pm:=m.pm;rw[eb,aNq]at pm;exact⟨by rw[et];exact pm,by rw[et];exact aN.mpr ⟨m.so,sa.sublist (cv _ _),m.ua⟩⟩
theorem MI.endA(m:MI lt a b out ia ib) (sb:yJ lt b.toList) (e:ia=a.size):Qq lt a b (out++a.extract ia a.size++b.extract ib b.size):=by
 have ea:a.toList.drop ia=[]:=by rw[e,←aw,dU]
 have et:(out++a.extract ia a.size++b.extract ib b.size).toList=out.toList++b.toList.drop ib:=by
  rw[aR,aR,yc,yc,ea,aNq]
 have pm:=m.pm;rw[ea,dC]at pm;exact⟨by rw[et];exact pm,by rw[et];exact aN.mpr ⟨m.so,sb.sublist (cv _ _),m.ub⟩⟩
theorem MI.lastA(m:MI lt a b out ia ib) (sa:yJ lt a.toList) (sb:yJ lt b.toList) (h:∀x∈b.toList.drop ib,∀y∈a.toList.drop ia,lt y x=false):Qq lt a b (out++b.extract ib b.size++a.extract ia a.size):=by
 have et:(out++b.extract ib b.size++a.extract ia a.size).toList=out.toList++(b.toList.drop ib++a.toList.drop ia):=by
  rw[aR,aR,yc,yc,ai]
 refine⟨?_,?_⟩
 .rw [et];exact(aU.append_left _ aF).trans m.pm
 .rw [et];refine aN.mpr ⟨m.so,aN.mpr ⟨sb.sublist (cv _ _),sa.sublist (cv _ _),h⟩,λx hx y hy=>?_⟩
  rcases mAq.mp hy with hy|hy
  .exact m.ub x hx y hy
  .exact m.ua x hx y hy
end
def DL:Array kz->Array kz->StateT SortSt Sem (Array kz):=sortPriv% PySem.Builtin.mergeLo
def tO:Nat->StateT SortSt Sem Unit:=sortPriv% PySem.Builtin.setMinGallop
abbrev sg(st:SortSt) (g:Nat):SortSt:=SortSt.mk' (kindOf st) (kO st) (lY st) g (failedOf st)
theorem BI(g:Nat):tO g=modify λst=>sg st g:=rfl
section
variable (a b:Array kz)
abbrev dn(o:Array kz) (i j:Nat):=o++a.extract i a.size++b.extract j b.size
abbrev lA(o:Array kz) (i j:Nat):=o++b.extract j b.size++a.extract i a.size
abbrev SF(α:Type):=ForInStep (Option (Array kz)×Array kz×Nat×Nat×α)
def Xb(o:Array kz) (i j m k l:Nat):StateT SortSt Sem (SF (Nat×Nat×Nat)):=do
 let x ←lC a i
 if i+1+1 == a.size then pure (.done (some (lA a b (o.push x) (i+1) j),o.push x,i+1,j,m,k,l))
 else if decide (k<7) && decide (l<7) then pure (.done (none,o.push x,i+1,j,m,k,l))
 else pure (.yield (none,o.push x,i+1,j,m,k,l))
def W4(o:Array kz) (i j m k q:Nat):StateT SortSt Sem (SF (Nat×Nat×Nat)):=do
 let x ←lC b j
 if j+1 == b.size then pure (.done (some (dn a b (o.push x) i (j+1)),o.push x,i,j+1,m,k,q))
 else do
  let y ←lC a i
  match ←xx true y b (j+1) (b.size-(j+1)) 0 with
  |some l =>
   if l>0 then
    if j+1+l == b.size then pure (.done (some (dn a b (o.push x++b.extract (j+1) (j+1+l)) i (j+1+l)),o.push x++b.extract (j+1) (j+1+l),i,j+1+l,m,k,l))
    else Xb a b (o.push x++b.extract (j+1) (j+1+l)) i (j+1+l) m k l
   else Xb a b (o.push x) i (j+1) m k l
  |_=>pure (.done (some (dn a b (o.push x) i (j+1)),o.push x,i,j+1,m,k,q))
def Xt(o:Array kz) (i j m p q:Nat):StateT SortSt Sem (SF (Nat×Nat×Nat)):=do
 tO m
 let x ←lC b j
 match ←xx false x a i (a.size-i) 0 with
 |some k =>
  if k>0 then
   if i+k+1 == a.size then pure (.done (some (lA a b (o++a.extract i (i+k)) (i+k) j),o++a.extract i (i+k),i+k,j,m,k,q))
   else if i+k == a.size then pure (.done (some (dn a b (o++a.extract i (i+k)) (i+k) j),o++a.extract i (i+k),i+k,j,m,k,q))
   else W4 a b (o++a.extract i (i+k)) (i+k) j m k q
  else W4 a b o i j m k q
 |_=>pure (.done (some (dn a b o i j),o,i,j,m,p,q))
def Yg(m:Nat) (o:Array kz) (i j p q:Nat):StateT SortSt Sem (SF (Nat×Nat)):=do
 let y ←lC b j
 let x ←lC a i
 match ←lt' y x with
 |some c =>
  if c then do
   let z ←lC b j
   if j+1 == b.size then pure (.done (some (dn a b (o.push z) i (j+1)),o.push z,i,j+1,0,q+1))
   else if q+1 ≥ m then pure (.done (none,o.push z,i,j+1,0,q+1))
   else pure (.yield (none,o.push z,i,j+1,0,q+1))
  else do
   let z ←lC a i
   if i+1+1 == a.size then pure (.done (some (lA a b (o.push z) (i+1) j),o.push z,i+1,j,p+1,0))
   else if p+1 ≥ m then pure (.done (none,o.push z,i+1,j,p+1,0))
   else pure (.yield (none,o.push z,i+1,j,p+1,0))
 |_=>pure (.done (some (dn a b o i j),o,i,j,p,q))
def Yb(o:Array kz) (i j m:Nat):StateT SortSt Sem (SF Nat):=do
 let r ←forIn [0:a.size+b.size] (none,o,i,j,0,0) λ_ s=>Yg a b m s.2.1 s.2.2.1 s.2.2.2.1 s.2.2.2.2.1 s.2.2.2.2.2
 Break.runK.match_1 (λ_=>StateT SortSt Sem (SF Nat)) r.1 (λv=>pure (.done (some v,r.2.1,r.2.2.1,r.2.2.2.1,m))) λ_=>do
  rule "list.sort.gallop"
  let r ←forIn [0:a.size+b.size] (none,r.2.1,r.2.2.1,r.2.2.2.1,m+1,r.2.2.2.2.1,r.2.2.2.2.2) λ_ s=>if s.2.2.2.2.1>1 then Xt a b s.2.1 s.2.2.1 s.2.2.2.1 (s.2.2.2.2.1-1) s.2.2.2.2.2.1 s.2.2.2.2.2.2 else Xt a b s.2.1 s.2.2.1 s.2.2.2.1 s.2.2.2.2.1 s.2.2.2.2.2.1 s.2.2.2.2.2.2
  Break.runK.match_1 (λ_=>StateT SortSt Sem (SF Nat)) r.1 (λv=>pure (.done (some v,r.2.1,r.2.2.1,r.2.2.2.1,r.2.2.2.2.1))) λ_=>do
   tO (r.2.2.2.2.1+1)
   pure (.yield (none,r.2.1,r.2.2.1,r.2.2.2.1,r.2.2.2.2.1+1))
theorem Hx:DL a b=(do
 rule "list.sort.merge-lo"
 let x ←lC b 0
 if 1 == b.size then pure (dn a b #[x] 0 1)
 else if 0+1 == a.size then pure (lA a b #[x] 0 1)
 else do
  let st ←get
  let r ←forIn [0:a.size+b.size] (none,#[x],0,1,mL st) λ_ s=>Yb a b s.2.1 s.2.2.1 s.2.2.2.1 s.2.2.2.2
  Break.runK.match_1 (λ_=>StateT SortSt Sem (Array kz)) r.1 (λv=>pure v) λ_=>mI "internal:list.sort.merge-bound"):=rfl
end
section
variable {prog:kL}{w:kN}{A:Around}{E:Value->Shared->Prop}{s:Shared}{κ:lr}{P:kz->Prop}{lt:kz->kz->Bool}
theorem yG{g:Nat}{st:SortSt}{Q:Unit->SortSt->Prop}(h:Q () (sg st g)):wpS (kG prog w) A E s (tO g) Q st:=by
 rw[BI];exact mh h
theorem yd{x:String}{st:SortSt}{Q:Unit->SortSt->Prop}(h:Q () st):wpS (kG prog w) A E s (liftM (rule x):StateT SortSt Sem Unit) Q st:=wpS_lift (nv ⟨rfl,h⟩)
theorem Ct(C:zR prog w A s κ P lt) {a:Array kz}{i:Nat}{x:kz}(ha:∀x,x∈a->P x) (sa:yJ lt a.toList) (hx:a[i]?=some x):∀y∈a.toList.drop i,lt y x=false:=by
 obtain⟨hi,e⟩:=bg.mp hx;have hi':i<a.toList.length:=by simpa using hi
 have e':a.toList[i]=x:=by simpa using e
 have sd:yJ lt (a.toList.drop i):=sa.sublist (cv _ _);rw[aT hi',e']at sd ⊢;intro y hy;rcases ae.mp hy with rfl|hy
 .exact C.refl (ha _ (by rw[←e];exact bu hi))
 .exact (bP.mp sd).1 y hy
theorem wI{a:Array kz}{i:Nat}{y:kz}(h:y∈a.toList.drop i):y∈a:=by simpa using bE h
theorem AO(C:zR prog w A s κ P lt) {left:Bool}{key:kz}{arr:Array kz}{base n:Nat}(hb:base+n<=arr.size) (ha:∀x,x∈arr->P x) (hkey:P key) (so:yJ lt (arr.toList.drop base)) :
  ∀i j,i<=j->j<n->yr lt left key arr base j=true->yr lt left key arr base i=true:=by
 intro i j hij hj h;have hi':base+i<arr.size:=by lia
 have hj':base+j<arr.size:=by lia
 have ei:arr.getD (base+i) key=arr[base+i]:=by simp[iI,hi']
 have ej:arr.getD (base+j) key=arr[base+j]:=by simp[iI,hj']
 have pi:=ha _ (bu hi');have pj:=ha _ (bu hj');have le:lt arr[base+j] arr[base+i]=false:=by
  rcases fK hij with q|q
  .have:=cj.mp so i j (by simp;lia) (by simp;lia) q
   simpa using this
  .subst q;exact C.refl pi
 unfold yr at h ⊢;rw[ei];rw[ej]at h;cases left with
 |true =>
  rw[qe rfl]at h ⊢;cases q:lt arr[base+i] key with
  |true=>rfl
  |false =>
   have:=C.trans key arr[base+i] arr[base+j] hkey pi pj q le;rw[h]at this;cases this
 |false =>
  rw[pV (by decide)]at h ⊢
  have h':lt key arr[base+j]=false:=by simpa using h
  have:=C.trans arr[base+i] arr[base+j] key pi pj hkey le h';simp[this]
theorem uU{left:Bool}{key x:kz}{arr:Array kz}{base i:Nat}(hx:arr[base+i]?=some x):yr lt left key arr base i=if left then lt x key else !lt key x:=by
 obtain⟨hi,e⟩:=bg.mp hx;unfold yr;have ei:arr.getD (base+i) key=x:=by simp[iI,hi,e]
 rw[ei]
theorem xI{a:Array kz}{i k:Nat}{x:kz}(h:x∈(a.toList.drop i).take k):∃j,j<k/\a[i+j]?=some x:=by
 obtain⟨j,hj,e⟩:=du.mp h;rw[lTq]at hj;refine⟨j,by lia,?_⟩
 rw[iy,gf]at e;rw[bg];have hs:i+j<a.size:=by
  rw[aJ,aw]at hj;lia
 exact⟨hs,by simpa using e⟩
theorem ze{a:Array kz}{i:Nat}{x:kz}(h:x∈a.toList.drop i):∃j,i+j<a.size/\a[i+j]?=some x:=by
 obtain⟨j,hj,e⟩:=du.mp h;rw[aJ,aw]at hj;have hs:i+j<a.size:=by lia
 refine⟨j,hs,?_⟩;rw[gf]at e;rw[bg];exact⟨hs,by simpa using e⟩
inductive Lp {ρ τ ι σ:Type}(t:ι->τ) (v:ι->σ) (J K:ι->Prop) (R:ρ->σ->Prop):ForInStep (Option ρ×τ)->σ->Prop
 |y (x):J x->Lp t v J K R (.yield (none,t x)) (v x)
 |d (x):K x->Lp t v J K R (.done (none,t x)) (v x)
 |r (a y st):R a st->Lp t v J K R (.done (some a,y)) st
theorem yh{M:Model}{ρ τ ι σ β:Type}{n:Nat}(t:ι->τ) (v:ι->σ) (J:Nat->ι->Prop) (K:ι->Prop) (R:ρ->σ->Prop) {f:Nat->Option ρ×τ->StateT σ Sem (ForInStep (Option ρ×τ))}{k:Option ρ×τ->StateT σ Sem β}{Q:β->σ->Prop}
  (x:ι) (h:J 0 x) (step:∀i x,J i x->wpS M A E s (f i (none,t x)) (Lp t v (J (i+1)) K R) (v x)) (fin:∀x,J n x->K x) (pn:∀x,K x->wpS M A E s (k (none,t x)) Q (v x)) (ps:∀r y st,R r st->wpS M A E s (k (some r,y)) Q st) :
  wpS M A E s (forIn [0:n] (none,t x) f >>= k) Q (v x):=by
 refine kE (lj (kX (I:=λi c st=>∃x,c=(none,t x)/\st=v x/\J i x) (Q:=λc st=>Lp t v K K R (.done c) st) ?_ ?_ ⟨x,rfl,rfl,h⟩) ?_)
 .rintro i c st _ _ ⟨x,rfl,rfl,h⟩;refine lj (step i x h) λr st' hr=>?_
  cases hr with
  |y x h=>exact⟨x,rfl,rfl,h⟩
  |d x h=>exact .d x h
  |r a y st h=>exact .r a y _ h
 .rintro c st ⟨x,rfl,rfl,h⟩;rw[jR (bq n)]at h;exact .d x (fin x h)
 .rintro c st h;cases h with
  |d x h=>exact pn x h
  |r a y st h=>exact ps a y _ h
structure Ls where
 o:Array kz
 (i j m p q g:Nat)
structure ML (lt:kz->kz->Bool) (a b:Array kz) (n:Nat) (x:Ls):Prop where
 m:MI lt a b x.o x.i x.j
 p:x.i+1<a.size
 q:x.j<b.size
 r:n<=x.i+x.j
structure Lo (prog:kL) (w:kN) (A:Around) (s:Shared) (κ:lr) (P:kz->Prop) (lt:kz->kz->Bool) (a b:Array kz) (st:SortSt) (Q:Array kz->SortSt->Prop):Prop where
 C:zR prog w A s κ P lt
 ha:∀x,x∈a->P x
 hb:∀x,x∈b->P x
 hk:kindOf st=κ
 sa:yJ lt a.toList
 sb:yJ lt b.toList
 h:∀r g,Qq lt a b r->Q r (sg st g)
abbrev L6(x:Ls):=(x.o,x.i,x.j,x.m,x.p,x.q)
abbrev L5(x:Ls):=(x.o,x.i,x.j,x.p,x.q)
abbrev L4(x:Ls):=(x.o,x.i,x.j,x.m)
variable {a b:Array kz}{st:SortSt}{Q:Array kz->SortSt->Prop}{n:Nat}{x:Ls}
abbrev Hl(lt:kz->kz->Bool) (a b:Array kz):=∀i,i+1=a.size->∀x∈b.toList,∀y∈a.toList.drop i,lt y x=false
theorem Nr(H:Lo prog w A s κ P lt a b st Q) (hl:Hl lt a b) (q:ML lt a b n x) (hi:∀z,a[x.i]?=some z->∀y∈b.toList.drop x.j,lt y z=false) :
  wpS (kG prog w) A E s (Xb a b x.o x.i x.j x.m x.p x.q) (Lp L6 (λx=>sg st x.g) (ML lt a b n) (ML lt a b n) Q) (sg st x.g):=by
 have p1:=q.p;have ea:a[x.i]?=some a[x.i]:=ak (by lia)
 refine kE (qw ea ?_);have m6:=q.m.pushA H.sa ea (hi _ ea)
 by_cases d6:x.i+1+1=a.size
 .rw [qe (by simp[d6])]
  exact kF (.r _ _ _ (H.h _ _ (m6.lastA H.sa H.sb λy hy=>hl _ d6 y (bE hy))))
 rw[pV (by simpa using d6)]
 have R:ML lt a b n ⟨_,_,_,x.m,x.p,x.q,x.g⟩:=⟨m6,by dsimp only;lia,q.q,by have:=q.r;dsimp only;lia⟩
 split
 .exact kF (.d _ R)
 .exact kF (.y _ R)
theorem Og(H:Lo prog w A s κ P lt a b st Q) (hl:Hl lt a b) (q:ML lt a b n x) (hi:∀z,b[x.j]?=some z->∀y∈a.toList.drop x.i,lt y z=false) :
  wpS (kG prog w) A E s (W4 a b x.o x.i x.j x.m x.p x.q) (Lp L6 (λx=>sg st x.g) (ML lt a b n) (ML lt a b n) Q) (sg st x.g):=by
 have p1:=q.p;have p2:=q.q;have p3:=q.r;have eb:b[x.j]?=some b[x.j]:=ak p2;refine kE (qw eb ?_);have m4:=q.m.pushB H.sb eb (hi _ eb)
 by_cases d3:x.j+1=b.size
 .rw [qe (by simp[d3])]
  exact kF (.r _ _ _ (H.h _ _ (m4.endB H.sa d3)))
 rw[pV (by simpa using d3)]
 have ea:a[x.i]?=some a[x.i]:=ak (by lia)
 have pa:=H.ha _ (bu (show x.i<a.size by lia))
 refine kE (qw ea (kE (vB H.C (base:=x.j+1) (n:=b.size-(x.j+1)) (by lia) (by lia) H.hb pa H.hk (AO H.C (by lia) H.hb pa (H.sb.sublist (cv _ _))) λl l1 l2 l3=>?_)))
 have hB:∀z,a[x.i]?=some z->∀y∈b.toList.drop (x.j+1+l),lt y z=false:=λz hz y hy=>by
  obtain⟨j',hj',ey⟩:=ze hy;have q:=l3 (l+j') (by lia) (by lia)
  rw[uU (by rw[←gF];exact ey),qe rfl]at q
  rw[ea]at hz;cases hz;exact q
 dsimp only
 by_cases cl:l>0
 .rw [qe cl];have m5:=m4.moreB H.sb (k:=l) (by lia) λx hx y hy=>by
   obtain⟨j',hj',ex⟩:=xI hx;have q:=l2 j' hj';rw[uU ex,qe rfl]at q;have px:=H.hb x (bU hx |> wI);exact H.C.trans _ _ _ px pa (H.ha _ (wI hy)) (H.C.asym _ _ px pa q) (Ct H.C H.ha H.sa ea y hy)
  by_cases d5:x.j+1+l=b.size
  .rw [qe (by simp[d5])]
   exact kF (.r _ _ _ (H.h _ _ (m5.endB H.sa d5)))
  rw[pV (by simpa using d5)]
  exact Nr H hl (x:=⟨_,_,_,_,_,_,x.g⟩) ⟨m5,p1,by dsimp only;lia,by dsimp only;lia⟩ hB
 .rw [pV cl];exact Nr H hl (x:=⟨_,_,_,_,_,_,x.g⟩) ⟨m4,p1,by dsimp only;lia,by dsimp only;lia⟩ (by rw[show x.j+1=x.j+1+l by lia];exact hB)
theorem Of(H:Lo prog w A s κ P lt a b st Q) (hl:Hl lt a b) (q:ML lt a b n x) :
  wpS (kG prog w) A E s (Xt a b x.o x.i x.j x.m x.p x.q) (Lp L6 (λx=>sg st x.g) (ML lt a b n) (ML lt a b n) Q) (sg st x.g):=by
 have p1:=q.p;have p2:=q.q;have p3:=q.r;have eb:b[x.j]?=some b[x.j]:=ak p2;have pb:=H.hb _ (bu p2);refine kE (yG (kE (qw eb (kE (vB H.C (base:=x.i) (n:=a.size-x.i) (by lia) (by lia) H.ha pb H.hk (AO H.C (by lia) H.ha pb (H.sa.sublist (cv _ _))) λk k1 k2 k3=>?_)))))
 have hA:∀z,b[x.j]?=some z->∀y∈a.toList.drop (x.i+k),lt y z=false:=λz hz y hy=>by
  obtain⟨j',hj',ey⟩:=ze hy;have q:=k3 (k+j') (by lia) (by lia)
  rw[uU (by rw[←gF];exact ey),pV (by decide)]at q
  rw[eb]at hz;cases hz;exact H.C.asym _ _ pb (H.ha _ (wI hy)) (by simpa using q)
 dsimp only
 by_cases ck:k>0
 .rw [qe ck];have m3:=q.m.moreA H.sa (k:=k) (by lia) λx hx y hy=>by
   obtain⟨j',hj',ex⟩:=xI hx;have q:=k2 j' hj';rw[uU ex,pV (by decide)]at q
   exact H.C.trans _ _ _ (H.ha x (bU hx |> wI)) pb (H.hb _ (wI hy)) (by simpa using q) (Ct H.C H.hb H.sb eb y hy)
  by_cases d1:x.i+k+1=a.size
  .rw [qe (by simp[d1])]
   exact kF (.r _ _ _ (H.h _ x.m (m3.lastA H.sa H.sb λx hx=>hl _ d1 x (bE hx))))
  rw[pV (by simpa using d1)]
  by_cases d2:x.i+k=a.size
  .rw [qe (by simp[d2])]
   exact kF (.r _ _ _ (H.h _ x.m (m3.endA H.sb d2)))
  rw[pV (by simpa using d2)]
  exact Og H hl (x:=⟨_,_,_,_,_,_,x.m⟩) ⟨m3,by dsimp only;lia,p2,by dsimp only;lia⟩ hA
 .rw [pV ck];exact Og H hl (x:=⟨_,_,_,_,_,_,x.m⟩) ⟨q.m,p1,p2,p3⟩ (by rw[show x.i=x.i+k by lia];exact hA)
theorem T1(H:Lo prog w A s κ P lt a b st Q) (hl:Hl lt a b) {m j:Nat}(q:ML lt a b (n+j) x) :
  wpS (kG prog w) A E s (Yg a b m x.o x.i x.j x.p x.q) (Lp L5 (λx=>sg st x.g) (ML lt a b (n+(j+1))) (ML lt a b (n+1)) Q) (sg st x.g):=by
 have p1:=q.p;have p2:=q.q;have p3:=q.r;have ea:a[x.i]?=some a[x.i]:=ak (by lia)
 have eb:b[x.j]?=some b[x.j]:=ak p2;have pa:=H.ha _ (bu (show x.i<a.size by lia))
 have pb:=H.hb _ (bu p2);refine kE (qw eb (kE (qw ea (kE (H.C.cmp pb pa H.hk ?_)))));cases e:lt b[x.j] a[x.i] with
 |true =>
  dsimp only;rw[qe rfl];refine kE (qw eb ?_);have m2:=q.m.pushB H.sb eb λz hz=>H.C.trans _ _ _ pb pa (H.ha _ (wI hz)) (H.C.asym _ _ pb pa e) (Ct H.C H.ha H.sa ea z hz)
  by_cases d1:x.j+1=b.size
  .rw [qe (by simp[d1])]
   exact kF (.r _ _ _ (H.h _ _ (m2.endB H.sa d1)))
  rw[pV (by simpa using d1)]
  have R:∀n,n<=x.i+(x.j+1)->ML lt a b n ⟨_,_,_,0,0,x.q+1,x.g⟩:=λn hn=>⟨m2,p1,by dsimp only;lia,hn⟩
  split
  .exact kF (.d _ (R _ (by lia)))
  .exact kF (.y _ (R _ (by lia)))
 |false =>
  dsimp only;rw[pV (by decide)]
  refine kE (qw ea ?_);have m2:=q.m.pushA H.sa ea λz hz=>H.C.trans _ _ _ pa pb (H.hb _ (wI hz)) e (Ct H.C H.hb H.sb eb z hz)
  by_cases d1:x.i+1+1=a.size
  .rw [qe (by simp[d1])]
   exact kF (.r _ _ _ (H.h _ _ (m2.lastA H.sa H.sb λx hx=>hl _ d1 x (bE hx))))
  rw[pV (by simpa using d1)]
  have R:∀n,n<=x.i+1+x.j->ML lt a b n ⟨_,_,_,0,x.p+1,0,x.g⟩:=λn hn=>⟨m2,by dsimp only;lia,p2,hn⟩
  split
  .exact kF (.d _ (R _ (by lia)))
  .exact kF (.y _ (R _ (by lia)))
theorem TH(H:Lo prog w A s κ P lt a b st Q) (hl:Hl lt a b) (q:ML lt a b n x) :
  wpS (kG prog w) A E s (Yb a b x.o x.i x.j x.m) (Lp L4 (λx=>sg st x.g) (ML lt a b (n+1)) (λ_=>False) Q) (sg st x.g):=by
 refine yh L5 (λx=>sg st x.g) (λj=>ML lt a b (n+j)) (ML lt a b (n+1)) Q ⟨x.o,x.i,x.j,0,0,0,x.g⟩ ⟨q.m,q.p,q.q,q.r⟩ (λj x q=>T1 H hl q) (λy h=>⟨h.m,h.p,h.q,by have:=h.r;have:=h.p;have:=h.q;lia⟩) (λy q=>?_) λr y st' hr=>kF (.r _ _ _ hr)
 refine kE (yd ?_);refine yh L6 (λx=>sg st x.g) (λ_=>ML lt a b (n+1)) (ML lt a b (n+1)) Q ⟨y.o,y.i,y.j,x.m+1,y.p,y.q,y.g⟩ ⟨q.m,q.p,q.q,q.r⟩ (λj z q=>?_) (λ_ h=>h) (λz q=>?_) λr y st' hr=>kF (.r _ _ _ hr)
 .dsimp only;split
  .exact Of H hl (x:=⟨_,_,_,z.m-1,_,_,z.g⟩) ⟨q.m,q.p,q.q,q.r⟩
  .exact Of H hl q
 .refine kE (yG (kF ?_));exact Lp.y (t:=L4) (v:=λx=>sg st x.g) ⟨_,_,_,z.m+1,0,0,z.m+1⟩ ⟨q.m,q.p,q.q,q.r⟩
theorem GI(C:zR prog w A s κ P lt) (ha:∀x,x∈a->P x) (hb:∀x,x∈b->P x) (hk:kindOf st=κ) (sa:yJ lt a.toList) (sb:yJ lt b.toList)
  (na:0<a.size) (nb:0<b.size) (h0:∀x,b[0]?=some x->∀y∈a.toList,lt y x=false) (hl:∀i,i+1=a.size->∀x∈b.toList,∀y∈a.toList.drop i,lt y x=false)
  (h:∀r g,Qq lt a b r->Q r (sg st g)):wpS (kG prog w) A E s (DL a b) Q st:=by
 rw[Hx];refine kE (yd ?_);have eb0:b[0]?=some b[0]:=ak nb;refine kE (qw eb0 ?_);have m0:MI lt a b #[] 0 0:=⟨bq _,bq _,by simp,by simp[yJ],by simp,by simp⟩
 have m1:MI lt a b #[b[0]] 0 1:=m0.pushB sb eb0 λy hy=>h0 _ eb0 y (by simpa using hy)
 by_cases c1:1=b.size
 .rw [qe (by simp[←c1])]
  exact kF (h _ (mL st) (m1.endB sa c1))
 rw[pV (by simpa using c1)]
 by_cases c2:0+1=a.size
 .rw [qe (by simp[←c2])]
  exact kF (h _ (mL st) (m1.lastA sa sb λx hx=>hl 0 c2 x (bE hx)))
 rw[pV (by simpa using c2)]
 refine kE (mq ?_);exact yh L4 (λx=>sg st x.g) (λi=>ML lt a b (i+1)) (λ_=>False) Q ⟨_,0,1,_,0,0,mL st⟩ ⟨m1,by dsimp only;lia,by dsimp only;lia,by dsimp only;lia⟩ (λi x q=>TH ⟨C,ha,hb,hk,sa,sb,h⟩ hl q) (λx h=>by have:=h.p;have:=h.q;have:=h.r;lia) (λx h=>h.elim) λr y st' hr=>kF hr
end
structure MH (lt:kz->kz->Bool) (a b out:Array kz) (na nb:Nat):Prop where
 la:na<=a.size
 lb:nb<=b.size
 pm:((a.toList.take na++b.toList.take nb)++out.toList.reverse).Perm (a.toList++b.toList)
 so:yJ lt out.toList.reverse
 ua:∀x∈a.toList.take na,∀y∈out.toList,lt y x=false
 ub:∀x∈b.toList.take nb,∀y∈out.toList,lt y x=false
section
variable {lt:kz->kz->Bool}{a b out out':Array kz}{na nb k:Nat}
theorem MH.congr(m:MH lt a b out na nb) (e:out'.toList=out.toList):MH lt a b out' na nb:=⟨m.la,m.lb,by rw[e];exact m.pm,by rw[e];exact m.so,by rw[e];exact m.ua,by rw[e];exact m.ub⟩
theorem Bk(l:List kz) (k n:Nat) (h:k<=n):l.take n=l.take k++(l.take n).drop k:=by
 have e:(l.take n).take k=l.take k:=by rw[List.take_take,fc h]
 rw[←e,aY]
theorem sq(a:Array kz) (k n:Nat):(a.extract k n).toList=(a.toList.take n).drop k:=by
 rw[gP,fE,List.drop_take]
theorem Bq(a:Array kz) (n:Nat):(a.extract 0 n).toList=a.toList.take n:=by
 rw[sq,fj]
theorem MH.moreA(m:MH lt a b out na nb) (sa:yJ lt a.toList) (hk:k<=na) (h:∀x∈b.toList.take nb,∀y∈(a.toList.take na).drop k,lt y x=false):MH lt a b (out++(a.extract k na).reverse) k nb:=by
 have e:(out++(a.extract k na).reverse).toList=out.toList++((a.toList.take na).drop k).reverse:=by rw[aR,dv,sq]
 have er:(out++(a.extract k na).reverse).toList.reverse=(a.toList.take na).drop k++out.toList.reverse:=by rw[e,dN,gQ]
 have c:=Bk a.toList k na hk;have sd:yJ lt (a.toList.take na):=sa.sublist (bG _ _);have sd2:=sd;rw[c]at sd2;obtain⟨q1,q2,q3⟩:=aN.mp sd2;have sub:∀y,y∈(a.toList.take na).drop k->y∈a.toList.take na:=λy hy=>bE hy
 refine⟨cE hk m.la,m.lb,?_,?_,?_,?_⟩
 .rw [er];refine aU.trans ?_ m.pm;rw[←ai];refine aU.append_right _ ?_
  conv=>rhs;rw[c]
  rw[ai,ai];exact aU.append_left _ aF
 .rw [er];exact aN.mpr ⟨q2,m.so,λx hx y hy=>m.ua x (sub x hx) y (cC.mp hy)⟩
 .rw [e];intro x hx y hy;rcases mAq.mp hy with hy|hy
  .exact m.ua x (by rw[c];exact ah _ hx) y hy
  .exact q3 x hx y (cC.mp hy)
 .rw [e];intro x hx y hy;rcases mAq.mp hy with hy|hy
  .exact m.ub x hx y hy
  .exact h x hx y (cC.mp hy)
theorem MH.moreB(m:MH lt a b out na nb) (sb:yJ lt b.toList) (hk:k<=nb) (h:∀x∈a.toList.take na,∀y∈(b.toList.take nb).drop k,lt y x=false):MH lt a b (out++(b.extract k nb).reverse) na k:=by
 have e:(out++(b.extract k nb).reverse).toList=out.toList++((b.toList.take nb).drop k).reverse:=by rw[aR,dv,sq]
 have er:(out++(b.extract k nb).reverse).toList.reverse=(b.toList.take nb).drop k++out.toList.reverse:=by rw[e,dN,gQ]
 have c:=Bk b.toList k nb hk;have sd:yJ lt (b.toList.take nb):=sb.sublist (bG _ _);have sd2:=sd;rw[c]at sd2;obtain⟨q1,q2,q3⟩:=aN.mp sd2;have sub:∀y,y∈(b.toList.take nb).drop k->y∈b.toList.take nb:=λy hy=>bE hy
 refine⟨m.la,cE hk m.lb,?_,?_,?_,?_⟩
 .rw [er];refine aU.trans ?_ m.pm;rw[←ai];refine aU.append_right _ ?_
  conv=>rhs;rw[c]
  rw[ai]
 .rw [er];exact aN.mpr ⟨q2,m.so,λx hx y hy=>m.ub x (sub x hx) y (cC.mp hy)⟩
 .rw [e];intro x hx y hy;rcases mAq.mp hy with hy|hy
  .exact m.ua x hx y hy
  .exact h x hx y (cC.mp hy)
 .rw [e];intro x hx y hy;rcases mAq.mp hy with hy|hy
  .exact m.ub x (by rw[c];exact ah _ hx) y hy
  .exact q3 x hx y (cC.mp hy)
theorem yo{l:List kz}{i:Nat}{x:kz}(h:l[i]?=some x):(l.take (i+1)).drop i=[x]:=by
 rw[bH,h,jQ];have hl:(l.take i).length=i:=by
  have:=(gSq.mp h).1;rw[lTq];lia
 rw[gw (by lia),hl,cR]
 rfl
theorem MH.pushA{x:kz}(m:MH lt a b out (na+1) nb) (sa:yJ lt a.toList) (hx:a[na]?=some x) (h:∀y∈b.toList.take nb,lt x y=false):MH lt a b (out.push x) na nb:=by
 have hx':a.toList[na]?=some x:=by rw[ay];exact hx
 refine(m.moreA sa (k:=na) (cU _) λz hz y hy=>?_).congr ?_
 .rw [yo hx',mSq]at hy;rw[hy];exact h z hz
 .rw [dB,aR,dv,sq,yo hx'];rfl
theorem MH.pushB{x:kz}(m:MH lt a b out na (nb+1)) (sb:yJ lt b.toList) (hx:b[nb]?=some x) (h:∀y∈a.toList.take na,lt x y=false):MH lt a b (out.push x) na nb:=by
 have hx':b.toList[nb]?=some x:=by rw[ay];exact hx
 refine(m.moreB sb (k:=nb) (cU _) λz hz y hy=>?_).congr ?_
 .rw [yo hx',mSq]at hy;rw[hy];exact h z hz
 .rw [dB,aR,dv,sq,yo hx'];rfl
theorem MH.end(m:MH lt a b out na nb) (sa:yJ lt a.toList) (sb:yJ lt b.toList) (e:na=0∨nb=0):Qq lt a b (a.extract 0 na++b.extract 0 nb++out.reverse):=by
 have et:(a.extract 0 na++b.extract 0 nb++out.reverse).toList=(a.toList.take na++b.toList.take nb)++out.toList.reverse:=by
  rw[aR,aR,Bq,Bq,dv]
 refine⟨by rw[et];exact m.pm,?_⟩
 rw[et];refine aN.mpr ⟨?_,m.so,λx hx y hy=>?_⟩
 .rcases e with rfl|rfl
  .rw [ed,dC];exact sb.sublist (bG _ _)
  .rw [ed,aNq];exact sa.sublist (bG _ _)
 .rcases mAq.mp hx with hx|hx
  .exact m.ua x hx y (cC.mp hy)
  .exact m.ub x hx y (cC.mp hy)
theorem MH.firstB(m:MH lt a b out na nb) (sa:yJ lt a.toList) (sb:yJ lt b.toList) (h:∀x∈b.toList.take nb,∀y∈a.toList.take na,lt y x=false):Qq lt a b (b.extract 0 nb++a.extract 0 na++out.reverse):=by
 have et:(b.extract 0 nb++a.extract 0 na++out.reverse).toList=(b.toList.take nb++a.toList.take na)++out.toList.reverse:=by
  rw[aR,aR,Bq,Bq,dv]
 refine⟨?_,?_⟩
 .rw [et];exact(aU.append_right _ aF).trans m.pm
 .rw [et];refine aN.mpr ⟨aN.mpr ⟨sb.sublist (bG _ _),sa.sublist (bG _ _),h⟩,m.so,λx hx y hy=>?_⟩
  rcases mAq.mp hx with hx|hx
  .exact m.ub x hx y (cC.mp hy)
  .exact m.ua x hx y (cC.mp hy)
end
def C2:Array kz->Array kz->StateT SortSt Sem (Array kz):=sortPriv% PySem.Builtin.mergeHi
section
variable (a b:Array kz)
abbrev dH(o:Array kz) (i j:Nat):=a.extract 0 i++b.extract 0 j++o.reverse
abbrev fH(o:Array kz) (i j:Nat):=b.extract 0 j++a.extract 0 i++o.reverse
abbrev SH(α:Type):=ForInStep (Option (Array kz)×Nat×Nat×Array kz×α)
def WR(o:Array kz) (i j m k l:Nat):StateT SortSt Sem (SH (Nat×Nat×Nat)):=do
 let x ←lC a (i-1)
 if i-1 == 0 then pure (.done (some (dH a b (o.push x) (i-1) j),i-1,j,o.push x,m,k,l))
 else if decide (k<7) && decide (l<7) then pure (.done (none,i-1,j,o.push x,m,k,l))
 else pure (.yield (none,i-1,j,o.push x,m,k,l))
def WS(o:Array kz) (i j m k q:Nat):StateT SortSt Sem (SH (Nat×Nat×Nat)):=do
 let x ←lC b (j-1)
 if j-1 == 1 then pure (.done (some (fH a b (o.push x) i (j-1)),i,j-1,o.push x,m,k,q))
 else do
  let y ←lC a (i-1)
  match ←xx true y b 0 (j-1) (j-1-1) with
  |some l =>
   if j-1-l>0 then
    if l == 1 then pure (.done (some (fH a b (o.push x++(b.extract l (j-1)).reverse) i l),i,l,o.push x++(b.extract l (j-1)).reverse,m,k,j-1-l))
    else if l == 0 then pure (.done (some (dH a b (o.push x++(b.extract l (j-1)).reverse) i l),i,l,o.push x++(b.extract l (j-1)).reverse,m,k,j-1-l))
    else WR a b (o.push x++(b.extract l (j-1)).reverse) i l m k (j-1-l)
   else WR a b (o.push x) i (j-1) m k (j-1-l)
  |_=>pure (.done (some (dH a b (o.push x) i (j-1)),i,j-1,o.push x,m,k,q))
def WK(o:Array kz) (i j m p q:Nat):StateT SortSt Sem (SH (Nat×Nat×Nat)):=do
 tO m
 let x ←lC b (j-1)
 match ←xx false x a 0 i (i-1) with
 |some k =>
  if i-k>0 then
   if k == 0 then pure (.done (some (dH a b (o++(a.extract k i).reverse) k j),k,j,o++(a.extract k i).reverse,m,i-k,q))
   else WS a b (o++(a.extract k i).reverse) k j m (i-k) q
  else WS a b o i j m (i-k) q
 |_=>pure (.done (some (dH a b o i j),i,j,o,m,p,q))
def Qp(m:Nat) (o:Array kz) (i j p q:Nat):StateT SortSt Sem (SH (Nat×Nat)):=do
 let y ←lC b (j-1)
 let x ←lC a (i-1)
 match ←lt' y x with
 |some c =>
  if c then do
   let z ←lC a (i-1)
   if i-1 == 0 then pure (.done (some (dH a b (o.push z) (i-1) j),i-1,j,o.push z,p+1,0))
   else if p+1 ≥ m then pure (.done (none,i-1,j,o.push z,p+1,0))
   else pure (.yield (none,i-1,j,o.push z,p+1,0))
  else do
   let z ←lC b (j-1)
   if j-1 == 1 then pure (.done (some (fH a b (o.push z) i (j-1)),i,j-1,o.push z,0,q+1))
   else if q+1 ≥ m then pure (.done (none,i,j-1,o.push z,0,q+1))
   else pure (.yield (none,i,j-1,o.push z,0,q+1))
 |_=>pure (.done (some (dH a b o i j),i,j,o,p,q))
def WW(o:Array kz) (i j m:Nat):StateT SortSt Sem (SH Nat):=do
 let r ←forIn [0:a.size+b.size] (none,i,j,o,0,0) λ_ s=>Qp a b m s.2.2.2.1 s.2.1 s.2.2.1 s.2.2.2.2.1 s.2.2.2.2.2
 Break.runK.match_1 (λ_=>StateT SortSt Sem (SH Nat)) r.1 (λv=>pure (.done (some v,r.2.1,r.2.2.1,r.2.2.2.1,m))) λ_=>do
  rule "list.sort.gallop"
  let r ←forIn [0:a.size+b.size] (none,r.2.1,r.2.2.1,r.2.2.2.1,m+1,r.2.2.2.2.1,r.2.2.2.2.2) λ_ s=>if s.2.2.2.2.1>1 then WK a b s.2.2.2.1 s.2.1 s.2.2.1 (s.2.2.2.2.1-1) s.2.2.2.2.2.1 s.2.2.2.2.2.2 else WK a b s.2.2.2.1 s.2.1 s.2.2.1 s.2.2.2.2.1 s.2.2.2.2.2.1 s.2.2.2.2.2.2
  Break.runK.match_1 (λ_=>StateT SortSt Sem (SH Nat)) r.1 (λv=>pure (.done (some v,r.2.1,r.2.2.1,r.2.2.2.1,r.2.2.2.2.1))) λ_=>do
   tO (r.2.2.2.2.1+1)
   pure (.yield (none,r.2.1,r.2.2.1,r.2.2.2.1,r.2.2.2.2.1+1))
theorem Ic:C2 a b=(do
 rule "list.sort.merge-hi"
 let x ←lC a (a.size-1)
 if a.size-1 == 0 then pure (dH a b #[x] (a.size-1) b.size)
 else if b.size == 1 then pure (fH a b #[x] (a.size-1) b.size)
 else do
  let st ←get
  let r ←forIn [0:a.size+b.size] (none,a.size-1,b.size,#[x],mL st) λ_ s=>WW a b s.2.2.2.1 s.2.1 s.2.2.1 s.2.2.2.2
  Break.runK.match_1 (λ_=>StateT SortSt Sem (Array kz)) r.1 (λv=>pure v) λ_=>mI "internal:list.sort.merge-bound"):=rfl
end
section
variable {prog:kL}{w:kN}{A:Around}{E:Value->Shared->Prop}{s:Shared}{κ:lr}{P:kz->Prop}{lt:kz->kz->Bool}
theorem Cz(C:zR prog w A s κ P lt) {a:Array kz}{i:Nat}{x:kz}(ha:∀x,x∈a->P x) (sa:yJ lt a.toList) (hx:a[i]?=some x):∀y∈a.toList.take (i+1),lt x y=false:=by
 obtain⟨hi,e⟩:=bg.mp hx;have hx':a.toList[i]?=some x:=by rw[ay];exact hx
 have sd:yJ lt (a.toList.take (i+1)):=sa.sublist (bG _ _);rw[bH,hx']at sd ⊢;intro y hy;rcases mAq.mp hy with hy|hy
 .exact (aN.mp sd).2.2 y hy x (by simp)
 .have:y=x:=by simpa using hy
  rw[this];exact C.refl (ha _ (by rw[←e];exact bu hi))
theorem wZ{a:Array kz}{i:Nat}{y:kz}(h:y∈a.toList.take i):y∈a:=by simpa using bU h
theorem zt{a:Array kz}{n:Nat}{x:kz}(h:x∈a.toList.take n):∃j,j<n/\a[0+j]?=some x:=by
 have h':x∈(a.toList.drop 0).take n:=by rw[fj];exact h
 exact xI h'
theorem wL{a:Array kz}{k n:Nat}{x:kz}(h:x∈(a.toList.take n).drop k):∃j,k<=j/\j<n/\a[0+j]?=some x:=by
 obtain⟨j,hj,e⟩:=du.mp h;rw[aJ,lTq,aw]at hj;refine⟨k+j,by lia,by lia,?_⟩
 rw[gf,iy]at e;rw[bg];exact⟨by lia,by simpa using e⟩
structure MG (lt:kz->kz->Bool) (a b:Array kz) (n:Nat) (x:Ls):Prop where
 m:MH lt a b x.o x.i x.j
 p:0<x.i
 q:1<x.j
 r:x.i+x.j+n<=a.size+b.size
abbrev H6(x:Ls):=(x.i,x.j,x.o,x.m,x.p,x.q)
abbrev H5(x:Ls):=(x.i,x.j,x.o,x.p,x.q)
abbrev H4(x:Ls):=(x.i,x.j,x.o,x.m)
variable {a b:Array kz}{st:SortSt}{Q:Array kz->SortSt->Prop}{n:Nat}{x:Ls}{o:Array kz}{u v i j m k l g:Nat}
abbrev Hf(lt:kz->kz->Bool) (a b:Array kz):=∀x∈b.toList.take 1,∀y∈a.toList,lt y x=false
theorem WZ(H:Lo prog w A s κ P lt a b st Q) (hf:Hf lt a b) (m:MH lt a b o i 1):Q (b.extract 0 1++a.extract 0 i++o.reverse) (sg st g):=H.h _ _ (m.firstB H.sa H.sb λx hx y hy=>hf x hx y (bU hy))
theorem Np(H:Lo prog w A s κ P lt a b st Q) (q:MG lt a b n ⟨o,u+1,j,m,k,l,g⟩) (hi:∀z,a[u]?=some z->∀y∈b.toList.take j,lt z y=false) :
  wpS (kG prog w) A E s (WR a b o (u+1) j m k l) (Lp H6 (λx=>sg st x.g) (MG lt a b n) (MG lt a b n) Q) (sg st g):=by
 dsimp only [WR,fF];have ea:a[u]?=some (a[u]'q.m.la):=ak q.m.la;refine kE (qw ea ?_);have m6:=q.m.pushA H.sa ea (hi _ ea)
 by_cases d6:u=0
 .rw [qe (by simp[d6])]
  exact kF (.r _ _ _ (H.h _ _ (m6.end H.sa H.sb (.inl d6))))
 rw[pV (by simpa using d6)]
 have R:MG lt a b n ⟨_,_,_,m,k,l,g⟩:=⟨m6,ik d6,q.q,by have:=q.r;dsimp only at *;lia⟩
 split
 .exact kF (.d _ R)
 .exact kF (.y _ R)
theorem PJ(H:Lo prog w A s κ P lt a b st Q) (hf:Hf lt a b) (q:MG lt a b n ⟨o,u+1,v+1,m,k,l,g⟩) (hi:∀z,b[v]?=some z->∀y∈a.toList.take (u+1),lt z y=false) :
  wpS (kG prog w) A E s (WS a b o (u+1) (v+1) m k l) (Lp H6 (λx=>sg st x.g) (MG lt a b n) (MG lt a b n) Q) (sg st g):=by
 dsimp only [WS,fF];have la:u<a.size:=q.m.la;have lb:v<b.size:=q.m.lb;have p2:1<v+1:=q.q;have p3:u+1+(v+1)+n<=a.size+b.size:=q.r;have eb:b[v]?=some b[v]:=ak lb;refine kE (qw eb ?_);have m4:=q.m.pushB H.sb eb (hi _ eb)
 by_cases d3:v=1
 .rw [qe (by simp[d3])]
  subst d3;exact kF (.r _ _ _ (WZ H hf m4))
 rw[pV (by simpa using d3)]
 have ea:a[u]?=some a[u]:=ak la;have pa:=H.ha _ (bu la);refine kE (qw ea (kE (vB H.C (base:=0) (n:=v) (by lia) (by lia) H.hb pa H.hk (AO H.C (by lia) H.hb pa (by rw[fj];exact H.sb)) λl l1 l2 l3=>?_)))
 have hB:∀z,a[u]?=some z->∀y∈b.toList.take l,lt z y=false:=λz hz y hy=>by
  obtain⟨j',hj',ey⟩:=zt hy;have q:=l2 j' hj';rw[uU ey,qe rfl]at q;rw[ea]at hz;cases hz;exact H.C.asym _ _ (H.hb _ (wZ hy)) pa q
 dsimp only
 by_cases cl:v-l>0
 .rw [qe cl];have m5:=m4.moreB H.sb (k:=l) l1 λx hx y hy=>by
   obtain⟨j',hj1,hj',ey⟩:=wL hy;have q:=l3 j' hj1 hj';rw[uU ey,qe rfl]at q;exact H.C.trans _ _ _ (H.ha _ (wZ hx)) pa (H.hb y (bE hy |> wZ)) (Cz H.C H.ha H.sa ea x hx) q
  by_cases d5:l=1
  .rw [qe (by simp[d5])]
   subst d5;exact kF (.r _ _ _ (WZ H hf m5))
  rw[pV (by simpa using d5)]
  by_cases d6:l=0
  .rw [qe (by simp[d6])]
   exact kF (.r _ _ _ (H.h _ _ (m5.end H.sa H.sb (.inr d6))))
  rw[pV (by simpa using d6)]
  exact Np H ⟨m5,q.p,by dsimp only;lia,by dsimp only;lia⟩ hB
 .rw [pV cl];have:l=v:=by lia
  subst this;exact Np H ⟨m4,q.p,by dsimp only;lia,by dsimp only;lia⟩ hB
theorem NX(H:Lo prog w A s κ P lt a b st Q) (hf:Hf lt a b) (q:MG lt a b n x) :
  wpS (kG prog w) A E s (WK a b x.o x.i x.j x.m x.p x.q) (Lp H6 (λx=>sg st x.g) (MG lt a b n) (MG lt a b n) Q) (sg st x.g):=by
 obtain⟨o,i,j,m,p,q',g⟩:=x;have la:i<=a.size:=q.m.la;have p1:0<i:=q.p;have p2:1<j:=q.q;have p3:i+j+n<=a.size+b.size:=q.r;obtain⟨v,rfl⟩:∃v,j=v+1:=⟨j-1,by lia⟩
 have lb:v<b.size:=q.m.lb;dsimp only [WK,fF];have eb:b[v]?=some b[v]:=ak lb;have pb:=H.hb _ (bu lb);refine kE (yG (kE (qw eb (kE (vB H.C (base:=0) (n:=i) (by lia) (by lia) H.ha pb H.hk (AO H.C (by lia) H.ha pb (by rw[fj];exact H.sa)) λk k1 k2 k3=>?_)))))
 have hA:∀z,b[v]?=some z->∀y∈a.toList.take k,lt z y=false:=λz hz y hy=>by
  obtain⟨j',hj',ey⟩:=zt hy;have q:=k2 j' hj';rw[uU ey,pV (by decide)]at q
  rw[eb]at hz;cases hz;simpa using q
 dsimp only
 by_cases ck:i-k>0
 .rw [qe ck];have m3:=q.m.moreA H.sa (k:=k) k1 λx hx y hy=>by
   obtain⟨j',hj1,hj',ey⟩:=wL hy;have q:=k3 j' hj1 hj';rw[uU ey,pV (by decide)]at q
   have py:=H.ha y (bE hy |> wZ);exact H.C.trans _ _ _ (H.hb _ (wZ hx)) pb py (Cz H.C H.hb H.sb eb x hx) (H.C.asym _ _ pb py (by simpa using q))
  by_cases d2:k=0
  .rw [qe (by simp[d2])]
   exact kF (.r _ _ _ (H.h _ m (m3.end H.sa H.sb (.inl d2))))
  rw[pV (by simpa using d2)]
  obtain⟨u,rfl⟩:∃u,k=u+1:=⟨k-1,by lia⟩
  exact PJ H hf (g:=m) ⟨m3,Nat.succ_pos _,p2,by dsimp only;lia⟩ hA
 .rw [pV ck];have:k=i:=by lia
  subst this;obtain⟨u,rfl⟩:∃u,k=u+1:=⟨k-1,by lia⟩
  exact PJ H hf (g:=m) ⟨q.m,p1,p2,p3⟩ hA
theorem Uv(H:Lo prog w A s κ P lt a b st Q) (hf:Hf lt a b) (q:MG lt a b (n+j) x) :
  wpS (kG prog w) A E s (Qp a b m x.o x.i x.j x.p x.q) (Lp H5 (λx=>sg st x.g) (MG lt a b (n+(j+1))) (MG lt a b (n+1)) Q) (sg st x.g):=by
 obtain⟨o,i,k,m',p,q',g⟩:=x;have p1:0<i:=q.p;have p2:1<k:=q.q;have p3:i+k+(n+j)<=a.size+b.size:=q.r;obtain⟨u,rfl⟩:∃u,i=u+1:=⟨i-1,by lia⟩
 obtain⟨v,rfl⟩:∃v,k=v+1:=⟨k-1,by lia⟩
 have la:u<a.size:=q.m.la;have lb:v<b.size:=q.m.lb;dsimp only [Qp,fF];have ea:a[u]?=some a[u]:=ak la;have eb:b[v]?=some b[v]:=ak lb;have pa:=H.ha _ (bu la);have pb:=H.hb _ (bu lb);refine kE (qw eb (kE (qw ea (kE (H.C.cmp pb pa H.hk ?_)))));cases e:lt b[v] a[u] with
 |true =>
  dsimp only;rw[qe rfl];refine kE (qw ea ?_);have m2:=q.m.pushA H.sa ea λy hy=>H.C.trans _ _ _ (H.hb _ (wZ hy)) pb pa (Cz H.C H.hb H.sb eb y hy) (H.C.asym _ _ pb pa e)
  by_cases d1:u=0
  .rw [qe (by simp[d1])]
   exact kF (.r _ _ _ (H.h _ _ (m2.end H.sa H.sb (.inl d1))))
  rw[pV (by simpa using d1)]
  have R:∀n,u+(v+1)+n<=a.size+b.size->MG lt a b n ⟨_,_,_,0,p+1,0,g⟩:=λn hn=>⟨m2,ik d1,p2,hn⟩
  split
  .exact kF (.d _ (R _ (by lia)))
  .exact kF (.y _ (R _ (by lia)))
 |false =>
  dsimp only;rw[pV (by decide)]
  refine kE (qw eb ?_);have m2:=q.m.pushB H.sb eb λy hy=>H.C.trans _ _ _ (H.ha _ (wZ hy)) pa pb (Cz H.C H.ha H.sa ea y hy) e
  by_cases d1:v=1
  .rw [qe (by simp[d1])]
   subst d1;exact kF (.r _ _ _ (WZ H hf m2))
  rw[pV (by simpa using d1)]
  have R:∀n,u+1+v+n<=a.size+b.size->MG lt a b n ⟨_,_,_,0,0,q'+1,g⟩:=λn hn=>⟨m2,p1,by dsimp only;lia,hn⟩
  split
  .exact kF (.d _ (R _ (by lia)))
  .exact kF (.y _ (R _ (by lia)))
theorem U3(H:Lo prog w A s κ P lt a b st Q) (hf:Hf lt a b) (q:MG lt a b n x) :
  wpS (kG prog w) A E s (WW a b x.o x.i x.j x.m) (Lp H4 (λx=>sg st x.g) (MG lt a b (n+1)) (λ_=>False) Q) (sg st x.g):=by
 refine yh H5 (λx=>sg st x.g) (λj=>MG lt a b (n+j)) (MG lt a b (n+1)) Q ⟨x.o,x.i,x.j,0,0,0,x.g⟩ ⟨q.m,q.p,q.q,q.r⟩ (λj x q=>Uv H hf q) (λy h=>⟨h.m,h.p,h.q,by have:=h.r;have:=h.p;have:=h.q;lia⟩) (λy q=>?_) λr y st' hr=>kF (.r _ _ _ hr)
 refine kE (yd ?_);refine yh H6 (λx=>sg st x.g) (λ_=>MG lt a b (n+1)) (MG lt a b (n+1)) Q ⟨y.o,y.i,y.j,x.m+1,y.p,y.q,y.g⟩ ⟨q.m,q.p,q.q,q.r⟩ (λj z q=>?_) (λ_ h=>h) (λz q=>?_) λr y st' hr=>kF (.r _ _ _ hr)
 .dsimp only;split
  .exact NX H hf (x:=⟨_,_,_,z.m-1,_,_,z.g⟩) ⟨q.m,q.p,q.q,q.r⟩
  .exact NX H hf q
 .refine kE (yG (kF ?_));exact Lp.y (t:=H4) (v:=λx=>sg st x.g) ⟨_,_,_,z.m+1,0,0,z.m+1⟩ ⟨q.m,q.p,q.q,q.r⟩
theorem G9(C:zR prog w A s κ P lt) (ha:∀x,x∈a->P x) (hb:∀x,x∈b->P x) (hk:kindOf st=κ) (sa:yJ lt a.toList) (sb:yJ lt b.toList)
  (na0:0<a.size) (nb0:0<b.size) (h0:∀x∈b.toList.take 1,∀y∈a.toList,lt y x=false) (hl:∀x,a[a.size-1]?=some x->∀y∈b.toList,lt x y=false)
  (h:∀r g,Qq lt a b r->Q r (sg st g)):wpS (kG prog w) A E s (C2 a b) Q st:=by
 have H:Lo prog w A s κ P lt a b st Q:=⟨C,ha,hb,hk,sa,sb,h⟩;rw[Ic];refine kE (yd ?_);have ea0:a[a.size-1]?=some (a[a.size-1]'(by lia)):=ak (by lia)
 refine kE (qw ea0 ?_);have m0:MH lt a b #[] (a.size-1+1) b.size:=⟨by lia,aj _,by
  rw[show a.size-1+1=a.toList.length by simp;lia,bo,←aw,bo];simp,by simp[yJ],by simp,by simp⟩
 have m1:MH lt a b #[a[a.size-1]'(by lia)] (a.size-1) b.size:=m0.pushA sa ea0 λy hy=>hl _ ea0 y (bU hy)
 by_cases c1:a.size-1=0
 .rw [qe (by simp[c1])]
  exact kF (h _ (mL st) (m1.end sa sb (.inl c1)))
 rw[pV (by simpa using c1)]
 by_cases c2:b.size=1
 .rw [qe (by simp[c2])]
  have m1':=m1;rw[c2]at m1' ⊢;exact kF (WZ H h0 (g:=mL st) m1')
 rw[pV (by simpa using c2)]
 refine kE (mq ?_);exact yh H4 (λx=>sg st x.g) (λi=>MG lt a b (i+1)) (λ_=>False) Q ⟨_,a.size-1,b.size,_,0,0,mL st⟩ ⟨m1,ik c1,show 1<b.size by lia,show a.size-1+b.size+1<=a.size+b.size by lia⟩ (λi x q=>U3 H h0 q) (λx h=>by have:=h.p;have:=h.q;have:=h.r;lia) (λx h=>h.elim) λr y st' hr=>kF hr
end
def AD(lt:kz->kz->Bool) (xs:Array kz) (i j:Nat):Prop:=∀p q x y,i<=p->p<=q->q<j->xs[p]?=some x->xs[q]?=some y->lt y x=false
def Qo(lt:kz->kz->Bool) (xs:Array kz) (i j:Nat):Prop:=∀p q x y,i<=p->p<=q->q<j->xs[p]?=some x->xs[q]?=some y->lt x y=false
def Vm(lt:kz->kz->Bool) (xs:Array kz) (i j:Nat):Prop:=∀p q x y,i<=p->p<j->i<=q->q<j->xs[p]?=some x->xs[q]?=some y->lt x y=false
section
variable {lt:kz->kz->Bool}{xs:Array kz}{i j lo n:Nat}
theorem Jn(hj:j<=xs.size) (h:Qo lt xs i j):AD lt (mirror xs i j ((j-i) / 2)) i j:=by
 intro p q x y h1 h2 h3 ex ey;rw[mw hj,qe ⟨h1,by lia⟩]at ex
 rw[mw hj,qe ⟨by lia,h3⟩]at ey
 exact h _ _ _ _ (by lia) (by lia) (by lia) ey ex
theorem Au(hj:j<=xs.size) (hi:lo<=i) (hn:j<=n) (e:Vm lt xs i j) (h:Qo lt xs lo n):Qo lt (mirror xs i j ((j-i) / 2)) lo n:=by
 intro p q x y h1 h2 h3 ex ey;rw[mw hj]at ex ey
 by_cases cp:i<=p/\p<j
 .rw [qe cp]at ex
  by_cases cq:i<=q/\q<j
  .rw [qe cq]at ey;exact e _ _ _ _ (by lia) (by lia) (by lia) (by lia) ex ey
  .rw [pV cq]at ey;exact h _ _ _ _ (by lia) (by lia) h3 ex ey
 .rw [pV cp]at ex
  by_cases cq:i<=q/\q<j
  .rw [qe cq]at ey;exact h _ _ _ _ h1 (by lia) (by lia) ex ey
  .rw [pV cq]at ey;exact h _ _ _ _ h1 h2 h3 ex ey
end
section
variable (lo:Nat)
def W0(n:Nat):StateT SortSt Sem (ForInStep (Option (Option Nat)×Nat)):=do
 match ←ltAt' (lo+n) (lo+n-1) with
 |some c=>if c then pure (.done (none,n)) else pure (.yield (none,n+1))
 |_=>pure (.done (some none,n))
def X3(n q:Nat):StateT SortSt Sem (ForInStep (Option (Option Nat)×Nat×Nat)):=do
 match ←ltAt' (lo+n) (lo+n-1) with
 |some c =>
  if c then
   if q>0 then do
    let _ ←mJ (lo+n-(q+1)) (lo+n)
    pure (.yield (none,n+1,0))
   else pure (.yield (none,n+1,0))
  else do
   match ←ltAt' (lo+n-1) (lo+n) with
   |some c=>if c then pure (.done (none,n,q)) else pure (.yield (none,n+1,q+1))
   |_=>pure (.done (some none,n,q))
 |_=>pure (.done (some none,n,q))
def Xh(nrem n:Nat):StateT SortSt Sem (Option Nat):=do
 mJ lo (lo+n)
 let r ←forIn [n:nrem] (none,n) λ_ s=>W0 lo s.2
 Break.runK.match_1 (λ_=>StateT SortSt Sem (Option Nat)) r.1 (λv=>pure v) λ_=>pure (some r.2)
def W5(nrem n:Nat):StateT SortSt Sem (Option Nat):=do
 rule "list.sort.descending-run"
 let r ←forIn [n+1:nrem] (none,n+1,0) λ_ s=>X3 lo s.2.1 s.2.2
 Break.runK.match_1 (λ_=>StateT SortSt Sem (Option Nat)) r.1 (λv=>pure v) λ_ =>
  if r.2.2>0 then do
   let _ ←mJ (lo+r.2.1-(r.2.2+1)) (lo+r.2.1)
   Xh lo nrem r.2.1
  else Xh lo nrem r.2.1
theorem Wr(nrem:Nat):countRun' lo nrem=(do
 let r ←forIn [1:nrem] (none,1) λ_ s=>W0 lo s.2
 Break.runK.match_1 (λ_=>StateT SortSt Sem (Option Nat)) r.1 (λv=>pure v) λ_ =>
  if r.2 == nrem then pure (some r.2)
  else if r.2>1 then do
   match ←ltAt' lo (lo+r.2-1) with
   |some c =>
    if c then pure (some r.2)
    else do
     let _ ←mJ lo (lo+r.2)
     W5 lo nrem r.2
   |_=>pure none
  else W5 lo nrem r.2):=countRun'_eq lo nrem
end
section
variable {prog:kL}{w:kN}{A:Around}{E:Value->Shared->Prop}{s:Shared}{κ:lr}{P:kz->Prop}{lt:kz->kz->Bool}
theorem RK(C:zR prog w A s κ P lt) {xs:Array kz}(hp:∀x,x∈xs->P x) (lo:Nat):AD lt xs lo (lo+1):=by
 intro p q x y h1 h2 h3 ex ey;have e:p=q:=by lia
 subst e;rw[ex]at ey;cases ey;exact C.refl (hp _ (aQq ex))
theorem MU(C:zR prog w A s κ P lt) {xs:Array kz}(hp:∀x,x∈xs->P x) {lo n:Nat}(h:AD lt xs lo (lo+(n+1))) (hx:∀x y,xs[lo+(n+1)]?=some x->xs[lo+n]?=some y->lt x y=false) (hz:lo+(n+1)<xs.size):AD lt xs lo (lo+(n+2)):=by
 intro p q x y h1 h2 h3 ex ey
 by_cases c:q<lo+(n+1)
 .exact h p q x y h1 h2 c ex ey
 .have eq:q=lo+(n+1):=by lia
  subst eq
  by_cases c2:p=lo+(n+1)
  .subst c2;rw[ex]at ey;cases ey;exact C.refl (hp _ (aQq ex))
  .have em:xs[lo+n]?=some (xs[lo+n]'(by lia)):=ak (by lia)
   exact C.trans _ _ _ (hp _ (aQq ex)) (hp _ (aQq em)) (hp _ (aQq ey)) (h p (lo+n) _ _ h1 (by lia) (by lia) ex em) (hx _ _ ey em)
theorem Ha(C:zR prog w A s κ P lt) {xs:Array kz}(hp:∀x,x∈xs->P x) {lo n:Nat}(h:Qo lt xs lo (lo+(n+1))) (hx:∀x y,xs[lo+(n+1)]?=some x->xs[lo+n]?=some y->lt y x=false) (hz:lo+(n+1)<xs.size):Qo lt xs lo (lo+(n+2)):=by
 intro p q x y h1 h2 h3 ex ey
 by_cases c:q<lo+(n+1)
 .exact h p q x y h1 h2 c ex ey
 .have eq:q=lo+(n+1):=by lia
  subst eq
  by_cases c2:p=lo+(n+1)
  .subst c2;rw[ex]at ey;cases ey;exact C.refl (hp _ (aQq ex))
  .have em:xs[lo+n]?=some (xs[lo+n]'(by lia)):=ak (by lia)
   exact C.trans _ _ _ (hp _ (aQq ey)) (hp _ (aQq em)) (hp _ (aQq ex)) (hx _ _ ey em) (h p (lo+n) _ _ h1 (by lia) (by lia) ex em)
theorem HB(C:zR prog w A s κ P lt) {lo nrem a:Nat}{st:SortSt}(hp:∀x,x∈kO st->P x) (hk:kindOf st=κ) (ha:1<=a) (han:a<=nrem) (hz:lo+nrem<=(kO st).size) (hs:AD lt (kO st) lo (lo+a)) :
  wpS (kG prog w) A E s (forIn [a:nrem] ((none,a):Option (Option Nat)×Nat) λ_ s=>W0 lo s.2)
   (λc st'=>∃n,c=(none,n)/\st'=st/\a<=n/\n<=nrem/\AD lt (kO st) lo (lo+n)/\(n=nrem∨∃x y,(kO st)[lo+n]?=some x/\(kO st)[lo+n-1]?=some y/\lt x y=true)) st:=by
 refine kX (I:=λi c st'=>c=(none,i)/\st'=st/\a<=i/\i<=nrem/\AD lt (kO st) lo (lo+i)) ?step ?fin ⟨rfl,rfl,aj _,han,hs⟩
 case step =>
  rintro i c st' h1 h2 ⟨rfl,rfl,h3,h4,h5⟩;obtain⟨k,rfl⟩:∃k,i=k+1:=⟨i-1,by lia⟩
  have ex:(kO st')[lo+(k+1)]?=some ((kO st')[lo+(k+1)]'(by lia)):=ak (by lia)
  have ey:(kO st')[lo+(k+1)-1]?=some ((kO st')[lo+k]'(by lia)):=ak (by lia)
  refine kE (C.at ex ey (hp _ (aQq ex)) (hp _ (aQq ey)) hk ?_);cases e:lt ((kO st')[lo+(k+1)]'(by lia)) ((kO st')[lo+k]'(by lia)) with
  |true=>exact kF ⟨_,rfl,rfl,h3,h4,h5,.inr ⟨_,_,ex,ey,e⟩⟩
  |false =>
   refine kF ⟨rfl,rfl,by lia,h2,MU C hp h5 (λx y hx hy=>?_) (by lia)⟩
   have hy':(kO st')[lo+(k+1)-1]?=some y:=hy;rw[ex]at hx;rw[ey]at hy';cases hx;cases hy';exact e
 case fin =>
  rintro c st' ⟨rfl,rfl,h3,h4,h5⟩;have e:max a nrem=nrem:=jR han;rw[e]at h3 h4 h5 ⊢;exact⟨nrem,rfl,rfl,h3,aj _,h5,.inl rfl⟩
theorem CC{i j:Nat}{st:SortSt}{Q:Unit->SortSt->Prop}(h:Q () (kY st (mirror (kO st) i j ((j-i) / 2)))):wpS (kG prog w) A E s (mJ i j) Q st:=by
 rw[reverseSlice'_eq];exact mh h
structure yZ (xs ys:Array kz) (lo hi:Nat):Prop where
 pm:ys.Perm xs
 out:∀k,(k<lo∨hi<=k)->ys[k]?=xs[k]?
theorem yZ.refl(xs:Array kz) (lo hi:Nat):yZ xs xs lo hi:=⟨jX.refl _,λ_ _=>rfl⟩
theorem yZ.trans{xs ys zs:Array kz}{lo hi:Nat}(a:yZ xs ys lo hi) (b:yZ ys zs lo hi):yZ xs zs lo hi:=⟨b.pm.trans a.pm,λk h=>(b.out k h).trans (a.out k h)⟩
theorem yZ.mono{xs ys:Array kz}{lo hi hi':Nat}(a:yZ xs ys lo hi) (h:hi<=hi'):yZ xs ys lo hi':=⟨a.pm,λk q=>a.out k (by lia)⟩
theorem yZ.size{xs ys:Array kz}{lo hi:Nat}(a:yZ xs ys lo hi):ys.size=xs.size:=a.pm.size_eq
theorem yZ.mem{xs ys:Array kz}{lo hi:Nat}(a:yZ xs ys lo hi) {P:kz->Prop}(h:∀x,x∈xs->P x):∀x,x∈ys->P x:=λx hx=>h x (a.pm.mem_iff.mp hx)
theorem yx{xs:Array kz}{lo hi i j:Nat}(hj:j<=xs.size) (h1:lo<=i) (h2:j<=hi):yZ xs (mirror xs i j ((j-i) / 2)) lo hi :=
 ⟨mirror_perm _ _ _ _,λk hk=>by rw[mw hj,pV (by lia)]⟩
structure CR (lt:kz->kz->Bool) (as:Array kz) (lo i q:Nat) (ys:Array kz):Prop where
 b:yZ as ys lo (lo+i)
 d:Qo lt ys lo (lo+i)
 e:Vm lt ys (lo+i-(q+1)) (lo+i)
 p:q+1<=i
theorem CA(C:zR prog w A s κ P lt) {ys:Array kz}(hp:∀x,x∈ys->P x) {i j:Nat}(h:j<=i+1):Vm lt ys i j:=by
 intro p q x y g1 g2 g3 g4 gx gy;have e:p=q:=by lia
 subst e;rw[gx]at gy;cases gy;exact C.refl (hp _ (aQq gx))
theorem Tv(C:zR prog w A s κ P lt) {lo nrem k neq:Nat}{st:SortSt}{ys:Array kz}(hp:∀x,x∈kO st->P x) (hk:kindOf st=κ) (hz:lo+nrem<=(kO st).size) (hi:k+1<nrem) (g:CR lt (kO st) lo (k+1) neq ys) :
  wpS (kG prog w) A E s (X3 lo (k+1) neq) (λr Eg=>∃m q zs,Eg=kY st zs/\m<=nrem/\CR lt (kO st) lo m q zs/\(r = .done (none,m,q)∨r = .yield (none,m,q)/\m=k+1+1)) (kY st ys):=by
 have g1:=g.b;have g2:=g.d;have g3:=g.e;have g4:=g.p;have hpy:=g1.mem hp;have hsz:=g1.size;have ex:ys[lo+(k+1)]?=some (ys[lo+(k+1)]'(by lia)):=ak (by lia)
 have ey:ys[lo+(k+1)-1]?=some (ys[lo+k]'(by lia)):=ak (by lia)
 have px:=hpy _ (aQq ex);have py:=hpy _ (aQq ey);have des:lt (ys[lo+k]'(by lia)) (ys[lo+(k+1)]'(by lia))=false->Qo lt ys lo (lo+(k+1+1)):=λe=>Ha C hpy g2 (λx y hx hy=>by
  have hy':ys[lo+(k+1)-1]?=some y:=hy;rw[ex]at hx;rw[ey]at hy';cases hx;cases hy';exact e) (by lia)
 refine kE (C.at (st:=kY st ys) ex ey px py hk ?_);cases e:lt (ys[lo+(k+1)]'(by lia)) (ys[lo+k]'(by lia)) with
 |true =>
  have g2':=des (C.asym _ _ px py e);dsimp only;rw[qe rfl]
  by_cases cn:neq>0
  .rw [qe cn];refine kE (CC (kF ?_));have bt:yZ (kO st) (mirror ys (lo+(k+1)-(neq+1)) (lo+(k+1)) ((lo+(k+1)-(lo+(k+1)-(neq+1))) / 2)) lo (lo+(k+1)):=g1.trans (yx (by lia) (by lia) (aj _))
   exact⟨_,0,_,rfl,hi,⟨bt.mono (by lia),Au (by lia) (by lia) (by lia) g3 g2',CA C (bt.mem hp) (by lia),by lia⟩,.inr ⟨rfl,rfl⟩⟩
  .rw [pV cn];exact kF ⟨_,0,ys,rfl,hi,⟨g1.mono (by lia),g2',CA C hpy (by lia),by lia⟩,.inr ⟨rfl,rfl⟩⟩
 |false =>
  dsimp only;rw[pV (by decide)]
  refine kE (C.at (st:=kY st ys) ey ex py px hk ?_);cases e':lt (ys[lo+k]'(by lia)) (ys[lo+(k+1)]'(by lia)) with
  |true=>exact kF ⟨_,neq,ys,rfl,cZ hi,g,.inl rfl⟩
  |false =>
   refine kF ⟨_,neq+1,ys,rfl,hi,⟨g1.mono (by lia),des e',?_,by lia⟩,.inr ⟨rfl,rfl⟩⟩
   intro p q x y h1 h2 h3 h4 gx gy;have qx:=hpy _ (aQq gx);have qy:=hpy _ (aQq gy)
   by_cases cp:p=lo+(k+1)
   .subst cp;rw[ex]at gx;cases gx
    by_cases cq:q=lo+(k+1)
    .subst cq;rw[ex]at gy;cases gy;exact C.refl px
    .exact C.trans _ _ _ qy py px (g3 (lo+(k+1)-1) q _ _ (by lia) (by lia) (by lia) (by lia) ey gy) e
   .by_cases cq:q=lo+(k+1)
    .subst cq;rw[ex]at gy;cases gy;exact C.trans _ _ _ px py qx e' (g3 p (lo+(k+1)-1) _ _ (by lia) (by lia) (by lia) (by lia) gx ey)
    .exact g3 p q x y (by lia) (by lia) (by lia) (by lia) gx gy
abbrev VA(lt:kz->kz->Bool) (st:SortSt) (lo nrem:Nat) (Q:Option Nat->SortSt->Prop):=∀n xs,1<=n->n<=nrem->yZ (kO st) xs lo (lo+n)->AD lt xs lo (lo+n)->Q (some n) (kY st xs)
theorem NA(C:zR prog w A s κ P lt) {lo nrem m:Nat}{st:SortSt}{ys:Array kz}{Q:Option Nat->SortSt->Prop}(hp:∀x,x∈kO st->P x) (hk:kindOf st=κ) (hz:lo+nrem<=(kO st).size) (h:VA lt st lo nrem Q)
  (h1:1<=m) (h2:m<=nrem) (b:yZ (kO st) ys lo (lo+m)) (d:Qo lt ys lo (lo+m)):wpS (kG prog w) A E s (Xh lo nrem m) Q (kY st ys):=by
 refine kE (CC ?_);have hsz:=b.size;have f1:=Jn (by lia) d
 have f2:=b.trans (yx (i:=lo) (j:=lo+m) (by lia) (aj _) (aj _))
 refine kE (lj (HB (st:=kY st _) C (f2.mem hp) hk h1 h2 (cE hz (gT f2.size.symm)) f1) ?_);rintro c Eg ⟨n',rfl,rfl,n1',n2',s1',_⟩;exact kF (h n' _ (by lia) n2' (f2.mono (by lia)) s1')
theorem Ou(C:zR prog w A s κ P lt) {lo nrem n:Nat}{st:SortSt}{xs:Array kz}{Q:Option Nat->SortSt->Prop}(hp:∀x,x∈kO st->P x) (hk:kindOf st=κ) (hz:lo+nrem<=(kO st).size) (h:VA lt st lo nrem Q)
  (hn:n<nrem) (b:yZ (kO st) xs lo (lo+n)) (d:Qo lt xs lo (lo+(n+1))):wpS (kG prog w) A E s (W5 lo nrem n) Q (kY st xs):=by
 refine kE (yd (kE (lj (kX
  (I:=λi c Eg=>∃q ys,c=(none,i,q)/\Eg=kY st ys/\i<=nrem/\CR lt (kO st) lo i q ys)
  (Q:=λc Eg=>∃m q ys,c=(none,m,q)/\Eg=kY st ys/\m<=nrem/\CR lt (kO st) lo m q ys)
  ?_ ?_ ⟨0,xs,rfl,rfl,hn,b.mono (by lia),d,CA C (b.mem hp) (by lia),by lia⟩) ?_)))
 .rintro i c Eg _ hi ⟨q,ys,rfl,rfl,_,g⟩;obtain⟨k,rfl⟩:∃k,i=k+1:=⟨i-1,by have:=g.p;lia⟩
  refine lj (Tv C hp hk hz hi g) λr Eg hr=>?_
  obtain⟨m,q,zs,rfl,hm,g',rfl|⟨rfl,rfl⟩⟩:=hr
  .exact ⟨m,q,zs,rfl,rfl,hm,g'⟩
  .exact ⟨q,zs,rfl,rfl,hm,g'⟩
 .rintro c Eg ⟨q,ys,rfl,rfl,hm,g⟩;exact⟨_,q,ys,rfl,rfl,hm,g⟩
 .rintro c Eg ⟨m,q,ys,rfl,rfl,hm,g⟩;have hsz:=g.b.size;have gp:=g.p;dsimp only
  by_cases cn:q>0
  .rw [qe cn];exact kE (CC (NA (st:=st) (ys:=mirror ys (lo+m-(q+1)) (lo+m) ((lo+m-(lo+m-(q+1))) / 2)) C hp hk hz h (by lia) hm (g.b.trans (yx (by lia) (by lia) (aj _))) (Au (by lia) (by lia) (aj _) g.e g.d)))
  .rw [pV cn];exact NA C hp hk hz h (by lia) hm g.b g.d
theorem FX(C:zR prog w A s κ P lt) {lo nrem:Nat}{st:SortSt}{Q:Option Nat->SortSt->Prop}(hp:∀x,x∈kO st->P x) (hk:kindOf st=κ) (h1:1<=nrem) (hz:lo+nrem<=(kO st).size)
  (h:∀n xs,1<=n->n<=nrem->yZ (kO st) xs lo (lo+n)->AD lt xs lo (lo+n)->Q (some n) (kY st xs)):wpS (kG prog w) A E s (countRun' lo nrem) Q st:=by
 rw[Wr];refine kE (lj (HB C hp hk (aj 1) h1 hz (RK C hp lo)) ?_);rintro c st' ⟨n,rfl,rfl,n1,n2,sg1,brk⟩;dsimp only;have triv:Q (some n) st':=h n (kO st') n1 n2 (yZ.refl _ _ _) sg1
 by_cases c1:n=nrem
 .rw [qe (by simp[c1])]
  exact kF triv
 rw[pV (by simpa using c1)]
 obtain⟨xb,yb,exb,eyb,eb⟩:=brk.resolve_left c1;obtain⟨m,rfl⟩:∃m,n=m+1:=⟨n-1,by lia⟩
 have pxb:=hp _ (aQq exb);have pyb:=hp _ (aQq eyb);have go:Vm lt (kO st') lo (lo+(m+1))->Qo lt (kO st') lo (lo+(m+1+1)):=λe1 =>
  Ha C hp (λp q x y g1 g2 g3 ex ey=>e1 p q x y g1 (by lia) (by lia) g3 ex ey) (λx y hx hy=>by
   have hy':(kO st')[lo+(m+1)-1]?=some y:=hy;rw[exb]at hx;rw[eyb]at hy';cases hx;cases hy';exact C.asym _ _ pxb pyb eb) (by lia)
 by_cases c2:m+1>1
 .rw [qe c2];have ex:(kO st')[lo]?=some ((kO st')[lo]'(by lia)):=ak (by lia)
  have pex:=hp _ (aQq ex);refine kE (C.at ex eyb pex pyb hk ?_);cases e:lt ((kO st')[lo]'(by lia)) yb with
  |true=>exact kF triv
  |false =>
   dsimp only;rw[pV (by decide)]
   have eqv:Vm lt (kO st') lo (lo+(m+1)):=by
    intro p q x y g1 g2 g3 g4 gx gy;have px:=hp _ (aQq gx);have py:=hp _ (aQq gy);have q1:=sg1 q (lo+(m+1)-1) _ _ g3 (by lia) (by lia) gy eyb
    have q2:=sg1 lo p _ _ (aj _) g1 g2 ex gx;exact C.trans _ _ _ py pex px (C.trans _ _ _ py pyb pex q1 e) q2
   exact kE (CC (Ou C hp hk hz h (by lia) (yx (by lia) (aj _) (aj _)) (Au (by lia) (aj _) (by lia) eqv (go eqv))))
 .rw [pV c2];exact Ou C hp hk hz h (by lia) (yZ.refl _ _ _) (go (CA C hp (by lia)))
end
section
variable {prog:kL}{w:kN}{A:Around}{E:Value->Shared->Prop}{s:Shared}{κ:lr}{P:kz->Prop}{lt:kz->kz->Bool}
theorem Sb(C:zR prog w A s κ P lt) {xs:Array kz}(hp:∀x,x∈xs->P x) {lo k l:Nat}(hz:lo+k<xs.size) (hl:l<=k) (hs:AD lt xs lo (lo+k)) {x:kz}(hx:xs[lo+k]?=some x)
  (h1:∀j y,j<l->xs[lo+j]?=some y->lt x y=false) (h2:∀j y,l<=j->j<k->xs[lo+j]?=some y->lt x y=true):AD lt (bubble xs (lo+k) (k-l)) lo (lo+(k+1)):=by
 have px:=hp _ (aQq hx);have g:∀p,(bubble xs (lo+k) (k-l))[p]?=if p=lo+l then some x else if lo+l<p/\p<=lo+k then xs[p-1]? else xs[p]?:=λp=>by
  rw[getElem?_bubble hz (k-l) (by lia) p,show lo+k-(k-l)=lo+l by lia,hx]
 intro p q u v a1 a2 a3 eu ev;rw[g]at eu ev
 by_cases cp:p=lo+l
 .rw [qe cp]at eu;cases eu
  by_cases cq:q=lo+l
  .rw [qe cq]at ev;cases ev;exact C.refl px
  .rw [pV cq,qe ⟨by lia,by lia⟩]at ev
   have pv:=hp _ (aQq ev);exact C.asym _ _ px pv (h2 (q-1-lo) v (by lia) (by lia) (by rw[show lo+(q-1-lo)=q-1 by lia];exact ev))
 .rw [pV cp]at eu
  by_cases cp2:lo+l<p/\p<=lo+k
  .rw [qe cp2]at eu;rw[pV (by lia),qe ⟨by lia,by lia⟩]at ev
   exact hs (p-1) (q-1) _ _ (by lia) (by lia) (by lia) eu ev
  .rw [pV cp2]at eu
   by_cases cq:q=lo+l
   .rw [qe cq]at ev;cases ev;exact h1 (p-lo) u (by lia) (by rw[show lo+(p-lo)=p by lia];exact eu)
   .rw [pV cq]at ev
    by_cases cq2:lo+l<q/\q<=lo+k
    .rw [qe cq2]at ev;exact hs p (q-1) _ _ a1 (by lia) (by lia) eu ev
    .rw [pV cq2]at ev;exact hs p q _ _ a1 a2 (by lia) eu ev
theorem Iv{xs:Array kz}{lo k l n:Nat}(hz:lo+k<xs.size) (hl:l<=k) (hn:k<n):yZ xs (bubble xs (lo+k) (k-l)) lo (lo+n) :=
 ⟨bubble_perm _ _ _,λp hp=>by rw[getElem?_bubble hz (k-l) (by lia) p,pV (by lia),pV (by lia)]⟩
theorem NW{src dst:Nat}{st:SortSt}{Q:Unit->SortSt->Prop}(h:Q () (kY st (bubble (kO st) src (src-dst)))):wpS (kG prog w) A E s (moveDown' src dst) Q st:=by
 rw[moveDown'_eq];exact mh h
theorem Iz(C:zR prog w A s κ P lt) {lo n ok:Nat}{st:SortSt}{Q:Bool->SortSt->Prop}(hp:∀x,x∈kO st->P x) (hk:kindOf st=κ) (h1:1<=ok) (h2:ok<=n) (hz:lo+n<=(kO st).size) (hs:AD lt (kO st) lo (lo+ok))
  (h:∀xs,yZ (kO st) xs lo (lo+n)->AD lt xs lo (lo+n)->Q true (kY st xs)):wpS (kG prog w) A E s (binarySort' lo n ok) Q st:=by
 rw[binarySort'_eq];dsimp only;rw[Nat.max_eq_left h1];refine kE (lj (kX (I:=λk c st'=>∃ys,c=(none,())/\st'=kY st ys/\yZ (kO st) ys lo (lo+n)/\AD lt ys lo (lo+k)/\k<=n)
  (Q:=λc st'=>∃ys,c=(none,())/\st'=kY st ys/\yZ (kO st) ys lo (lo+n)/\AD lt ys lo (lo+n)) ?step ?fin ⟨kO st,rfl,rfl,yZ.refl _ _ _,hs,h2⟩) ?post)
 case fin =>
  rintro c st' ⟨ys,rfl,rfl,b1,s1,q⟩;have e:max ok n=n:=by lia
  rw[e]at s1;exact⟨ys,rfl,rfl,b1,s1⟩
 case post =>
  rintro c st' ⟨ys,rfl,rfl,b1,s1⟩;exact kF (h ys b1 s1)
 case step =>
  rintro k c st' hk1 hk2 ⟨ys,rfl,rfl,b1,s1,q⟩;have hpy:=b1.mem hp;have hsz:=b1.size;have ex:ys[lo+k]?=some (ys[lo+k]'(by lia)):=ak (by lia)
  have px:=hpy _ (aQq ex);refine kE (lj (kX (I:=λi c st'=>∃l r,c=(none,l,r)/\st'=kY st ys/\l<=r/\r<=k/\(∀j y,j<l->ys[lo+j]?=some y->lt (ys[lo+k]'(by lia)) y=false)/\(∀j y,r<=j->j<k->ys[lo+j]?=some y->lt (ys[lo+k]'(by lia)) y=true)/\(r-l)+i<=k)
   (Q:=λc st'=>∃l r,c=(none,l,r)/\st'=kY st ys/\l=r/\r<=k/\(∀j y,j<l->ys[lo+j]?=some y->lt (ys[lo+k]'(by lia)) y=false)/\(∀j y,r<=j->j<k->ys[lo+j]?=some y->lt (ys[lo+k]'(by lia)) y=true))
   ?step1 ?fin1 ⟨0,k,rfl,rfl,bq _,aj _,λj y hj=>absurd hj (dA _),λj y g1 g2=>absurd g2 (by lia),by lia⟩) ?post1)
  case fin1 =>
   rintro c st' ⟨l,r,rfl,rfl,a1,a2,a3,a4,a5⟩;exact⟨l,r,rfl,rfl,by lia,a2,a3,a4⟩
  case step1 =>
   rintro i c st' _ hi ⟨l,r,rfl,rfl,a1,a2,a3,a4,a5⟩;dsimp only
   by_cases c1:l ≥ r
   .rw [qe c1];exact kF ⟨l,r,rfl,rfl,by lia,a2,a3,a4⟩
   rw[pV c1];have em:ys[lo+(l+r) / 2]?=some (ys[lo+(l+r) / 2]'(by lia)):=ak (by lia)
   have pm:=hpy _ (aQq em);refine kE (C.at (st:=kY st ys) ex em px pm hk ?_);cases e:lt (ys[lo+k]'(by lia)) (ys[lo+(l+r) / 2]'(by lia)) with
   |true =>
    dsimp only;rw[qe rfl];refine kF ⟨l,_,rfl,rfl,by lia,by lia,a3,λj y g1 g2 ey=>?_,by lia⟩
    have py:=hpy _ (aQq ey);cases e':lt (ys[lo+k]'(by lia)) y with
    |true=>rfl
    |false =>
     have q1:=s1 (lo+(l+r) / 2) (lo+j) _ _ (by lia) (by lia) (by lia) em ey
     have q2:=C.trans _ _ _ pm py px q1 e';rw[e]at q2;cases q2
   |false =>
    dsimp only;rw[pV (by decide)]
    refine kF ⟨_,r,rfl,rfl,by lia,a2,λj y g1 ey=>?_,a4,by lia⟩
    have py:=hpy _ (aQq ey);exact C.trans _ _ _ py pm px (s1 (lo+j) (lo+(l+r) / 2) _ _ (by lia) (by lia) (by lia) ey em) e
  case post1 =>
   rintro c st' ⟨l,r,rfl,rfl,rfl,a2,a3,a4⟩;dsimp only;refine kE (NW (kF ?_));have e:lo+k-(lo+l)=k-l:=by lia
   show ∃ys',_/\kY st (bubble ys (lo+k) (lo+k-(lo+l)))=kY st ys'/\_;rw[e];exact⟨_,rfl,rfl,b1.trans (Iv (by lia) a2 hk2),Sb C hpy (by lia) a2 s1 ex a3 a4,hk2⟩
end
def tT(lt:kz->kz->Bool) (xs:Array kz):Nat->List (Nat×Nat×Nat)->Nat->Prop
 |s,[],e=>s=e
 |s,p::r,e=>p.1=s/\0<p.2.1/\AD lt xs s (s+p.2.1)/\tT lt xs (s+p.2.1) r e
theorem uZ{lt:kz->kz->Bool}{xs:Array kz}:∀{q r:List (Nat×Nat×Nat)}{s e:Nat},tT lt xs s (q++r) e↔∃m,tT lt xs s q m/\tT lt xs m r e
 | [],r,s,e=>by
  constructor
  .intro h;exact⟨s,rfl,h⟩
  .rintro ⟨m,rfl,h⟩;exact h
 |p::q,r,s,e=>by
  constructor
  .rintro ⟨h1,h2,h3,h4⟩;obtain⟨m,a,b⟩:=uZ.mp h4;exact⟨m,⟨h1,h2,h3,a⟩,b⟩
  .rintro ⟨m,⟨h1,h2,h3,a⟩,b⟩;exact⟨h1,h2,h3,uZ.mpr ⟨m,a,b⟩⟩
theorem zg{lt:kz->kz->Bool}{xs:Array kz}:∀{q:List (Nat×Nat×Nat)}{s e:Nat},tT lt xs s q e->s+q.length<=e
 | [],s,e,h=>by have:s=e:=h;simp[this]
 |p::q,s,e,hz=>by
  obtain⟨_,h2,_,h4⟩:=hz;have:=zg h4;rw[lCq];lia
theorem xA{lt:kz->kz->Bool}{xs ys:Array kz}:∀{q:List (Nat×Nat×Nat)}{s e:Nat},(∀k,s<=k->k<e->ys[k]?=xs[k]?)->tT lt xs s q e->tT lt ys s q e
 | [],s,e,_,h=>h
 |p::q,s,e,g,hz=>by
  obtain⟨h1,h2,h3,h4⟩:=hz;have l:=zg h4;refine⟨h1,h2,λa b x y a1 a2 a3 ex ey=>h3 a b x y a1 a2 a3 ?_ ?_,xA (λk k1 k2=>g k (by lia) k2) h4⟩
  .rw [←g a a1 (by lia)];exact ex
  .rw [←g b (by lia) (by lia)];exact ey
theorem AM{lt:kz->kz->Bool}{xs:Array kz}:∀{q q':List (Nat×Nat×Nat)}{s e:Nat},q'.map (λp=>(p.1,p.2.1))=q.map (λp=>(p.1,p.2.1))->tT lt xs s q e->tT lt xs s q' e
 | [],q',s,e,g,h=>by
  have:q'=[]:=by simpa using g
  subst this;exact h
 |p::q,[],s,e,g,h=>by simp at g
 |p::q,p'::q',s,e,g,hz=>by
  obtain⟨h1,h2,h3,h4⟩:=hz;simp only[ar,jJ.injEq,Prod.mk.injEq]at g;obtain⟨⟨g1,g2⟩,g3⟩:=g;rw[←g2]at h2 h3 h4;exact⟨g1.trans h1,h2,h3,AM g3 h4⟩
theorem EU(o:Nat):∀(M:List kz) (n:Nat) (xs:Array kz),o+n+M.length<=xs.size ->
  ((M.zipIdx n).foldl (λa x=>a.setIfInBounds (o+x.2) x.1) xs).toList=xs.toList.take (o+n)++M++xs.toList.drop (o+n+M.length)
 | [],n,xs,h=>by simp
 |y::r,n,xs,h=>by
  rw[List.zipIdx_cons,cG];rw[lCq]at h;rw[EU o r (n+1) _ (by rw[Array.size_setIfInBounds];lia),iq]
  have hl:o+n<xs.toList.length:=by rw[aw];lia
  have e1:(xs.toList.set (o+n) y).take (o+(n+1))=xs.toList.take (o+n)++[y]:=by
   rw[←gF,bH,aA hl,List.take_set_of_le (aj _)];rfl
  have e2:(xs.toList.set (o+n) y).drop (o+(n+1)+r.length)=xs.toList.drop (o+n+(r.length+1)):=by
   rw[List.drop_set_of_lt (by lia)]
   congr 1;lia
  rw[e1,e2,lCq,ai,ai,ai];rfl
section
variable {prog:kL}{w:kN}{A:Around}{E:Value->Shared->Prop}{s:Shared}{κ:lr}{P:kz->Prop}{lt:kz->kz->Bool}
theorem J4(C:zR prog w A s κ P lt) {left:Bool}{key:kz}{arr:Array kz}{base n:Nat}(hb:base+n<=arr.size) (ha:∀x,x∈arr->P x) (hkey:P key) (so:AD lt arr base (base+n)) :
  ∀i j,i<=j->j<n->yr lt left key arr base j=true->yr lt left key arr base i=true:=by
 intro i j hij hj h;have ei:arr[base+i]?=some (arr[base+i]'(by lia)):=ak (by lia)
 have ej:arr[base+j]?=some (arr[base+j]'(by lia)):=ak (by lia)
 have pi:=ha _ (aQq ei);have pj:=ha _ (aQq ej);have le:=so (base+i) (base+j) _ _ (by lia) (by lia) (by lia) ei ej
 rw[uU ej]at h;rw[uU ei];cases left with
 |true =>
  rw[qe rfl]at h ⊢;cases q:lt (arr[base+i]'(by lia)) key with
  |true=>rfl
  |false =>
   have:=C.trans _ _ _ hkey pi pj q le;rw[h]at this;cases this
 |false =>
  rw[pV (by decide)]at h ⊢
  have h':lt key (arr[base+j]'(by lia))=false:=by simpa using h
  have:=C.trans _ _ _ pi pj hkey le h';simp[this]
theorem uI{a:Array kz}{i j:Nat}{x:kz}(h:x∈(a.extract i j).toList):∃k,i<=k/\k<j/\a[k]?=some x:=by
 rw[sq]at h;obtain⟨k,k1,k2,e⟩:=wL h;rw[cF]at e;exact⟨k,k1,k2,e⟩
theorem Cg{a:Array kz}{i j:Nat}(h:AD lt a i j):yJ lt (a.extract i j).toList:=by
 rw[sq];refine cj.mpr λp q hp hq hpq=>?_
 rw[aJ,lTq,aw]at hp hq;have e:∀k (hk:k<((a.toList.take j).drop i).length),a[i+k]?=some ((a.toList.take j).drop i)[k]:=λk hk=>by
  rw[aJ,lTq,aw]at hk;rw[gf,iy,bg];exact⟨by lia,by simp⟩
 exact h (i+p) (i+q) _ _ (by lia) (by lia) (by lia) (e p _) (e q _)
theorem GX(i:Nat):mergeAt' i=(do
 let s ←get
 let (some (sa,na,power),some (sb,nb,_)):=((lY s)[i]?,(lY s)[i+1]?)|mI "internal:list.sort.pending"
 set (setPending s (((lY s).setIfInBounds i (sa,na+nb,power)).eraseIdxIfInBounds (i+1)))
 let some k ←xx false (←lC (kO s) sb) (kO s) sa na 0|return false
 let (sa,na):=(sa+k,na-k)
 if na == 0 then return true
 let some nb ←xx true (←lC (kO s) (sa+na-1)) (kO s) sb nb (nb-1)|return false
 if nb == 0 then return true
 let x:=(kO s).extract sa sb
 let y:=(kO s).extract sb (sb+nb)
 let merged ←if na<=nb then DL x y else C2 x y
 modify λs=>kY s (merged.toList.zipIdx.foldl (λa (p,j)=>a.setIfInBounds (sa+j) p) (kO s))
 return (failedOf (←get)).isNone):=rfl
theorem K2{st st':SortSt}{Q:PUnit->SortSt->Prop}(h:Q ⟨⟩ st'):wpS (kG prog w) A E s (set st':StateT SortSt Sem PUnit) Q st:=by
 unfold wpS;rw[StateT.run_set];exact kH ⟨rfl,h⟩
theorem Ng(C:zR prog w A s κ P lt) {xs zs M:Array kz}{sa na nb k l:Nat}(hp:∀x,x∈xs->P x) (hz:sa+na+nb<=xs.size) (hk:k<=na) (hl:l<=nb) (h1:AD lt xs sa (sa+na)) (h2:AD lt xs (sa+na) (sa+na+nb)) {key last:kz}
  (ek:xs[sa+na]?=some key) (el:xs[sa+na-1]?=some last)
  (k2:∀j y,j<k->xs[sa+j]?=some y->lt key y=false) (l3:∀j y,l<=j->j<nb->xs[sa+na+j]?=some y->lt y last=false) (hna:0<na) (hnb:0<nb)
  (m:Qq lt (xs.extract (sa+k) (sa+na)) (xs.extract (sa+na) (sa+na+l)) M)
  (hzs:zs.toList=xs.toList.take (sa+k)++M.toList++xs.toList.drop (sa+k+M.toList.length)):yZ xs zs sa (sa+na+nb)/\AD lt zs sa (sa+na+nb):=by
 have lM:M.toList.length=(na-k)+l:=by
  have:=m.pm.length_eq;simp only[lAq,aw,fL]at this ⊢;lia
 have hlx:xs.toList.length=xs.size:=aw;have gz:∀p,zs[p]?=if p<sa+k then xs[p]? else if p<sa+na+l then M[p-(sa+k)]? else xs[p]?:=λp=>by
  rw[←ay,hzs]
  by_cases c1:p<sa+k
  .rw [qe c1,ai,gZq (by rw[lTq];lia),eO c1,ay]
  .rw [pV c1,ai,gYq (by rw[lTq];lia),lTq,show min (sa+k) xs.toList.length=sa+k by lia]
   by_cases c2:p<sa+na+l
   .rw [qe c2,gZq (by lia),ay]
   .rw [pV c2,gYq (by lia),cI,ay]
    congr 1;lia
 have pk:=hp _ (aQq ek);have pl:=hp _ (aQq el);have from_:∀q v,M[q]?=some v->(∃j,k<=j/\j<na/\xs[sa+j]?=some v)∨∃j,j<l/\xs[sa+na+j]?=some v:=λq v e=>by
  have hv:v∈M.toList:=by simpa using aQq e
  rcases mAq.mp (m.pm.mem_iff.mp hv) with hv|hv
  .obtain ⟨j,j1,j2,ej⟩:=uI hv;exact .inl ⟨j-sa,by lia,by lia,by rw[show sa+(j-sa)=j by lia];exact ej⟩
  .obtain ⟨j,j1,j2,ej⟩:=uI hv;exact .inr ⟨j-(sa+na),by lia,by rw[show sa+na+(j-(sa+na))=j by lia];exact ej⟩
 refine⟨⟨?_,λp hp'=>?_⟩,?_⟩
 .rw [Array.perm_iff_toList_perm,hzs];have c:xs.toList=xs.toList.take (sa+k)++((xs.extract (sa+k) (sa+na)).toList++(xs.extract (sa+na) (sa+na+l)).toList)++xs.toList.drop (sa+k+M.toList.length):=by
   rw[sq,sq,lM];have a1:=Bk xs.toList (sa+k) (sa+na) (by lia)
   have a2:=Bk xs.toList (sa+na) (sa+na+l) (by lia)
   have a3:sa+k+(na-k+l)=sa+na+l:=by lia
   rw[a3,←ai,←a1,←a2,aY]
  conv=>rhs;rw[c]
  exact aU.append_right _ (aU.append_left _ m.pm)
 .rw [gz]
  by_cases c1:p<sa+k
  .rw [qe c1]
  .rw [pV c1,pV (by lia)]
 .intro p q x y a1 a2 a3 ex ey;rw[gz]at ex ey
  by_cases p1:p<sa+k
  .rw [qe p1]at ex;have px:=hp _ (aQq ex);have lx:lt key x=false:=k2 (p-sa) x (by lia) (by rw[show sa+(p-sa)=p by lia];exact ex)
   by_cases q1:q<sa+k
   .rw [qe q1]at ey;exact h1 p q _ _ a1 a2 (by lia) ex ey
   .rw [pV q1]at ey
    by_cases q2:q<sa+na+l
    .rw [qe q2]at ey;rcases from_ _ _ ey with ⟨j,j1,j2,ej⟩|⟨j,j1,ej⟩
     .exact h1 p (sa+j) _ _ a1 (by lia) (by lia) ex ej
     .exact C.trans _ _ _ px pk (hp _ (aQq ej)) lx (h2 (sa+na) (sa+na+j) _ _ (aj _) (by lia) (by lia) ek ej)
    .rw [pV q2]at ey;exact C.trans _ _ _ px pk (hp _ (aQq ey)) lx (h2 (sa+na) q _ _ (aj _) (by lia) (by lia) ek ey)
  .rw [pV p1]at ex;rw[pV (by lia)]at ey
   by_cases p2:p<sa+na+l
   .rw [qe p2]at ex
    by_cases q2:q<sa+na+l
    .rw [qe q2]at ey;rcases fK a2 with c|c
     .have ex':M.toList[p-(sa+k)]?=some x:=by rw[ay];exact ex
      have ey':M.toList[q-(sa+k)]?=some y:=by rw[ay];exact ey
      obtain⟨hx,e1⟩:=gSq.mp ex';obtain⟨hy,e2⟩:=gSq.mp ey';have:=cj.mp m.so (p-(sa+k)) (q-(sa+k)) hx hy (by lia)
      rw[e1,e2]at this;exact this
     .subst c;rw[ex]at ey;cases ey;rcases from_ _ _ ex with ⟨j,j1,j2,ej⟩|⟨j,j1,ej⟩
      .exact C.refl (hp _ (aQq ej))
      .exact C.refl (hp _ (aQq ej))
    .rw [pV q2]at ey;have py:=hp _ (aQq ey);rcases from_ _ _ ex with ⟨j,j1,j2,ej⟩|⟨j,j1,ej⟩
     .exact C.trans _ _ _ (hp _ (aQq ej)) pl py (h1 (sa+j) (sa+na-1) _ _ (by lia) (by lia) (by lia) ej el) (l3 (q-(sa+na)) y (by lia) (by lia) (by rw[show sa+na+(q-(sa+na))=q by lia];exact ey))
     .exact h2 (sa+na+j) q _ _ (by lia) (by lia) (by lia) ej ey
   .rw [pV p2]at ex;rw[pV (by lia)]at ey
    exact h2 p q _ _ (by lia) a2 (by lia) ex ey
end
section
variable {prog:kL}{w:kN}{A:Around}{E:Value->Shared->Prop}{s:Shared}{κ:lr}{P:kz->Prop}{lt:kz->kz->Bool}
theorem NF{α:Type}{l:List α}{i:Nat}{a b:α}(h1:l[i]?=some a) (h2:l[i+1]?=some b):l=l.take i++a::b::l.drop (i+2):=by
 obtain⟨h3,e3⟩:=gSq.mp h1;obtain⟨h4,e4⟩:=gSq.mp h2
 conv=>lhs;rw[←aY i l]
 rw[aT h3,aT h4,e3,e4]
theorem Lq{α:Type}{q r:List α}{a b c:α}:((q++a::b::r).set q.length c).eraseIdx (q.length+1)=q++c::r:=by
 rw[gG _ _ (aj _),cR,cJ,gg (by lia),fO]
 rfl
theorem B9(C:zR prog w A s κ P lt) {i lo:Nat}{st:SortSt}{Q:Bool->SortSt->Prop}(hp:∀x,x∈kO st->P x) (hk:kindOf st=κ) (hf:failedOf st=none) (hlo:lo<=(kO st).size) (hch:tT lt (kO st) 0 (lY st).toList lo)
  (hi:i+1<(lY st).size) (h:∀xs p g,yZ (kO st) xs 0 lo->p.size+1=(lY st).size->tT lt xs 0 p.toList lo->Q true (SortSt.mk' κ xs p g none)):wpS (kG prog w) A E s (mergeAt' i) Q st:=by
 obtain⟨κ',arr,pend,g0,fl⟩:=st;have hk:κ'=κ:=hk;have hf:fl=none:=hf;subst hk hf;have hp:∀x,x∈arr->P x:=hp;have hlo:lo<=arr.size:=hlo;have hch:tT lt arr 0 pend.toList lo:=hch;have hi:i+1<pend.size:=hi;have e1:pend[i]?=some (pend[i]'(by lia)):=ak (by lia)
 have e2:pend[i+1]?=some (pend[i+1]'(by lia)):=ak (by lia)
 generalize pend[i]'(by lia)=a at e1
 generalize pend[i+1]'(by lia)=b at e2
 obtain⟨sa,na,pa⟩:=a;obtain⟨sb,nb,pb⟩:=b;have e1':pend.toList[i]?=some (sa,na,pa):=by rw[ay];exact e1
 have e2':pend.toList[i+1]?=some (sb,nb,pb):=by rw[ay];exact e2
 have ep:=NF e1' e2';have lq:(pend.toList.take i).length=i:=by rw[lTq,aw];lia
 generalize pend.toList.take i=q at ep lq;generalize pend.toList.drop (i+2)=r at ep;rw[ep]at hch;obtain⟨m0,c1,c2⟩:=uZ.mp hch;obtain⟨x1,x2,x3,x4,x5,x6,x7⟩:=c2;have d1:sa=m0:=x1;have d2:0<na:=x2;have d3:AD lt arr m0 (m0+na):=x3;have f1:sb=m0+na:=x4;have f2:0<nb:=x5;have f3:AD lt arr (m0+na) (m0+na+nb):=x6;have f4:tT lt arr (m0+na+nb) r lo:=x7
 clear x1 x2 x3 x4 x5 x6 x7
 subst d1 f1;have hrl:sa+na+nb+r.length<=lo:=zg f4;have hql:0+q.length<=sa:=zg c1;have hz:sa+na+nb<=arr.size:=by lia
 have np:((pend.setIfInBounds i (sa,na+nb,pa)).eraseIdxIfInBounds (i+1)).toList=q++(sa,na+nb,pa)::r:=by
  rw[Array.toList_eraseIdxIfInBounds,iq,ep,←lq];exact Lq
 have ns:((pend.setIfInBounds i (sa,na+nb,pa)).eraseIdxIfInBounds (i+1)).size+1=pend.size:=by
  rw[←aw,np,←aw,ep];simp only[lAq,lCq];lia
 have fin:∀zs g,yZ arr zs sa (sa+na+nb)->AD lt zs sa (sa+na+nb)->Q true (SortSt.mk' κ' zs ((pend.setIfInBounds i (sa,na+nb,pa)).eraseIdxIfInBounds (i+1)) g none):=λzs g b1 s1=>by
  refine h zs _ g ⟨b1.pm,λk hk=>b1.out k (by lia)⟩ ns ?_
  rw[np];refine uZ.mpr ⟨sa,xA (λk _ k2=>b1.out k (.inl k2)) c1,rfl,by show 0<na+nb;lia,?_,?_⟩
  .show AD lt zs sa (sa+(na+nb));rw[←gF];exact s1
  .show tT lt zs (sa+(na+nb)) r lo;rw[←gF];exact xA (λk k1 _=>b1.out k (.inr k1)) f4
 rw[GX];refine kE (mq ?_);dsimp only;rw[e1,e2];dsimp only;refine kE (K2 ?_);have ek:arr[sa+na]?=some (arr[sa+na]'(by lia)):=ak (by lia)
 have el:arr[sa+na-1]?=some (arr[sa+na-1]'(by lia)):=ak (by lia)
 have pk:=hp _ (aQq ek);have pl:=hp _ (aQq el);refine kE (qw ek ?_);refine kE (vB C d2 (by lia) hp pk rfl (J4 C (by lia) hp pk d3) λk k1 k2 k3=>?_)
 dsimp only;have kl:∀j y,j<k->arr[sa+j]?=some y->lt (arr[sa+na]'(by lia)) y=false:=λj y hj ey=>by
  have:=k2 j hj;rw[uU ey,pV (by decide)]at this
  simpa using this
 have kh:∀j y,k<=j->j<na->arr[sa+j]?=some y->lt (arr[sa+na]'(by lia)) y=true:=λj y h1 h2 ey=>by
  have:=k3 j h1 h2;rw[uU ey,pV (by decide)]at this
  simpa using this
 by_cases c1':na-k=0
 .rw [qe (by simp[c1'])]
  refine kF (fin arr g0 (yZ.refl _ _ _) λp q x y a1 a2 a3 ex ey=>?_)
  have px:=hp _ (aQq ex);have py:=hp _ (aQq ey)
  by_cases q1:q<sa+na
  .exact d3 p q _ _ a1 a2 q1 ex ey
  .by_cases p1:p<sa+na
   .exact C.trans _ _ _ px pk py (kl (p-sa) x (by lia) (by rw[show sa+(p-sa)=p by lia];exact ex)) (f3 (sa+na) q _ _ (aj _) (by lia) a3 ek ey)
   .exact f3 p q _ _ (by lia) a2 a3 ex ey
 rw[pV (by simpa using c1')]
 have ea:sa+k+(na-k)-1=sa+na-1:=by lia
 rw[ea];refine kE (qw el ?_);refine kE (vB C (by lia) (by lia) hp pl rfl (J4 C (by lia) hp pl f3) λl l1 l2 l3=>?_)
 dsimp only;have ll:∀j y,j<l->arr[sa+na+j]?=some y->lt y (arr[sa+na-1]'(by lia))=true:=λj y hj ey=>by
  have:=l2 j hj;rw[uU ey,qe rfl]at this;exact this
 have lh:∀j y,l<=j->j<nb->arr[sa+na+j]?=some y->lt y (arr[sa+na-1]'(by lia))=false:=λj y h1 h2 ey=>by
  have:=l3 j h1 h2;rw[uU ey,qe rfl]at this;exact this
 by_cases c2':l=0
 .rw [qe (by simp[c2'])]
  refine kF (fin arr g0 (yZ.refl _ _ _) λp q x y a1 a2 a3 ex ey=>?_)
  have px:=hp _ (aQq ex);have py:=hp _ (aQq ey)
  by_cases q1:q<sa+na
  .exact d3 p q _ _ a1 a2 q1 ex ey
  .by_cases p1:p<sa+na
   .exact C.trans _ _ _ px pl py (d3 p (sa+na-1) _ _ a1 (by lia) (by lia) ex el) (lh (q-(sa+na)) y (by lia) (by lia) (by rw[show sa+na+(q-(sa+na))=q by lia];exact ey))
   .exact f3 p q _ _ (by lia) a2 a3 ex ey
 rw[pV (by simpa using c2')]
 have sx:yJ lt (arr.extract (sa+k) (sa+na)).toList:=Cg λp q x y a1 a2 a3 ex ey=>d3 p q x y (by lia) a2 a3 ex ey
 have sy:yJ lt (arr.extract (sa+na) (sa+na+l)).toList:=Cg λp q x y a1 a2 a3 ex ey=>f3 p q x y a1 a2 (by lia) ex ey
 have hx:∀x,x∈arr.extract (sa+k) (sa+na)->P x:=λx hx=>by
  obtain⟨j,_,_,e⟩:=uI (ji.mpr hx);exact hp _ (aQq e)
 have hy:∀x,x∈arr.extract (sa+na) (sa+na+l)->P x:=λx hx=>by
  obtain⟨j,_,_,e⟩:=uI (ji.mpr hx);exact hp _ (aQq e)
 have zx:(arr.extract (sa+k) (sa+na)).size=na-k:=by rw[fL];lia
 have zy:(arr.extract (sa+na) (sa+na+l)).size=l:=by rw[fL];lia
 have g0':(arr.extract (sa+na) (sa+na+l))[0]?=some (arr[sa+na]'(by lia)):=by
  rw[iW,qe (by lia),gV]
  exact ek
 have gl':(arr.extract (sa+k) (sa+na))[na-k-1]?=some (arr[sa+na-1]'(by lia)):=by
  rw[iW,qe (by lia),show sa+k+(na-k-1)=sa+na-1 by lia]
  exact el
 have low:∀y∈(arr.extract (sa+k) (sa+na)).toList,lt y (arr[sa+na]'(by lia))=false:=λy hy=>by
  obtain⟨j,j1,j2,ej⟩:=uI hy;exact C.asym _ _ pk (hp _ (aQq ej)) (kh (j-sa) y (by lia) (by lia) (by rw[show sa+(j-sa)=j by lia];exact ej))
 have high:∀x∈(arr.extract (sa+na) (sa+na+l)).toList,lt (arr[sa+na-1]'(by lia)) x=false:=λx hx=>by
  obtain⟨j,j1,j2,ej⟩:=uI hx;exact C.asym _ _ (hp _ (aQq ej)) pl (ll (j-(sa+na)) x (by lia) (by rw[show sa+na+(j-(sa+na))=j by lia];exact ej))
 have done:∀M g,Qq lt (arr.extract (sa+k) (sa+na)) (arr.extract (sa+na) (sa+na+l)) M ->
   Q true (SortSt.mk' κ' (M.toList.zipIdx.foldl (λa x=>a.setIfInBounds (sa+k+x.snd) x.fst) arr) ((pend.setIfInBounds i (sa,na+nb,pa)).eraseIdxIfInBounds (i+1)) g none):=λM g mg=>by
  have lM:M.toList.length=(na-k)+l:=by
   have:=mg.pm.length_eq;simp only[lAq,aw,fL]at this ⊢;lia
  have wb:=EU (sa+k) M.toList 0 arr (by lia)
  obtain⟨b1,s1⟩:=Ng C hp hz k1 l1 d3 f3 ek el kl lh d2 f2 mg wb;exact fin _ g b1 s1
 by_cases c3:na-k<=l
 .rw [qe c3];refine kE (GI (κ:=κ') (a:=arr.extract (sa+k) (sa+na)) (b:=arr.extract (sa+na) (sa+na+l)) C hx hy rfl sx sy (by rw[zx];lia) (by rw[zy];lia) (λx ex y hy=>?_) (λj hj x hx y hy=>?_) λM g mg=>?_)
  .rw [g0']at ex;cases ex;exact low y hy
  .have hj':j=na-k-1:=by lia
   subst hj';have:y=arr[sa+na-1]'(by lia):=by
    obtain⟨t,t1,t2⟩:=ze hy;rw[zx]at t1;have t0:t=0:=by lia
    subst t0;rw[gV,gl']at t2;exact(aD.inj t2).symm
   rw[this];exact high x hx
  .refine kE (mh ?_);refine kE (mq ?_);exact kF (done M g mg)
 .rw [pV c3];refine kE (G9 (κ:=κ') (a:=arr.extract (sa+k) (sa+na)) (b:=arr.extract (sa+na) (sa+na+l)) C hx hy rfl sx sy (by rw[zx];lia) (by rw[zy];lia) (λx hx y hy=>?_) (λx ex y hy=>?_) λM g mg=>?_)
  .have:x=arr[sa+na]'(by lia):=by
    obtain⟨t,t1,t2⟩:=zt hx;have t0:t=0:=by lia
    subst t0;rw[cF,g0']at t2;exact(aD.inj t2).symm
   rw[this];exact low y hy
  .rw [zx,gl']at ex;cases ex;exact high y hy
  .refine kE (mh ?_);refine kE (mq ?_);exact kF (done M g mg)
end
section
variable {prog:kL}{w:kN}{A:Around}{E:Value->Shared->Prop}{s:Shared}{κ:lr}{P:kz->Prop}{lt:kz->kz->Bool}
abbrev yy(κ:lr) (xs:Array kz) (p:Array (Nat×Nat×Nat)) (g:Nat):SortSt:=SortSt.mk' κ xs p g none
theorem Dh{xs:Array kz}{p:Array (Nat×Nat×Nat)}{lo n:Nat}(h:tT lt xs 0 p.toList lo) (hn:0<n) (hs:AD lt xs lo (lo+n)):tT lt xs 0 (p.push (lo,n,0)).toList (lo+n):=by
 rw[dB];exact uZ.mpr ⟨lo,h,rfl,hn,hs,rfl⟩
theorem Ek(p:Array (Nat×Nat×Nat)) (i pw:Nat):(p.modify i λx=>(x.fst,x.2.fst,pw)).toList.map (λp=>(p.1,p.2.1))=p.toList.map (λp=>(p.1,p.2.1)):=by
 apply dD;intro k;rw[gMq,gMq,ay,ay,Array.getElem?_modify];split
 .cases p[k]? <;> rfl
 .rfl
theorem FB(C:zR prog w A s κ P lt) {arr:Array kz}{g:Nat}{Q:Unit->SortSt->Prop}(hp:∀x,x∈arr->P x) (h2:2<=arr.size)
    (h:∀xs p g',xs.Perm arr->AD lt xs 0 arr.size->Q () (yy κ xs p g')):wpS (kG prog w) A E s sortRuns' Q (yy κ arr #[] g):=by
  rw[sortRuns'_eq];refine kE (mq ?_);dsimp only;have e0:kO (yy κ arr #[] g)=arr:=rfl;rw[e0];generalize minRun' arr.size arr.size 0=mr;refine kE (lj (kX
    (I:=λi c st'=>∃lo xs p g',c=(none,lo)/\st'=yy κ xs p g'/\xs.Perm arr/\lo<=arr.size/\tT lt xs 0 p.toList lo/\i<=lo)
    (Q:=λc st'=>∃xs p g',c=(none,arr.size)/\st'=yy κ xs p g'/\xs.Perm arr/\tT lt xs 0 p.toList arr.size)
    ?step ?fin ⟨0,arr,#[],g,rfl,rfl,jX.refl _,bq _,rfl,aj _⟩) ?post)
  case fin =>
    rintro c st' ⟨lo,xs,p,g',rfl,rfl,q1,q2,q3,q4⟩;have e:lo=arr.size:=by lia
    subst e;exact⟨xs,p,g',rfl,rfl,q1,q3⟩
  case step =>
    rintro i c st' _ hi ⟨lo,xs,p,g',rfl,rfl,q1,q2,q3,q4⟩;dsimp only;have hpx:∀x,x∈xs->P x:=λx hx=>hp x (q1.mem_iff.mp hx)
    have hzx:xs.size=arr.size:=q1.size_eq
    by_cases c1:lo ≥ arr.size
    . rw[qe c1]
      have e:lo=arr.size:=by lia
      subst e;exact kF ⟨xs,p,g',rfl,rfl,q1,q3⟩
    rw[pV c1];refine kE (FX (st:=yy κ xs p g') C hpx rfl (by lia) (by show lo+(arr.size-lo)<=xs.size;lia) λn ys n1 n2 b1 s1=>?_)
    dsimp only;have hb:yZ xs ys lo (lo+n):=b1;show wpS _ _ _ _ _ _ (yy κ ys p g')
    by_cases c2:n<mr
    all_goals
      first
        | (rw[qe c2]
           refine kE (yd ?_);refine kE (Iz (st:=yy κ ys p g') (n:=min (arr.size-lo) mr) C (hb.mem hpx) rfl n1 (by lia) (by show lo+min (arr.size-lo) mr<=ys.size;have:=hb.size;lia) s1 λzs b2 s2=>?_)
           rw[pV (by decide)]
           have hb2:yZ xs zs lo (lo+min (arr.size-lo) mr):=(hb.mono (by lia)).trans b2
           have nn:1<=min (arr.size-lo) mr:=by lia
           have nl:lo+min (arr.size-lo) mr<=arr.size:=by lia
           show wpS _ _ _ _ _ _ (yy κ zs p g')
           clear b1 s1 hb b2
           generalize min (arr.size-lo) mr=nN at hb2 nn nl s2 ⊢)
        | (rw[pV c2]
           have hb2:=hb;have s2:=s1;have nn:=n1;have nl:lo+n<=arr.size:=by lia
           clear b1 s1 hb
           generalize hnN:n=nN at hb2 nn nl s2 ⊢;generalize hzs:ys=zs at hb2 s2 ⊢)
      have hpz:=hb2.mem hpx;have hzz:=hb2.size;have hcz:tT lt zs 0 p.toList lo:=xA (λk _ k2=>hb2.out k (.inl k2)) q3
      have pz:zs.Perm arr:=hb2.pm.trans q1;refine kE (mq ?_);have ep:lY (yy κ zs p g')=p:=rfl;rw[ep];cases eb:p.back? with
      |none =>
        dsimp only;refine kE (mh (kF ?_));exact⟨lo+nN,zs,p.push (lo,nN,0),g',rfl,rfl,pz,nl,Dh hcz nn s2,by lia⟩
      |some t =>
        obtain⟨s1',n1',pw0⟩:=t;dsimp only;refine kE (lj (kX
          (I:=λi c st'=>∃ys q g2,c=(none,())/\st'=yy κ ys q g2/\yZ zs ys 0 lo/\tT lt ys 0 q.toList lo)
          (Q:=λc st'=>∃ys q g2,c=(none,())/\st'=yy κ ys q g2/\yZ zs ys 0 lo/\tT lt ys 0 q.toList lo)
          ?step1 (λc st' hh=>hh) ⟨zs,p,g',rfl,rfl,yZ.refl _ _ _,hcz⟩) ?post1)
        case step1 =>
          rintro j c st' _ hj ⟨ys2,q,g2,rfl,rfl,b3,ch3⟩;refine kE (mq ?_);have eq:lY (yy κ ys2 q g2)=q:=rfl;rw[eq]
          by_cases d1:q.size>1
          . rw[qe d1]
            have eo:q[q.size-2]?=some (q[q.size-2]'(by lia)):=ak (by lia)
            rw[eo];generalize q[q.size-2]'(by lia)=o
            obtain⟨o1,o2,older⟩:=o;dsimp only;split
            . exact kF ⟨ys2,q,g2,rfl,rfl,b3,ch3⟩
            . refine kE (B9 (st:=yy κ ys2 q g2) C (b3.mem hpz) rfl rfl (by show lo<=ys2.size;have:=b3.size;lia) ch3 (by show q.size-2+1<q.size;lia) λxs3 p3 g3 b4 _ ch4=>?_)
              rw[pV (by decide)]
              exact kF ⟨xs3,p3,g3,rfl,rfl,b3.trans b4,ch4⟩
          . rw[pV d1]
            exact kF ⟨ys2,q,g2,rfl,rfl,b3,ch3⟩
        case post1 =>
          rintro c st' ⟨ys2,q,g2,rfl,rfl,b3,ch3⟩;dsimp only;refine kE (mh (kE (mh (kF ?_))));have s3:AD lt ys2 lo (lo+nN):=λa b x y a1 a2 a3 ex ey=>s2 a b x y a1 a2 a3 (by rw[←b3.out a (.inr a1)];exact ex) (by rw[←b3.out b (.inr (by lia))];exact ey)
          exact⟨lo+nN,ys2,_,g2,rfl,rfl,b3.pm.trans pz,nl,Dh (AM (Ek q _ _) ch3) nn s3,by lia⟩
  case post =>
    rintro c st' ⟨xs,p,g',rfl,rfl,q1,q3⟩;dsimp only;refine kE (lj (kX
      (I:=λi c st'=>∃ys q g2,c=(none,())/\st'=yy κ ys q g2/\ys.Perm arr/\tT lt ys 0 q.toList arr.size/\q.size+i<=arr.size)
      (Q:=λc st'=>∃ys q g2,c=(none,())/\st'=yy κ ys q g2/\ys.Perm arr/\tT lt ys 0 q.toList arr.size/\q.size<=1)
      ?step2 ?fin2 ⟨xs,p,g',rfl,rfl,q1,q3,by have:=zg q3;rw[aw]at this;lia⟩) ?post2)
    case fin2 =>
      rintro c st' ⟨ys,q,g2,rfl,rfl,r1,r2,r3⟩;exact⟨ys,q,g2,rfl,rfl,r1,r2,by lia⟩
    case step2 =>
      rintro j c st' _ hj ⟨ys,q,g2,rfl,rfl,r1,r2,r3⟩;refine kE (mq ?_);have eq:lY (yy κ ys q g2)=q:=rfl;rw[eq]
      by_cases d1:q.size<=1
      . rw[qe d1]
        exact kF ⟨ys,q,g2,rfl,rfl,r1,r2,d1⟩
      rw[pV d1];have hi':∀(b:Prop) [Decidable b],(if b then q.size-2-1 else q.size-2)+1<q.size:=λb _=>by split <;> lia
      refine kE (B9 (st:=yy κ ys q g2) C (λx hx=>hp x (r1.mem_iff.mp hx)) rfl rfl (by show arr.size<=ys.size;have:=r1.size_eq;lia) r2 (hi' _) λxs3 p3 g3 b4 ns ch4=>?_)
      rw[pV (by decide)]
      have ns':p3.size+1=q.size:=ns;exact kF ⟨xs3,p3,g3,rfl,rfl,b4.pm.trans r1,ch4,by lia⟩
    case post2 =>
      rintro c st' ⟨ys,q,g2,rfl,rfl,r1,r2,r3⟩;refine kF (h ys q g2 r1 ?_);rw[←aw]at r3;cases eq:q.toList with
      |nil =>
        rw[eq]at r2;have r2':0=arr.size:=r2;lia
      |cons a r =>
        rw[eq]at r2 r3;have er:r=[]:=by
          rw[lCq]at r3;exact bc.mp (by lia)
        subst er;obtain⟨_,_,s3,e3⟩:=r2;have e3':0+a.2.1=arr.size:=e3;rw[e3']at s3;exact s3
end
end MrS
namespace Xe
open PySem
abbrev WJ:List Value:=[.type "ValueError", .type "Exception", .type "BaseException", .type "object"]
abbrev Lk{α:Type}(M:Model) (h:Heap) (x:Sem α) (r:α):Prop :=
 ∀(A:Around) (Q:α->Shared->Prop) (E:Value->Shared->Prop) (s:Shared),(∀b o,h.get? b=some o->s.heap.get? b=some o)->Q r s->kJ M A x Q E s
end Xe
namespace Xe
open PySem
open Builtin Builtin.ObjectAttr
section
variable {prog:kL}{w:kN}{A:Around}{E:Value->Shared->Prop}{s:Shared}{env:Env}{e:Addr}{c0:Value}{t:Expr}{n:Str}{b₀:Stmt}{suite:List Stmt}{pos:Pos}{rest:List ExceptHandler}{Q:Flow->Shared->Prop}
abbrev Mt(M:Model) (e:Addr) (c0:Value) (b:Bool) (s:Shared):Prop:=∀(A:Around) (Q:Bool->Shared->Prop) (E:Value->Shared->Prop),Q b s->kJ M A (excMatches (.ref e) c0) Q E s
end
end Xe
namespace Mr
abbrev St:=L2.St
open PySem PySem.Spec PyProof.Rows L2
section
variable {X:Cx}{oV:List (Addr×Obj)}{σ:List (Option V)}{H H':Hp}{s:Shared}{h':Heap}
theorem Qh{t':Nat}{fp:List Addr}{T:Addr}{o:HO}(I:Inv X oV σ H s) (k:∀b u,b∉fp->s.heap.get? b=some u->h'.get? b=some u)
  (hf:∀b∈fp,Du X oV H b) (hT:s.heap.objs.size<=T) (new:rV X.prog X.w (rK H T o) h' T o):Inv X oV σ (rK H T o) { s with heap:=h',toks:=t' }:=by
 have hn:H T=none:=I.hok.fresh hT;have nf:∀b u,H b=some u->b∉fp:=λb u e z=>by rw[(hf b z).1]at e;cases e
 refine I.step (g':=s.gens) (d':=s.drawn) (ch:=fp) (λb hb=>?_) (λb u _ _ hc e _=>k b u hc e) (λb u _ _ hc e _=>⟨u.slots,k b u hc e⟩)
  (λb u _ e n=>by rw[pS (aL (aG (az e) hT))];exact n) (λb u hc e=>⟨u,k b u hc e⟩)
  (λb xs e=>by rw[pS (rM e hn)];exact e) (λb u xs e=>by rw[pS (rM e hn)];exact e) (λb ps e=>⟨#[],by rw[pS (rM e hn),e];simp⟩) (λm hm=>?_) (λb u e=>?_) I.bare
 .obtain ⟨_,f1,_,f3,f4,f5⟩:=hf b hb;exact⟨f3,f1,f4,f5⟩
 .obtain ⟨u,es,ep,ho,r⟩:=hm;exact⟨u,es,ep,k _ u (λz=>(hf _ z).2.1 rfl) ho,r⟩
 .by_cases hb:b=T
  .subst hb;rw[qa]at e;cases e;exact new
  .rw [pS hb]at e;refine(I.hok b u e).stay (λc v hc q=>k c v ?_ q) (λc q=>by rw[pS (rM q hn)];exact q) λc xs q=>by rw[pS (rM q hn)];exact q
   rcases hc with rfl|hc
   .exact nf _ u e
   .exact nf c _ hc
theorem QM{t':Nat}{fp:List Addr}(I:Inv X oV σ H s) (k:∀b u,b∉fp->s.heap.get? b=some u->h'.get? b=some u)
  (hf:∀b∈fp,Du X oV H b):Inv X oV σ H { s with heap:=h',toks:=t' }:=by
 have nf:∀b u,H b=some u->b∉fp:=λb u e z=>by rw[(hf b z).1]at e;cases e
 refine I.step (g':=s.gens) (d':=s.drawn) (ch:=fp) (λb hb=>?_) (λb u _ _ hc e _=>k b u hc e) (λb u _ _ hc e _=>⟨u.slots,k b u hc e⟩)
  (λ_ _ _ _ n=>n) (λb u hc e=>⟨u,k b u hc e⟩) (λ_ _ e=>e) (λ_ _ _ e=>e) (λb ps e=>⟨#[],by rw[e];simp⟩) (λm hm=>?_) (λb u e=>?_) I.bare
 .obtain ⟨_,f1,_,f3,f4,f5⟩:=hf b hb;exact⟨f3,f1,f4,f5⟩
 .obtain ⟨u,es,ep,ho,r⟩:=hm;exact⟨u,es,ep,k _ u (λz=>(hf _ z).2.1 rfl) ho,r⟩
 .refine (I.hok b u e).stay (λc v hc q=>k c v ?_ q) (λ_ q=>q) λ_ _ q=>q
  rcases hc with rfl|hc
  .exact nf _ u e
  .exact nf c _ hc
end
def VD(K:W.Frag) (a:Addr):It :=
  ⟨λi H=>∃xs x,tJ K H a xs/\xs[i]?=some x,
   λi H v H'=>∃T x,H T=none/\v = .ref T/\H'=rK H T (.tup [.int i,x])/\∀xs,tJ K H a xs->xs[i]?=some x,
   λi H=>∃xs,tJ K H a xs/\xs.length<=i⟩
theorem Mu{P:kL}{w:kN}{K:W.Frag}{elts:List Expr}{k:Nat}{pos:Pos}(a e it:Addr) (hne:e≠it) :
  IV P w K (.Tuple elts k pos) (VD K a) [e,it] e (λi h=>(∃old,IsEnum h e it i old)/\h.IsListIter it a i) where
 mem:=by simp
 obj:=λi h st b hb=>by
  obtain⟨⟨old,he⟩,o,ho,_,d⟩:=st;rcases ae.mp hb with rfl|hb
  .exact ⟨_,he,λv z=>by
    have z':Data.fields _=Data.cell v:=z;cases z'⟩
  .have e:b=it:=by simpa using hb
   subst e;exact⟨o,ho,λv z=>by rw[d]at z;cases z⟩
 keep:=λi h h' st kp=>by
  obtain⟨⟨old,he⟩,hit⟩:=st;exact⟨⟨old,kp e (by simp) _ he⟩,hit.at λo q=>kp it (by simp) o q⟩
 item:=by
  intro X hP hw hK hc i oV s σ H E I hf st hg;subst hP hw hK;obtain⟨xs,x,hq,hx⟩:=hg;obtain⟨its,rv,p,hz⟩:=I.list hq;obtain⟨u,hu,ru⟩:=rv.get hx;obtain⟨⟨old,he⟩,hit⟩:=st;have hil:it<s.heap.objs.size:=by obtain⟨_,q,_⟩:=hit;exact az q
  have hel:e<s.heap.objs.size:=az he;refine wpAny_pyNext_enum_item he hit p.isList (x:=u) (by simpa using hu) hne λh1 he1 hit1 ht1 hz1 hk1=>⟨_,rfl,?_⟩
  refine wpAny_letOwnedTupleGo_enum he1 λh2 he2 hs2=>?_
  replace hs2:cO e h1 h2:=hs2;have hn:H s.heap.objs.size=none:=I.hok.fresh (aj _);refine⟨.ref s.heap.objs.size,rK H s.heap.objs.size (.tup [.int i,x]),?_,rfl,⟨_,x,hn,rfl,rfl,λys hy=>by rw[I.list_inj hy hq];exact hx⟩,⟨⟨_,by simpa using he2⟩,hit1.extBut hs2.extBut (Ne.symm hne)⟩,λb hb=>?_⟩
  .show L2.Inv X oV σ _ { s with heap:=h2,toks:=s.toks+1 }
   refine Qh (s:=s) (fp:=[e,it]) I (λb o hb q=>?_) hf (aj _) ⟨by simp only[lCq,eZ];rw[lK];decide,[.int i s.toks,u],.cons ⟨_,rfl⟩ (.cons ru .nil),_,hs2.extBut _ _ (fk hel) ht1,rfl,_,rfl⟩
   have b1:b≠e:=λz=>hb (by simp[z])
   exact hs2.extBut b o b1 (hk1 b o b1 (λz=>hb (by simp[z])) q)
  .have hb2:b<s.heap.objs.size:=by
    rcases ae.mp hb with rfl|hb
    .exact hel
    .have e:b=it:=by simpa using hb
     subst e;exact hil
   rw[pS (aL hb2)];exact(hf b hb).1
 done:=by
  intro X hP hw hK hc i oV s σ H E I hf st hg;subst hP hw hK;obtain⟨xs,hq,hx⟩:=hg;obtain⟨its,rv,p,hz⟩:=I.list hq;obtain⟨⟨old,he⟩,hit⟩:=st;have hl:=rv.length;exact wpAny_pyNext_enum_end (I.ok.hd hc) he hit p.isList (by simp;lia) λh1 eb=>⟨rfl,QM (t':=s.toks) (fp:=[e,it]) I (λb o hb q=>eb b o (λz=>hb (by simp[z])) q) hf⟩
 self:=λ_ _ _ _ _ st h=>by
  obtain⟨⟨old,he⟩,_⟩:=st;exact wpAny_pyIter_enum he h
section
variable {X:Cx}{elts:List Expr}{kk:Nat}{tpos:Pos}
def Sq(K:W.Frag) (ta:TA):TI:=λσ H R=>ta σ H λvs H1=>∃a,vs=[.ref a]/\(∃xs,tJ K H1 a xs)/\R (VD K a) H1
theorem QQ{e:Expr}{ta:TA}{p pos:Pos}(hg:Gl X "enumerate") (hm:X.mg "enumerate" = none) (ha:PA X [e] ta) (hs:kP [e] X.env=[(false,eval e X.env)]:=by rfl) :
  PI X (.Tuple elts kk tpos) (.Call (.Name "enumerate" p) [e] [] pos) (Sq X.K ta):=by
 intro oV s σ H R I h;refine Call_ (AJ I hg hm boot_enumerate (dZ (thn (ha pos oV s σ H _ I h) λus s1 hz1=>?_) hs rfl))
 obtain⟨vs,H1,I1,r1,q1⟩:=hz1;obtain⟨a,e1,⟨xs,hq⟩,q⟩:=q1;subst e1;obtain⟨u,rfl,ru⟩:=xl r1;cases ru;obtain⟨its,rv,p1,hz⟩:=I1.list hq;refine call_enumerate_list p1.isList λg he hit hsz hk=>wpAny_pyIter_enum he ?_
 refine⟨s1.heap.objs.size+1,[s1.heap.objs.size+1,s1.heap.objs.size],_,_,H1,rfl,I1.kept (t':=s1.toks) hk,Mu a _ _ (Nat.succ_ne_self _),⟨⟨_,he⟩,hit⟩,λb hb=>?_,q⟩
 have hb2:s1.heap.objs.size<=b:=by
  simp only[ae,iJ,or_false]at hb;rcases hb with rfl|rfl
  .exact cU _
  .exact aj _
 exact I1.fpOk hb2 (I1.hok.fresh hb2)
end
theorem Nt{K:W.Frag}{a:Addr}{xs:List V}{i1 i2:Nat}{tb:TS}{D:Ad}{σ:St}{H:Hp}(Pv:Nat->St->Hp->Prop) (h0:Pv 0 σ H) (hl:∀i σ H,i<=xs.length->Pv i σ H->tJ K H a xs)
  (hs:∀i x σ H T,xs[i]?=some x->Pv i σ H->H T=none->tb { D with nx:=Pv (i+1),ct:=Pv (i+1),bk:=D.nx } ((σ.set i1 (some (.int i))).set i2 (some x)) (rK H T (.tup [.int i,x]))) (hd:∀σ H,Pv xs.length σ H->D.nx σ H) :
  ∃W:Nat->Nat->St->Hp->Prop,(∃m,W 0 m σ H)/\∀i m σ H,W i m σ H ->
   ((VD K a).stop i H/\D.nx σ H)∨((VD K a).go i H/\∃N:St->Hp->Prop,(∀σ' H',N σ' H'->∃m',m'<m/\W (i+1) m' σ' H')/\∀x H',(VD K a).yld i H x H'->QY K 2 (D6 (uv i1) (D6 (uv i2) Rp)) x σ H' λσ2 H2=>tb { D with nx:=N,ct:=N,bk:=D.nx } σ2 H2):=by
 refine⟨λi m σ H=>m=xs.length-i/\i<=xs.length/\Pv i σ H,⟨xs.length,by simp,bq _,h0⟩,?_⟩
 rintro i m σ H ⟨rfl,hi,p⟩;have q:=hl i σ H hi p
 by_cases hlt:i<xs.length
 .refine .inr ⟨⟨xs,xs[i],q,by simp[hlt]⟩,Pv (i+1),λσ' H' p'=>⟨xs.length-(i+1),by lia,rfl,hlt,p'⟩,λv H' y=>?_⟩
  obtain⟨T,x,hT,rfl,rfl,hx⟩:=y;exact⟨T,_,rfl,IT.of qa,rfl,_,_,rfl,_,_,rfl,rfl,hs i x σ H T (hx xs q) p hT⟩
 .have e:i=xs.length:=by lia
  subst e;exact .inl ⟨⟨xs,q,aj _⟩,hd σ H p⟩
section
variable {X:Cx}
theorem xO{oV:List (Addr×Obj)}{σ:St}{H:Hp}{s:Shared}{a:Addr}{ns:List Int}(I:Inv X oV σ H s) (h:tJ X.K H a (ns.map V.int)) :
  ∃vs:List Value,s.heap.IsList a vs.toArray/\kS vs ns/\ns.length<=kK:=by
 obtain⟨its,r,p,z⟩:=I.list h;rw[lMq]at z;exact⟨its,p.isList,AA r,z⟩
theorem EI(hc:X.calm=true):xw X (.builtin "min") (λxs H Q=>∃(a:Addr) (ns:List Int),xs=[.ref a]/\tJ X.K H a (ns.map V.int)/\0<ns.length/\∀M,M∈ns->(∀x,x∈ns->M<=x)->Q (.int M) H):=by
 intro oV s σ H xs us Q I r h;obtain⟨a,ns,rfl,hS,hne,q⟩:=h;obtain⟨u,rfl,ru⟩:=xl r;cases ru;obtain⟨vs,hl,hi,_⟩:=xO I hS;obtain⟨xs,e⟩:=hi.allInts.items;have hns:ns=xs.toList.map (·.1):=by
  rw[←hi.numsOf,←nums_intItems,←e]
 have hsz:0<xs.size:=by
  have h3:=hne;rw[hns,lMq,aw]at h3;exact h3
 rw[e]at hl;refine min_intList (I.ok.hd hc) hl hsz λv h' tk hv hk=>?_
 obtain⟨t,rfl⟩:=intItems_at hv;obtain⟨h1,h2⟩:=argBest_lt (numAt xs) (xs.size-1);refine⟨.int _,H,I.kept hk,⟨t,rfl⟩,q _ ?_ λx hx=>?_⟩
 .rw [hns,numAt_eq];exact PySem.getD_mem (by rw[lMq,aw];lia)
 .rw [hns]at hx;obtain⟨j,hj,rfl⟩:=PySem.mem_getD hx;rw[lMq,aw]at hj;rw[←numAt_eq];exact h2 j (by lia)
def NG(K:W.Frag):V->List V->Hp->VK->Prop:=λx vs H Q=>∃(a:Addr) (ns:List Int) (k:Int),x = .ref a/\vs=[.int k]/\tJ K H a (ns.map V.int)/\k∈ns/\Q (.int (ns.idxOf k:Nat)) H
theorem H0:VX X "list.index" (NG X.K):=by
 intro oV s σ H x xs v us Q I rx r h;obtain⟨a,ns,k,rfl,rfl,hS,hk,q⟩:=h;cases rx;obtain⟨u,rfl,t,rfl⟩:=xl r;obtain⟨its,rv,⟨o,n,ho,hc,hd0,hd⟩,hz⟩:=I.list hS;have hi:=AA rv;obtain⟨cls,dd,data,sl⟩:=o;simp only at hc hd0 hd;subst hc hd0 hd;have hlen:=hi.length;have hj:ns.idxOf k<ns.length:=iF.mpr hk;have hs:kK=16777216:=lK;rw[lMq]at hz;refine mV fP ⟨_,ho,rfl⟩ PySem.F.entry_list_index (PySem.F.args_list_index_2 _ _)
  (SeqAt.list_indexAt a its.toArray n none sl (.int k t) (isInt k) (ns.idxOf k) (by simpa [hlen] using hj) (by lia) ?_ ?_) ⟨ho,λy hy=>(eq_isInt k t hi y (by simpa using hy)).at _ _,?_⟩
 .show isInt k its[ns.idxOf k]=true;rw[isInt_at k hi _ (by lia) hj]
  simpa using jz hj
 .intro j hjs hlt;show isInt k its[j]=false;rw[isInt_at k hi j (by simpa using hjs) (by lia)]
  exact ne_of_lt_idxOf hlt _
 .exact ⟨.int _,H,I.tok _,⟨_,rfl⟩,q⟩
def Wy(K:W.Frag) (x:V) (H:Hp) (T:String) (b:Bool):Prop :=
 match x with
 | .int _=>(T = "int" /\ b=true)∨(T = "bool" /\ b=false)
 | .bl _=>(T = "bool" /\ b=true)∨(T = "int" /\ b=true)
 | .str _=>T = "str" /\ b=true
 | .ref p=>(T = "list" /\ b=true/\∃xs,tJ K H p xs)∨(T = "dict" /\ b=true/\∃kvs,H p=some (.dK kvs))∨(T = "tuple" /\ b=true/\∃xs,IT K H p xs)
 |_=>False
theorem Bm:xw X (.builtin "isinstance") (λxs H Q=>∃x T b,xs=[x,.ty T]/\Wy X.K x H T b/\Q (.bl b) H):=by
 intro oV s σ H xs us Q I r h;obtain⟨x,T,b,rfl,e,q⟩:=h;obtain⟨u,v,rfl,rx,rT⟩:=SU r;cases rT;cases x with
 |int i =>
  obtain⟨t,rfl⟩:=rx;rcases e with ⟨rfl,rfl⟩|⟨rfl,rfl⟩
  .exact lg (lJ (Tx := "int") F.isi_meta_int F.sub_int_int) ⟨(show s.TypeIs (.int i t) "int" from rfl),⟨.bl true,H,I,rfl,q⟩⟩
  .exact lg (isinstance_false_int (by decide +kernel) F.isi_meta_bool F.sub_int_bool) (show EP X oV σ Q (.bool false) { s with toks:=s.toks+1 } from ⟨.bl false,H,I.tok _,rfl,q⟩)
 |bl i =>
  cases rx;rcases e with ⟨rfl,rfl⟩|⟨rfl,rfl⟩
  .exact lg (lJ (Tx := "bool") F.isi_meta_bool F.sub_bool_bool) ⟨(show s.TypeIs (.bool i) "bool" from rfl),⟨.bl true,H,I,rfl,q⟩⟩
  .exact lg (lJ (Tx := "bool") F.isi_meta_int F.sub_bool_int) ⟨(show s.TypeIs (.bool i) "bool" from rfl),⟨.bl true,H,I,rfl,q⟩⟩
 |str i =>
  obtain⟨t,rfl⟩:=rx;obtain⟨rfl,rfl⟩:=e;exact lg (lJ (Tx := "str") F.isi_meta_str F.sub_str_str) ⟨(show s.TypeIs (.str i t) "str" from rfl),⟨.bl true,H,I,rfl,q⟩⟩
 |ref p =>
  cases rx;rcases e with ⟨rfl,rfl,xs,hS⟩|⟨rfl,rfl,kvs,hp⟩|⟨rfl,rfl,xs,hS⟩
  .obtain ⟨its,rv,pl,hz⟩:=I.list hS;exact lg (lJ (Tx := "list") F.isi_meta_list (by rw[nV];kernel_rfl)) ⟨pl.isList.typeIs,⟨.bl true,H,I,rfl,q⟩⟩
  .have ty:s.TypeIs (.ref p) "dict" := (NJ I (.inl ⟨kvs,.inl hp⟩)).1;exact lg (lJ (Tx := "dict") F.isi_meta_dict (by rw[nV];kernel_rfl)) ⟨ty,⟨.bl true,H,I,rfl,q⟩⟩
  .obtain ⟨its,rv,⟨o,ho,hc,_⟩,hz⟩:=I.tuple hS;exact lg (lJ (Tx := "tuple") F.isi_meta_tuple (by rw[nV];kernel_rfl)) ⟨⟨o,ho,hc⟩,⟨.bl true,H,I,rfl,q⟩⟩
 |_=>exact(show False from e).elim
end
end Mr
namespace Mr
open PySem L2
structure CM (K:W.Frag) (mg:Str->Option Value) (x:Str) (st:Stmt) (ps:List Str) (f:Addr) (fd:kT):Prop where
 F:S9 K x x st f fd
 m:mg x=some (.ref f)
 b:Ae K fd ps []
theorem xR{H:Hp}{p:Addr}{o:HO}(h:H p=none):qB H (rK H p o):=λb u e=>by
 rw[pS (rM e h)];exact e
end Mr
namespace Mr
open PySem PySem.Spec PyProof.Rows L2
theorem HD{prog:kL}{w:kN}{A:Around}{R:Result->Shared->Prop}{s:Shared}{elt target iter:Expr}{ifs:List Expr}{scope:mH}{pos:Pos}{it acc:Value}{env:Env}(I:Nat->Shared->Prop)
  (turn:∀n s,I n s->kJ (kG prog w) A (pyNext it) (λr s₁=>match r with
   |none=>R (.ok .next) s₁
   |some v=>kJ (kG prog w) A (mR target it v) (λ_ s₂=>kJ (kG prog w) A (assign target env v) (λ_ s₃ =>
     kJ (kG prog w) A (forIn ifs true λc r=>if r=true then do let ok ←isTrue c env (eval c env);pure (ForInStep.yield ok) else pure (ForInStep.yield r)) (λok s₄ =>
      if ok=true then kJ (kG prog w) A (eval elt env) (λx s₅ =>
       kJ (kG prog w) A (call (.builtin "list.append") [acc,x]) (λ_ s₆=>∃m,m<n/\I m s₆) (λ_ _=>False) s₅) (λ_ _=>False) s₄
      else ∃m,m<n/\I m s₄) (λ_ _=>False) s₃) (λ_ _=>False) s₂) (λ_ _=>False) s₁) (λ_ _=>False) s)
  (n:Nat) (h:I n s):mO (kG prog w) A (.compLoop (.ListComp elt [⟨target,iter,ifs,0⟩] scope pos) 0 it acc env) R s:=by
 refine codeAny_loop rfl I (λn s hI=>?_) n h
 show kJ _ A ((compTurn (.ListComp elt [⟨target,iter,ifs,0⟩] scope pos) 0 it acc env).onRaise (λx=>do noteFrame x env;theTreesLotGoes x)) _ _ s
 refine wpAny_noted ?_;rw[compTurn_list];refine kC (wpAny_standAt (kC (kR (turn n s hI) (λr s₁ h₁=>?_) λ_ _ z=>z.elim)))
 cases r with
 |none=>exact kH h₁
 |some v =>
  refine kC (kR h₁ (λ_ s₂ h₂=>?_) λ_ _ z=>z.elim)
  refine kC (kR h₂ (λ_ s₃ h₃=>?_) λ_ _ z=>z.elim)
  refine kC (kR h₃ (λok s₄ h₄=>?_) λ_ _ z=>z.elim)
  cases ok with
  |false=>exact kH ⟨rfl,h₄⟩
  |true=>exact kC (kC (kR h₄ (λx s₅ h₅=>kC (kR h₅ (λ_ s₆ h₆=>kH (kH ⟨rfl,h₆⟩)) λ_ _ z=>z.elim)) λ_ _ z=>z.elim))
abbrev uo(X:Cx) (scope:mH) (cl:List (Str×Addr)) (N:List Str) (C:Addr) (s:Shared) (H:Hp) (fp:List Addr):Cx where
 prog:=X.prog
 w:=X.w
 K:=X.K
 mg:=X.mg
 base:=X.base
 A:=X.A
 N:=N
 s₀:=s
 H₀:=H
 env:=compEnvC scope cl C X.env
 outer:=X.stack
 stack:=X.stack
 ex:=fp
 fn:=λ_=>false
 calm:=X.calm
 pn:=[]
 xe:=λ_ _=>False
def PF(X:Cx) (ifs:List Expr) (t:TT):Prop :=
 ∀(oV:List (Addr×Obj)) (s:Shared) (σ:St) (H:Hp) (Q:Bool->Hp->Prop),Inv X oV σ H s->t σ H Q ->
  kJ (kG X.prog X.w) X.A (forIn ifs true λc r=>if r=true then do let ok ←isTrue c X.env (eval c X.env);pure (ForInStep.yield ok) else pure (ForInStep.yield r)) (TP X oV σ Q) X.xe s
def WC:TT:=λ_ H Q=>Q true H
theorem uC{X:Cx}:PF X [] WC:=λ_ _ _ H _ I h=>wpAny_tests_nil ⟨H,I,h⟩
theorem Jm{X:Cx}{c:Expr}{t:TT}(h:PT X c t):PF X [c] t:=λoV s σ H Q I q=>wpAny_tests_one (h oV s σ H Q I q)
structure tM (X:Cx) (scope:mH) (cl:List (Str×Addr)) (x:Str) (N:List Str) (fr:List Nat):Prop where
 names:N.Nodup
 own:N[0]?=some x
 len:N.length=fr.length+1
 sub:∀y c,cl.lookup y=some c->X.env.cells.lookup y=some c
 has:∀y,((mW scope X.env).names.lookup y=some .cell∨(mW scope X.env).names.lookup y=some .free)->∃c,cl.lookup y=some c
 get:∀(k j:Nat) (y:Str),fr[k]?=some j->N[k+1]?=some y->X.N[j]?=some y/\X.env.scope.names.lookup y=some .cell/\(mW scope X.env).names.lookup y=some .cell
theorem tM.none{X:Cx}{scope:mH}{x:Str}(h:∀p∈scope.names,p.2 ≠ .cell/\p.2 ≠ .free):tM X scope [] x [x] [] where
 names:=by simp
 own:=rfl
 len:=rfl
 sub:=λy c e=>by cases e
 has:=λy e=>by
  exfalso;have key:∀p∈(mW scope X.env).names,p.2 ≠ .cell/\p.2 ≠ .free:=by
   intro p hp;obtain⟨q,hq,rfl⟩:=mMq.mp hp;obtain⟨n,k⟩:=q;obtain⟨h1,h2⟩:=h _ hq;have hk:(k == NameKind.free)=false:=by simpa using h2
   simp only[hk,jZ];exact⟨h1,h2⟩
  rcases e with e|e
  .exact (key _ (PySem.mem_of_lookup e)).1 rfl
  .exact (key _ (PySem.mem_of_lookup e)).2 rfl
 get:=λk j y e _=>by cases e
def slots(σ:St) (fr:List Nat):St:=fr.map λj=>(σ[j]?).join
def E6(wi:TI) (fr:List Nat) (tf:TT) (te:TE):TE:=λσ H Q=>wi σ H λJ H1=>∀acc,H1 acc=none->∃W:Nat->Nat->Hp->Prop,(∃m,W 0 m (rK H1 acc (.lst [])))/\∀i m H,W i m H ->
 (J.stop i H/\Q (.ref acc) H) ∨
 (J.go i H/\∃N:Hp->Prop,(∀H',N H'->∃m',m'<m/\W (i+1) m' H')/\∀x H',J.yld i H x H'->tf (some x::slots σ fr) H' λb H2 =>
  if b=true then te (some x::slots σ fr) H2 λy H3=>∃ys,H3 acc=some (.lst ys)/\ys.length<kK/\N (rK H3 acc (.lst (ys++[y]))) else N H2)
section
variable {X:Cx}{scope:mH}{cl:List (Str×Addr)}{N:List Str}{fr:List Nat}{x:Str}{px pos:Pos}{elt iter:Expr}{ifs:List Expr}{tf:TT}{te:TE}
theorem Dd{oV:List (Addr×Obj)}{σ:St}{H:Hp}{s:Shared}{E:Value->Shared->Prop}{J:It}{fp:List Addr}{it:Addr}{tn:Nat->Heap->Prop}{RR:Value->Addr->Result->Shared->Prop}{Q:VK}
  (hc:X.calm=true) (hcell:∀y∈scope.names,y.2 ≠ .cell) (hkind:scope.kind = .function) (hx:scope.names.lookup x=some .local) (hF:tM X scope cl x N fr)
  (hf:∀C s H fp,PF (uo X scope cl N C s H fp) ifs tf) (he:∀C s H fp,PE (uo X scope cl N C s H fp) elt te)
  (I:Inv X oV σ H s) (T:IV X.prog X.w X.K (.Name x px) J fp it tn) (st:tn 0 s.heap) (fpo:∀b∈fp,Du X oV H b)
  (h:∀acc,H acc=none->∃W:Nat->Nat->Hp->Prop,(∃m,W 0 m (rK H acc (.lst [])))/\∀i m H,W i m H ->
   (J.stop i H/\Q (.ref acc) H) ∨
   (J.go i H/\∃N:Hp->Prop,(∀H',N H'->∃m',m'<m/\W (i+1) m' H')/\∀x H',J.yld i H x H'->tf (some x::slots σ fr) H' λb H2 =>
    if b=true then te (some x::slots σ fr) H2 λy H3=>∃ys,H3 acc=some (.lst ys)/\ys.length<kK/\N (rK H3 acc (.lst (ys++[y]))) else N H2))
  (fin:∀acc C s' Hf m,Inv X oV σ Hf s'->s'.heap.Ns C m->Du X oV Hf C->Q (.ref acc) Hf->RR (.ref acc) C (.ok .next) s') :
  kJ (kG X.prog X.w) X.A (newList []) (λacc s₃=>kJ (kG X.prog X.w) X.A (newFunctionEnv scope X.env.globals cl [] X.env.qual none .none (some X.env)) (λcenv s₄ =>
   mO (kG X.prog X.w) X.A (.compStart (.ListComp elt [⟨.Name x px,iter,ifs,0⟩] scope pos) 0 (.ref it) acc { cenv with scope:=mW scope X.env }) (RR acc cenv.locals) s₄) E s₃) E s:=by
 refine wpAny_newObj_type (wpAny_newFunctionEnv hcell (by intro y hy;simp at hy) (λh₁ hns₁ hsb₁=>?_) hkind)
 dsimp only at hns₁ hsb₁ ⊢;generalize hG:s.heap.push { cls:=.type "list", dict:=none,data:=.seq ([]:List Value).toArray }=G at hns₁ hsb₁ ⊢;have hC:G.objs.size=s.heap.objs.size+1:=by rw[←hG,jg]
 have hCle:s.heap.objs.size<=G.objs.size:=by rw[hC];exact cU _
 have hDC:s.heap.objs.size≠G.objs.size:=by rw[hC];exact aL (fA _)
 have below:∀b,b<s.heap.objs.size->b≠G.objs.size:=λb hb=>by rw[hC];exact aL (cu hb)
 have old:∀b o,s.heap.get? b=some o->h₁.get? b=some o:=λb o e=>hsb₁.extBut b o (below b (az e)) (au _ (hG ▸ au _ e))
 have hacc:h₁.get? s.heap.objs.size=some { cls:=.type "list", data:=.seq ([]:List Value).toArray }:=hsb₁.extBut _ _ hDC (au _ (hG ▸ bh _ rfl));have hn:H s.heap.objs.size=none:=I.hok.fresh (aj _);have hnC:H G.objs.size=none:=I.hok.fresh hCle;have fpl:∀b∈fp,b<s.heap.objs.size:=λb hb=>by
  obtain⟨o,q,_⟩:=T.obj 0 _ st b hb;exact az q
 obtain⟨W,⟨m0,w0⟩,turn⟩:=h _ hn;have ok':(uo X scope cl N G.objs.size s H fp).Ok:=by
  refine⟨I.ok.mod,by show (mW scope X.env).kind = .function;exact hkind,I.ok.glob,I.ok.blt,hCle,λy z c h1 h2=>I.ok.inj y z c (hF.sub y c h1) (hF.sub z c h2),hF.has,λ_ _ z _=>(by cases z),I.ok.hd,I.ok.frames,.inl rfl,
   λb hb=>⟨below b (fpl b hb),λy c e=>(fpo b hb).2.2.2.2.1 y c (hF.sub y c e)⟩,λb o e=>⟨(I.bs b o e).1,(I.bs b o e).2⟩,cE I.ok.bsz I.sz,λb o e hb=>?_,λb hb z=>?_,I.stack,I.stkFree⟩
  .rcases (fpo b hb).2.2.2.1 with q|q
   .exact I.ok.noex b o e q
   .exact absurd (aG (az (I.ok.bs b o e).1) q) (eI _)
  .rcases ae.mp (I.stkSub b z) with q|q
   .exact (fpo b hb).2.1 q
   .exact (fpo b hb).2.2.1 q
 have I0:Inv (uo X scope cl N G.objs.size s H fp) [] (none::slots σ fr) (rK H s.heap.objs.size (.lst [])) { s with heap:=h₁,toks:=s.toks+([]:List (Str×Value)).length }:=by
  have hok1:AL X.prog X.w (rK H s.heap.objs.size (.lst [])) h₁:=I.hok.laid old (aj _) ⟨bq _,[],0,.nil,hacc⟩;refine⟨ok',rfl,I.bare,Un.laid old (aj _) hn,⟨_,hns₁,λk y v e1 e2 e3=>?_⟩,λy c e=>?_,?_,λy c e=>?_,λp hp=>absurd (show p∈([]:List (Addr×Obj)) from hp) (by simp),hok1,?_⟩
  .cases k with
   |zero=>cases e2
   |succ k =>
    have e2':(slots σ fr)[k]?=some (some v):=e2;unfold slots at e2';rw[gMq]at e2';cases ej:fr[k]? with
    |none=>rw[ej]at e2';cases e2'
    |some j =>
     rw[ej]at e2';have e2j:(σ[j]?).join=some v:=aD.inj e2';have e2s:σ[j]?=some (some v):=by
      cases q:σ[j]? with
      |none=>rw[q]at e2j;cases e2j
      |some z=>rw[q]at e2j;exact congrArg some e2j
     obtain⟨g1,g2,g3⟩:=hF.get k j y ej e1;obtain⟨m,_,hl⟩:=I.loc;obtain⟨u,r,l⟩:=hl j y v g1 e2s (.inr (.inl g2));refine⟨u,r,.inr ⟨.inl g3,?_⟩⟩;obtain⟨c,e⟩:=hF.has y (.inl g3);have e':=hF.sub y c e;rcases l with ⟨l1,_⟩|⟨_,c',ec,hcell'⟩
     .have l1':X.env.scope.names.lookup y=some .local:=l1;rw[g2]at l1';cases l1'
     .rw [e']at ec;cases ec;obtain⟨o,ho,hd⟩:=hcell';exact⟨c,e,o,old c o ho,hd⟩
  .obtain ⟨v,o,ho,hd⟩:=I.cell y c (hF.sub y c e);exact⟨v,o,old c o ho,hd⟩
  .show rK H s.heap.objs.size (.lst []) G.objs.size=none;rw[pS (Ne.symm hDC)];exact hnC
  .obtain ⟨v,o,ho,hd⟩:=I.cell y c (hF.sub y c e);rw[pS (aL (az ho))];exact I.freeC y c (hF.sub y c e)
  .show (none::slots σ fr).length=N.length;rw[hF.len,lCq];unfold slots;rw[lMq]
 have WY:tn 0 h₁:=T.keep 0 _ _ st λb _ o e=>old b o e
 have nd:N.Nodup:=hF.names;have nf0:∀b∈fp,rK H s.heap.objs.size (.lst []) b=none:=λb hb=>by
  rw[pS (aL (fpl b hb))];exact(fpo b hb).1
 have stat:∀{H':Hp},(∀b∈fp,H' b=none)->∀b∈fp,Du (uo X scope cl N G.objs.size s H fp) [] H' b:=λhn' b hb =>
  ⟨hn' b hb,below b (fpl b hb),ok'.exfs b hb,.inl hb,λy c e=>(ok'.exf b hb).2 y c e,λp hp=>absurd (show p∈([]:List (Addr×Obj)) from hp) (by simp)⟩
 have loop:∀s₃:Shared,s₃={ s with heap:=h₁,toks:=s.toks+([]:List (Str×Value)).length } ->
   mO (kG X.prog X.w) X.A (.compLoop (.ListComp elt [⟨.Name x px,iter,ifs,0⟩] scope pos) 0 (.ref it) (.ref s.heap.objs.size) (compEnvC scope cl G.objs.size X.env)) (RR (.ref s.heap.objs.size) G.objs.size) s₃:=by
  rintro s₃ rfl;refine HD (λn s'=>∃i v0 H',Inv (uo X scope cl N G.objs.size s H fp) [] (v0::slots σ fr) H' s'/\tn i s'.heap/\(∀b∈fp,H' b=none)/\W i n H') ?_ m0 ⟨0,none,_,I0,WY,nf0,w0⟩
  rintro n s4 ⟨i,v0,H4,I4,WN,nf4,w4⟩;rcases turn i n H4 w4 with ⟨stop,q⟩|⟨go,Nx,hNx,step⟩
  .refine thn (T.done (uo X scope cl N G.objs.size s H fp) rfl rfl rfl hc i [] s4 (v0::slots σ fr) H4 (λ_ _=>False) I4 (stat nf4) WN stop) λr s5 hz1=>?_
   obtain⟨hr,I5⟩:=hz1;subst hr;obtain⟨m,hm,_⟩:=I5.loc;have I6:Inv X oV σ H4 s5:=I.call' (ch:=fp) I5.os I5.base I5.hok I5.bare λb hb=>⟨(fpo b hb).2.2.2.1,(fpo b hb).2.1,(fpo b hb).2.2.2.2.1,(fpo b hb).2.2.2.2.2⟩
   exact fin _ _ s5 H4 m I6 hm (I.fpOk hCle I5.free) q
  .refine thn (T.item (uo X scope cl N G.objs.size s H fp) rfl rfl rfl hc i [] s4 (v0::slots σ fr) H4 (λ_ _=>False) I4 (stat nf4) WN go) λr s5 hz1=>?_
   obtain⟨u,hr,h5⟩:=hz1;subst hr;refine thn h5 λ_ s6 hz1=>?_
   obtain⟨y,H6,I6,r6,y6,st6,nf6⟩:=hz1;have I6':=I6.pinned (stat nf6) (T.obj _ _ st6);have pg:PG (uo X scope cl N G.objs.size s H fp) (.Name x px) (uv 0):=sk nd hF.own (.inl (nZ hx)) (.inr (nZ hx));refine thn (pg _ s6 (v0::slots σ fr) H6 y u (λσ2 H2=>σ2=some y::slots σ fr/\H2=H6) I6' r6 ⟨rfl,rfl⟩) λ_ s7 hz1=>?_
   obtain⟨σ7,H7,I7,e7,e8⟩:=hz1;subst e7 e8;refine thn (hf _ _ _ _ _ s7 _ _ _ I7 (step y _ y6)) λb s8 hz1=>?_
   obtain⟨H8,I8,q8⟩:=hz1;have again:∀{s9:Shared}{H9:Hp},Inv (uo X scope cl N G.objs.size s H fp) ([]++CT fp s6.heap) (some y::slots σ fr) H9 s9->Nx H9->∃m,m<n/\∃i v0 H',Inv (uo X scope cl N G.objs.size s H fp) [] (v0::slots σ fr) H' s9/\tn i s9.heap/\(∀b∈fp,H' b=none)/\W i m H':=λ{s9 H9} I9 n9=>by
    obtain⟨m',hm,w9⟩:=hNx H9 n9;refine⟨m',hm,i+1,some y,H9,I9.unpinned,T.keep _ _ _ st6 λb hb o e=>(I9.pin (b,o) (ag _ (ag _ (yP hb e)))).1,λb hb=>?_,w9⟩
    obtain⟨o,e,d⟩:=T.obj _ _ st6 b hb;exact(I9.pin (b,o) (ag _ (ag _ (yP hb e)))).2.1
   cases b with
   |false=>exact again I8 q8
   |true =>
    refine thn (he _ _ _ _ _ s8 _ _ _ I8 q8) λz s9 hz1=>?_
    obtain⟨zv,H9,I9,r9,ys,a9,l9,n9⟩:=hz1;refine thn (sQ (X:=uo X scope cl N G.objs.size s H fp) _ s9 _ H9 (.ref s.heap.objs.size) [zv] (.ref s.heap.objs.size) [z] (λ_ H'=>H'=rK H9 s.heap.objs.size (.lst (ys++[zv]))) I9 rfl (.cons r9 .nil) ⟨_,ys,zv,rfl,rfl,a9,l9,rfl⟩) λ_ s10 hz1=>?_
    obtain⟨_,H10,I10,_,e10⟩:=hz1;subst e10;exact again I10 n9
 exact codeAny_compStart_list (loop _ rfl) (T.self X.A 0 _ _ _ WY (loop _ rfl))
theorem tD{wi:TI}(hc:X.calm=true) (hclos:closureFor scope X.env=pure cl) (hcell:∀y∈scope.names,y.2 ≠ .cell) (hkind:scope.kind = .function) (hnames:∀y∈scope.names,y.2 = .local->scope.names.lookup y.1=some .local)
  (hx:scope.names.lookup x=some .local) (hF:tM X scope cl x N fr) (hi:PI X (.Name x px) iter wi) (hf:∀C s H fp,PF (uo X scope cl N C s H fp) ifs tf) (he:∀C s H fp,PE (uo X scope cl N C s H fp) elt te)
  (hs:∀x,nu iter X.env x=pure x:=by intro _;rfl):PE X (.ListComp elt [⟨.Name x px,iter,ifs,0⟩] scope pos) (E6 wi fr tf te):=by
 intro oV s σ H Q I h;rw[eval_ListComp];refine nH (use:=none) rfl hs hclos hkind hnames (thn (hi oV s σ H _ I h) λv s1 h1=>thn h1 λitv s2 h2=>?_)
 obtain⟨it,fp,tn,J,H2,e,I2,T,Eg,f2,q2⟩:=h2;subst e;refine Dd (RR:=λacc C=>compPost (kG X.prog X.w) X.A X.xe none (EP X oV σ Q) acc C) hc hcell hkind hx hF hf he I2 T Eg f2 q2 ?_
 intro acc C s' Hf m I' hm fC q;refine⟨m,hm,λh' sb=>⟨.ref acc,Hf,?_,rfl,q⟩⟩
 exact I'.turned (t':=s'.toks) (λb o hb e=>(sb.2 b hb).trans e) fC.1 fC.2.1 fC.2.2.2.1 fC.2.2.2.2.1 fC.2.2.2.2.2
theorem FE{wi:TI}{y:Str}{i:Nat}{py spos:Pos}(hc:X.calm=true) (hN:X.N.Nodup) (WW:X.N[i]?=some y) (hy:VQ X.env.scope y) (hclos:closureFor scope X.env=pure cl) (hcell:∀y∈scope.names,y.2 ≠ .cell) (hkind:scope.kind = .function)
  (hnames:∀y∈scope.names,y.2 = .local->scope.names.lookup y.1=some .local)
  (hx:scope.names.lookup x=some .local) (hF:tM X scope cl x N fr) (hi:PI X (.Name x px) iter wi) (hf:∀C s H fp,PF (uo X scope cl N C s H fp) ifs tf) (he:∀C s H fp,PE (uo X scope cl N C s H fp) elt te)
  (hsw:oh (.ListComp elt [⟨.Name x px,iter,ifs,0⟩] scope pos) (some (.Name y py)) spos.line X.env=pure true:=by rfl) (hs:∀x,nu iter X.env x=pure x:=by intro _;rfl)
  (hfn:X.fn y=true∨X.env.scope.names.lookup y=some .local:=by trivial) :
  PS X (.Assign [.Name y py] (.ListComp elt [⟨.Name x px,iter,ifs,0⟩] scope pos) spos) (Jj (E6 wi fr tf te) (uv i)):=by
 intro oV s σ H D I h;rw[exec_Assign_Name_used _ _ _ _ hsw];refine kC (wpAny_standAt (kC ?_));show kJ _ X.A (do let _ ←comprehension (.ListComp elt [⟨.Name x px,iter,ifs,0⟩] scope pos) scope X.env _ (newList []) false (eval iter X.env) (some (assign (.Name y py) X.env))) _ _ s
 refine kC (kR (nH (use:=some (assign (.Name y py) X.env)) (Q:=λ_ s'=>SP X oV D .next s') rfl hs hclos hkind hnames
  (thn (hi oV s σ H _ I h) λv s1 h1=>thn h1 λitv s2 h2=>?_)) (λ_ s' hq=>kH (kH hq)) λ_ _ e=>e)
 obtain⟨it,fp,tn,J,H2,e,I2,T,Eg,f2,q2⟩:=h2;subst e;refine Dd (RR:=λacc C=>compPost (kG X.prog X.w) X.A X.xe (some (assign (.Name y py) X.env)) (λ_ s'=>SP X oV D .next s') acc C) (Q:=λv H'=>D.nx (σ.set i (some v)) H') hc hcell hkind hx hF hf he I2 T Eg f2 q2 ?_
 intro acc C s' Hf m I' hm fC q;obtain⟨o,es,ep,ho,hd,r⟩:=id hm;have I1:Inv X (oV++[(C,o)]) σ Hf s':=I'.pins_of λp hp=>(mAq.mp hp).elim (λz=>I'.pin p (ag _ z)) λz=>by
  have e:p=(C,o):=by simpa using z
  subst e;exact⟨ho,fC.1,fC.2.1,fC.2.2.1,λv z=>by rw[hd]at z;cases z⟩
 refine thn (sk (X:=X) (i:=i) (pos:=py) hN WW hy hfn _ s' σ Hf (.ref acc) (.ref acc) _ I1 rfl q) λ_ s2 hz1=>?_
 obtain⟨σ2,H2,I2,q2⟩:=hz1;have pC:=I2.pin (C,o) (ag _ (ag _ (by simp)))
 refine⟨m,⟨o,es,ep,pC.1,hd,r⟩,λh' sb=>⟨σ2,H2,?_,q2⟩⟩
 exact I2.unpinned.turned (t':=s2.toks) (λb u hb e=>(sb.2 b hb).trans e) pC.2.1 fC.2.1 fC.2.2.2.1 fC.2.2.2.2.1 fC.2.2.2.2.2
end
end Mr
namespace MrS
open PySem PyProof.Rows
section
variable {prog:kL}{w:kN}{A:Around}{E:Value->Shared->Prop}{s:Shared}{Pk:kz->Prop}{lt:kz->kz->Bool}
abbrev vG(h:Heap) (a:Addr) (vs:List Value):Heap:=((h.update a (Obj.mapSeq λ_=>#[])).push (kQ "tuple" vs.toArray 0)).push (kQ "list" #[] 0)
theorem Ag{a:Addr}{vs:List Value}{n:Nat}{P:PySem.Fin->Shared->Prop}(ho:s.heap.get? a=some (kQ "list" vs.toArray n)) (hs:vs.length<=kK)
  (hkk:2<=vs.length->∀Q:lr->Shared->Prop,Q mj { s with heap:=vG s.heap a vs }->kJ (kG prog w) A (keyKind' vs.toArray) Q E { s with heap:=vG s.heap a vs })
  (C:zR prog w A { s with heap:=vG s.heap a vs } mj Pk lt) (hp:∀x,x∈lN vs->Pk x)
  (h:∀xs:Array kz,xs.Perm (lN vs)->AD lt xs 0 (lN vs).size->P (.done (.ret .none)) { s with heap:=nA s.heap a vs (xs.map (·.2)) }) :
  kJ (kG prog w) A (Builtin.«list.sort» ⟨[.ref a],[]⟩) P E s:=by
 rw[list_sort_plain];have ha:a<s.heap.objs.size:=az ho;refine kC (listItems_at ho rfl ?_);refine kC (og ho rfl ?_ (hsz:=by simpa using hs))
 obtain⟨e1,ho1⟩:∃e1,(s.heap.update a (Obj.mapSeq λ_=>#[])).get? a=some (kQ "list" #[] e1):=⟨_,nO ho (λ_=>#[])⟩
 refine kC (oj ho1 rfl ?_);refine kC (wpAny_newTuple ?_);refine kC (ni ?_);refine lO ?_;have ho6:(vG s.heap a vs).get? a=some (kQ "list" #[] e1):=by
  rw[gj _ _ _ (by rw[size_push',fB];exact aL (cu ha)),gj _ _ _ (by rw[fB];exact aL ha)]
  exact ho1
 show kJ (kG prog w) A _ P E { s with heap:=vG s.heap a vs }
 dsimp only;have hsz:vs.toArray.size=vs.length:=by simp
 have hs':kK=16777216:=lK
 by_cases h2:vs.toArray.size<2
 .rw [qe h2,qe h2];refine kC (kH ?_);rw[StateT.run_pure];refine kC (kH ?_);dsimp only;refine kC (oj ho6 rfl ?_);refine kC (og ho6 rfl ?_ (hsz2:=by rw[kc];show (lN vs).size<=_;rw[mS,lK];lia))
  simp only[bne_self_eq_false,eV,if_false];refine kH (h _ (jX.refl _) ?_);intro i j x y _ hij hj ex ey;have:i=j:=by rw[mS]at hj;lia
  subst this;rw[ex]at ey;cases ey;exact C.refl (hp x (aQq ex))
 .rw [pV h2,pV h2];refine kC (hkk (by lia) _ ?_)
  refine kC (kR (FB C (arr:=lN vs) (g:=7) (E:=E)
   (Q:=λ_ st'=>∃xs p g',st'=yy mj xs p g'/\xs.Perm (lN vs)/\AD lt xs 0 (lN vs).size) hp (by rw[mS];lia) λxs p g' a1 a2=>⟨xs,p,g',rfl,a1,a2⟩) ?_ λ_ _ e=>e)
  rintro⟨⟨⟩,st'⟩ s' ⟨rfl,xs,p,g',rfl,hpm,hsg⟩;dsimp only;refine kC (oj ho6 rfl ?_);refine kC (og ho6 rfl ?_ (hsz2:=by refine cE (gT ((kc ..).trans (hpm.size_eq.trans (mS _)))) ?_;lia))
  simp only[bne_self_eq_false,eV,if_false];exact kH (h xs hpm hsg)
theorem KH{h:Heap}{a:Addr}{xs:Array Value}{n:Nat}(vs:List Value) (ho:h.get? a=some (kQ "list" xs n)):∃e1,(vG h a vs).get? a=some (kQ "list" #[] e1):=by
 have ha:a<h.objs.size:=az ho;obtain⟨e1,ho1⟩:∃e1,(h.update a (Obj.mapSeq λ_=>#[])).get? a=some (kQ "list" #[] e1):=⟨_,nO ho (λ_=>#[])⟩
 refine⟨e1,?_⟩;rw[gj _ _ _ (by rw[size_push',fB];exact aL (cu ha)),gj _ _ _ (by rw[fB];exact aL ha)]
 exact ho1
theorem Ko{h:Heap}{a:Addr}{xs:Array Value}{n:Nat}(ys:Array Value) (ho:h.get? a=some (kQ "list" xs n)):∃n1,(h.update a (Obj.mapSeq λ_=>ys)).get? a=some (kQ "list" ys n1):=⟨_,nO ho (λ_=>ys)⟩
theorem xu{vs:List Value}{x:kz}(h:x∈lN vs):x.1∈vs/\x.2=x.1:=by
 obtain⟨i,hi,e⟩:=Array.mem_iff_getElem.mp h;have hi':i<vs.length:=by rw[mS]at hi;exact hi
 have:x=(vs[i],vs[i]):=by
  rw[←e];simp[lN]
 rw[this];exact⟨gRq hi',rfl⟩
theorem B6{vs:List Value}{xs:Array kz}(hp:xs.Perm (lN vs)) (hs:AD lt xs 0 (lN vs).size) :
  (xs.map (·.2)).toList.Perm vs/\(xs.map (·.2)).toList.Pairwise (λx y=>lt (y,y) (x,x)=false):=by
 constructor
 .have:=hp.toList.map (·.2);have e:(lN vs).toList.map (·.2)=vs:=by
   have:(lN vs).toList=vs.zip vs:=by simp[lN]
   rw[this];apply List.ext_getElem
   .simp
   .intro i h1 h2;simp
  rw[e]at this;rw[Array.toList_map];exact this
 .rw [cj];intro i j hi hj hij;have hi':i<xs.size:=by simpa using hi
  have hj':j<xs.size:=by simpa using hj
  have z:=hs i j xs[i] xs[j] (bq _) (cZ hij) (by rw[←hp.size_eq];exact hj') (by simp[hi']) (by simp[hj'])
  have m1:=xu (hp.mem_iff.mp (bu hi'));have m2:=xu (hp.mem_iff.mp (bu hj'));have e1:xs[i]=(xs[i].2,xs[i].2):=jU m1.2.symm rfl;have e2:xs[j]=(xs[j].2,xs[j].2):=jU m2.2.symm rfl;rw[e1,e2]at z;simpa using z
theorem DD{l:Addr}{vs:List Value}{Q:Value->Shared->Prop}(hl:s.heap.IsList l vs.toArray) (hs:vs.length<=kK)
  (hC:∀s':Shared,(∀b o,s.heap.get? b=some o->s'.heap.get? b=some o)->(2<=vs.length->∀Q:lr->Shared->Prop,Q mj s'->kJ (kG prog w) A.in1.in1 (keyKind' vs.toArray) Q E s')/\zR prog w A.in1.in1 s' mj Pk lt)
  (hp:∀v∈vs,Pk (v,v))
  (h:∀(out:List Value) (h':Heap) (n':Nat),out.Perm vs->out.Pairwise (λx y=>lt (y,y) (x,x)=false)->(∀b o,s.heap.get? b=some o->h'.get? b=some o) ->
   h'.get? (s.heap.objs.size+1)=some (kQ "list" out.toArray n')->Q (.ref (s.heap.objs.size+1)) { s with heap:=h' }) :
  kJ (kG prog w) A (call (.builtin "sorted") [.ref l]) Q E s:=by
 refine Calls.call_function_entry kind_sorted plain_sorted entry_sorted (args_sorted1 _) ?_;unfold Builtin.«sorted»;refine kC (m:=checkCount "sorted" 1 1 _) (kH ?_);refine kC (collect_list hl ?_ hs);refine kC (ni ?_);have hsz:((s.heap.push (kQ "list" #[] 0)).update s.heap.objs.size (Obj.mapSeq (· ++ vs.toArray))).objs.size=s.heap.objs.size+1:=by
  rw[fB,size_push']
 have hoL:(((s.heap.push (kQ "list" #[] 0)).update s.heap.objs.size (Obj.mapSeq (· ++ vs.toArray))).push (kQ "list" vs.toArray 0)).get? (s.heap.objs.size+1)=some (kQ "list" vs.toArray 0):=by
  rw[←hsz];exact bh _ rfl
 show kJ _ _ _ _ _ { s with heap:=((s.heap.push (kQ "list" #[] 0)).update s.heap.objs.size (Obj.mapSeq (· ++ vs.toArray))).push (kQ "list" vs.toArray 0) }
 rw[hsz];generalize hG:((s.heap.push (kQ "list" #[] 0)).update s.heap.objs.size (Obj.mapSeq (· ++ vs.toArray))).push (kQ "list" vs.toArray 0)=G at hoL ⊢;have k1:∀b o,s.heap.get? b=some o->G.get? b=some o:=λb o e=>by
  rw[←hG];refine au _ ?_;rw[eQ _ _ _ _ (aL (az e))];exact au _ e
 have k2:∀b o,s.heap.get? b=some o->(vG G (s.heap.objs.size+1) vs).get? b=some o:=λb o e=>by
  refine au _ (au _ ?_);rw[eQ _ _ _ _ (aL (cu (az e)))];exact k1 b o e
 obtain⟨q1,q2⟩:=hC { s with heap:=vG G (s.heap.objs.size+1) vs } k2
 refine kC (lO (wpAny_call_entry slot_list_sort ⟨_,hoL,rfl⟩ entry_list_sort (Ag (Pk:=Pk) (lt:=lt) hoL hs q1 q2 (λx hx=>?_) λxs a1 a2=>⟨_,rfl,?_⟩) (args_list_sort _)))
 .obtain ⟨m1,m2⟩:=xu hx;have:x=(x.1,x.1):=jU rfl m2;rw[this];exact hp _ m1
 .obtain ⟨v1,v2⟩:=B6 a1 a2;obtain⟨e1,ho1⟩:=KH vs hoL;obtain⟨n1,g1⟩:=Ko (xs.map (·.2)) ho1;refine kH ⟨_,rfl,h _ (nA G (s.heap.objs.size+1) vs (xs.map (·.2))) n1 v1 v2 (λb o e=>?_) ?_⟩
  .unfold nA;rw[eQ _ _ _ _ (aL (cu (az e)))];exact k2 b o e
  .rw [show (xs.map (·.2)).toList.toArray=xs.map (·.2) from jj]
   exact g1
end
end MrS
namespace HT
open PySem PyProof.Rows
section
open PySem.SeqAt
open PySem.AutoSeq1 (wpAny_loadPart')
open PySem.MeetsSeq PySem.MeetsSeq2 PySem.MeetsSeq3 PySem.SeqRoads2
theorem GZ{vs:List Value}{ns:List Int}(h:kS vs ns):∀{i:Nat}(hi:i<vs.length),∃(z:Int) (t:Tok),vs[i] = .int z t/\ns.drop i=z::ns.drop (i+1):=by
 induction h with
 |nil=>intro i hi;exact absurd hi (dA _)
 |cons a t _ ih =>
  intro i hi;cases i with
  |zero=>exact⟨a,t,rfl,rfl⟩
  |succ i=>exact ih (i:=i) (by simpa using hi)
theorem Fx(l b:Addr) (items items2:Array Value) (n n2:Nat) (dd dd2:Option Addr) (sl sl2:Array (Option Value)) (ns ms:List Int) (hi:kS items.toList ns) (hj:kS items2.toList ms) (k:Nat) :
  ∀i:Nat,min items.size items2.size-i=k->i<=items.size->i<=items2.size->Meets (Builtin.«list.__eq__.loop» ⟨[.ref l,.ref b,rawInt i,rawInt 0],[]⟩)
   (λ_ R s=>s.heap.get? l=some { cls:=.type "list", dict:=dd,data:=.seq items n,slots:=sl }/\s.heap.get? b=some { cls:=.type "list", dict:=dd2,data:=.seq items2 n2,slots:=sl2 } /\
    R (.ok (.ret (.bool (tU (ns.drop i) (ms.drop i))))) s):=by
 have z1:ns.length=items.size:=by rw[←hi.length];simp
 have z2:ms.length=items2.size:=by rw[←hj.length];simp
 induction k with
 |zero =>
  intro i hk h1 h2 prog w A R s h;obtain⟨hp,g,d,tk,os⟩:=s;obtain⟨hl,hb,h⟩:=h
  wp_walk using wpAny_loadPart' hl,wpAny_loadPart' hb
  have fin:tU (ns.drop i) (ms.drop i)=decide (items.size<items2.size):=by
   by_cases c:i=items.size
   .have e1:ns.drop i=[]:=dS (by lia)
    rw[e1]
    by_cases c2:i<items2.size
    .rw [aT (by lia:i<ms.length),CS]
     exact(decide_eq_true (by lia)).symm
    .rw [dS (by lia:ms.length<=i),En]
     exact(decide_eq_false (by lia)).symm
   .have c2:i=items2.size:=by lia
    rw[aT (by lia:i<ns.length),dS (by lia:ms.length<=i),Ed]
    exact(decide_eq_false (by lia)).symm
  rw[fin]at h
  by_cases c:i=items.size
  .have Qp:items[((i:Nat):Int).toNat]?=none:=by simp;lia
   rw[Qp]
   wp_walk using wpAny_loadPart' hl,wpAny_loadPart' hb
   exact h
  .have c2:i=items2.size:=by lia
   have Qp:items[((i:Nat):Int).toNat]?=some (items[i]'(by lia)):=by simp
   have hi2:items2[((i:Nat):Int).toNat]?=none:=by simp;lia
   rw[Qp,hi2]
   wp_walk using wpAny_loadPart' hl,wpAny_loadPart' hb
   exact h
 |succ k ih =>
  intro i hk h1 h2 prog w A R s h;obtain⟨hp,g,d,tk,os⟩:=s;obtain⟨hl,hb,h⟩:=h
  wp_walk using wpAny_loadPart' hl,wpAny_loadPart' hb
  have hlt:i<items.size:=by lia
  have hlt2:i<items2.size:=by lia
  obtain⟨x,t,ex,dx⟩:=GZ hi (i:=i) (by simpa using hlt)
  obtain⟨y,u,ey,dy⟩:=GZ hj (i:=i) (by simpa using hlt2)
  have Qp:items[((i:Nat):Int).toNat]?=some (.int x t):=by
   rw[←ex];simp[hlt]
  have hi2:items2[((i:Nat):Int).toNat]?=some (.int y u):=by
   rw[←ey];simp[hlt2]
  have hc:((i:Int)+1)=((i+1:Nat):Int):=by push_cast;rfl
  rw[dx,dy,yq]at h;rw[Qp,hi2];obtain⟨e,he,hiff⟩:=N6 A.in1 ⟨hp,g,d,tk,os⟩ x t y u;refine kC (he prog w _ _ ?_);cases e with
  |true =>
   rw[qe (hiff.mp rfl)]at h
   wp_walk
   rw[hc];exact⟨nj plain_eq_loop _,kZ entry_eq_loop (by
    rw[Around.under_plainId plain_eq_loop _];exact ih (i+1) (by lia) (by lia) (by lia) prog w A R _ ⟨hl,hb,h⟩)⟩
  |false =>
   rw[pV (λq=>absurd (hiff.mpr q) aK)]at h
   have hri:=O4 A.in1 ⟨hp,g,d,tk,os⟩ x t y u prog w
   wp_walk using wpAny_loadPart' hl,wpAny_loadPart' hb
   rw[Qp,hi2]
   wp_walk using hri
   exact h
theorem Fv(l b:Addr) (items items2:Array Value) (n n2:Nat) (dd dd2:Option Addr) (sl sl2:Array (Option Value)) (ns ms:List Int) (hi:kS items.toList ns) (hj:kS items2.toList ms) :
  Meets (Builtin.«list.__lt__» ⟨[.ref l,.ref b],[]⟩)
   (λ_ R s=>s.heap.get? l=some { cls:=.type "list", dict:=dd,data:=.seq items n,slots:=sl }/\s.heap.get? b=some { cls:=.type "list", dict:=dd2,data:=.seq items2 n2,slots:=sl2 } /\
    R (.ok (.ret (.bool (tU ns ms)))) s):=by
 intro prog w A R s h;obtain⟨hp,g,d,tk,os⟩:=s;obtain⟨hl,hb,h⟩:=h;have f3:=AutoSeq1.sub_list_list
 wp_walk using wpAny_loadPart' hl,wpAny_loadPart' hb
 exact⟨nj plain_eq_loop _,kZ entry_eq_loop (by
  rw[Around.under_plainId plain_eq_loop _];exact Fx l b items items2 n n2 dd dd2 sl sl2 ns ms hi hj _ 0 rfl (bq _) (bq _) prog w A R _ ⟨hl,hb,h⟩)⟩
end
end HT
namespace Mr
open PySem PySem.Spec PyProof.Rows L2
section
open HT
theorem Dp:∀xs ys:List Int,tU xs ys=true->tU ys xs=false
 | [],[],_=>rfl
 | [],_::_,_=>rfl
 |_::_,[],h=>by cases h
 |x::xs,y::ys,h=>by
  rw[yq]at h ⊢
  by_cases e:x=y
  .rw [qe e]at h;rw[qe e.symm];exact Dp xs ys h
  .rw [pV e]at h;rw[pV (Ne.symm e)];have h':x<y:=of_decide_eq_true h;exact decide_eq_false (by lia)
theorem BJ:∀xs ys zs:List Int,tU ys xs=false->tU zs ys=false->tU zs xs=false
 | [],[],[],_,_=>rfl
 | [],[],_::_,_,h=>by exact h
 | [],_::_,[],_,h=>by cases h
 | [],_::_,_::_,_,_=>rfl
 |_::_,[],_,h,_=>by cases h
 |_::_,_::_,[],_,h=>by cases h
 |x::xs,y::ys,z::zs,h1,h2=>by
  rw[yq]at h1 h2 ⊢
  by_cases e1:y=x
  .rw [qe e1]at h1;subst e1
   by_cases e2:z=y
   .rw [qe e2]at h2 ⊢;exact BJ xs ys zs h1 h2
   .rw [pV e2]at h2 ⊢;exact h2
  .rw [pV e1]at h1;have h1':¬ y<x:=of_decide_eq_false h1
   by_cases e2:z=y
   .rw [pV (by lia)]
    exact decide_eq_false (by lia)
   .rw [pV e2]at h2;have h2':¬ z<y:=of_decide_eq_false h2;rw[pV (by lia)]
    exact decide_eq_false (by lia)
theorem GO:∀xs ys:List Int,tU xs ys=false->tU ys xs=false->xs=ys
 | [],[],_,_=>rfl
 | [],_::_,h,_=>by cases h
 |_::_,[],_,h=>by cases h
 |x::xs,y::ys,h1,h2=>by
  rw[yq]at h1 h2
  by_cases e:x=y
  .rw [qe e]at h1;rw[qe e.symm]at h2;rw[e,GO xs ys h1 h2]
  .rw [pV e]at h1;rw[pV (Ne.symm e)]at h2;have h1':¬ x<y:=of_decide_eq_false h1;have h2':¬ y<x:=of_decide_eq_false h2;lia
def RC(x y:List Int):Bool:=!HT.tU y x
theorem Ml(x y z:List Int) (h1:RC x y=true) (h2:RC y z=true):RC x z=true:=by
 unfold RC at *;simp only[gk]at *;exact BJ x y z h1 h2
theorem K5(x y:List Int):(RC x y || RC y x)=true:=by
 unfold RC;cases h:HT.tU y x with
 |false=>rfl
 |true=>rw[Dp y x h];rfl
def tR(rs:List (List Int)):List (List Int):=rs.mergeSort RC
theorem qW(rs:List (List Int)):(tR rs).Perm rs:=jo _ _
theorem D2(rs:List (List Int)):(tR rs).Pairwise (λx y=>HT.tU y x=false):=by
 refine(iN Ml K5 rs).imp λ{a b} h=>?_
 unfold RC at h;simpa using h
theorem Em:∀{xs ys:List (List Int)},xs.Perm ys->xs.Pairwise (λx y=>HT.tU y x=false)->ys.Pairwise (λx y=>HT.tU y x=false)->xs=ys
 |xs,ys,hp,h1,h2=>aU.eq_of_pairwise (λa b _ _ e1 e2=>(GO b a e1 e2).symm) h1 h2 hp
theorem Nq{xs rs:List (List Int)}(hp:xs.Perm rs) (h:xs.Pairwise (λx y=>HT.tU y x=false)):xs=tR rs :=
 Em (hp.trans (qW rs).symm) h (D2 rs)
theorem Eu{rs ts:List (List Int)}(hp:rs.Perm ts):tR rs=tR ts:=Nq ((qW rs).trans hp) (D2 rs)
theorem sC(rs:List (List Int)):(tR rs).length=rs.length:=(qW rs).length_eq
def rO(ns:List Int):List Int:=ns.mergeSort (λx y=>decide (x<=y))
theorem rp(ns:List Int):(rO ns).Perm ns:=jo _ _
theorem vQ(ns:List Int):(rO ns).Pairwise (·<=·):=by
 refine(iN (le:=λx y=>decide (x<=y)) (λa b c h1 h2=>?_) (λa b=>?_) ns).imp λ{a b} h=>by simpa using h
 .simp only [decide_eq_true_eq]at *;lia
 .simp only [jV,decide_eq_true_eq];lia
theorem Bg{xs ns:List Int}(hp:xs.Perm ns) (h:xs.Pairwise (·<=·)):xs=rO ns :=
 aU.eq_of_pairwise (λa b _ _ e1 e2=>Int.le_antisymm e1 e2) h (vQ ns) (hp.trans (rp ns).symm)
end
def rZ(H:Hp) (ps:List Addr) (rs:List (List Int)):Prop:=ps.map H=rs.map (λr=>some (HO.lst (r.map V.int)))
theorem rZ.nil{H:Hp}:rZ H [] []:=rfl
theorem rZ.length{H:Hp}{ps:List Addr}{rs:List (List Int)}(h:rZ H ps rs):ps.length=rs.length:=by
 have:=congrArg bV h;simpa using this
theorem rZ.cons_iff{H:Hp}{ps:List Addr}{rs:List (List Int)}{p:Addr}{r:List Int}:rZ H (p::ps) (r::rs)↔H p=some (.lst (r.map V.int))/\rZ H ps rs:=by
 unfold rZ;rw[ar,ar,jJ.injEq]
theorem rZ.get{H:Hp}{ps:List Addr}{rs:List (List Int)}(h:rZ H ps rs) {i:Nat}{p:Addr}(e:ps[i]?=some p):∃r,rs[i]?=some r/\H p=some (.lst (r.map V.int)):=by
 have:=congrArg (λl=>l[i]?) h
 simp only[gMq,e,bR]at this;cases er:rs[i]? with
 |none=>rw[er]at this;cases this
 |some r=>rw[er]at this;exact⟨r,rfl,aD.inj this⟩
theorem rZ.mem{H:Hp}{ps:List Addr}{rs:List (List Int)}(h:rZ H ps rs) {p:Addr}(hp:p∈ps):∃r,r∈rs/\H p=some (.lst (r.map V.int)):=by
 obtain⟨i,hi⟩:=List.getElem?_of_mem hp;obtain⟨r,er,e⟩:=h.get hi;exact⟨r,mGq er,e⟩
theorem rZ.keep{H H':Hp}{ps:List Addr}{rs:List (List Int)}(h:rZ H ps rs) (k:∀p∈ps,H' p=H p):rZ H' ps rs:=by
 unfold rZ at *;rw[←h];exact mCq k
theorem rZ.same{H H':Hp}{ps:List Addr}{rs:List (List Int)}(h:rZ H ps rs) (s:qB H H'):rZ H' ps rs :=
 h.keep λp hp=>by
  obtain⟨r,_,e⟩:=h.mem hp;rw[s _ _ e,e]
def YW:V->Int
 | .int i=>i
 |_=>0
def yU(H:Hp) (p:Addr):List Int:=match H p with
 |some (.lst xs)=>xs.map YW
 |_=>[]
theorem GV{H:Hp}{p:Addr}{r:List Int}(h:H p=some (.lst (r.map V.int))):yU H p=r:=by
 unfold yU;rw[h];simp only[mPq];exact List.map_id'' (λ_=>rfl) r
theorem rZ.fn{H:Hp}{ps:List Addr}{rs:List (List Int)}(h:rZ H ps rs):rs=ps.map (yU H):=by
 induction rs generalizing ps with
 |nil =>
  have:=h.length;have:ps=[]:=bc.mp this;rw[this];rfl
 |cons r rs ih =>
  cases ps with
  |nil=>have:=h.length;simp at this
  |cons p ps =>
   obtain⟨h1,h2⟩:=rZ.cons_iff.mp h;rw[ar,←ih h2,GV h1]
theorem rZ.fn_row{H:Hp}{ps:List Addr}{rs:List (List Int)}(h:rZ H ps rs) {p:Addr}(hp:p∈ps):H p=some (.lst ((yU H p).map V.int)):=by
 obtain⟨r,_,e⟩:=h.mem hp;rw[GV e];exact e
theorem rZ.of_fn{H:Hp}{ps:List Addr}(h:∀p∈ps,H p=some (.lst ((yU H p).map V.int))):rZ H ps (ps.map (yU H)):=by
 unfold rZ;rw[mPq];exact mCq h
theorem rZ.perm{H:Hp}{ps qs:List Addr}{rs:List (List Int)}(h:rZ H ps rs) (hp:qs.Perm ps):∃ts,rZ H qs ts/\ts.Perm rs/\ts=qs.map (yU H) :=
 ⟨_,rZ.of_fn λp m=>h.fn_row (hp.mem_iff.mp m),by rw[h.fn];exact hp.map _,rfl⟩
theorem rZ.free{H H':Hp}{ps:List Addr}{rs:List (List Int)}(h:rZ H' ps rs) {q:Addr}(n:H' q=none):q∉ps:=λm=>by
 obtain⟨r,_,e⟩:=h.mem m;rw[n]at e;cases e
theorem BY:∀{ps:List Addr}{vs:List Value},qv (ps.map V.ref) vs->vs=ps.map bZ
 | [],vs,r=>by cases r;rfl
 |p::ps,vs,r=>by
  rw[ar]at r;cases r with
  |cons h1 h2 =>
   have e:_=bZ p:=h1;rw[e,BY h2];rfl
theorem Fc:∀(ps:List Addr),qv (ps.map V.ref) (ps.map bZ)
 | []=>.nil
 |p::ps=>.cons rfl (Fc ps)
def zj:Value->Addr
 | .ref p=>p
 |_=>0
def intOf:Value->Int
 | .int i _=>i
 |_=>0
theorem Fu{vs:List Value}{ns:List Int}(h:kS vs ns):ns=vs.map intOf/\∀v∈vs,∃a t,v = .int a t:=by
 induction h with
 |nil=>exact⟨rfl,λv hv=>by cases hv⟩
 |cons a t _ ih =>
  refine⟨by rw[ar,←ih.1];rfl,λv hv=>?_⟩
  rcases ae.mp hv with rfl|hv
  .exact ⟨a,t,rfl⟩
  .exact ih.2 v hv
theorem vals_ints:∀{vs:List Value},(∀v∈vs,∃a t,v = .int a t)->qv ((vs.map intOf).map V.int) vs
 | [],_=>.nil
 |v::vs,h=>by
  obtain⟨a,t,rfl⟩:=h _ (af ..);exact .cons ⟨t,rfl⟩ (vals_ints λv hv=>h v (mCo _ hv))
theorem RT{M:Model}{A:Around}{E:Value->Shared->Prop}{s:Shared}{vs:List Value}{T:String}{Q:lr->Shared->Prop}(h2:2<=vs.length) (hT:∀v∈vs,W.Looks M s.heap (typeOf v) (.type T)) (hT1:(gq T != gq "tuple")=true) (hT2:(gq T == gq T)=true) (h:Q mj s) :
  kJ M A (keyKind' vs.toArray) Q E s:=W.kas_kind h2 hT hT1 hT2 h
def Xo(x y:kz):Bool:=match x.1,y.1 with
 | .int a _,.int b _=>decide (a<b)
 |_,_=>false
theorem Wf(prog:kL) (w:kN) (A:Around) (s:Shared):MrS.zR prog w A s mj (λx=>∃a t,x.1 = .int a t) Xo where
 ask:=by
  rintro⟨_,x⟩ ⟨_,y⟩ ⟨a,t,e1⟩ ⟨b,u,e2⟩ E Q q;dsimp only at e1 e2;subst e1 e2;rw[keyLt'_oneType];exact oneLt_int q
 asym:=by
  rintro⟨_,x⟩ ⟨_,y⟩ ⟨a,t,e1⟩ ⟨b,u,e2⟩ h;dsimp only at e1 e2;subst e1 e2;have h':a<b:=of_decide_eq_true h;exact decide_eq_false (by lia)
 trans:=by
  rintro⟨_,x⟩ ⟨_,y⟩ ⟨_,z⟩ ⟨a,t,e1⟩ ⟨b,u,e2⟩ ⟨c,v,e3⟩ h1 h2;dsimp only at e1 e2 e3;subst e1 e2 e3;have h1':¬ b<a:=of_decide_eq_false h1;have h2':¬ c<b:=of_decide_eq_false h2;exact decide_eq_false (by lia)
def Yd(r:Addr->List Int) (x y:kz):Bool:=match x.1,y.1 with
 | .ref p,.ref q=>HT.tU (r p) (r q)
 |_,_=>false
theorem Xv{prog:kL}{w:kN}{A:Around}{s:Shared}{ps:List Addr}{r:Addr->List Int}(hu:A.units<lZ)
  (h:∀p∈ps,∃vs:List Value,PlainL s.heap p vs.toArray/\kS vs (r p)):MrS.zR prog w A s mj (λx=>∃p,x.1 = .ref p/\p∈ps) (Yd r) where
 ask:=by
  rintro⟨_,x⟩ ⟨_,y⟩ ⟨p,e1,hp⟩ ⟨q,e2,hq⟩ E Q k;dsimp only at e1 e2;subst e1 e2;obtain⟨vs,⟨o,n,ho,hc,hd0,hd⟩,hi⟩:=h p hp;obtain⟨ws,⟨o2,n2,ho2,hc2,hd02,hd2⟩,hj⟩:=h q hq;obtain⟨cls,dd,data,sl⟩:=o;obtain⟨cls2,dd2,data2,sl2⟩:=o2;simp only at hc hd0 hd hc2 hd02 hd2;subst hc hd0 hd hc2 hd02 hd2;rw[keyLt'_oneType,oneLt'_eq];simp only[if_true];refine kC (wpAny_cRoomFor hu ?_);refine kC (wpAny_callSpecialIfBound?_slot ⟨_,ho,rfl⟩ F.slot_list_lt (mV F.slot_list_lt ⟨_,ho,rfl⟩ F.entry_list_lt (F.args_list_lt_2 _ _)
   (HT.Fv p q vs.toArray ws.toArray n n2 none none sl sl2 (r p) (r q) (by simpa using hi) (by simpa using hj)) ⟨ho,ho2,?_⟩))
  exact ly k
 asym:=by
  rintro⟨_,x⟩ ⟨_,y⟩ ⟨a,e1,_⟩ ⟨b,e2,_⟩ h;dsimp only at e1 e2;subst e1 e2;exact Dp _ _ h
 trans:=by
  rintro⟨_,x⟩ ⟨_,y⟩ ⟨_,z⟩ ⟨a,e1,_⟩ ⟨b,e2,_⟩ ⟨c,e3,_⟩ h1 h2;dsimp only at e1 e2 e3;subst e1 e2 e3;exact BJ _ _ _ h1 h2
section
variable {X:Cx}
theorem Fq:xw X (.builtin "sorted") (λxs H Q=>∃(a:Addr) (ns:List Int),xs=[.ref a]/\tJ X.K H a (ns.map V.int)/\∀p,H p=none->Q (.ref p) (rK H p (.lst ((rO ns).map V.int)))):=by
 intro oV s σ H xs us Q I r h;obtain⟨a,ns,rfl,hS,q⟩:=h;obtain⟨u,rfl,ru⟩:=xl r;cases ru;obtain⟨vs,hl,hi,hz⟩:=xO I hS;obtain⟨en,hv⟩:=Fu hi;have hlen:=hi.length;refine MrS.DD (Pk:=λx=>∃a t,x.1 = .int a t) (lt:=Xo) hl (by lia) (λs' _=>⟨λh2 Q q=>?_,Wf _ _ _ _⟩) (λv m=>hv v m) λout h' n' o1 o2 o3 o4=>?_
 .match vs,hi,h2 with
  | [],_,h2=>simp at h2
  | [_],_,h2=>simp at h2
  |v₁::v₂::rest,hi,_ =>
   rw[keyKind_ints hi];exact kH q
 .have ho:∀v∈out,∃a t,v = .int a t:=λv m=>hv v (o1.mem_iff.mp m)
  have e:out.map intOf=rO ns:=by
   refine Bg (by rw[en];exact o1.map _) ?_
   rw[bb];refine o2.imp_of_mem λ{x y} mx my h=>?_
   obtain⟨a,t,rfl⟩:=ho x mx;obtain⟨b,u,rfl⟩:=ho y my;have h':¬ b<a:=of_decide_eq_false h;show a<=b;lia
  have hp:H (s.heap.objs.size+1)=none:=I.hok.fresh (cU _);refine⟨.ref (s.heap.objs.size+1),_,I.laid (t':=s.toks) o3 (cU _) (show rV X.prog X.w _ h' _ (.lst ((rO ns).map V.int)) from ⟨?_,out,n',?_,o4⟩),rfl,q _ hp⟩
  .rw [lMq,(rp ns).length_eq];exact hz
  .rw [←e];exact vals_ints ho
theorem yA(hu:X.A.units+64<lZ):xw X (.builtin "sorted") (λxs H Q=>∃(a:Addr) (ps:List Addr) (rs:List (List Int)),xs=[.ref a]/\tJ X.K H a (ps.map V.ref)/\rZ H ps rs /\
  ∀p qs,H p=none->qs.Perm ps->rZ (rK H p (.lst (qs.map V.ref))) qs (tR rs)->Q (.ref p) (rK H p (.lst (qs.map V.ref)))):=by
 intro oV s σ H xs us Q I r h;obtain⟨a,ps,rs,rfl,hS,hE,q⟩:=h;obtain⟨u,rfl,ru⟩:=xl r;cases ru;obtain⟨its,rv,hl,hz⟩:=I.list hS;have ei:=BY rv;subst ei;have hrow:∀p∈ps,∃vs:List Value,PlainL s.heap p vs.toArray/\kS vs (yU H p):=λp hp=>by
  obtain⟨its,rv,pl,_⟩:=I.list (tJ.of (hE.fn_row hp));exact⟨its,pl,AA rv⟩
 have keepL:∀(s':Shared),(∀b o,s.heap.get? b=some o->s'.heap.get? b=some o)->∀p∈ps,∃vs:List Value,PlainL s'.heap p vs.toArray/\kS vs (yU H p):=λs' k p hp=>by
  obtain⟨vs,⟨o,n,ho,rest⟩,hi⟩:=hrow p hp;exact⟨vs,⟨o,n,k _ _ ho,rest⟩,hi⟩
 refine MrS.DD (Pk:=λx=>∃p,x.1 = .ref p/\p∈ps) (lt:=Yd (yU H)) hl.isList (by simpa using hz) (λs' k=>⟨λh2 Q q=>?_,Xv (by show X.A.units+1+1<lZ;lia) (keepL s' k)⟩) (λv m=>?_) λout h' n' o1 o2 o3 o4=>?_
 .refine RT (T := "list") h2 (λv hv=>?_) (by rfl) (by rfl) q
  obtain⟨p,hp,rfl⟩:=mMq.mp hv;obtain⟨vs,pl,_⟩:=keepL s' k p hp;intro A Q E s2 k2 q2;obtain⟨o,ho,hc,_⟩:=pl.isList;exact wpAny_typeOf (T := "list") ⟨o,k2 _ _ ho,hc⟩ q2
 .obtain ⟨p,hp,rfl⟩:=mMq.mp m;exact⟨p,rfl,hp⟩
 .have ho:∀v∈out,∃p∈ps,v = .ref p:=λv m=>by
   obtain⟨p,hp,rfl⟩:=mMq.mp (o1.mem_iff.mp m);exact⟨p,hp,rfl⟩
  have eo:out=(out.map zj).map bZ:=by
   rw[mPq];have e:=mCq (l:=out) (f:=id) (g:=bZ∘zj) λv hv=>by
    obtain⟨p,_,rfl⟩:=ho v hv;rfl
   rw[←e,dF]
  have hq:(out.map zj).Perm ps:=by
   have:=o1.map zj;rw[mPq,show zj∘bZ=id from rfl,dF]at this
   exact this
  have hp:H (s.heap.objs.size+1)=none:=I.hok.fresh (cU _);generalize out.map zj=qs at eo hq;obtain⟨ts,e1,e2,e3⟩:=hE.perm hq;have es:ts=tR rs:=by
   refine Nq e2 ?_;rw[e3,bb];rw[eo,bb]at o2;exact o2
  refine⟨.ref (s.heap.objs.size+1),_,I.laid (t':=s.toks) o3 (cU _) (show rV X.prog X.w _ h' _ (.lst (qs.map V.ref)) from ⟨?_,out,n',?_,o4⟩),rfl,q _ qs hp hq (by rw[←es];exact e1.same (xR hp))⟩
  .rw [lMq,hq.length_eq];simpa using hz
  .rw [eo];exact Fc qs
def xh(r:List Int):PyData:=.list (r.map PyData.int)
def AN(rs:List (List Int)):PyData:=.list (rs.map xh)
theorem LG{oV:List (Addr×Obj)}{σ:St}{H:Hp}{s:Shared}{p:Addr}{r:List Int}(I:Inv X oV σ H s) (h:H p=some (.lst (r.map V.int))):Reads s.heap (.ref p) (xh r) [p]:=by
 obtain⟨vs,hl,hi,_⟩:=xO I (tJ.of h);exact W.reads_of_ints hl hi
theorem B0:∀rs:List (List Int),PyData.canLayAll0 (rs.map xh)=true
 | []=>by simp[PyData.canLayAll0]
 |r::rs=>by simp[PyData.canLayAll0,xh,PyData.canLay0,W.canLayAll0_ints r,B0 rs]
theorem DX:∀rs:List (List Int),PyData.depthAll (rs.map xh)<=3
 | []=>by simp[PyData.depthAll]
 |r::rs=>by
  have h1:=DX rs;have h2:=W.depthAll_ints r;simp only[ar,PyData.depthAll,xh,PyData.depth];lia
theorem Ca(rs:List (List Int)):SeqAt.shaped (AN rs)=true:=by
 have h1:=DX rs;have h2:PyData.depth (AN rs)<=64:=by simp only[AN,PyData.depth];lia
 show (PyData.canLay0 (AN rs) && decide (PyData.depth (AN rs)<=64))=true;rw[fu];exact⟨by simp only[AN,PyData.canLay0];exact B0 rs,decide_eq_true h2⟩
theorem Dc:∀rs ts:List (List Int),SeqAt.noMixAll (rs.map xh) (ts.map xh)=true
 | [],[]=>by simp[SeqAt.noMixAll]
 | [],_::_=>by simp[SeqAt.noMixAll]
 |_::_,[]=>by simp[SeqAt.noMixAll]
 |r::rs,t::ts=>by simp[SeqAt.noMixAll,xh,SeqAt.noMix,W.noMix_ints r t,Dc rs ts]
theorem Ew:∀rs ts:List (List Int),PySem.Spec.sameAll (rs.map xh) (ts.map xh)=decide (rs=ts)
 | [],[]=>by simp[PySem.Spec.sameAll]
 | [],_::_=>by simp[PySem.Spec.sameAll]
 |_::_,[]=>by simp[PySem.Spec.sameAll]
 |r::rs,t::ts=>by
  simp only[ar,PySem.Spec.sameAll,xh,PySem.Spec.same,W.same_ints r t];rw[Ew rs ts]
  by_cases h:r=t <;> simp[h]
def Oz:V->List V->Hp->VK->Prop:=λx vs H Q=>∃(a b:Addr) (ps:List Addr) (rs:List (List Int)) (r:List Int),x = .ref a/\vs=[.ref b]/\H a=some (.lst (ps.map V.ref))/\rZ H ps rs/\H b=some (.lst (r.map V.int))/\b∉ps/\Q (.int (rs.countP (·=r):Nat)) H
theorem HQ(hu:X.A.units+65<lZ):VX X "list.count" Oz:=by
 intro oV s σ H x xs v us Q I rx r h;obtain⟨a,b,ps,rs,row,rfl,rfl,h1,e1,h2,nb,q⟩:=h;cases rx;obtain⟨u,rfl,ru⟩:=xl r;cases ru;obtain⟨its,rv,⟨o,n,ho,hc,hd0,hd⟩,hz⟩:=I.list (tJ.of h1);have ei:=BY rv;subst ei;obtain⟨cls,dd,data,sl⟩:=o;simp only at hc hd0 hd;subst hc hd0 hd;have hr:=LG I h2;refine mV fQ ⟨_,ho,rfl⟩ PySem.F.entry_list_count (PySem.F.args_list_count_2 _ _)
  (SeqAt.list_countAt a (ps.map bZ).toArray n none sl (.ref b) (λy=>decide (yU H (zj y)=row))) ⟨ho,λy hy=>?_,?_⟩
 .obtain ⟨p,hp,rfl⟩:=mMq.mp (show y∈ps.map bZ by simpa using hy)
  refine SeqAt.EqAt.of_refs (λe=>nb (e ▸ hp)) λprog w E Q hq=>?_
  obtain⟨vs,hl,hi,_⟩:=xO I (tJ.of (e1.fn_row hp));obtain⟨ws,hl2,hi2,_⟩:=xO I (tJ.of h2);exact W.eq_intsK (prog:=prog) (w:=w) (A:=X.A.in1) hl hi hl2 hi2 (by show X.A.units+1+64<lZ;lia) hq
 .refine ⟨.int _,H,I.tok _,⟨_,rfl⟩,?_⟩;have e:(ps.map bZ).toArray.toList.countP (λy=>decide (yU H (zj y)=row))=rs.countP (·=row):=by
   rw[List.toList_toArray,e1.fn,iX,iX];rfl
  rw[e];exact q
end
end Mr
namespace Mr
open PySem L2
structure Bt (mg:Str->Option Value):Prop where
 len:mg "len" = none
 min:mg "min" = none
 max:mg "max" = none
 abs:mg "abs" = none
 all:mg "all" = none
 sorted:mg "sorted" = none
 isi:mg "isinstance" = none
 list:mg "list" = none
 int:mg "int" = none
 bool:mg "bool" = none
 str:mg "str" = none
 dict:mg "dict" = none
 zip:mg "zip" = none
 enum:mg "enumerate" = none
 range:mg "range" = none
 reversed:mg "reversed" = none
structure Fn (P:kL) (w:kN) (K:W.Frag) (mg:Str->Option Value) (base:Heap) (k:Nat) (x:Str) (st:Stmt) (ps:List Str) (sp:Sp) (f:Addr) (fd:kT):Prop where
 D:CM K mg x st ps f fd
 ok:Co P w K mg base Ti k f fd ps sp
theorem wY.units65{k:Nat}{A:Around}(r:wY k A):A.units+65<lZ:=by have:=r.un;lia
section
variable {X:Cx}{k:Nat}{f:Addr}{fd:kT}{ps:List Str}{sp:Sp}{x:Str}{p pos:Pos}{e:Expr}{es:List Expr}{t:TA}{st:Stmt}
theorem sj(G:Fn X.prog X.w X.K X.mg X.base k x st ps sp f fd) (hr:wY k X.A) (ha:PA X (e::es) t) (hg:Gl X x:=by rfl) (hdb:(x == ("__debug__" : Str))=false:=by decide)
  (he:kP (e::es) X.env=(false,eval e X.env)::kP es X.env:=by rfl) (hpl:(mG pos (kP es X.env)).any (·.1)=false:=by rfl) :
  PE X (.Call (.Name x p) (e::es) [] pos) (J9 sp [] E0 t):=QI G.ok hr hg G.D.m G.D.F.kp G.D.b .nil WG ha hdb he hpl
end
section
variable (K:W.Frag)
def Kg:Sp:=λvs H Q _=>∃(a:Addr) (ns:List Int),vs=[.ref a]/\tJ K H a (ns.map V.int)/\ns.length<=63/\∀H',Q (.bl true) H'
end
theorem um{α:Type}{l:List α}{i:Nat}{x:α}(h:l[i]?=some x):l.take (i+1)=l.take i++[x]:=by
 rw[bH,h];rfl
end Mr
namespace Xe
open PySem PySem.Spec PySem.W PyProof.Rows L2 Mr
abbrev YJ(K:Frag) (C:Addr):Bool:=findIn K (.ref C) "__setattr__" == some (some (.builtin "object.__setattr__")) && findIn K (.ref C) "__getattribute__" == some (some (.builtin "BaseException.__getattribute__")) &&
 findIn K (.ref C) "__getattr__" == some none && findIn K (.ref C) "__class__" == some (some (.builtin "object.__class__"))
def US(K:Frag) (c:Str) (C:Addr) (bm:List Value):Bool:=match K.lookup C with
 |some ⟨.type "type", _,.cls cd,sl⟩=>(match sl.toList with
  | [_,_,_,_,some (.builtin n),_]=>cd.name == c && cd.mro == .ref C::bm && n == "ValueError.__new__" && !cd.hasDel && cd.hasDict && tailIn K WJ bm
  |_=>false)
 |_=>false
structure XG (K:Frag) (c:Str) (C M:Addr):Prop where
 nm:nsIn K kM c=some (some (.ref C))
 nmM:nsIn K kM "MapError" = some (some (.ref M))
 xc:US K c C (.ref M::WJ)=true
 xm:US K "MapError" M WJ=true
 lk:YJ K C=true
def Y1(K:Frag) (c:Str) (C:Addr):Prop:=nsIn K kM c=some (some (.ref C))/\((∃M,XG K c C M)∨(c = "MapError" /\ US K "MapError" C WJ=true))
def XZ(e C:Addr) (od:Option Addr):HO:=.ext λh=>∃o vs,h.get? e=some o/\o.cls = .ref C/\o.dict=od/\o.data = .fields vs
section
variable {X:Cx}
theorem PN{kvs:List (pQ×V)}{vs:List (pQ×Value)}(r:KV kvs vs):∀{i:Nat}{p:pQ×V},kvs[i]?=some p->∃u,vs[i]?=some (p.1,u)/\qN p.2 u:=by
 induction r with
 |nil=>intro i p h;simp at h
 | @cons a b _ _ r t ih =>
  intro i p h;cases i with
  |zero=>simp at h;subst h;exact⟨b.2,by simp[r.1],r.2⟩
  |succ i=>obtain⟨u,g1,g2⟩:=ih (by simpa using h);exact⟨u,by simpa using g1,g2⟩
end
end Xe
namespace Xe
open PySem
end Xe
namespace Xe
open PySem PySem.Spec PySem.W PyProof.Rows L2 Mr
end Xe
namespace Xe
open PySem
end Xe
namespace Xe
open PySem PySem.Spec PySem.W PyProof.Rows L2 Mr
end Xe
namespace PySem.SCG
open PySem Builtin Builtin.Str
end PySem.SCG
namespace Mr
open PySem PySem.Spec PyProof.Rows L2
section
variable {X:Cx}
theorem G8:∀{bs:List Bool}{us:List Value},qv (bs.map V.bl) us->us=bs.map gW
 | [],us,r=>by cases r;rfl
 |b::bs,us,r=>by
  cases r with
  |cons r1 r2=>rw[G8 r2];cases r1;rfl
theorem Ia(hc:X.calm=true):xw X (.builtin "all") (λxs H Q=>∃(a:Addr) (bs:List Bool),xs=[.ref a]/\tJ X.K H a (bs.map V.bl)/\Q (.bl (bs.all id)) H):=by
 intro oV s σ H xs us Q I r h;obtain⟨a,bs,rfl,hS,q⟩:=h;obtain⟨u,rfl,ru⟩:=xl r;cases ru;obtain⟨its,rv,p,hz⟩:=I.list hS;obtain rfl:=G8 rv;have hl:=p.isList;have hlt:a<s.heap.objs.size:=by obtain⟨_,e,_⟩:=hl;exact az e
 refine call_all_walk (nt hl ?_);refine⟨s.heap.objs.size,[s.heap.objs.size,a],[s.heap.objs.size],(bs.map gW).toArray.size,_,_,λi=>(bs[i]?).getD true,rfl,Walks.list (A:=X.A.in1) (I.ok.hd hc) _ a (aL hlt) _,⟨⟨_,bh _ rfl,rfl,rfl⟩,hl.push _⟩,λi v s' Q' E' hP hQ=>?_,λh' tk hk=>?_⟩
 .have e:(bs.map gW)[i]?=some v:=by simpa using hP
  rw[gMq]at e;cases hb:bs[i]? with
  |none=>rw[hb]at e;cases e
  |some b =>
   rw[hb]at e;cases e;simp only[hb,gH]at hQ;exact ly hQ
 .have e:((cw (bs.map gW).toArray.size).all λi=>(bs[i]?).getD true)=bs.all id:=by
   rw[aS,lMq,bQ,gI,gI];constructor
   .intro z b hb;obtain⟨i,hi,rfl⟩:=List.getElem_of_mem hb;have:=z i (dq.mpr hi);simpa [gEg hi] using this
   .intro z i hi;have hi':=dq.mp hi;have:=z bs[i] (gRq hi');simpa [gEg hi'] using this
  rw[e];refine⟨.bl _,H,I.kept (t':=tk) λb ob z=>hk b ob (λm=>?_) (au _ z),rfl,q⟩
  rw[mSq.mp m]at z;exact eI _ (az z)
end
end Mr
namespace Mr
open PySem PyProof.Rows L2
section
variable {X:Cx}
end
end Mr
namespace Mr
open PySem L2
end Mr
namespace Mr
open PySem PySem.Calls PySem.Spec PyProof.Rows L2
end Mr
namespace MrS
open PySem PySem.W PyProof.Rows
section
variable {prog:kL}{w:kN}{A:Around}{E:Value->Shared->Prop}{s:Shared}{Pk:kz->Prop}{lt:kz->kz->Bool}{T:String}{r d:Addr}{n:Nat}{P:Nat->Value->Prop}{OK:Heap->Prop}
theorem Hr{Q:List Value->Shared->Prop}(K:KdlSrc prog w T r d n P OK) (hh:A.handled=none) (hok:OK s.heap) (hn:n<=kK)
  (h:∀h' tk (acc:Array Value),(∀b o,s.heap.get? b=some o->h'.get? b=some o)->s.heap.objs.size<h'.objs.size->ItemsOf P acc n->Q acc.toList { s with heap:=h',toks:=tk }) :
  kJ (kG prog w) A (collect (.ref r)) Q E s:=by
 unfold collect;refine kC (wpAny_runValue (kZ entry_proto_collect' ?_));show kJ _ _ (do again (.builtin "list.__iadd__" ⟨[←newList [],.ref r],[]⟩)) _ _ s
 refine kC (ni (kH ⟨Code.quiet_builtin _ (by decide +kernel),kZ entry_list_iadd' ?_⟩))
 show kJ _ _ (Builtin.List.listExtendWith (.ref s.heap.objs.size) (.ref r) (.ref s.heap.objs.size)) _ _ { s with heap:=s.heap.push (kQ "list" #[] 0) }
 have hlt:=K.there _ hok;have hS0:(s.heap.push (kQ "list" #[] 0)).get? s.heap.objs.size=some (kQ "list" #[] 0):=bh _ rfl;refine kdl_extend (A:=A) (R:=λr s'=>match r with
   | .ok (.ret v)=>kJ (kG prog w) A (match v with
    | .ref a=>do
     let o ←load a
     match o.data with
     | .seq xs _=>pure xs.toList
     |_=>mI "internal:collect"
    |_=>mI "internal:collect") Q E s'
   | .ok _=>False
   | .error e=>E e s') (s:={ s with heap:=s.heap.push (kQ "list" #[] 0) }) K hh (K.keep _ _ hok λb _ o e=>au _ e) s.heap.objs.size (fk hlt.1) (fk hlt.2) (.ref s.heap.objs.size) 0 hS0 (λh' tk acc c hk hS hi=>?_) hn
 show kJ (kG prog w) A (do
   let o ←load s.heap.objs.size
   match o.data with
   | .seq xs _=>pure xs.toList
   |_=>mI "internal:collect") Q E { s with heap:=h',toks:=tk }
 refine kC (wpAny_load hS ?_);exact kH (h h' tk acc (λb o e=>hk b o (aL (az e)) (au _ e)) (az hS) hi)
theorem Jw{Q:Value->Shared->Prop}(K:KdlSrc prog w T r d n P OK) (hh:A.handled=none) (hok:OK s.heap) (hn:n<=kK)
  (hC:∀(vs:List Value),vs.length=n->(∀j v,vs[j]?=some v->P j v)->∀s':Shared,(2<=vs.length->∀Q:lr->Shared->Prop,Q mj s'->kJ (kG prog w) A.in1.in1 (keyKind' vs.toArray) Q E s')/\zR prog w A.in1.in1 s' mj Pk lt/\∀v∈vs,Pk (v,v))
  (h:∀(vs out:List Value) (h':Heap) (p:Addr) (tk n':Nat),vs.length=n->(∀j v,vs[j]?=some v->P j v)->out.Perm vs->out.Pairwise (λx y=>lt (y,y) (x,x)=false)->(∀b o,s.heap.get? b=some o->h'.get? b=some o)->s.heap.objs.size<=p ->
   h'.get? p=some (kQ "list" out.toArray n')->Q (.ref p) { s with heap:=h',toks:=tk }) :
  kJ (kG prog w) A (call (.builtin "sorted") [.ref r]) Q E s:=by
 refine Calls.call_function_entry kind_sorted plain_sorted entry_sorted (args_sorted1 _) ?_;unfold Builtin.«sorted»;refine kC (m:=checkCount "sorted" 1 1 _) (kH ?_);refine kC (Hr K hh hok hn λh0 tk acc hk0 hsz0 hi=>?_)
 have hl:acc.toList.length=n:=by rw[aw];exact hi.1
 have hP:∀j v,acc.toList[j]?=some v->P j v:=λj v e=>hi.2 j v (by rw[←ay];exact e)
 have hs:acc.toList.length<=kK:=by rw[hl];exact hn
 generalize acc.toList=vs at hl hP hs;refine kC (ni ?_ hs);have hoL:(h0.push (kQ "list" vs.toArray 0)).get? h0.objs.size=some (kQ "list" vs.toArray 0):=bh _ rfl;show kJ _ _ _ _ _ { s with heap:=h0.push (kQ "list" vs.toArray 0),toks:=tk }
 have hsz:s.heap.objs.size<=h0.objs.size:=cZ hsz0;have k1:∀b o,s.heap.get? b=some o->(h0.push (kQ "list" vs.toArray 0)).get? b=some o:=λb o e=>au _ (hk0 b o e)
 have hlt:∀b o,s.heap.get? b=some o->b≠h0.objs.size:=λb o e=>aL (az (hk0 b o e))
 generalize h0.push (kQ "list" vs.toArray 0)=G at hoL k1 ⊢
 clear hsz0
 generalize h0.objs.size=p at hoL hsz hlt ⊢;have k2:∀b o,s.heap.get? b=some o->(vG G p vs).get? b=some o:=λb o e=>by
  refine au _ (au _ ?_);rw[eQ _ _ _ _ (hlt b o e)];exact k1 b o e
 obtain⟨q1,q2,q3⟩:=hC vs hl hP { s with heap:=vG G p vs,toks:=tk }
 refine kC (lO (wpAny_call_entry slot_list_sort ⟨_,hoL,rfl⟩ entry_list_sort (Ag (s:={ s with heap:=G,toks:=tk }) (Pk:=Pk) (lt:=lt) hoL hs q1 q2 (λx hx=>?_) λxs a1 a2=>⟨_,rfl,?_⟩) (args_list_sort _)))
 .obtain ⟨m1,m2⟩:=xu hx;have:x=(x.1,x.1):=jU rfl m2;rw[this];exact q3 _ m1
 .obtain ⟨v1,v2⟩:=B6 a1 a2;obtain⟨e1,ho1⟩:=KH vs hoL;obtain⟨n1,g1⟩:=Ko (xs.map (·.2)) ho1;refine kH ⟨_,rfl,h vs _ (nA G p vs (xs.map (·.2))) p tk n1 hl hP v1 v2 (λb o e=>?_) hsz ?_⟩
  .unfold nA;rw[eQ _ _ _ _ (hlt b o e)];exact k2 b o e
  .rw [show (xs.map (·.2)).toList.toArray=xs.map (·.2) from jj]
   exact g1
end
end MrS
namespace Mr
open PySem PySem.W PySem.Spec PyProof.Rows L2
section
variable {X:Cx}
theorem KB:∀{us:List Value}{ns:List Int},us.length=ns.length->(∀(j:Nat) (v:Value) (n:Int),us[j]?=some v->ns[j]?=some n->∃t,v=ir n t)->kS us ns
 | [],[],_,_=>.nil
 | [],_::_,h,_=>by simp at h
 |_::_,[],h,_=>by simp at h
 |u::us,n::ns,h,g=>by
  obtain⟨t,rfl⟩:=g 0 u n rfl rfl;exact .cons n t (KB (by simpa using h) λj v m e1 e2=>g (j+1) v m (by simpa using e1) (by simpa using e2))
theorem QR:∀{kvs:List (pQ×V)}{ws:List (pQ×Value)},KV kvs ws->kvs.map (·.1)=ws.map (·.1):=λ{kvs ws} r=>by
 induction r with
 |nil=>rfl
 |cons a b ih=>rw[ar,ar,ih,a.1]
theorem FV(hc:X.calm=true):xw X (.builtin "sorted") (λxs H Q=>∃(a:Addr) (kvs:List (pQ×V)) (ns:List Int),xs=[.ref a]/\H a=some (.dK kvs)/\kvs.map (·.1)=ns.map aM/\∀p,H p=none->Q (.ref p) (rK H p (.lst ((rO ns).map V.int)))):=by
 intro oV s σ H xs us Q I r h;obtain⟨a,kvs,ns,rfl,ha,hk,q⟩:=h;obtain⟨u,rfl,ru⟩:=xl r;cases ru;obtain⟨hz,sa,vs,kv,d⟩:=(show rV X.prog X.w H s.heap a (.dK kvs) from I.hok a _ ha)
 obtain⟨ep,da⟩:=d.dictAt;have hl:=Paired.length kv;have hlen:ns.length=vs.length:=by
  have:=congrArg bV hk;rw[lMq,lMq]at this;rw[←this,hl]
 have hkv:vs.map (·.1)=ns.map aM:=by rw[←QR kv,hk]
 have hI:∀us:List Value,us.length=vs.length->(∀(j:Nat) (v:Value),us[j]?=some v->∃k x,vs[j]?=some (k,x)/\(qQ X.prog X.w).is k v=true)->kS us ns:=λus h1 h2=>KB (by rw[h1,hlen]) λj v m e1 e2=>by
  obtain⟨k,x,g1,g2⟩:=h2 j v e1;have e3:(vs.map (·.1))[j]?=some k:=by rw[gMq,g1];rfl
  rw[hkv,gMq,e2]at e3;have e4:(aM m:pQ)=k:=by simpa using e3
  subst e4;rcases rh (k:=aM m) (v:=v) g2 with ⟨i,t,e5,e6⟩|⟨z,t,e5,_⟩
  .cases e5;exact⟨t,e6⟩
  .cases e5
 refine MrS.Jw (kdl_dict (knd:=qQ X.prog X.w) (d:=a) (kvs:=vs) (ep:=ep) sa) (I.ok.hd hc) da (by rw[←hl];exact hz) (Pk:=λx:kz=>∃a t,x.1=ir a t) (lt:=Xo) (λus h1 h2 s'=>⟨λh3 Q q=>?_,Wf _ _ _ _,λv m=>(Fu (hI us h1 h2)).2 v m⟩) λus out h' p tk n' h1 h2 o1 o2 o3 op o4=>?_
 .have hi:=hI us h1 h2
  match us,hi,h3 with
  | [],_,h3=>simp at h3
  | [_],_,h3=>simp at h3
  |v₁::v₂::rest,hi,_ =>
   rw[keyKind_ints hi];exact kH q
 .obtain ⟨en,hv⟩:=Fu (hI us h1 h2);have ho:∀v∈out,∃a t,v = .int a t:=λv m=>hv v (o1.mem_iff.mp m)
  have e:out.map intOf=rO ns:=by
   refine Bg (by rw[en];exact o1.map _) ?_
   rw[bb];refine o2.imp_of_mem λ{x y} mx my h=>?_
   obtain⟨a,t,rfl⟩:=ho x mx;obtain⟨b,u,rfl⟩:=ho y my;have h':¬ b<a:=of_decide_eq_false h;show a<=b;lia
  have hp:H p=none:=I.hok.fresh op;refine⟨.ref p,_,I.laid (t':=tk) o3 op (show rV X.prog X.w _ h' _ (.lst ((rO ns).map V.int)) from ⟨?_,out,n',?_,o4⟩),rfl,q _ hp⟩
  .rw [lMq,(rp ns).length_eq,hlen,←hl];exact hz
  .rw [←e];exact vals_ints ho
end
section
variable {X:Cx}
theorem JF(hc:X.calm=true):xw X (.type "list") (λxs H Q=>∃a kvs,xs=[.ref a]/\H a=some (.dK kvs)/\∀l,H l=none->Q (.ref l) (rK H l (.lst (kvs.map λp=>kV p.1)))):=by
 intro oV s σ H xs us Q I r h;obtain⟨a,kvs,rfl,ha,q⟩:=h;obtain⟨u,rfl,ru⟩:=xl r;cases ru;obtain⟨hz,sa,vs,kv,d⟩:=(show rV X.prog X.w H s.heap a (.dK kvs) from I.hok a _ ha)
 obtain⟨ep,da⟩:=d.dictAt;have hl:=Paired.length kv;refine kdl_call (kdl_dict (knd:=qQ X.prog X.w) (d:=a) (kvs:=vs) (ep:=ep) sa) (I.ok.hd hc) da (by rw[←hl];exact hz) λh' tk acc c hk hs hi=>?_
 refine⟨.ref s.heap.objs.size,rK H s.heap.objs.size (.lst (kvs.map λp=>kV p.1)),I.laid (t':=tk) hk (aj _) ⟨by simpa using hz,acc.toList,c,?_,by simpa using hs⟩,rfl,q _ (I.hok.fresh (aj _))⟩
 have key:∀(l:List (pQ×V)) (ws:List (pQ×Value)) (acc:List Value),KV l ws->acc.length=ws.length->(∀(j:Nat) (x:Value),acc[j]?=some x->∃(k:pQ) (y:Value),ws[j]?=some (k,y)/\(qQ X.prog X.w).is k x=true)->qv (l.map λp=>kV p.1) acc:=by
  intro l ws acc r
  induction r generalizing acc with
  |nil=>intro h1 _;cases acc with|nil=>exact .nil|cons _ _=>simp at h1
  |cons r t ih =>
   intro h1 h2;cases acc with
   |nil=>simp at h1
   |cons x acc =>
    refine .cons ?_ (ih acc (by simpa using h1) λj y hj=>by have:=h2 (j+1) y (by simpa using hj);simpa using this)
    obtain⟨k,y,g1,g2⟩:=h2 0 x rfl;simp at g1;have e1:_=k:=r.1.trans (by rw[g1])
    show qN (kV _) x;rw[e1];rcases rh g2 with ⟨i,t,rfl,rfl⟩|⟨z,t,rfl,rfl⟩
    .exact ⟨t,rfl⟩
    .exact ⟨t,rfl⟩
 exact key kvs vs acc.toList kv (by rw[aw];exact hi.1) λj x hj=>hi.2 j x (by rw[←ay];exact hj)
end
end Mr
namespace Z
open PySem L2 Mr
abbrev St:=L2.St
inductive D where
 |non|bl (b:Bool)|int (i:Int)|str (x:Str)|ty (n:String)|list (xs:List D)|tup (xs:List D)|dict (kvs:List (pQ×D))|scr (ns:List Int)|exc (c:Str) (fs:List (Str×Int))|cls (c:Str)|fd (kvs:List (pQ×D))|ins (c:Str) (fs:List (Str×D))
inductive sv (K:W.Frag) (H:Hp):D->V->Prop
 |non:sv K H .non .non
 |bl {b:Bool}:sv K H (.bl b) (.bl b)
 |int {i:Int}:sv K H (.int i) (.int i)
 |str {x:Str}:sv K H (.str x) (.str x)
 |ty {n:String}:sv K H (.ty n) (.ty n)
 |list {p:Addr}{vs:List V}{ds:List D}(h:H p=some (.lst vs)) (l:ds.length=vs.length) (e:∀(i:Nat) (d:D) (v:V),ds[i]?=some d->vs[i]?=some v->sv K H d v):sv K H (.list ds) (.ref p)
 |tup {p:Addr}{vs:List V}{ds:List D}(h:H p=some (.tup vs)) (l:ds.length=vs.length) (e:∀(i:Nat) (d:D) (v:V),ds[i]?=some d->vs[i]?=some v->sv K H d v):sv K H (.tup ds) (.ref p)
 |dict {p:Addr}{kvs:List (pQ×V)}{ds:List (pQ×D)}(h:H p=some (.dK kvs)) (l:ds.map (·.1)=kvs.map (·.1)) (e:∀(i:Nat) (d:pQ×D) (v:pQ×V),ds[i]?=some d->kvs[i]?=some v->sv K H d.2 v.2):sv K H (.dict ds) (.ref p)
 |scr {p:Addr}{ns:List Int}(h:tJ K H p (ns.map V.int)):sv K H (.scr ns) (.ref p)
 |exc {c:Str}{fs:List (Str×Int)}{e C M dx:Addr}(rf:Xe.XG K c C M) (nf:∀p∈fs,W.findIn K (.ref C) p.1=some none) (h:H e=some (Xe.XZ e C (some dx))) (hx:H dx=some (.xd (fs.map λp=>(p.1,V.int p.2)))):sv K H (.exc c fs) (.ref e)
 |exc0 {c:Str}{e C M:Addr}(rf:Xe.XG K c C M) (h:H e=some (Xe.XZ e C none)):sv K H (.exc c []) (.ref e)
 |cls {c:Str}{C:Addr}(h:Xe.Y1 K c C):sv K H (.cls c) (.ref C)
 |fd {p:Addr}{o:Obj}{kvs:List (pQ×V)}{ds:List (pQ×D)}(h:H p=some (.frz o (.dK kvs))) (l:ds.map (·.1)=kvs.map (·.1)) (e:∀(i:Nat) (d:pQ×D) (v:pQ×V),ds[i]?=some d->kvs[i]?=some v->sv K H d.2 v.2):sv K H (.fd ds) (.ref p)
 |ins {c:Str}{a C dx:Addr}{gs:List (Str×V)}{fs:List (Str×D)}(rf:W.nsIn K kM c=some (some (.ref C))) (h:H a=some (.ins C dx gs)) (l:fs.map (·.1)=gs.map (·.1)) (e:∀(i:Nat) (d:Str×D) (v:Str×V),fs[i]?=some d->gs[i]?=some v->sv K H d.2 v.2):sv K H (.ins c fs) (.ref a)
def qV(K:W.Frag) (H:Hp) (ds:List D) (vs:List V):Prop:=ds.length=vs.length/\∀(i:Nat) (d:D) (v:V),ds[i]?=some d->vs[i]?=some v->sv K H d v
def vb(K:W.Frag) (H:Hp) (ds:List (pQ×D)) (kvs:List (pQ×V)):Prop:=ds.map (·.1)=kvs.map (·.1)/\∀(i:Nat) (d:pQ×D) (v:pQ×V),ds[i]?=some d->kvs[i]?=some v->sv K H d.2 v.2
section
variable {K:W.Frag}{H H':Hp}
theorem sv.mono{d:D}{v:V}(h:sv K H d v) (s:qB H H'):sv K H' d v:=by
 induction h with
 |non=>exact .non
 |bl=>exact .bl
 |int=>exact .int
 |str=>exact .str
 |ty=>exact .ty
 |list h l _ ih=>exact .list (s _ _ h) l ih
 |tup h l _ ih=>exact .tup (s _ _ h) l ih
 |dict h l _ ih=>exact .dict (s _ _ h) l ih
 |scr h=>exact .scr (s.seq h)
 |exc rf nf h hx=>exact .exc rf nf (s _ _ h) (s _ _ hx)
 |exc0 rf h=>exact .exc0 rf (s _ _ h)
 |cls h=>exact .cls h
 |fd h l _ ih=>exact .fd (s _ _ h) l ih
 |ins rf h l _ ih=>exact .ins rf (s _ _ h) l ih
theorem qV.mono{ds:List D}{vs:List V}(h:qV K H ds vs) (s:qB H H'):qV K H' ds vs:=⟨h.1,λi d v a b=>(h.2 i d v a b).mono s⟩
theorem vb.mono{ds:List (pQ×D)}{vs:List (pQ×V)}(h:vb K H ds vs) (s:qB H H'):vb K H' ds vs:=⟨h.1,λi d v a b=>(h.2 i d v a b).mono s⟩
theorem qV.nil:qV K H [] []:=⟨rfl,λi d v a=>by simp at a⟩
theorem qV.cons{d:D}{v:V}{ds:List D}{vs:List V}(h:sv K H d v) (t:qV K H ds vs):qV K H (d::ds) (v::vs):=⟨by simp[t.1],λi e w a b=>by
 cases i with
 |zero =>
  simp at a b;subst a b;exact h
 |succ i=>exact t.2 i e w (by simpa using a) (by simpa using b)⟩
theorem qV.cons_iff{d:D}{v:V}{ds:List D}{vs:List V}:qV K H (d::ds) (v::vs)↔sv K H d v/\qV K H ds vs :=
 ⟨λh=>⟨h.2 0 d v rfl rfl,by have:=h.1;simpa using this,λi e w a b=>h.2 (i+1) e w (by simpa using a) (by simpa using b)⟩,λh=>.cons h.1 h.2⟩
theorem qV.nil_inv{vs:List V}(h:qV K H [] vs):vs=[]:=by
 have:=h.1;cases vs with
 |nil=>rfl
 |cons _ _=>simp at this
theorem qV.cons_inv{d:D}{ds:List D}{vs:List V}(h:qV K H (d::ds) vs):∃v ws,vs=v::ws/\sv K H d v/\qV K H ds ws:=by
 cases vs with
 |nil=>have:=h.1;simp at this
 |cons v ws=>exact⟨v,ws,rfl,qV.cons_iff.mp h⟩
theorem qV.append:∀{ds es:List D}{vs ws:List V},qV K H ds vs->qV K H es ws->qV K H (ds++es) (vs++ws)
 | [],es,vs,ws,h,g=>by rw[h.nil_inv];exact g
 |d::ds,es,vs,ws,h,g=>by
  obtain⟨v,us,rfl,h1,h2⟩:=h.cons_inv;exact .cons h1 (qV.append h2 g)
theorem qV.take{ds:List D}{vs:List V}(h:qV K H ds vs) (n:Nat):qV K H (ds.take n) (vs.take n):=⟨by rw[lTq,lTq,h.1],λi d v a b=>by
 rw[jA]at a b;split at a
 .rename_i hi;rw[qe hi]at b;exact h.2 i d v a b
 .cases a⟩
theorem qV.drop{ds:List D}{vs:List V}(h:qV K H ds vs) (n:Nat):qV K H (ds.drop n) (vs.drop n):=⟨by rw[aJ,aJ,h.1],λi d v a b=>by
 rw[cI]at a b;exact h.2 _ d v a b⟩
theorem qV.get{ds:List D}{vs:List V}(h:qV K H ds vs) {i:Nat}{d:D}(e:ds[i]?=some d):∃v,vs[i]?=some v/\sv K H d v:=by
 have hi:i<ds.length:=(gSq.mp e).1;have hj:i<vs.length:=h.1 ▸ hi;exact⟨vs[i],gEg hj,h.2 i d _ e (gEg hj)⟩
theorem qV.get'{ds:List D}{vs:List V}(h:qV K H ds vs) {i:Nat}{v:V}(e:vs[i]?=some v):∃d,ds[i]?=some d/\sv K H d v:=by
 have hi:i<vs.length:=(gSq.mp e).1;have hj:i<ds.length:=h.1.symm ▸ hi;exact⟨ds[i],gEg hj,h.2 i _ v (gEg hj) e⟩
theorem sv.list_inv{ds:List D}{v:V}(h:sv K H (.list ds) v):∃p vs,v = .ref p/\H p=some (.lst vs)/\qV K H ds vs:=by
 cases h with
 |list h l e=>exact⟨_,_,rfl,h,l,e⟩
theorem sv.tup_inv{ds:List D}{v:V}(h:sv K H (.tup ds) v):∃p vs,v = .ref p/\H p=some (.tup vs)/\qV K H ds vs:=by
 cases h with
 |tup h l e=>exact⟨_,_,rfl,h,l,e⟩
theorem sv.dict_inv{ds:List (pQ×D)}{v:V}(h:sv K H (.dict ds) v):∃p kvs,v = .ref p/\H p=some (.dK kvs)/\vb K H ds kvs:=by
 cases h with
 |dict h l e=>exact⟨_,_,rfl,h,l,e⟩
theorem sv.mk_list{ds:List D}{p:Addr}{vs:List V}(h:H p=some (.lst vs)) (r:qV K H ds vs):sv K H (.list ds) (.ref p):=.list h r.1 r.2
theorem sv.mk_dict{ds:List (pQ×D)}{p:Addr}{vs:List (pQ×V)}(h:H p=some (.dK vs)) (r:vb K H ds vs):sv K H (.dict ds) (.ref p):=.dict h r.1 r.2
end
def D.scal:D->Bool
 | .non=>true
 | .bl _=>true
 | .int _=>true
 | .str _=>true
 | .ty _=>true
 |_=>false
theorem sv.scal{K:W.Frag}{H H':Hp}{d:D}{v:V}(h:sv K H d v) (s:d.scal=true):sv K H' d v:=by
 cases h with
 |non=>exact .non
 |bl=>exact .bl
 |int=>exact .int
 |str=>exact .str
 |ty=>exact .ty
 |_=>cases s
inductive AV where
 |sh (d:D)|ow (avs:List AV)|owd (kvs:List (pQ×D))|owl (kvs:List (pQ×List Int))
mutual
def pH:AV->D
 | .sh d=>d
 | .ow avs=>.list (Dt avs)
 | .owd kvs=>.dict kvs
 | .owl kvs=>.dict (kvs.map λx=>(x.1,.list (x.2.map .int)))
def Dt:List AV->List D
 | []=>[]
 |a::as=>pH a::Dt as
end
theorem E2:∀avs:List AV,Dt avs=avs.map pH
 | []=>by simp[Dt]
 |a::as=>by simp[Dt,E2 as]
@[simp] theorem sm (d:D):pH (.sh d)=d:=by simp[pH]
@[simp] theorem sV (avs:List AV):pH (.ow avs) = .list (avs.map pH):=by simp[pH,E2]
@[simp] theorem zQ (kvs:List (pQ×D)):pH (.owd kvs) = .dict kvs:=by simp[pH]
theorem E1(kvs:List (pQ×List Int)):pH (.owl kvs) = .dict (kvs.map λx=>(x.1,.list (x.2.map .int))):=by simp[pH]
inductive qr (K:W.Frag) (Hf H:Hp):AV->V->List Addr->Prop
 |sh {d:D}{v:V}(r:sv K Hf d v):qr K Hf H (.sh d) v []
 |ow {p:Addr}{vs:List V}{avs:List AV}{Fs:List (List Addr)}(h:H p=some (.lst vs)) (n:Hf p=none) (l:avs.length=vs.length) (lf:avs.length=Fs.length)
   (e:∀(i:Nat) (a:AV) (v:V) (F:List Addr),avs[i]?=some a->vs[i]?=some v->Fs[i]?=some F->qr K Hf H a v F):qr K Hf H (.ow avs) (.ref p) (p::Fs.flatten)
 |owd {p:Addr}{kvs:List (pQ×V)}{ds:List (pQ×D)}(h:H p=some (.dK kvs)) (n:Hf p=none) (r:vb K Hf ds kvs):qr K Hf H (.owd ds) (.ref p) [p]
 |owl {p:Addr}{kvs:List (pQ×List Int)}{qs:List Addr}(h:H p=some (.dK (bL (λx q=>(x.1,V.ref q)) kvs qs))) (n:Hf p=none) (l:kvs.length=qs.length) (e:∀(i:Nat) (q:Addr) (x:pQ×List Int),qs[i]?=some q->kvs[i]?=some x->H q=some (.lst (x.2.map V.int))/\Hf q=none):qr K Hf H (.owl kvs) (.ref p) (p::qs)
theorem JW{K:W.Frag}{H:Hp}{p:Addr}{kvs:List (pQ×List Int)}{qs:List Addr}(h:H p=some (.dK (bL (λx q=>(x.1,V.ref q)) kvs qs))) (l:kvs.length=qs.length) (e:∀(i:Nat) (q:Addr) (x:pQ×List Int),qs[i]?=some q->kvs[i]?=some x->H q=some (.lst (x.2.map V.int))):sv K H (.dict (kvs.map λx=>(x.1,.list (x.2.map .int)))) (.ref p):=by
 refine .dict h ?_ λi d v h1 h2=>?_
 .refine dD λi=>?_
  rw[gMq,gMq,gMq,eh]
  by_cases c:i<kvs.length
  .rw [gEg c,gEg (l ▸ c)];rfl
  .rw [bf (jP c)];rfl
 .rw [gMq]at h1;rw[eh]at h2;cases hk:kvs[i]? with
  |none=>rw[hk]at h1;cases h1
  |some x =>
   cases hq:qs[i]? with
   |none=>rw[hk,hq]at h2;cases h2
   |some q =>
    rw[hk]at h1 h2;rw[hq]at h2;cases h1;cases h2;refine .list (e i q x hq hk) (by rw[lMq,lMq]) λj d v e1 e2=>?_
    rw[gMq]at e1 e2;cases hj:x.2[j]? with
    |none=>rw[hj]at e1;cases e1
    |some m =>
     rw[hj]at e1 e2;cases e1;cases e2;exact .int
theorem Tj{kvs:List (pQ×List Int)}{qs:List Addr}(l:kvs.length=qs.length) {q:Addr}(hq:q∈qs):∃(i:Nat) (x:pQ×List Int),qs[i]?=some q/\kvs[i]?=some x:=by
 obtain⟨i,hi⟩:=aC.mp hq;have hl:=(gSq.mp hi).1;exact⟨i,_,hi,gEg (l ▸ hl)⟩
section
variable {K:W.Frag}{Hf Hf' H H':Hp}{av:AV}{v:V}{F:List Addr}
theorem qr.owned(h:qr K Hf H av v F):∀q∈F,H q≠none/\Hf q=none:=by
 induction h with
 |sh _=>intro q hq;cases hq
 | @ow p vs avs Fs h n l lf e ih =>
  intro q hq;rcases ae.mp hq with rfl|hq
  .exact ⟨by rw[h];simp,n⟩
  .obtain ⟨F,hF,hq⟩:=mFq.mp hq;obtain⟨i,hi,rfl⟩:=du.mp hF;exact ih i avs[i] vs[i] Fs[i] (by simp) (by simp) (by simp) q hq
 |owd h n r =>
  intro q hq;have:=mSq.mp hq;subst this;exact⟨by rw[h];simp,n⟩
 |owl h n l e =>
  intro q hq;rcases ae.mp hq with z|z
  .rw [z];exact⟨by rw[h];simp,n⟩
  .obtain ⟨i,x,h1,h2⟩:=Tj l z;obtain⟨e1,e2⟩:=e i q x h1 h2;exact⟨by rw[e1];simp,e2⟩
theorem qr.keep(h:qr K Hf H av v F) (s:qB Hf Hf') (hk:∀q∈F,H' q=H q) (hn:∀q∈F,Hf' q=none):qr K Hf' H' av v F:=by
 induction h with
 |sh r=>exact .sh (r.mono s)
 | @ow p vs avs Fs h n l lf e ih =>
  refine .ow (by rw[hk p (by simp)];exact h) (hn p (by simp)) l lf λi a v F h1 h2 h3=>ih i a v F h1 h2 h3 (λq hq=>hk q ?_) λq hq=>hn q ?_
  all_goals exact mCo _ (mFq.mpr ⟨F,mGq h3,hq⟩)
 |owd h n r=>exact .owd (by rw[hk _ (by simp)];exact h) (hn _ (by simp)) (r.mono s)
 | @owl p kvs qs h n l e =>
  refine .owl (by rw[hk _ (af ..)];exact h) (hn _ (af ..)) l λi q x h1 h2=>?_
  have m:q∈p::qs:=mCo _ (mGq h1);exact⟨by rw[hk q m];exact(e i q x h1 h2).1,hn q m⟩
theorem qr.rep(h:qr K Hf H av v F) (s:qB Hf H):sv K H (pH av) v:=by
 induction h with
 |sh r=>rw[sm];exact r.mono s
 | @ow p vs avs Fs h n l lf e ih =>
  rw[sV];refine .list h (by simp[l]) λi d v h1 h2=>?_
  rw[gMq]at h1;cases ea:avs[i]? with
  |none=>rw[ea]at h1;cases h1
  |some a =>
   rw[ea]at h1;cases h1;have hi:i<Fs.length:=lf ▸ (gSq.mp ea).1;exact ih i a v Fs[i] ea h2 (gEg hi)
 |owd h n r=>rw[zQ];exact .mk_dict h (r.mono s)
 |owl h n l e=>rw[E1];exact JW h l λi q x h1 h2=>(e i q x h1 h2).1
def frz(Hf H:Hp) (F:List Addr):Hp:=λb=>if b∈F then H b else Hf b
theorem Aw{b:Addr}(h:b∈F):frz Hf H F b=H b:=qe h
theorem va{b:Addr}(h:b∉F):frz Hf H F b=Hf b:=pV h
theorem tI(h:∀q∈F,Hf q=none):qB Hf (frz Hf H F):=λb o e=>by
 rw[va λm=>by rw[h b m]at e;cases e]
 exact e
theorem RQ(s:qB Hf H):qB (frz Hf H F) H:=λb o e=>by
 by_cases m:b∈F
 .rw [Aw m]at e;exact e
 .rw [va m]at e;exact s b o e
theorem qr.frozen(h:qr K Hf H av v F) (s:qB Hf Hf') (hk:∀q∈F,Hf' q=H q):sv K Hf' (pH av) v:=by
 induction h with
 |sh r=>rw[sm];exact r.mono s
 | @ow p vs avs Fs h n l lf e ih =>
  rw[sV];refine .list (by rw[hk p (by simp)];exact h) (by simp[l]) λi d v h1 h2=>?_
  rw[gMq]at h1;cases ea:avs[i]? with
  |none=>rw[ea]at h1;cases h1
  |some a =>
   rw[ea]at h1;cases h1;have hi:i<Fs.length:=lf ▸ (gSq.mp ea).1;exact ih i a v Fs[i] ea h2 (gEg hi) λq hq=>hk q (mCo _ (mFq.mpr ⟨Fs[i],gRq hi,hq⟩))
 |owd h n r=>rw[zQ];exact .mk_dict (by rw[hk _ (by simp)];exact h) (r.mono s)
 |owl h n l e=>rw[E1];exact JW (by rw[hk _ (af ..)];exact h) l λi q x h1 h2=>by rw[hk q (mCo _ (mGq h1))];exact(e i q x h1 h2).1
end
abbrev AS:=List (Option AV)
structure qt (K:W.Frag) (H₀ Hf₀ Hf:Hp) (S:AS) (σ:St) (H:Hp) (Fs:List (List Addr)):Prop where
 len:S.length=σ.length
 lenF:Fs.length=S.length
 rep:∀(i:Nat) (av:AV),S[i]?=some (some av)->∃v F,σ[i]?=some (some v)/\Fs[i]?=some F/\qr K Hf H av v F
 emp:∀i:Nat,S[i]?=some none->Fs[i]?=some []
 nd:Fs.flatten.Nodup
 fresh:∀p∈Fs.flatten,H₀ p=none
 sub:qB Hf H
 fr:qB H₀ H
 lim:∀b,Hf₀ b=none->H₀ b≠none->Hf b=none
 sf:qB Hf₀ Hf
structure zZ (Hf H:Hp) (Fs:List (List Addr)) (Hf' H':Hp) (Fs':List (List Addr)):Prop where
 sf:qB Hf Hf'
 sh:qB H H'
 own:∀p∈Fs'.flatten,p∈Fs.flatten
 gr:∀b,Hf b=none->Hf' b≠none->H b=none∨b∈Fs.flatten
theorem zZ.refl{Hf H:Hp}{Fs:List (List Addr)}:zZ Hf H Fs Hf H Fs:=⟨.refl _,.refl _,λ_ h=>h,λb h g=>absurd h g⟩
theorem Qz{H H':Hp}(s:qB H H') {b:Addr}(h:H b≠none):H' b≠none:=by
 cases e:H b with
 |none=>exact absurd e h
 |some o=>rw[s b o e];simp
theorem zZ.trans{Hf H Hf1 H1 Hf2 H2:Hp}{Fs Fs1 Fs2:List (List Addr)}(a:zZ Hf H Fs Hf1 H1 Fs1) (b:zZ Hf1 H1 Fs1 Hf2 H2 Fs2):zZ Hf H Fs Hf2 H2 Fs2 :=
 ⟨a.sf.trans b.sf,a.sh.trans b.sh,λp h=>a.own p (b.own p h),λc h g=>by
  by_cases e:Hf1 c=none
  .rcases b.gr c e g with q|q
   .exact .inl (a.sh.free q)
   .exact .inr (a.own c q)
  .exact a.gr c h e⟩
section
variable {K:W.Frag}{H₀ Hf₀ Hf Hf' H H':Hp}{S:AS}{σ:St}{Fs Fs':List (List Addr)}
theorem Kb{b:Addr}(s:qB H H') (h:H b≠none):H' b=H b:=by
 cases e:H b with
 |none=>exact absurd e h
 |some o=>exact s b o e
theorem qt.mem(R:qt K H₀ Hf₀ Hf S σ H Fs) {q:Addr}(h:q∈Fs.flatten):H q≠none/\Hf q=none:=by
 obtain⟨F,hF,hq⟩:=mFq.mp h;obtain⟨i,hi,rfl⟩:=du.mp hF;have hiS:i<S.length:=R.lenF ▸ hi;cases e:S[i] with
 |none =>
  have:=R.emp i (by rw[gEg hiS,e])
  rw[gEg hi]at this;rw[aD.inj this]at hq;cases hq
 |some av =>
  obtain⟨v,F,_,e2,r⟩:=R.rep i av (by rw[gEg hiS,e])
  rw[gEg hi]at e2;rw[aD.inj e2]at hq;exact r.owned q hq
theorem qt.more(R:qt K H₀ Hf₀ Hf S σ H Fs) (s:qB H H') (sf:qB Hf Hf') (sub:qB Hf' H') (hn:∀q∈Fs.flatten,Hf' q=none) (lim:∀b,Hf₀ b=none->H₀ b≠none->Hf' b=none):qt K H₀ Hf₀ Hf' S σ H' Fs where
 len:=R.len
 lenF:=R.lenF
 rep:=λi av e=>by
  obtain⟨v,F,e1,e2,r⟩:=R.rep i av e;refine⟨v,F,e1,e2,r.keep sf (λq hq=>Kb s (r.owned q hq).1) λq hq=>hn q (mFq.mpr ⟨F,mGq e2,hq⟩)⟩
 emp:=R.emp
 nd:=R.nd
 fresh:=R.fresh
 sub:=sub
 fr:=R.fr.trans s
 lim:=lim
 sf:=R.sf.trans sf
theorem qt.laid(R:qt K H₀ Hf₀ Hf S σ H Fs) (s:qB H H'):qt K H₀ Hf₀ Hf S σ H' Fs:=R.more s (.refl _) (R.sub.trans s) (λq h=>(R.mem h).2) R.lim
theorem tE{F:List Addr}{i:Nat}{p:Addr}(h:p∈(Fs.set i F).flatten):p∈F∨p∈Fs.flatten:=by
 obtain⟨G,hG,hp⟩:=mFq.mp h;rcases de hG with q|q
 .exact .inr (mFq.mpr ⟨G,q,hp⟩)
 .subst q;exact .inl hp
theorem sO:∀{Fs:List (List Addr)}{F:List Addr}(i:Nat),Fs.flatten.Nodup->F.Nodup->(∀p∈F,p∉Fs.flatten)->(Fs.set i F).flatten.Nodup
 | [],F,i,h,_,_=>by simp
 |G::Gs,F,0,h,hF,hd=>by
  rw[cJ,fCq,nAq];rw[fCq,nAq]at h;refine⟨hF,h.2.1,λa ha b hb e=>hd a ha ?_⟩
  rw[fCq];exact ag _ (e ▸ hb)
 |G::Gs,F,i+1,h,hF,hd=>by
  rw[dh,fCq,nAq];rw[fCq,nAq]at h;refine⟨h.1,sO i h.2.1 hF λp hp m=>hd p hp (by rw[fCq];exact ag _ m),λa ha b hb e=>?_⟩
  rcases tE hb with q|q
  .exact hd b q (by rw[fCq];exact ah _ (e ▸ ha))
  .exact h.2.2 a ha b q e
theorem qt.set(R:qt K H₀ Hf₀ Hf S σ H Fs) {av:AV}{v:V}{F:List Addr}(i:Nat) (r:qr K Hf H av v F) (nd:F.Nodup) (hf:∀q∈F,H₀ q=none/\q∉Fs.flatten) :
  qt K H₀ Hf₀ Hf (S.set i (some av)) (σ.set i (some v)) H (Fs.set i F) where
 len:=by simp[R.len]
 lenF:=by simp[R.lenF]
 rep:=λj a e=>by
  rw[bI]at e
  by_cases hij:i=j
  .subst hij;rw[qe rfl]at e;split at e
   .rename_i hi;cases e;exact⟨v,F,by rw[aA (R.len ▸ hi)],by rw[aA (R.lenF.symm ▸ hi)],r⟩
   .cases e
  .rw [pV hij]at e;obtain⟨w,G,e1,e2,q⟩:=R.rep j a e;exact⟨w,G,by rw[aB hij];exact e1,by rw[aB hij];exact e2,q⟩
 emp:=λj e=>by
  rw[bI]at e
  by_cases hij:i=j
  .subst hij;rw[qe rfl]at e;split at e <;> cases e
  .rw [pV hij]at e;rw[aB hij];exact R.emp j e
 nd:=sO i R.nd nd λp hp=>(hf p hp).2
 fresh:=λp hp=>by
  rcases tE hp with q|q
  .exact (hf p q).1
  .exact R.fresh p q
 sub:=R.sub
 fr:=R.fr
 lim:=R.lim
 sf:=R.sf
theorem rE{i:Nat}{p:Addr}(h:p∈(Fs.set i []).flatten):p∈Fs.flatten:=by
 rcases tE h with q|q
 .cases q
 .exact q
theorem uW:∀{Fs:List (List Addr)}{F:List Addr}{i:Nat}{p:Addr},Fs.flatten.Nodup->Fs[i]?=some F->p∈F->p∉(Fs.set i []).flatten
 | [],F,i,p,_,e,_,_=>by simp at e
 |G::Gs,F,0,p,h,e,hp,m=>by
  simp at e;subst e;rw[cJ,fCq,dC]at m;rw[fCq,nAq]at h;exact h.2.2 p hp p m rfl
 |G::Gs,F,i+1,p,h,e,hp,m=>by
  rw[dh,fCq]at m;rw[fCq,nAq]at h;have e':Gs[i]?=some F:=by simpa using e
  rcases mAq.mp m with q|q
  .exact h.2.2 p q p (mFq.mpr ⟨F,mGq e',hp⟩) rfl
  .exact uW h.2.1 e' hp q
theorem qt.move(R:qt K H₀ Hf₀ Hf S σ H Fs) {i:Nat}{av:AV}(e:S[i]?=some (some av)):∃v F,σ[i]?=some (some v)/\Fs[i]?=some F/\qr K Hf H av v F/\F.Nodup/\(∀q∈F,H₀ q=none/\q∉(Fs.set i []).flatten) /\
  qt K H₀ Hf₀ Hf (S.set i none) σ H (Fs.set i []):=by
 obtain⟨v,F,e1,e2,r⟩:=R.rep i av e;have hin:∀q∈F,q∈Fs.flatten:=λq hq=>mFq.mpr ⟨F,mGq e2,hq⟩
 refine⟨v,F,e1,e2,r,aZ.sublist (aO (mGq e2)) R.nd,λq hq=>⟨R.fresh q (hin q hq),uW R.nd e2 hq⟩,?_⟩
 refine⟨by simp[R.len],by simp[R.lenF],λj a ej=>?_,λj ej=>?_,sO i R.nd aV (λp hp=>by cases hp),λp hp=>R.fresh p (rE hp),R.sub,R.fr,R.lim,R.sf⟩
 .rw [bI]at ej
  by_cases hij:i=j
  .subst hij;rw[qe rfl]at ej;split at ej <;> cases ej
  .rw [pV hij]at ej;obtain⟨w,G,f1,f2,q⟩:=R.rep j a ej;exact⟨w,G,f1,by rw[aB hij];exact f2,q⟩
 .rw [bI]at ej
  by_cases hij:i=j
  .subst hij;rw[qe rfl]at ej;split at ej
   .rename_i hi;rw[aA (R.lenF.symm ▸ hi)]
   .cases ej
  .rw [pV hij]at ej;rw[aB hij];exact R.emp j ej
theorem qt.frz(R:qt K H₀ Hf₀ Hf S σ H Fs) {F:List Addr}(hf:∀q∈F,H₀ q=none/\q∉Fs.flatten) (hn:∀q∈F,Hf q=none):qt K H₀ Hf₀ (frz Hf H F) S σ H Fs:=by
 refine R.more (.refl _) (tI hn) (RQ R.sub) (λq hq=>?_) λb h1 h2=>?_
 .rw [va λm=>(hf q m).2 hq]
  exact(R.mem hq).2
 .rw [va λm=>h2 (hf b m).1]
  exact R.lim b h1 h2
end
abbrev ME:=AS->Option (D×AS)
abbrev MK:=AS->Option (AV×AS)
abbrev ML:=AS->Option (List D×AS)
abbrev MT:=AS->Option (Bool×AS)
abbrev MA:=AS->Option (List AV×AS)
def qu(K:W.Frag) (Hf H:Hp) (avs:List AV) (vs:List V) (Gs:List (List Addr)):Prop :=
 avs.length=vs.length/\avs.length=Gs.length/\∀(i:Nat) (a:AV) (v:V) (F:List Addr),avs[i]?=some a->vs[i]?=some v->Gs[i]?=some F->qr K Hf H a v F
structure za (H₀ H:Hp) (Fs Fs':List (List Addr)) (F:List Addr):Prop where
 nd:F.Nodup
 fr:∀q∈F,H₀ q=none
 out:∀q∈F,q∉Fs'.flatten
 new:∀q∈F,H q=none∨q∈Fs.flatten
theorem za.nil{H₀ H:Hp}{Fs Fs':List (List Addr)}:za H₀ H Fs Fs' []:=⟨aV,λq h=>(by cases h),λq h=>(by cases h),λq h=>(by cases h)⟩
section
variable (K:W.Frag)
def SR(te:TE) (m:ME):Prop:=∀{H₀ Hf₀ Hf:Hp}{S:AS}{σ:St}{H:Hp}{Fs:List (List Addr)}{d:D}{S':AS},qt K H₀ Hf₀ Hf S σ H Fs->m S=some (d,S')->∀Q:VK,
 (∀Hf' H' Fs' v,zZ Hf H Fs Hf' H' Fs'->qt K H₀ Hf₀ Hf' S' σ H' Fs'->sv K H' d v->Q v H')->te σ H Q
def SK(te:TE) (m:MK):Prop:=∀{H₀ Hf₀ Hf:Hp}{S:AS}{σ:St}{H:Hp}{Fs:List (List Addr)}{a:AV}{S':AS},qt K H₀ Hf₀ Hf S σ H Fs->m S=some (a,S')->∀Q:VK,
 (∀Hf' H' Fs' v F,zZ Hf H Fs Hf' H' Fs'->qt K H₀ Hf₀ Hf' S' σ H' Fs'->qr K Hf' H' a v F->za H₀ H Fs Fs' F->Q v H')->te σ H Q
def SL(te:TE) (m:ML):Prop:=∀{H₀ Hf₀ Hf:Hp}{S:AS}{σ:St}{H:Hp}{Fs:List (List Addr)}{ds:List D}{S':AS},qt K H₀ Hf₀ Hf S σ H Fs->m S=some (ds,S')->∀Q:VK,
 (∀Hf' H' Fs' p vs,zZ Hf H Fs Hf' H' Fs'->qt K H₀ Hf₀ Hf' S' σ H' Fs'->H' p=some (.lst vs)->qV K Hf' ds vs->Q (.ref p) H')->te σ H Q
def EK(tt:TT) (m:MT):Prop:=∀{H₀ Hf₀ Hf:Hp}{S:AS}{σ:St}{H:Hp}{Fs:List (List Addr)}{b:Bool}{S':AS},qt K H₀ Hf₀ Hf S σ H Fs->m S=some (b,S')->∀Q:Bool->Hp->Prop,
 (∀Hf' H' Fs',zZ Hf H Fs Hf' H' Fs'->qt K H₀ Hf₀ Hf' S' σ H' Fs'->Q b H')->tt σ H Q
def SA(ta:TA) (m:MA):Prop:=∀{H₀ Hf₀ Hf:Hp}{S:AS}{σ:St}{H:Hp}{Fs:List (List Addr)}{as:List AV}{S':AS},qt K H₀ Hf₀ Hf S σ H Fs->m S=some (as,S')->∀Q:List V->Hp->Prop,
 (∀Hf' H' Fs' vs Gs,zZ Hf H Fs Hf' H' Fs'->qt K H₀ Hf₀ Hf' S' σ H' Fs'->qu K Hf' H' as vs Gs->za H₀ H Fs Fs' Gs.flatten->Q vs H')->ta σ H Q
def S6(ta:TA) (m:ML):Prop:=∀{H₀ Hf₀ Hf:Hp}{S:AS}{σ:St}{H:Hp}{Fs:List (List Addr)}{ds:List D}{S':AS},qt K H₀ Hf₀ Hf S σ H Fs->m S=some (ds,S')->∀Q:List V->Hp->Prop,
 (∀Hf' H' Fs' vs,zZ Hf H Fs Hf' H' Fs'->qt K H₀ Hf₀ Hf' S' σ H' Fs'->qV K H' ds vs->Q vs H')->ta σ H Q
end
section
variable {K:W.Frag}{H₀ Hf₀ Hf Hf' H H':Hp}{S S':AS}{σ:St}{Fs Fs':List (List Addr)}
theorem qr.stp{av:AV}{v:V}{F:List Addr}(r:qr K Hf H av v F) (ho:∀q∈F,q∉Fs.flatten) (t:zZ Hf H Fs Hf' H' Fs'):qr K Hf' H' av v F :=
 r.keep t.sf (λq hq=>Kb t.sh (r.owned q hq).1) λq hq=>by
  by_cases e:Hf' q=none
  .exact e
  .rcases t.gr q (r.owned q hq).2 e with z|z
   .exact absurd z (r.owned q hq).1
   .exact absurd z (ho q hq)
theorem qt.new(R:qt K H₀ Hf₀ Hf S σ H Fs) {p:Addr}{o:HO}(hp:H p=none):zZ Hf H Fs Hf (rK H p o) Fs/\qt K H₀ Hf₀ Hf S σ (rK H p o) Fs/\Hf p=none/\H₀ p=none/\p∉Fs.flatten :=
 ⟨⟨.refl _,xR hp,λ_ h=>h,λb h g=>absurd h g⟩,R.laid (xR hp),R.sub.free hp,R.fr.free hp,λm=>(R.mem m).1 hp⟩
theorem wA(n:Nat):(ax n ([]:List Addr)).flatten=[]:=by
 induction n with
 |zero=>rfl
 |succ n ih=>rw[gY,fCq,ih];rfl
theorem qr.new{p:Addr}{vs:List V}{ds:List D}(h:H p=some (.lst vs)) (n:Hf p=none) (r:qV K Hf ds vs):qr K Hf H (.ow (ds.map .sh)) (.ref p) [p]:=by
 have e:[p]=p::(ax ds.length ([]:List Addr)).flatten:=by rw[wA]
 rw[e];refine .ow h n (by simp[r.1]) (by simp) λi a v F h1 h2 h3=>?_
 rw[gMq]at h1;cases q:ds[i]? with
 |none=>rw[q]at h1;cases h1
 |some d =>
  rw[q]at h1;cases h1;have:F=[]:=fJ (mGq h3);subst this;exact .sh (r.2 i d v q h2)
theorem qr.news{p:Addr}{vs:List V}{avs:List AV}{Gs:List (List Addr)}(h:H p=some (.lst vs)) (n:Hf p=none) (r:qu K Hf H avs vs Gs):qr K Hf H (.ow avs) (.ref p) (p::Gs.flatten):=.ow h n r.1 r.2.1 r.2.2
theorem qr.ow_inv{avs:List AV}{v:V}{F:List Addr}(h:qr K Hf H (.ow avs) v F):∃p vs Gs,v = .ref p/\F=p::Gs.flatten/\H p=some (.lst vs)/\Hf p=none/\qu K Hf H avs vs Gs:=by
 cases h with
 |ow h n l lf e=>exact⟨_,_,_,rfl,rfl,h,n,l,lf,e⟩
theorem qr.owd_inv{ds:List (pQ×D)}{v:V}{F:List Addr}(h:qr K Hf H (.owd ds) v F):∃p kvs,v = .ref p/\F=[p]/\H p=some (.dK kvs)/\Hf p=none/\vb K Hf ds kvs:=by
 cases h with
 |owd h n r=>exact⟨_,_,rfl,rfl,h,n,r⟩
theorem qr.sh_inv{d:D}{v:V}{F:List Addr}(h:qr K Hf H (.sh d) v F):F=[]/\sv K Hf d v:=by
 cases h with
 |sh r=>exact⟨rfl,r⟩
theorem qt.give{H1:Hp}{Fs1:List (List Addr)}(R:qt K H₀ Hf₀ Hf' S σ H1 Fs1) (t:zZ Hf H Fs Hf' H1 Fs1) {av:AV}{v:V}{F:List Addr}(r:qr K Hf' H1 av v F) (o:za H₀ H Fs Fs1 F) :
  qt K H₀ Hf₀ (Z.frz Hf' H1 F) S σ H1 Fs1/\sv K (Z.frz Hf' H1 F) (pH av) v/\zZ Hf H Fs (Z.frz Hf' H1 F) H1 Fs1:=by
 have n:∀q∈F,Hf' q=none:=λq hq=>(r.owned q hq).2
 refine⟨R.frz (λq hq=>⟨o.fr q hq,o.out q hq⟩) n,r.frozen (tI n) λq hq=>Aw hq,t.sf.trans (tI n),t.sh,t.own,λb h g=>?_⟩
 by_cases m:b∈F
 .exact o.new b m
 .rw [va m]at g;exact t.gr b h g
theorem qu.nil:qu K Hf H [] [] []:=⟨rfl,rfl,λi a v F h=>by simp at h⟩
theorem qu.cons{a:AV}{v:V}{F:List Addr}{as:List AV}{vs:List V}{Gs:List (List Addr)}(h:qr K Hf H a v F) (t:qu K Hf H as vs Gs):qu K Hf H (a::as) (v::vs) (F::Gs) :=
 ⟨by simp[t.1],by simp[t.2.1],λi b w G h1 h2 h3=>by
  cases i with
  |zero =>
   simp at h1 h2 h3;subst h1 h2 h3;exact h
  |succ i=>exact t.2.2 i b w G (by simpa using h1) (by simpa using h2) (by simpa using h3)⟩
theorem qu.nil_inv{vs:List V}{Gs:List (List Addr)}(h:qu K Hf H [] vs Gs):vs=[]/\Gs=[]:=by
 obtain⟨a,b,_⟩:=h;exact⟨bc.mp a.symm,bc.mp b.symm⟩
theorem qu.cons_inv{a:AV}{as:List AV}{vs:List V}{Gs:List (List Addr)}(h:qu K Hf H (a::as) vs Gs):∃v ws F Gs',vs=v::ws/\Gs=F::Gs'/\qr K Hf H a v F/\qu K Hf H as ws Gs':=by
 obtain⟨h1,h2,h3⟩:=h;cases vs with
 |nil=>simp at h1
 |cons v ws =>
  cases Gs with
  |nil=>simp at h2
  |cons F Gs'=>exact⟨v,ws,F,Gs',rfl,rfl,h3 0 a v F rfl rfl rfl,by simpa using h1,by simpa using h2,λi b w G q1 q2 q3=>h3 (i+1) b w G (by simpa using q1) (by simpa using q2) (by simpa using q3)⟩
theorem qu.frozen(h:qu K Hf H as vs Gs) (s:qB Hf Hf') (hk:∀q∈Gs.flatten,Hf' q=H q):qV K Hf' (as.map pH) vs :=
 ⟨by simp[h.1],λi d v h1 h2=>by
  rw[gMq]at h1;cases ea:as[i]? with
  |none=>rw[ea]at h1;cases h1
  |some a =>
   rw[ea]at h1;cases h1;have hi:i<Gs.length:=h.2.1 ▸ (gSq.mp ea).1;exact(h.2.2 i a v Gs[i] ea h2 (gEg hi)).frozen s λq hq=>hk q (mFq.mpr ⟨Gs[i],gRq hi,hq⟩)⟩
theorem qu.owned(h:qu K Hf H as vs Gs):∀q∈Gs.flatten,H q≠none/\Hf q=none:=λq hq=>by
 obtain⟨F,hF,hq⟩:=mFq.mp hq;obtain⟨i,hi,rfl⟩:=du.mp hF;have h1:i<as.length:=h.2.1.symm ▸ hi;have h2:i<vs.length:=h.1 ▸ h1;exact(h.2.2 i as[i] vs[i] Gs[i] (gEg h1) (gEg h2) (gEg hi)).owned q hq
theorem qt.gives{H1:Hp}{Fs1:List (List Addr)}(R:qt K H₀ Hf₀ Hf' S σ H1 Fs1) (t:zZ Hf H Fs Hf' H1 Fs1) {as:List AV}{vs:List V}{Gs:List (List Addr)}(r:qu K Hf' H1 as vs Gs) (o:za H₀ H Fs Fs1 Gs.flatten) :
  qt K H₀ Hf₀ (Z.frz Hf' H1 Gs.flatten) S σ H1 Fs1/\qV K (Z.frz Hf' H1 Gs.flatten) (as.map pH) vs/\zZ Hf H Fs (Z.frz Hf' H1 Gs.flatten) H1 Fs1:=by
 have n:∀q∈Gs.flatten,Hf' q=none:=λq hq=>(r.owned q hq).2
 refine⟨R.frz (λq hq=>⟨o.fr q hq,o.out q hq⟩) n,r.frozen (tI n) λq hq=>Aw hq,t.sf.trans (tI n),t.sh,t.own,λb h g=>?_⟩
 by_cases m:b∈Gs.flatten
 .exact o.new b m
 .rw [va m]at g;exact t.gr b h g
theorem za.stp{Hf1 H1 Hf2 H2:Hp}{Fs1 Fs2:List (List Addr)}{F:List Addr}(o:za H₀ H Fs Fs1 F) (t:zZ Hf1 H1 Fs1 Hf2 H2 Fs2):za H₀ H Fs Fs2 F:=⟨o.nd,o.fr,λq h m=>o.out q h (t.own q m),o.new⟩
theorem za.back{Hf1 H1:Hp}{Fs1 Fs2:List (List Addr)}{F:List Addr}(t:zZ Hf H Fs Hf1 H1 Fs1) (o:za H₀ H1 Fs1 Fs2 F):za H₀ H Fs Fs2 F:=⟨o.nd,o.fr,o.out,λq h=>(o.new q h).elim (λe=>.inl (t.sh.free e)) λm=>.inr (t.own q m)⟩
theorem za.app{F G:List Addr}(a:za H₀ H Fs Fs' F) (b:za H₀ H Fs Fs' G) (d:∀q∈F,q∉G):za H₀ H Fs Fs' (F++G) :=
 ⟨nAq.mpr ⟨a.nd,b.nd,λx hx y hy e=>d x hx (e ▸ hy)⟩,λq h=>(mAq.mp h).elim (a.fr q) (b.fr q),λq h=>(mAq.mp h).elim (a.out q) (b.out q),λq h=>(mAq.mp h).elim (a.new q) (b.new q)⟩
theorem za.apart{Hf1 H1:Hp}{Fs1 Fs2:List (List Addr)}{F G:List Addr}(a:za H₀ H Fs Fs1 F) (ha:∀q∈F,H1 q≠none) (b:za H₀ H1 Fs1 Fs2 G):∀q∈F,q∉G:=λq h m=>by
 rcases b.new q m with e|e
 .exact ha q h e
 .exact a.out q h e
theorem za.one(R:qt K H₀ Hf₀ Hf S σ H Fs) {p:Addr}(hp:H p=none):za H₀ H Fs Fs [p] :=
 ⟨by simp,λq h=>by rw[mSq.mp h];exact R.fr.free hp,λq h m=>by rw[mSq.mp h]at m;exact(R.mem m).1 hp,λq h=>by rw[mSq.mp h];exact .inl hp⟩
end
def pd(i:Nat):ME:=λS=>(S[i]?.join).map λa=>(pH a,S)
def qp(i:Nat):MK:=λS=>(S[i]?.join).map λa=>(.sh (pH a),S.set i (some (.sh (pH a))))
def Jy(i:Nat):MK:=λS=>(S[i]?.join).map λa=>(a,S.set i none)
def Fw(i:Nat):ML:=λS=>match S[i]?.join with
 |some (.sh (.list ds))=>some (ds,S)
 |some (.ow avs)=>some (avs.map pH,S.set i (some (.ow ((avs.map pH).map .sh))))
 |_=>none
def rOf(k:MK):ME:=λS=>(k S).map λx=>(pH x.1,x.2)
def kSc(m:ME):MK:=λS=>(m S).bind λx=>if x.1.scal then some (.sh x.1,x.2) else none
def lOf(k:MK):ML:=λS=>(k S).bind λx=>match x.1 with
 | .sh (.list ds)=>some (ds,x.2)
 | .ow avs=>some (avs.map pH,x.2)
 |_=>none
def xj(k:MK):MK:=λS=>(k S).map λx=>(.sh (pH x.1),x.2)
def rC(d:D):ME:=λS=>if d.scal then some (d,S) else none
section
variable {K:W.Frag}
theorem qz{S:AS}{i:Nat}{a:AV}(h:S[i]?.join=some a):S[i]?=some (some a):=by
 cases e:S[i]? with
 |none=>rw[e]at h;cases h
 |some z=>rw[e]at h;exact congrArg some h
theorem oX(i:Nat):SR K (xi i) (pd i):=by
 intro H₀ Hf₀ Hf S σ H Fs d S' R e Q q;obtain⟨a,ea,e⟩:=oMq.mp e;cases e;obtain⟨v,F,s1,s2,r⟩:=R.rep i a (qz ea);exact⟨v,s1,q _ _ _ v .refl R (r.rep R.sub)⟩
theorem GA(i:Nat):SK K (xi i) (Jy i):=by
 intro H₀ Hf₀ Hf S σ H Fs a S' R e Q q;obtain⟨b,ea,e⟩:=oMq.mp e;cases e;obtain⟨v,F,s1,s2,r,nd,o,R1⟩:=R.move (qz ea);exact⟨v,s1,q _ _ _ v F ⟨.refl _,.refl _,λp hp=>rE hp,λb h g=>absurd h g⟩ R1 r ⟨nd,λq hq=>(o q hq).1,λq hq=>(o q hq).2,λq hq=>.inr (mFq.mpr ⟨F,mGq s2,hq⟩)⟩⟩
theorem qt.again{H₀ Hf₀ Hf H:Hp}{S:AS}{σ:St}{Fs:List (List Addr)}{i:Nat}{av:AV}{v:V}{F G:List Addr}(R:qt K H₀ Hf₀ Hf (S.set i none) σ H (Fs.set i [])) (s1:σ[i]?=some (some v)) (r:qr K Hf H av v G) (nd:G.Nodup) (hf:∀q∈G,H₀ q=none/\q∉(Fs.set i []).flatten) :
  qt K H₀ Hf₀ Hf (S.set i (some av)) σ H (Fs.set i G):=by
 have R2:=R.set i r nd hf;rw[dc,dc]at R2;have e:σ.set i (some v)=σ:=by
  obtain⟨hk,ev⟩:=gSq.mp s1;rw[←ev];exact fg hk
 rw[e]at R2;exact R2
theorem pU(i:Nat):SK K (xi i) (qp i):=by
 intro H₀ Hf₀ Hf S σ H Fs a S' R e Q q;obtain⟨b,ea,e⟩:=oMq.mp e;cases e;obtain⟨v,F,s1,s2,r,nd,o,R1⟩:=R.move (qz ea);have n:∀q∈F,Hf q=none:=λq hq=>(r.owned q hq).2
 have R2:=R1.frz o n;have r2:=r.frozen (tI (H:=H) n) λq hq=>Aw hq
 have R3:=R2.again (F:=F) (G:=[]) s1 (.sh r2) aV λq h=>(by cases h)
 refine⟨v,s1,q _ _ _ v [] ⟨tI n,.refl _,λp hp=>rE hp,λb h g=>?_⟩ R3 (.sh r2) .nil⟩
 by_cases m:b∈F
 .exact .inr (mFq.mpr ⟨F,mGq s2,m⟩)
 .rw [va m]at g;exact absurd h g
theorem Dx(i:Nat):SL K (xi i) (Fw i):=by
 intro H₀ Hf₀ Hf S σ H Fs ds S' R e Q q;unfold Fw at e;split at e
 .rename_i ds' ea;cases e;obtain⟨v,F,s1,s2,r⟩:=R.rep i _ (qz ea);obtain⟨p,vs,rfl,h1,h2⟩:=r.sh_inv.2.list_inv;exact⟨_,s1,q _ _ _ p vs .refl R (R.sub _ _ h1) h2⟩
 .rename_i avs ea;cases e;obtain⟨v,F,s1,s2,r,nd,o,R1⟩:=R.move (qz ea);obtain⟨p,vs,Gs,rfl,rfl,h1,h2,h3⟩:=r.ow_inv;have n:∀q∈Gs.flatten,Hf q=none:=λq hq=>(h3.owned q hq).2
  have R2:=R1.frz (F:=Gs.flatten) (λq hq=>o q (mCo _ hq)) n
  have r2:=h3.frozen (tI (H:=H) n) λq hq=>Aw hq
  have np:p∉Gs.flatten:=(aq.mp nd).1;have r3:qr K (Z.frz Hf H Gs.flatten) H (.ow ((avs.map pH).map .sh)) (.ref p) [p]:=qr.new h1 (by rw[va np];exact h2) r2
  have R3:=R2.again (F:=p::Gs.flatten) (G:=[p]) s1 r3 (by simp) λq hq=>by rw[mSq.mp hq];exact o p (by simp)
  refine⟨_,s1,q _ _ _ p vs ⟨tI n,.refl _,λb hb=>?_,λb h g=>?_⟩ R3 h1 r2⟩
  .rcases tE hb with z|z
   .rw [mSq.mp z];exact mFq.mpr ⟨_,mGq s2,by simp⟩
   .exact z
  .by_cases m:b∈Gs.flatten
   .exact .inr (mFq.mpr ⟨_,mGq s2,mCo _ m⟩)
   .rw [va m]at g;exact absurd h g
 .cases e
theorem SK.rOf{te:TE}{k:MK}(h:SK K te k):SR K te (rOf k):=by
 intro H₀ Hf₀ Hf S σ H Fs d S' R e Q q;obtain⟨x,ea,e⟩:=oMq.mp e;cases e;exact h R (a:=x.1) (S':=x.2) ea Q λHf' H' Fs' v F t R' r o=>q _ _ _ v t R' (r.rep R'.sub)
theorem SR.kSc{te:TE}{m:ME}(h:SR K te m):SK K te (kSc m):=by
 intro H₀ Hf₀ Hf S σ H Fs a S' R e Q q;obtain⟨x,ea,e⟩:=oBq.mp e;split at e
 .rename_i hs;cases e;exact h R (d:=x.1) (S':=x.2) ea Q λHf' H' Fs' v t R' r=>q _ _ _ v [] t R' (.sh (r.scal hs)) .nil
 .cases e
theorem SK.frz{te:TE}{k:MK}(h:SK K te k):SK K te (xj k):=by
 intro H₀ Hf₀ Hf S σ H Fs a S' R e Q q;obtain⟨x,ea,e⟩:=oMq.mp e;cases e;refine h R (a:=x.1) (S':=x.2) ea Q λHf' H' Fs' v F t R' r o=>?_
 obtain⟨R2,r2,t2⟩:=R'.give t r o;exact q _ _ _ v [] t2 R2 (.sh r2) .nil
theorem SK.lOf{te:TE}{k:MK}(h:SK K te k):SL K te (lOf k):=by
 intro H₀ Hf₀ Hf S σ H Fs ds S' R e Q q;obtain⟨x,ea,e⟩:=oBq.mp e;refine h R (a:=x.1) (S':=x.2) ea Q λHf' H' Fs' v F t R' r o=>?_
 split at e
 .rename_i ds' hx;cases e;rw[hx]at r;obtain⟨p,vs,rfl,h1,h2⟩:=r.sh_inv.2.list_inv;exact q _ _ _ p vs t R' (R'.sub _ _ h1) h2
 .rename_i avs hx;cases e;obtain⟨R2,r2,t2⟩:=R'.give t r o;rw[hx,sV]at r2;obtain⟨p,vs,rfl,h1,h2⟩:=r2.list_inv;exact q _ _ _ p vs t2 R2 (R2.sub _ _ h1) h2
 .cases e
theorem Ua{v:V}{d:D}(h:∀H,sv K H d v):SR K (tC v) (rC d):=by
 intro H₀ Hf₀ Hf S σ H Fs d' S' R e Q q;unfold rC at e;split at e
 .cases e;exact q _ _ _ v .refl R (h _)
 .cases e
theorem pN{i:Int}:SR K (tC (.int i)) (rC (.int i)):=Ua λ_=>.int
theorem CY{i:Bool}:SR K (tC (.bl i)) (rC (.bl i)):=Ua λ_=>.bl
theorem Ka{T:String}:SR K (tC (.ty T)) (rC (.ty T)):=Ua λ_=>.ty
end
def vY{α:Type}(p:Prop) (x:Option α):Option α:=@ite (Option α) p (aH p) x none
theorem wk{α:Type}{p:Prop}(h:p) (x:Option α):vY p x=x:=qe h
theorem xU{α:Type}(x:Option α):vY True x=x:=qe trivial
theorem qh{α:Type}{p:Prop}{x y:Option α}(h:vY p x=y):(p/\x=y)∨none=y:=by
 by_cases c:p
 .rw [wk c]at h;exact .inl ⟨c,h⟩
 .exact .inr ((@if_neg p (aH p) c _ x none).symm.trans h)
def qG(f:D->D->Option D) (a b:ME):ME:=λS=>(a S).bind λx=>(b x.2).bind λy=>(f x.1 y.1).map λd=>(d,y.2)
def MM(f:D->Option D) (a:ME):ME:=λS=>(a S).bind λx=>(f x.1).map λd=>(d,x.2)
def ET(K:W.Frag) (r:R2) (f:D->D->Option D):Prop:=∀{x y:V}{H:Hp}{Q:VK}{dx dy d:D},sv K H dx x->sv K H dy y->f dx dy=some d->(∀v,sv K H d v->Q v H)->r x y H Q
def X4(K:W.Frag) (r:V->Hp->VK->Prop) (f:D->Option D):Prop:=∀{x:V}{H:Hp}{Q:VK}{dx d:D},sv K H dx x->f dx=some d->(∀v,sv K H d v->Q v H)->r x H Q
section
variable {K:W.Frag}{r:R2}{f:D->D->Option D}{ta tb:TE}{a b:ME}
theorem pT(hr:ET K r f) (ha:SR K ta a) (hb:SR K tb b):SR K (MN r ta tb) (qG f a b):=by
 intro H₀ Hf₀ Hf S σ H Fs d S' R e Q q;obtain⟨x,e1,e⟩:=oBq.mp e;obtain⟨y,e2,e⟩:=oBq.mp e;obtain⟨z,e3,e⟩:=oMq.mp e;cases e;refine ha R (d:=x.1) (S':=x.2) e1 _ λHf1 H1 Fs1 v1 t1 R1 r1=>hb R1 (d:=y.1) (S':=y.2) e2 _ λHf2 H2 Fs2 v2 t2 R2 r2=>?_
 exact hr (r1.mono t2.sh) r2 e3 λv rv=>q _ _ _ v (t1.trans t2) R2 rv
theorem EM{r:V->Hp->VK->Prop}{f:D->Option D}(hr:X4 K r f) (ha:SR K ta a):SR K (XO r ta) (MM f a):=by
 intro H₀ Hf₀ Hf S σ H Fs d S' R e Q q;obtain⟨x,e1,e⟩:=oBq.mp e;obtain⟨z,e3,e⟩:=oMq.mp e;cases e;exact ha R (d:=x.1) (S':=x.2) e1 _ λHf1 H1 Fs1 v1 t1 R1 r1=>hr r1 e3 λv rv=>q _ _ _ v t1 R1 rv
end
def Kh(c:Int->Int->Prop) (g:Int->Int->D):D->D->Option D
 | .int i,.int j=>vY (c i j) (some (g i j))
 |_,_=>none
def Yf(g:Int->D):D->Option D
 | .int i=>some (g i)
 |_=>none
abbrev zu:=Kh (λ_ _=>True) λi j=>.int (i+j)
abbrev Bd:=Kh (λ_ _=>True) λi j=>.int (i-j)
abbrev Cq:=Kh O2 λi j=>.int (i*j)
abbrev vR:=Kh (λ_ j=>0<j) λi j=>.int (i % j)
abbrev BN:=Kh Ug λi j=>.int (i / j)
abbrev RG:=Kh UG λi j=>.int (i ^ j.toNat)
abbrev Xw:=Kh (λ_ _=>True) λi j=>.bl (decide (i<j))
abbrev Za:=Kh (λ_ _=>True) λi j=>.bl (decide (i<=j))
abbrev Ij:=Kh (λ_ _=>True) λi j=>.bl (decide (j<i))
abbrev Zc:=Kh (λ_ _=>True) λi j=>.bl (decide (j<=i))
abbrev Eb:=Yf λi=>.int (-i)
def MD(b:Bool):Option D:=some (.bl b)
def GB(x y:D):Option D:=match x with
 | .int i=>(match y with|.int j=>MD (decide (i=j))|.non=>MD false|.str _=>MD false|_=>none)
 | .str i=>(match y with|.str j=>MD (decide (i=j))|.non=>MD false|.int _=>MD false|_=>none)
 | .bl i=>(match y with|.bl j=>MD (decide (i=j))|.non=>MD false|_=>none)
 | .non=>(match y with|.non=>MD true|.int _=>MD false|.str _=>MD false|.bl _=>MD false|_=>none)
 |_=>none
def K0:D->Option D
 | .bl b=>some (.bl (!b))
 |_=>none
def SC(x y:D):Option D:=(GB x y).bind K0
section
variable {K:W.Frag}
theorem Ky{C:Int->Int->Prop}{g:Int->Int->V}{g':Int->Int->D}(hg:∀H i j,sv K H (g' i j) (g i j)):ET K (rI C g) (Kh C g'):=by
 intro x y H Q dx dy d rx ry e q;unfold Kh at e;split at e
 .rename_i i j;cases rx;cases ry;rcases qh e with ⟨h,e⟩|e
  .cases e;exact⟨i,j,rfl,rfl,h,q _ (hg H i j)⟩
  .cases e
 .cases e
theorem Gf{g:Int->Int->V}{g':Int->Int->D}(hg:∀H i j,sv K H (g' i j) (g i j)):ET K (NH g) (Kh (λ_ _=>True) g'):=by
 intro x y H Q dx dy d rx ry e q;unfold Kh at e;split at e
 .rename_i i j;cases rx;cases ry;rw[xU]at e;cases e;exact⟨i,j,rfl,rfl,q _ (hg H i j)⟩
 .cases e
theorem vZ:ET K (NH λi j=>.int (i+j)) zu:=Gf λ_ _ _=>.int
theorem Ay:ET K (NH λi j=>.int (i-j)) Bd:=Gf λ_ _ _=>.int
theorem Dm:ET K (rI O2 λi j=>.int (i*j)) Cq:=Ky λ_ _ _=>.int
theorem uE:ET K (rI (λ_ j=>0<j) λi j=>.int (i % j)) vR:=Ky λ_ _ _=>.int
theorem As:ET K (rI Ug λi j=>.int (i / j)) BN:=Ky λ_ _ _=>.int
theorem PM:ET K (rI UG λi j=>.int (i ^ j.toNat)) RG:=Ky λ_ _ _=>.int
theorem VM:ET K (NH λi j=>.bl (decide (i<j))) Xw:=Gf λ_ _ _=>.bl
theorem DR:ET K (NH λi j=>.bl (decide (j<i))) Ij:=Gf λ_ _ _=>.bl
theorem BH:X4 K (rU λi=>.int (-i)) Eb:=by
 intro x H Q dx d rx e q;cases rx <;> simp only[Yf]at e
 all_goals first|(exfalso;simp at e;done)|skip
 rename_i i;cases e;exact⟨i,rfl,q _ .int⟩
theorem Ah:ET K XT GB:=by
 intro x y H Q dx dy d rx ry e q;unfold GB at e;cases rx <;> first|(cases e;done)|(cases ry <;> first|(cases e;done)|skip)
 all_goals (cases e;refine⟨rfl,q _ ?_⟩;simp only[reduceCtorEq,decide_false,decide_true,V.int.injEq,V.str.injEq,V.bl.injEq];exact .bl)
theorem Ni:ET K X2 SC:=by
 intro x y H Q dx dy d rx ry e q;obtain⟨b,e1,e2⟩:=oBq.mp e;obtain⟨h1,h2⟩:=Ah rx ry e1 (Q:=λv _=>sv K H b v) λv h=>h
 cases h2;cases e2;exact⟨h1,q _ .bl⟩
end
def Lu(a b:ME):ME:=λS=>(a S).bind λx=>match x.1 with
 | .bl true=>b x.2
 | .bl false=>some (.bl false,x.2)
 |_=>none
def Zd(a b:ME):ME:=λS=>(a S).bind λx=>match x.1 with
 | .bl true=>some (.bl true,x.2)
 | .bl false=>b x.2
 |_=>none
def R5(a:ME):ME:=MM K0 a
def uS(a:ME):MT:=λS=>(a S).bind λx=>match x.1 with
 | .bl b=>some (b,x.2)
 |_=>none
def Cj(a b:MT):MT:=λS=>(a S).bind λx=>if x.1=true then b x.2 else some (false,x.2)
def Le(a b:MT):MT:=λS=>(a S).bind λx=>if x.1=true then some (true,x.2) else b x.2
def Dj(a:MT):MT:=λS=>(a S).map λx=>(!x.1,x.2)
def Zf(c:MT) (a b:ME):ME:=λS=>(c S).bind λx=>if x.1=true then a x.2 else b x.2
def Zg(c:MT) (a b:MK):MK:=λS=>(c S).bind λx=>if x.1=true then a x.2 else b x.2
section
variable {K:W.Frag}{ta tb:TE}{a b:ME}{ca cb:TT}{ma mb:MT}
theorem PK(ha:SR K ta a) (hb:SR K tb b):SR K (S7 ta tb) (Lu a b):=by
 intro H₀ Hf₀ Hf S σ H Fs d S' R e Q q;obtain⟨x,e1,e⟩:=oBq.mp e;refine ha R (d:=x.1) (S':=x.2) e1 _ λHf1 H1 Fs1 v1 t1 R1 r1=>?_
 split at e
 .rename_i hx;rw[hx]at r1;cases r1;exact⟨true,rfl,GF (hb R1 e Q λHf2 H2 Fs2 v2 t2 R2 r2=>q _ _ _ v2 (t1.trans t2) R2 r2)⟩
 .rename_i hx;rw[hx]at r1;cases r1;cases e;exact⟨false,rfl,GK (q _ _ _ _ t1 R1 .bl)⟩
 .cases e
theorem Tz(ha:SR K ta a):SR K (S8 ta) (R5 a):=by
 intro H₀ Hf₀ Hf S σ H Fs d S' R e Q q;obtain⟨x,e1,e⟩:=oBq.mp e;obtain⟨z,e3,e⟩:=oMq.mp e;cases e;refine ha R (d:=x.1) (S':=x.2) e1 _ λHf1 H1 Fs1 v1 t1 R1 r1=>?_
 cases hx:x.1 <;> rw[hx]at e3 r1 <;> simp only[K0]at e3
 all_goals first|(exfalso;simp at e3;done)|skip
 cases r1;cases e3;exact⟨_,rfl,q _ _ _ _ t1 R1 .bl⟩
theorem DB(ha:SR K ta a):EK K (tB ta) (uS a):=by
 intro H₀ Hf₀ Hf S σ H Fs d S' R e Q q;obtain⟨x,e1,e⟩:=oBq.mp e;refine ha R (d:=x.1) (S':=x.2) e1 _ λHf1 H1 Fs1 v1 t1 R1 r1=>?_
 split at e
 .rename_i b hx;rw[hx]at r1;cases r1;cases e;exact⟨_,rfl,q _ _ _ t1 R1⟩
 .cases e
theorem qJ(ha:SR K ta a):EK K (Sm ta) (uS a):=DB ha
theorem IR(ha:EK K ca ma) (hb:EK K cb mb):EK K (Vo ca cb) (Cj ma mb):=by
 intro H₀ Hf₀ Hf S σ H Fs d S' R e Q q;obtain⟨x,e1,e⟩:=oBq.mp e;refine ha R (b:=x.1) (S':=x.2) e1 _ λHf1 H1 Fs1 t1 R1=>?_
 split at e
 .rename_i hx;rw[hx];exact GF (hb R1 e Q λHf2 H2 Fs2 t2 R2=>q _ _ _ (t1.trans t2) R2)
 .rename_i hx;cases e;rw[dW]at hx;rw[hx];exact GK (q _ _ _ t1 R1)
theorem Sz(ha:EK K ca ma) (hb:EK K cb mb):EK K (Yo ca cb) (Le ma mb):=by
 intro H₀ Hf₀ Hf S σ H Fs d S' R e Q q;obtain⟨x,e1,e⟩:=oBq.mp e;refine ha R (b:=x.1) (S':=x.2) e1 _ λHf1 H1 Fs1 t1 R1=>?_
 split at e
 .rename_i hx;cases e;rw[hx];exact GF (q _ _ _ t1 R1)
 .rename_i hx;rw[dW]at hx;rw[hx];exact GK (hb R1 e Q λHf2 H2 Fs2 t2 R2=>q _ _ _ (t1.trans t2) R2)
theorem JD(ha:EK K ca ma):EK K (Vl ca) (Dj ma):=by
 intro H₀ Hf₀ Hf S σ H Fs d S' R e Q q;obtain⟨x,e1,e⟩:=oMq.mp e;cases e;exact ha R (b:=x.1) (S':=x.2) e1 _ λHf1 H1 Fs1 t1 R1=>q _ _ _ t1 R1
end
abbrev rY:Nat:=16777216
theorem vx:kK=rY:=lK
def SQ(K:W.Frag) (te:TE) (m:ML):Prop:=∀{H₀ Hf₀ Hf:Hp}{S:AS}{σ:St}{H:Hp}{Fs:List (List Addr)}{ds:List D}{S':AS},qt K H₀ Hf₀ Hf S σ H Fs->m S=some (ds,S')->∀Q:VK,
 (∀Hf' H' Fs' p vs,zZ Hf H Fs Hf' H' Fs'->qt K H₀ Hf₀ Hf' S' σ H' Fs'->tJ K H' p vs->qV K Hf' ds vs->Q (.ref p) H')->te σ H Q
def vd(i:Nat):ML:=λS=>match S[i]?.join with
 |some (.sh (.scr ns))=>some (ns.map .int,S)
 |some (.sh (.list ds))=>some (ds,S)
 |some (.ow avs)=>some (avs.map pH,S.set i (some (.ow ((avs.map pH).map .sh))))
 |_=>none
theorem uK{K:W.Frag}{H:Hp}:∀ns:List Int,qV K H (ns.map .int) (ns.map V.int)
 | []=>.nil
 |n::ns=>.cons .int (uK ns)
theorem tY{K:W.Frag}(i:Nat):SQ K (xi i) (vd i):=by
 intro H₀ Hf₀ Hf S σ H Fs ds S' R e Q q;unfold vd at e;split at e
 .rename_i ns ea;cases e;obtain⟨v,F,s1,s2,r⟩:=R.rep i _ (qz ea);cases r.sh_inv.2 with
  |scr h=>exact⟨_,s1,q _ _ _ _ _ .refl R (R.sub.seq h) (uK ns)⟩
 .rename_i ds' ea;cases e;refine Dx i R (ds:=ds) (S':=S) ?_ Q λHf' H' Fs' p vs t R' hp r=>q _ _ _ p vs t R' (tJ.of hp) r
  unfold Fw;rw[ea]
 .rename_i avs ea;refine Dx i R (ds:=ds) (S':=S') ?_ Q λHf' H' Fs' p vs t R' hp r=>q _ _ _ p vs t R' (tJ.of hp) r
  unfold Fw;rw[ea];exact e
 .cases e
section
variable {K:W.Frag}{H₀ Hf₀ Hf Hf' H H':Hp}{S S':AS}{σ:St}{Fs Fs':List (List Addr)}
theorem qu.stp{as:List AV}{vs:List V}{Gs:List (List Addr)}(r:qu K Hf H as vs Gs) (ho:∀q∈Gs.flatten,q∉Fs.flatten) (t:zZ Hf H Fs Hf' H' Fs'):qu K Hf' H' as vs Gs :=
 ⟨r.1,r.2.1,λi a v F h1 h2 h3=>(r.2.2 i a v F h1 h2 h3).stp (λq hq=>ho q (mFq.mpr ⟨F,mGq h3,hq⟩)) t⟩
end
def rS:MA:=λS=>some ([],S)
def qk(k:MK) (r:MA):MA:=λS=>(k S).bind λx=>(r x.2).map λy=>(x.1::y.1,y.2)
def pO:ML:=λS=>some ([],S)
def oZ(k:ME) (r:ML):ML:=λS=>(k S).bind λx=>(r x.2).map λy=>(x.1::y.1,y.2)
section
variable {K:W.Frag}{te ta tb:TE}{tr:TA}
theorem qC:SA K wQ rS:=by
 intro H₀ Hf₀ Hf S σ H Fs as S' R e Q q;cases e;exact q _ _ _ [] [] .refl R .nil .nil
theorem qg{k:MK}{r:MA}(hk:SK K te k) (hr:SA K tr r):SA K (uM te tr) (qk k r):=by
 intro H₀ Hf₀ Hf S σ H Fs as S' R e Q q;obtain⟨x,e1,e⟩:=oBq.mp e;obtain⟨y,e2,e⟩:=oMq.mp e;cases e;refine hk R (a:=x.1) (S':=x.2) e1 _ λHf1 H1 Fs1 v F t1 R1 r1 o1=>hr R1 (as:=y.1) (S':=y.2) e2 _ λHf2 H2 Fs2 vs Gs t2 R2 r2 o2=>?_
 refine q _ _ _ (v::vs) (F::Gs) (t1.trans t2) R2 (.cons (r1.stp o1.out t2) r2) ?_;rw[fCq];exact(o1.stp t2).app (o2.back t1) (o1.apart (Hf1:=Hf1) (λq hq=>(r1.owned q hq).1) o2)
theorem pR:S6 K wQ pO:=by
 intro H₀ Hf₀ Hf S σ H Fs as S' R e Q q;cases e;exact q _ _ _ [] .refl R .nil
theorem pD{k:ME}{r:ML}(hk:SR K te k) (hr:S6 K tr r):S6 K (uM te tr) (oZ k r):=by
 intro H₀ Hf₀ Hf S σ H Fs as S' R e Q q;obtain⟨x,e1,e⟩:=oBq.mp e;obtain⟨y,e2,e⟩:=oMq.mp e;cases e;refine hk R (d:=x.1) (S':=x.2) e1 _ λHf1 H1 Fs1 v t1 R1 r1=>hr R1 (ds:=y.1) (S':=y.2) e2 _ λHf2 H2 Fs2 vs t2 R2 r2=>?_
 exact q _ _ _ (v::vs) (t1.trans t2) R2 (.cons (r1.mono t2.sh) r2)
end
def zF(a:MA):MK:=λS=>(a S).bind λx=>vY (x.1.length<=rY) (some (.ow x.1,x.2))
def Y5(a:MA):MK:=λS=>(a S).bind λx=>vY (x.1.length<=rY) (some (.sh (.tup (x.1.map pH)),x.2))
section
variable {K:W.Frag}{ta:TA}{a:MA}
theorem vT(ha:SA K ta a):SK K (Rc ta) (zF a):=by
 intro H₀ Hf₀ Hf S σ H Fs av S' R e Q q;obtain⟨x,e1,e⟩:=oBq.mp e;rcases qh e with ⟨hl,e⟩|e
 .skip
  cases e;refine ha R (as:=x.1) (S':=x.2) e1 _ λHf1 H1 Fs1 vs Gs t1 R1 r1 o1=>⟨by rw[vx,←r1.1];exact hl,λp hp=>?_⟩
  obtain⟨t2,R2,n1,n2,n3⟩:=R1.new (o:=.lst vs) hp;refine q _ _ _ (.ref p) (p::Gs.flatten) (t1.trans t2) R2 (qr.news qa n1 (r1.stp o1.out t2)) ?_;have o2:=(za.one R1 hp).back t1;refine(show za _ _ _ _ ([p]++Gs.flatten) from o2.app o1 λq hq m=>?_)
  rw[mSq.mp hq]at m;exact(r1.owned p m).1 hp
 .cases e
end
def Da(a b:ML):MK:=λS=>(a S).bind λx=>(b x.2).bind λy=>vY (x.1.length+y.1.length<=rY) (some (.ow ((x.1++y.1).map .sh),y.2))
section
variable {K:W.Frag}{ta tb:TE}{a b:ML}
theorem zM(ha:SL K ta a) (hb:SL K tb b):SK K (MN Tn ta tb) (Da a b):=by
 intro H₀ Hf₀ Hf S σ H Fs av S' R e Q q;obtain⟨x,e1,e⟩:=oBq.mp e;obtain⟨y,e2,e⟩:=oBq.mp e;rcases qh e with ⟨hl,e⟩|e
 .skip
  cases e;refine ha R (ds:=x.1) (S':=x.2) e1 _ λHf1 H1 Fs1 p1 vs1 t1 R1 h1 r1=>hb R1 (ds:=y.1) (S':=y.2) e2 _ λHf2 H2 Fs2 p2 vs2 t2 R2 h2 r2=>?_
  refine⟨p1,p2,vs1,vs2,rfl,rfl,t2.sh _ _ h1,h2,by rw[vx,←r1.1,←r2.1];exact hl,λp hp=>?_⟩
  obtain⟨t3,R3,n1,n2,n3⟩:=R2.new (o:=.lst (vs1++vs2)) hp;exact q _ _ _ (.ref p) [p] ((t1.trans t2).trans t3) R3 (qr.new qa n1 ((r1.mono t2.sf).append r2)) ((za.one R2 hp).back (t1.trans t2))
 .cases e
end
abbrev MO:=AS->Option (Option Int×AS)
def SO(K:W.Frag) (to:TO) (m:MO):Prop:=∀{H₀ Hf₀ Hf:Hp}{S:AS}{σ:St}{H:Hp}{Fs:List (List Addr)}{o:Option Int}{S':AS},qt K H₀ Hf₀ Hf S σ H Fs->m S=some (o,S')->∀Q:Option Int->Hp->Prop,
 (∀Hf' H' Fs',zZ Hf H Fs Hf' H' Fs'->qt K H₀ Hf₀ Hf' S' σ H' Fs'->Q o H')->to σ H Q
def An:MO:=λS=>some (none,S)
def xD(m:ME):MO:=λS=>(m S).bind λx=>match x.1 with
 | .int i=>some (some i,x.2)
 |_=>none
def yX{α:Type}(xs:List α) (lo hi:Option Int):List α:=(xs.drop (HT.Et xs.length 0 lo)).take (HT.Et xs.length xs.length hi-HT.Et xs.length 0 lo)
def MJ(l:ML) (lo hi:MO):MK:=λS=>(l S).bind λx=>(lo x.2).bind λy=>(hi y.2).map λz=>(.ow ((yX x.1 y.1 z.1).map .sh),z.2)
section
variable {K:W.Frag}{te:TE}{tl th:TO}{l:ML}{lo hi:MO}{m:ME}
theorem xy:SO K J2 An:=by
 intro H₀ Hf₀ Hf S σ H Fs o S' R e Q q;cases e;exact q _ _ _ .refl R
theorem vM(h:SR K te m):SO K (Ta te) (xD m):=by
 intro H₀ Hf₀ Hf S σ H Fs o S' R e Q q;obtain⟨x,e1,e⟩:=oBq.mp e;refine h R (d:=x.1) (S':=x.2) e1 _ λHf1 H1 Fs1 v t1 R1 r1=>?_
 split at e
 .rename_i i hx;rw[hx]at r1;cases r1;cases e;exact⟨i,rfl,q _ _ _ t1 R1⟩
 .cases e
theorem qV.cut{H:Hp}{ds:List D}{vs:List V}(r:qV K H ds vs) (lo hi:Option Int):qV K H (yX ds lo hi) (IA vs lo hi):=by
 unfold yX IA;rw[r.1];exact(r.drop _).take _
theorem Be(hl:SQ K te l) (hlo:SO K tl lo) (hhi:SO K th hi):SK K (XS (VP K) te tl th) (MJ l lo hi):=by
 intro H₀ Hf₀ Hf S σ H Fs av S' R e Q q;obtain⟨x,e1,e⟩:=oBq.mp e;obtain⟨y,e2,e⟩:=oBq.mp e;obtain⟨z,e3,e⟩:=oMq.mp e;cases e;refine hl R (ds:=x.1) (S':=x.2) e1 _ λHf1 H1 Fs1 p1 vs1 t1 R1 h1 r1=>hlo R1 (o:=y.1) (S':=y.2) e2 _ λHf2 H2 Fs2 t2 R2=>hhi R2 (o:=z.1) (S':=z.2) e3 _ λHf3 H3 Fs3 t3 R3=>?_
 refine⟨p1,vs1,rfl,(t2.sh.trans t3.sh).seq h1,λp hp=>?_⟩
 obtain⟨t4,R4,n1,n2,n3⟩:=R3.new (o:=.lst (IA vs1 y.1 z.1)) hp;exact q _ _ _ (.ref p) [p] (((t1.trans t2).trans t3).trans t4) R4 (qr.new qa n1 ((r1.mono (t2.sf.trans t3.sf)).cut _ _)) ((za.one R3 hp).back ((t1.trans t2).trans t3))
end
def IU:D->D->Option D
 | .list ds,.int i=>atI ds i
 | .scr ns,.int i=>(atI ns i).map .int
 |_,_=>none
def NT(l:ML) (b:ME):MK:=λS=>(l S).bind λx=>(b x.2).bind λy=>match y.1 with
 | .int i=>(atI x.1 i).map λd=>(.sh d,y.2)
 |_=>none
section
variable {K:W.Frag}{ta tb:TE}
theorem qV.atI{H:Hp}{ds:List D}{vs:List V}{i:Int}{d:D}(r:qV K H ds vs) (h:L2.atI ds i=some d):∃v,L2.atI vs i=some v/\sv K H d v:=by
 unfold L2.atI at h ⊢;rw[r.1]at h;obtain⟨j,h1,h2⟩:=oBq.mp h;rw[h1];exact r.get h2
theorem AZ:ET K (Sj K) IU:=by
 intro x y H Q dx dy d rx ry e q;unfold IU at e;split at e
 .rename_i ds i;cases ry;obtain⟨p,vs,rfl,h,r⟩:=rx.list_inv;obtain⟨l,e'⟩:=r;obtain⟨v,h1,h2⟩:=qV.atI (K:=K) (H:=H) (ds:=ds) (vs:=vs) ⟨l,e'⟩ e;exact⟨p,vs,i,v,rfl,rfl,tJ.of h,h1,q v h2⟩
 .rename_i ns i;cases ry;cases rx;rename_i p h;obtain⟨n,h1,h2⟩:=oMq.mp e;subst h2;obtain⟨v,h3,h4⟩:=qV.atI (K:=K) (H:=H) (uK ns) (i:=i) (d:=.int n) (by
   unfold L2.atI at h1 ⊢;rw[lMq];obtain⟨j,g1,g2⟩:=oBq.mp h1;rw[g1];show (ns.map D.int)[j]?=_;rw[gMq,g2];rfl)
  exact⟨p,_,i,v,rfl,rfl,h,h3,q v h4⟩
 .cases e
theorem HX{l:ML}{b:ME}(hl:SQ K ta l) (hb:SR K tb b):SK K (MN (Sj K) ta tb) (NT l b):=by
 intro H₀ Hf₀ Hf S σ H Fs av S' R e Q q;obtain⟨x,e1,e⟩:=oBq.mp e;obtain⟨y,e2,e⟩:=oBq.mp e;refine hl R (ds:=x.1) (S':=x.2) e1 _ λHf1 H1 Fs1 p1 vs1 t1 R1 h1 r1=>hb R1 (d:=y.1) (S':=y.2) e2 _ λHf2 H2 Fs2 v2 t2 R2 r2=>?_
 split at e
 .rename_i i hy;rw[hy]at r2;cases r2;obtain⟨d,e3,e⟩:=oMq.mp e;cases e;obtain⟨v,g1,g2⟩:=(r1.mono t2.sf).atI e3;exact⟨p1,vs1,i,v,rfl,rfl,t2.sh.seq h1,g1,q _ _ _ v [] (t1.trans t2) R2 (.sh g2) .nil⟩
 .cases e
end
def Sl(K:W.Frag) (r:List V->Hp->VK->Prop) (f:List D->Option D):Prop:=∀{vs:List V}{H:Hp}{Q:VK}{ds:List D}{d:D},qV K H ds vs->f ds=some d->(∀v,sv K H d v->Q v H)->r vs H Q
def uO(f:List D->Option D) (a:ML):ME:=λS=>(a S).bind λx=>(f x.1).map λd=>(d,x.2)
theorem ri{K:W.Frag}{r:List V->Hp->VK->Prop}{f:List D->Option D}{ta:TA}{a:ML}(hr:Sl K r f) (ha:S6 K ta a):SR K (Qe r ta) (uO f a):=by
 intro H₀ Hf₀ Hf S σ H Fs d S' R e Q q;obtain⟨x,e1,e⟩:=oBq.mp e;obtain⟨z,e3,e⟩:=oMq.mp e;cases e;exact ha R (ds:=x.1) (S':=x.2) e1 _ λHf1 H1 Fs1 vs t1 R1 r1=>hr r1 e3 λv rv=>q _ _ _ v t1 R1 rv
def tH:List D->Option D
 | [.list ds]=>some (.int ds.length)
 | [.tup ds]=>some (.int ds.length)
 | [.scr ns]=>some (.int ns.length)
 | [.str x]=>vY (x.length<=rY) (some (.int x.length))
 |_=>none
def Km:List D->Option D
 | [.dict ds]=>some (.int ds.length)
 |_=>none
def BC:List D->Option D
 | [.int i]=>some (.int (if i<0 then -i else i))
 |_=>none
def G5:List D->Option D
 | [.int i,.int j]=>some (.int (if j>i then j else i))
 |_=>none
def XR:List D->Option D
 | [.int i,.int j]=>some (.int (if j<i then j else i))
 |_=>none
def Yr:List D->Option D
 | [.int i]=>some (.int i)
 | [.bl k]=>some (.int (if k then 1 else 0))
 |_=>none
def VT:D->String->Option D
 | .int _,T=>if T = "int" then some (.bl true) else if T = "bool" then some (.bl false) else none
 | .bl _,T=>if T = "bool" ∨ T = "int" then some (.bl true) else none
 | .str _,T=>if T = "str" then some (.bl true) else none
 | .list _,T=>if T = "list" then some (.bl true) else none
 | .tup _,T=>if T = "tuple" then some (.bl true) else none
 | .dict _,T=>if T = "dict" then some (.bl true) else none
 |_,_=>none
def Ar:List D->Option D
 | [x,.ty T]=>VT x T
 |_=>none
def tQ:List D->Option (List Int)
 | []=>some []
 | .int i::ds=>(tQ ds).map (i :: ·)
 |_=>none
theorem vE:∀{ds:List D}{ns:List Int},tQ ds=some ns->ds=ns.map .int
 | [],ns,h=>by cases h;rfl
 |d::ds,ns,h=>by
  cases d with
  |int i =>
   obtain⟨ms,h1,h2⟩:=oMq.mp (show (tQ ds).map (i :: ·)=some ns from h)
   subst h2;rw[vE h1];rfl
  |_=>cases h
@[simp] theorem wK (ns:List Int):tQ (ns.map .int)=some ns:=by
 induction ns with
 |nil=>rfl
 |cons n ns ih=>show (tQ (ns.map .int)).map (n :: ·)=_;rw[ih];rfl
theorem tN{K:W.Frag}{H:Hp}:∀{ns:List Int}{vs:List V},qV K H (ns.map .int) vs->vs=ns.map V.int
 | [],vs,h=>h.nil_inv
 |n::ns,vs,h=>by
  obtain⟨v,ws,rfl,h1,h2⟩:=qV.cons_inv (d:=.int n) (ds:=ns.map .int) h;cases h1;rw[tN h2];rfl
def JU:List Int->Option Int
 | []=>none
 |n::ns=>some (ns.foldl min n)
theorem xK:∀(ns:List Int) (n:Int),ns.foldl min n∈n::ns
 | [],n=>by simp
 |m::ns,n=>by
  have h:=xK ns (min n m);rw[cG];rcases ae.mp h with e|e
  .rw [e]
   by_cases c:n<=m
   .rw [Int.min_eq_left c];simp
   .rw [Int.min_eq_right (by lia)];simp
  .exact mCo _ (mCo _ e)
theorem wu:∀(ns:List Int) (n:Int),(ns.foldl min n<=n)/\∀x∈ns,ns.foldl min n<=x
 | [],n=>⟨ip _,λx h=>by cases h⟩
 |m::ns,n=>by
  obtain⟨h1,h2⟩:=wu ns (min n m);rw[cG];refine⟨by lia,λx hx=>?_⟩
  rcases ae.mp hx with e|e
  .subst e;lia
  .exact h2 x e
def QH:List D->Option D
 | [.list ds]=>(tQ ds).bind λns=>(JU ns).map .int
 |_=>none
section
variable {K:W.Frag}
theorem sU:Sl K (λxs H Q=>∃x n,xs=[x]/\Wb K x H n/\Q (.int n) H) tH:=by
 intro vs H Q ds d r e q;unfold tH at e;split at e
 .obtain ⟨v,ws,rfl,h1,h2⟩:=r.cons_inv;rw[h2.nil_inv];obtain⟨p,us,rfl,h3,h4⟩:=h1.list_inv;cases e;exact⟨_,_,rfl,.inl ⟨us,tJ.of h3,h4.1⟩,q _ .int⟩
 .obtain ⟨v,ws,rfl,h1,h2⟩:=r.cons_inv;rw[h2.nil_inv];obtain⟨p,us,rfl,h3,h4⟩:=h1.tup_inv;cases e;exact⟨_,_,rfl,.inr ⟨us,IT.of h3,h4.1⟩,q _ .int⟩
 .obtain ⟨v,ws,rfl,h1,h2⟩:=r.cons_inv;rw[h2.nil_inv];cases e;cases h1 with
  |scr h=>exact⟨_,_,rfl,.inl ⟨_,h,(lMq _).symm⟩,q _ .int⟩
 .rcases qh e with ⟨hl,e⟩|e
  .skip
   obtain⟨v,ws,rfl,h1,h2⟩:=r.cons_inv;rw[h2.nil_inv];cases e;cases h1;exact⟨_,_,rfl,⟨by rw[vx];exact hl,rfl⟩,q _ .int⟩
  .cases e
 .cases e
theorem RM:Sl K (λxs H Q=>∃a kvs,xs=[V.ref a]/\H a=some (.dK kvs)/\Q (.int kvs.length) H) Km:=by
 intro vs H Q ds d r e q;unfold Km at e;split at e
 .obtain ⟨v,ws,rfl,h1,h2⟩:=r.cons_inv;rw[h2.nil_inv];obtain⟨p,us,rfl,h3,h4⟩:=h1.dict_inv;cases e;have hl:=congrArg bV h4.1;rw[lMq,lMq]at hl;rw[hl]at q;exact⟨_,_,rfl,h3,q _ .int⟩
 .cases e
theorem AI:Sl K (λxs H Q=>∃i,xs=[.int i]/\Q (.int (if i<0 then -i else i)) H) BC:=by
 intro vs H Q ds d r e q;unfold BC at e;split at e
 .obtain ⟨v,ws,rfl,h1,h2⟩:=r.cons_inv;rw[h2.nil_inv];cases h1;cases e;exact⟨_,rfl,q _ .int⟩
 .cases e
theorem RY:Sl K (λxs H Q=>∃i j,xs=[.int i,.int j]/\Q (.int (if j>i then j else i)) H) G5:=by
 intro vs H Q ds d r e q;unfold G5 at e;split at e
 .obtain ⟨v,ws,rfl,h1,h2⟩:=r.cons_inv;obtain⟨u,zs,rfl,h3,h4⟩:=h2.cons_inv;rw[h4.nil_inv];cases h1;cases h3;cases e;exact⟨_,_,rfl,q _ .int⟩
 .cases e
theorem Nf:Sl K (λxs H Q=>∃(a:Addr) (ns:List Int),xs=[.ref a]/\tJ K H a (ns.map V.int)/\0<ns.length/\∀M,M∈ns->(∀x,x∈ns->M<=x)->Q (.int M) H) QH:=by
 intro vs H Q ds d r e q;unfold QH at e;split at e
 .obtain ⟨v,ws,rfl,h1,h2⟩:=r.cons_inv;rw[h2.nil_inv];obtain⟨ns,e1,e⟩:=oBq.mp e;obtain⟨m,e2,e⟩:=oMq.mp e;cases e;rw[vE e1]at h1;obtain⟨p,us,rfl,h3,h4⟩:=h1.list_inv;rw[tN h4]at h3;cases ns with
  |nil=>cases e2
  |cons n ns =>
   cases e2;refine⟨p,_,rfl,tJ.of h3,by simp,λM hM hm=>?_⟩
   have e3:M=ns.foldl min n:=by
    have a1:=hm _ (xK ns n);have a2:=wu ns n;have a3:ns.foldl min n<=M:=by
     rcases ae.mp hM with z|z
     .subst z;exact a2.1
     .exact a2.2 M z
    lia
   rw[e3];exact q _ .int
 .cases e
theorem Gp:Sl K (λxs H Q=>∃x T b,xs=[x,.ty T]/\Wy K x H T b/\Q (.bl b) H) Ar:=by
 intro vs H Q ds d r e q;unfold Ar at e;split at e
 rotate_left
 .cases e
 rename_i x T;obtain⟨v,ws,rfl,h1,h2⟩:=r.cons_inv;obtain⟨u,zs,rfl,h3,h4⟩:=h2.cons_inv;rw[h4.nil_inv];cases h3;unfold VT at e;cases x <;> first|(cases e;done)|dsimp only at e
 case int =>
  cases h1;split at e
  .rename_i hT;cases e;exact⟨_,_,_,rfl,.inl ⟨hT,rfl⟩,q _ .bl⟩
  .split at e
   .rename_i hT;cases e;exact⟨_,_,_,rfl,.inr ⟨hT,rfl⟩,q _ .bl⟩
   .cases e
 case bl =>
  cases h1;split at e
  .rename_i hT;cases e;rcases hT with hT|hT
   .exact ⟨_,_,_,rfl,.inl ⟨hT,rfl⟩,q _ .bl⟩
   .exact ⟨_,_,_,rfl,.inr ⟨hT,rfl⟩,q _ .bl⟩
  .cases e
 case str =>
  cases h1;split at e
  .rename_i hT;cases e;exact⟨_,_,_,rfl,⟨hT,rfl⟩,q _ .bl⟩
  .cases e
 case list =>
  obtain⟨p,us,rfl,g3,g4⟩:=h1.list_inv;split at e
  .rename_i hT;cases e;exact⟨_,_,_,rfl,.inl ⟨hT,rfl,us,tJ.of g3⟩,q _ .bl⟩
  .cases e
 case tup =>
  obtain⟨p,us,rfl,g3,g4⟩:=h1.tup_inv;split at e
  .rename_i hT;cases e;exact⟨_,_,_,rfl,.inr (.inr ⟨hT,rfl,us,IT.of g3⟩),q _ .bl⟩
  .cases e
 case dict =>
  obtain⟨p,us,rfl,g3,g4⟩:=h1.dict_inv;split at e
  .rename_i hT;cases e;exact⟨_,_,_,rfl,.inr (.inl ⟨hT,rfl,us,g3⟩),q _ .bl⟩
  .cases e
end
abbrev MF:=List D->Option AV
def rX(K:W.Frag) (f:MF):Sp:=λvs H Q _=>∃(Hf:Hp) (ds:List D) (a:AV),qB Hf H/\qV K Hf ds vs/\f ds=some a /\
 ∀Hf' H' v F,qB Hf Hf'->qB H H'->qB Hf' H'->(∀b,Hf b=none->H b≠none->Hf' b=none)->qr K Hf' H' a v F->F.Nodup->(∀q∈F,H q=none)->Q v H'
def rH(f:MF) (a:MA):MK:=λS=>(a S).bind λx=>(f (x.1.map pH)).map λr=>(r,x.2)
theorem rD{K:W.Frag}{f:MF}{ta:TA}{a:MA}(ha:SA K ta a):SK K (J9 (rX K f) [] E0 ta) (rH f a):=by
 intro H₀ Hf₀ Hf S σ H Fs av S' R e Q q;obtain⟨x,e1,e⟩:=oBq.mp e;obtain⟨z,e3,e⟩:=oMq.mp e;cases e;refine ha R (as:=x.1) (S':=x.2) e1 _ λHf1 H1 Fs1 vs Gs t1 R1 r1 o1=>?_
 obtain⟨R2,r2,t2⟩:=R1.gives t1 r1 o1;rw[aNq];refine⟨_,_,av,R2.sub,r2,e3,λHf' H' v F s1 s2 s3 l r nd fr=>?_⟩
 have t3:zZ (Z.frz Hf1 H1 Gs.flatten) H1 Fs1 Hf' H' Fs1:=⟨s1,s2,λ_ h=>h,λb h g=>.inl (by
  by_cases e:H1 b=none
  .exact e
  .exact absurd (l b h e) g)⟩
 have hn:∀q∈Fs1.flatten,Hf' q=none:=λq hq=>l q (R2.mem hq).2 (R2.mem hq).1
 have R3:qt K H₀ Hf₀ Hf' x.2 σ H' Fs1:=R2.more s2 s1 s3 hn λb h1 h2=>l b (R2.lim b h1 h2) (Qz R2.fr h2)
 refine q _ _ _ v F (t2.trans t3) R3 r ⟨nd,λq hq=>R2.fr.free (fr q hq),λq hq m=>(R2.mem m).1 (fr q hq),λq hq=>.inl (t1.sh.free (fr q hq))⟩
inductive Fp where
 |nx (S:AS)|rt (a:AV)|bk (S:AS)|ct (S:AS)
abbrev MS:=AS->Option Fp
def CV(K:W.Frag) (H₀ Hf₀ Hf:Hp) (D:Ad):Fp->Prop
 | .nx S=>∀Hf' σ' H' Fs',qB Hf Hf'->qt K H₀ Hf₀ Hf' S σ' H' Fs'->D.nx σ' H'
 | .bk S=>∀Hf' σ' H' Fs',qB Hf Hf'->qt K H₀ Hf₀ Hf' S σ' H' Fs'->D.bk σ' H'
 | .ct S=>∀Hf' σ' H' Fs',qB Hf Hf'->qt K H₀ Hf₀ Hf' S σ' H' Fs'->D.ct σ' H'
 | .rt a=>∀Hf' H' v F,qB Hf₀ Hf'->qB H₀ H'->qB Hf' H'->(∀b,Hf₀ b=none->H₀ b≠none->Hf' b=none)->qr K Hf' H' a v F->F.Nodup->(∀q∈F,H₀ q=none)->D.rt v H'
def SS(K:W.Frag) (t:TS) (m:MS):Prop:=∀{H₀ Hf₀ Hf:Hp}{S:AS}{σ:St}{H:Hp}{Fs:List (List Addr)}{o:Fp},qt K H₀ Hf₀ Hf S σ H Fs->m S=some o->∀D:Ad,CV K H₀ Hf₀ Hf D o->t D σ H
theorem CV.mono{K:W.Frag}{H₀ Hf₀ Hf Hf':Hp}{D:Ad}{o:Fp}(s:qB Hf Hf') (h:CV K H₀ Hf₀ Hf D o):CV K H₀ Hf₀ Hf' D o:=by
 cases o with
 |nx S=>exact λHf2 σ' H' Fs' s2 R=>h Hf2 σ' H' Fs' (s.trans s2) R
 |bk S=>exact λHf2 σ' H' Fs' s2 R=>h Hf2 σ' H' Fs' (s.trans s2) R
 |ct S=>exact λHf2 σ' H' Fs' s2 R=>h Hf2 σ' H' Fs' (s.trans s2) R
 |rt a=>exact h
def sY:MS:=λS=>some (.nx S)
def XJ:MS:=λS=>some (.bk S)
def XU:MS:=λS=>some (.ct S)
def Xu:MS:=λ_=>none
def qi(a b:MS):MS:=λS=>(a S).bind λo=>match o with
 | .nx S'=>b S'
 |o=>some o
def qK(i:Nat) (k:MK):MS:=λS=>(k S).map λx=>.nx (x.2.set i (some x.1))
def Yh(k:MK):MS:=λS=>(k S).map λx=>.nx x.2
def tP(k:MK):MS:=λS=>(k S).map λx=>.rt x.1
def BQ(c:MT) (a b:MS):MS:=λS=>(c S).bind λx=>if x.1=true then a x.2 else b x.2
section
variable {K:W.Frag}{t u:TS}{a b:MS}{te:TE}{k:MK}
theorem tq:SS K Su sY:=by
 intro H₀ Hf₀ Hf S σ H Fs o R e D h;cases e;exact h _ _ _ _ (.refl _) R
theorem pK(ha:SS K t a) (hb:SS K u b):SS K (N0 t u) (qi a b):=by
 intro H₀ Hf₀ Hf S σ H Fs o R e D h;obtain⟨x,e1,e⟩:=oBq.mp e;refine ha R e1 _ ?_;cases x with
 |nx S'=>exact λHf' σ' H' Fs' s R'=>hb R' e D (h.mono s)
 |rt a=>cases e;exact h
 |bk a=>cases e;exact h
 |ct a=>cases e;exact h
theorem ql{i:Nat}(hk:SK K te k):SS K (Jj te (uv i)) (qK i k):=by
 intro H₀ Hf₀ Hf S σ H Fs o R e D h;obtain⟨x,e1,e⟩:=oMq.mp e;cases e;refine hk R (a:=x.1) (S':=x.2) e1 _ λHf1 H1 Fs1 v F t1 R1 r1 o1=>?_
 exact h _ _ _ _ t1.sf (R1.set i r1 o1.nd λq hq=>⟨o1.fr q hq,o1.out q hq⟩)
theorem rm(hk:SK K te k):SS K (QT te) (tP k):=by
 intro H₀ Hf₀ Hf S σ H Fs o R e D h;obtain⟨x,e1,e⟩:=oMq.mp e;cases e;exact hk R (a:=x.1) (S':=x.2) e1 _ λHf1 H1 Fs1 v F t1 R1 r1 o1=>h _ _ v F R1.sf R1.fr R1.sub R1.lim r1 o1.nd o1.fr
theorem we{c:TT}{m:MT}(hc:EK K c m) (ha:SS K t a) (hb:SS K u b):SS K (Ri c t u) (BQ m a b):=by
 intro H₀ Hf₀ Hf S σ H Fs o R e D h;obtain⟨x,e1,e⟩:=oBq.mp e;refine hc R (b:=x.1) (S':=x.2) e1 _ λHf1 H1 Fs1 t1 R1=>?_
 split at e
 .rename_i hx;rw[hx];exact GF (ha R1 e D (h.mono t1.sf))
 .rename_i hx;rw[dW]at hx;rw[hx];exact GK (hb R1 e D (h.mono t1.sf))
end
def si(S:AS) (i:Nat):Option (List AV):=match S[i]?.join with
 |some (.ow avs)=>some avs
 |_=>none
def vp(S:AS) (i:Nat):Option (List (pQ×D)):=match S[i]?.join with
 |some (.owd kvs)=>some kvs
 |_=>none
def Ea(i:Nat) (k:MK):MS:=λS=>(si S i).bind λ_=>(k S).bind λx=>(si x.2 i).bind λavs =>
 vY (avs.length<rY) (some (.nx (x.2.set i (some (.ow (avs++[x.1]))))))
def YQ(i:Nat) (l:ML):MS:=λS=>(si S i).bind λ_=>(l S).bind λx=>(si x.2 i).bind λavs =>
 vY (avs.length+x.1.length<=rY) (some (.nx (x.2.set i (some (.ow (avs++x.1.map .sh))))))
def intOf:D->Option Int
 | .int i=>some i
 |_=>none
def Y6(i:Nat) (b:ME) (k:MK):MS:=λS=>(xj k S).bind λx=>(si x.2 i).bind λ_=>(b x.2).bind λy=>(si y.2 i).bind λavs=>(intOf y.1).bind λj=>(Jc avs.length j).map λn =>
 .nx (y.2.set i (some (.ow (((avs.map pH).set n (pH x.1)).map .sh))))
def vi:D->Option pQ
 | .int i=>some (.inl i)
 | .str x=>some (.inr x)
 |_=>none
def yC(kvs:List (pQ×D)) (k:pQ) (d:D):List (pQ×D):=if kvs.any (λkv=>decide (kv.1=k)) then kvs.map (λkv=>if kv.1=k then (kv.1,d) else kv) else kvs++[(k,d)]
def getD(kvs:List (pQ×D)) (k:pQ):Option D:=(kvs.find? λkv=>decide (kv.1=k)).map (·.2)
def Bn(i:Nat) (b:ME) (k:MK):MS:=λS=>(xj k S).bind λx=>(vp x.2 i).bind λ_=>(b x.2).bind λy=>(vp y.2 i).bind λkvs=>(vi y.1).bind λkey =>
 vY (kvs.length<rY) (some (.nx (y.2.set i (some (.owd (yC kvs key (pH x.1)))))))
section
variable {K:W.Frag}{H₀ Hf₀ Hf H:Hp}{S:AS}{σ:St}{Fs:List (List Addr)}
theorem qt.turn(R:qt K H₀ Hf₀ Hf S σ H Fs) {i:Nat}{av:AV}{p:Addr}{o:HO}{F F':List Addr}(s1:σ[i]?=some (some (.ref p))) (s2:Fs[i]?=some F) (hp:p∈F) (r:qr K Hf (rK H p o) av (.ref p) F') (nd:F'.Nodup)
  (hf:∀q∈F',H₀ q=none/\q∉(Fs.set i []).flatten):qt K H₀ Hf₀ Hf (S.set i (some av)) σ (rK H p o) (Fs.set i F'):=by
 have hin:p∈Fs.flatten:=mFq.mpr ⟨F,mGq s2,hp⟩;have pn:Hf p=none:=(R.mem hin).2;have p0:H₀ p=none:=R.fresh p hin;have out:=uW R.nd s2 hp;have R1:qt K H₀ Hf₀ Hf (S.set i none) σ (rK H p o) (Fs.set i []):=by
  refine⟨by simp[R.len],by simp[R.lenF],λj a ej=>?_,λj ej=>?_,sO i R.nd aV (λp hp=>by cases hp),λp hp=>R.fresh p (rE hp),λb u e=>?_,λb u e=>?_,R.lim,R.sf⟩
  .rw [bI]at ej
   by_cases hij:i=j
   .subst hij;rw[qe rfl]at ej;split at ej <;> cases ej
   .rw [pV hij]at ej;obtain⟨w,G,f1,f2,q⟩:=R.rep j a ej;refine⟨w,G,f1,by rw[aB hij];exact f2,q.keep (.refl _) (λc hc=>pS λe=>out ?_) λc hc=>(q.owned c hc).2⟩
    subst e;exact mFq.mpr ⟨G,mGq (i:=j) (by rw[aB hij];exact f2),hc⟩
  .rw [bI]at ej
   by_cases hij:i=j
   .subst hij;rw[qe rfl]at ej;split at ej
    .rename_i hi;rw[aA (R.lenF.symm ▸ hi)]
    .cases ej
   .rw [pV hij]at ej;rw[aB hij];exact R.emp j ej
  .rw [pS λz=>by rw[z,pn]at e;cases e]
   exact R.sub b u e
  .rw [pS λz=>by rw[z,p0]at e;cases e]
   exact R.fr b u e
 exact R1.again (F:=F) s1 r nd hf
theorem qo{i:Nat}{F:List Addr}{q:Addr}(s2:Fs[i]?=some F) (h:q∈F):q∈Fs.flatten:=mFq.mpr ⟨F,mGq s2,h⟩
theorem qu.snoc{as:List AV}{vs:List V}{Gs:List (List Addr)}{a:AV}{v:V}{F:List Addr}(r:qu K Hf H as vs Gs) (s:qr K Hf H a v F):qu K Hf H (as++[a]) (vs++[v]) (Gs++[F]):=by
 obtain⟨h1,h2,h3⟩:=r;refine⟨by simp[h1],by simp[h2],λi b w G e1 e2 e3=>?_⟩
 by_cases hi:i<as.length
 .rw [gZq hi]at e1;rw[gZq (h1 ▸ hi)]at e2;rw[gZq (h2 ▸ hi)]at e3;exact h3 i b w G e1 e2 e3
 .have hi':i=as.length:=by
   have:=(gSq.mp e1).1;rw[lAq,lSq]at this;lia
  subst hi';rw[gYq (aj _),cR]at e1;rw[h1,gYq (aj _),cR]at e2;rw[h2,gYq (aj _),cR]at e3;cases e1;cases e2;cases e3;exact s
theorem qu.keepUpd{as:List AV}{vs:List V}{Gs:List (List Addr)}{p:Addr}{o:HO}(r:qu K Hf H as vs Gs) (hp:p∉Gs.flatten):qu K Hf (rK H p o) as vs Gs :=
 ⟨r.1,r.2.1,λi a v F h1 h2 h3=>by
  have q:=r.2.2 i a v F h1 h2 h3;refine q.keep (.refl _) (λc hc=>pS λe=>hp ?_) λc hc=>(q.owned c hc).2
  subst e;exact mFq.mpr ⟨F,mGq h3,hc⟩⟩
theorem qr.keepUpd{a:AV}{v:V}{F:List Addr}{p:Addr}{o:HO}(q:qr K Hf H a v F) (hp:p∉F):qr K Hf (rK H p o) a v F :=
 q.keep (.refl _) (λc hc=>pS λe=>hp (e ▸ hc)) λc hc=>(q.owned c hc).2
theorem qu.append{as bs:List AV}{vs ws:List V}{Gs Es:List (List Addr)}(r:qu K Hf H as vs Gs) (s:qu K Hf H bs ws Es):qu K Hf H (as++bs) (vs++ws) (Gs++Es):=by
 obtain⟨h1,h2,h3⟩:=r;refine⟨by simp[h1,s.1],by simp[h2,s.2.1],λi b w G e1 e2 e3=>?_⟩
 by_cases hi:i<as.length
 .rw [gZq hi]at e1;rw[gZq (h1 ▸ hi)]at e2;rw[gZq (h2 ▸ hi)]at e3;exact h3 i b w G e1 e2 e3
 .rw [gYq (by lia)]at e1
  rw[gYq (by lia),←h1]at e2
  rw[gYq (by lia),←h2]at e3
  exact s.2.2 _ b w G e1 e2 e3
end
section
variable {K:W.Frag}{te ta tb:TE}{k:MK}{b:ME}{l:ML}
theorem qF{S:AS}{i:Nat}{avs:List AV}(h:si S i=some avs):S[i]?=some (some (.ow avs)):=by
 unfold si at h;split at h
 .rename_i z e;cases h;exact qz e
 .cases h
theorem yp{S:AS}{i:Nat}{kvs:List (pQ×D)}(h:vp S i=some kvs):S[i]?=some (some (.owd kvs)):=by
 unfold vp at h;split at h
 .rename_i z e;cases h;exact qz e
 .cases h
theorem qt.ow{H₀ Hf₀ Hf H:Hp}{S:AS}{σ:St}{Fs:List (List Addr)}(R:qt K H₀ Hf₀ Hf S σ H Fs) {i:Nat}{avs:List AV}(h:S[i]?=some (some (.ow avs))):∃p vs Gs,σ[i]?=some (some (.ref p))/\Fs[i]?=some (p::Gs.flatten)/\H p=some (.lst vs)/\Hf p=none/\qu K Hf H avs vs Gs /\
  p∉Gs.flatten/\Gs.flatten.Nodup/\∀q∈p::Gs.flatten,H₀ q=none/\q∉(Fs.set i []).flatten:=by
 obtain⟨v,F,s1,s2,r,nd,o,_⟩:=R.move h;obtain⟨p,vs,Gs,rfl,rfl,h1,h2,h3⟩:=r.ow_inv;exact⟨p,vs,Gs,s1,s2,h1,h2,h3,(aq.mp nd).1,(aq.mp nd).2,o⟩
theorem DI{i:Nat}(hk:SK K te k):SS K (B5 (Qg K "list" xB (xi i) (uM te wQ))) (Ea i k):=by
 intro H₀ Hf₀ Hf S σ H Fs o R e D h;obtain⟨a0,e0,e⟩:=oBq.mp e;obtain⟨x,e1,e⟩:=oBq.mp e;obtain⟨avs,e2,e⟩:=oBq.mp e;rcases qh e with ⟨hl,e⟩|e
 .skip
  cases e;obtain⟨p,vs,Gs,s1,_,h1,_⟩:=R.ow (qF e0);refine⟨.ref p,s1,.inl ⟨rfl,vs,tJ.of h1⟩,hk R (a:=x.1) (S':=x.2) e1 _ λHf1 H1 Fs1 v F t1 R1 r1 o1=>?_⟩
  obtain⟨p',vs',Gs',s1',s2',h1',h2',h3',h4',h5',h6'⟩:=R1.ow (qF e2);rw[s1]at s1';cases s1';have pF:p∉F:=λm=>o1.out p m (qo s2' (by simp))
  refine⟨p,vs',v,rfl,rfl,h1',by rw[vx,←h3'.1];exact hl,h _ _ _ _ t1.sf (R1.turn s1 s2' (by simp) (F':=p::(Gs'++[F]).flatten) (qr.news qa h2' ((h3'.keepUpd h4').snoc (r1.keepUpd pF))) ?_ λq hq=>?_)⟩
  .rw [fAq,bO];refine aq.mpr ⟨λm=>(mAq.mp m).elim h4' pF,nAq.mpr ⟨h5',o1.nd,λa ha b hb e=>o1.out b hb (qo s2' (mCo _ (e ▸ ha)))⟩⟩
  .rw [fAq,bO]at hq;rcases ae.mp hq with z|z
   .exact h6' q (by rw[z];simp)
   .rcases mAq.mp z with z|z
    .exact h6' q (mCo _ z)
    .exact ⟨o1.fr q z,λm=>o1.out q z (rE m)⟩
 .cases e
theorem A2{H:Hp}:∀{ds:List (pQ×D)}{kvs:List (pQ×V)}{key:pQ},vb K H ds kvs->match getD ds key with
  |some d=>∃v,vo kvs key=some v/\sv K H d v
  |none=>vo kvs key=none
 | [],kvs,key,h=>by
  have:kvs=[]:=by
   have:=congrArg bV h.1;simpa using this.symm
  subst this;rfl
 |d::ds,[],key,h=>by
  have:=congrArg bV h.1;simp at this
 |d::ds,v::kvs,key,h=>by
  have h1:d.1=v.1/\ds.map (·.1)=kvs.map (·.1):=by
   have:=h.1;simpa using this
  have h2:sv K H d.2 v.2:=h.2 0 d v rfl rfl;have ht:vb K H ds kvs:=⟨h1.2,λi a b e1 e2=>h.2 (i+1) a b (by simpa using e1) (by simpa using e2)⟩
  unfold getD vo
  by_cases c:d.1=key
  .rw [ff (by simp[c]),ff (by simp[←h1.1,c])]
   exact⟨v.2,rfl,h2⟩
  .rw [dX (by simp[c]),dX (by simp[←h1.1,c])]
   exact A2 ht
theorem wC{H:Hp}{d:D}{v:V}{key:pQ}(h:vi d=some key) (r:sv K H d v):v=kV key:=by
 cases r <;> simp only[vi]at h
 all_goals first|(exfalso;simp at h;done)|skip
 all_goals (cases h;rfl)
theorem vb.key{H:Hp}{ds:List (pQ×D)}{kvs:List (pQ×V)}(h:vb K H ds kvs) {i:Nat}{d:pQ×D}{v:pQ×V}(e1:ds[i]?=some d) (e2:kvs[i]?=some v):d.1=v.1:=by
 have:=congrArg (λl=>l[i]?) h.1
 simp only[gMq,e1,e2,bR]at this;exact aD.inj this
theorem vb.len{H:Hp}{ds:List (pQ×D)}{kvs:List (pQ×V)}(h:vb K H ds kvs):ds.length=kvs.length:=by
 have:=congrArg bV h.1;simpa using this
theorem Od{H:Hp}{ds:List (pQ×D)}{kvs:List (pQ×V)}{key:pQ}{d:D}{v:V}(h:vb K H ds kvs) (r:sv K H d v):vb K H (yC ds key d) (yW kvs key v):=by
 have ha:(ds.any λkv=>decide (kv.1=key))=kvs.any λkv=>decide (kv.1=key):=by
  have e1:(ds.any λkv=>decide (kv.1=key))=(ds.map (·.1)).any λk=>decide (k=key):=by rw[jE];rfl
  have e2:(kvs.any λkv=>decide (kv.1=key))=(kvs.map (·.1)).any λk=>decide (k=key):=by rw[jE];rfl
  rw[e1,e2,h.1]
 unfold yC yW;rw[ha];split
 .refine ⟨?_,λi a b e1 e2=>?_⟩
  .rw [mPq,mPq];have e1:((λkv:pQ×D=>kv.1)∘λkv:pQ×D=>if kv.1=key then (kv.1,d) else kv)=λkv=>kv.1:=by
    funext kv;show (if kv.1=key then (kv.1,d) else kv).1=kv.1
    split <;> rfl
   have e2:((λkv:pQ×V=>kv.1)∘λkv:pQ×V=>if kv.1=key then (kv.1,v) else kv)=λkv=>kv.1:=by
    funext kv;show (if kv.1=key then (kv.1,v) else kv).1=kv.1
    split <;> rfl
   rw[e1,e2];exact h.1
  .rw [gMq]at e1 e2;obtain⟨a',f1,rfl⟩:=oMq.mp e1;obtain⟨b',f2,rfl⟩:=oMq.mp e2;have hk:=h.key f1 f2
   by_cases c:a'.1=key
   .rw [qe c,qe (hk ▸ c)];exact r
   .rw [pV c,pV (hk ▸ c)];exact h.2 i a' b' f1 f2
 .refine ⟨by rw[mBq,mBq,h.1];rfl,λi a b e1 e2=>?_⟩
  by_cases hi:i<ds.length
  .rw [gZq hi]at e1;rw[gZq (h.len ▸ hi)]at e2;exact h.2 i a b e1 e2
  .have hi':i=ds.length:=by
    have:=(gSq.mp e1).1;rw[lAq,lSq]at this;lia
   subst hi';rw[gYq (aj _),cR]at e1;rw[h.len,gYq (aj _),cR]at e2;cases e1;cases e2;exact r
def Cb:MK:=λS=>some (.owd [],S)
theorem A7:SK K OO Cb:=by
 intro H₀ Hf₀ Hf S σ H Fs av S' R e Q q;cases e;intro p hp;obtain⟨t,R2,n1,n2,n3⟩:=R.new (o:=.dK []) hp;exact q _ _ _ (.ref p) [p] t R2 (.owd qa n1 ⟨rfl,λi d v h=>by simp at h⟩) (za.one R hp)
theorem qt.owd{H₀ Hf₀ Hf H:Hp}{S:AS}{σ:St}{Fs:List (List Addr)}(R:qt K H₀ Hf₀ Hf S σ H Fs) {i:Nat}{ds:List (pQ×D)}(h:S[i]?=some (some (.owd ds))):∃p kvs,σ[i]?=some (some (.ref p))/\Fs[i]?=some [p]/\H p=some (.dK kvs)/\Hf p=none/\vb K Hf ds kvs /\
  H₀ p=none/\p∉(Fs.set i []).flatten:=by
 obtain⟨v,F,s1,s2,r,nd,o,_⟩:=R.move h;obtain⟨p,kvs,rfl,rfl,h1,h2,h3⟩:=r.owd_inv;exact⟨p,kvs,s1,s2,h1,h2,h3,(o p (by simp)).1,(o p (by simp)).2⟩
theorem zT{i:Nat}(hk:SK K te k) (hb:SR K tb b):SS K (Sv (xi i) tb te) (Bn i b k):=by
 intro H₀ Hf₀ Hf S σ H Fs o R e D h;obtain⟨x,e1,e⟩:=oBq.mp e;obtain⟨a0,e0,e⟩:=oBq.mp e;obtain⟨y,e2,e⟩:=oBq.mp e;obtain⟨kvs,e3,e⟩:=oBq.mp e;obtain⟨key,e4,e⟩:=oBq.mp e;rcases qh e with ⟨hl,e⟩|e
 .skip
  cases e;have hk':SK K te (xj k):=SK.frz hk;refine hk' R (a:=x.1) (S':=x.2) e1 _ λHf1 H1 Fs1 v F t1 R1 r1 o1=>?_
  obtain⟨p',_,s1,_⟩:=R1.owd (yp e0);refine⟨_,s1,hb R1 (d:=y.1) (S':=y.2) e2 _ λHf2 H2 Fs2 w t2 R2 r2=>?_⟩
  obtain⟨q',kv,s1',s2',h1',h2',h3',h4',h5'⟩:=R2.owd (yp e3);rw[s1]at s1';cases s1';obtain⟨x1,hx1⟩:∃d,x.1 = .sh d:=by
   obtain⟨w,_,e⟩:=oMq.mp e1;rw[←e];exact⟨_,rfl⟩
  rw[hx1]at r1;have rv:=(r1.sh_inv.2).mono t2.sf;have hw:=wC e4 r2;subst hw;refine⟨p',_,rfl,Ov.k h1' (by rw[vx,←h3'.len];exact hl),h _ _ _ _ (t1.sf.trans t2.sf) (R2.turn s1 s2' (by simp) (F':=[p']) (.owd qa h2' ?_) (by simp) λq hq=>by rw[mSq.mp hq];exact⟨h4',h5'⟩)⟩
  rw[hx1,sm];exact Od h3' rv
 .cases e
def YY(a b:ME):ME:=λS=>(a S).bind λx=>(b x.2).bind λy=>match y.1 with
 | .dict kvs=>(vi x.1).map λkey=>(.bl (getD kvs key).isSome,y.2)
 |_=>none
def wj(a b:ME):ME:=λS=>(a S).bind λx=>(b x.2).bind λy=>match y.1 with
 | .dict kvs=>(vi x.1).map λkey=>(.bl (!(getD kvs key).isSome),y.2)
 |_=>none
def DW(a b:ME):ME:=λS=>(a S).bind λx=>(b x.2).bind λy=>match x.1 with
 | .dict kvs=>(vi y.1).bind λkey=>(getD kvs key).map λd=>(d,y.2)
 |_=>none
theorem K7{H:Hp}{kvs:List (pQ×D)}{x:V}{key:pQ}{d:D}(r:sv K H (.dict kvs) x) (e:getD kvs key=some d):∃a v,x = .ref a/\C3 H a (kV key) (some v)/\sv K H d v:=by
 obtain⟨p,vs,rfl,h1,h2⟩:=r.dict_inv;have g:=A2 (key:=key) h2;rw[e]at g;obtain⟨v,g1,g2⟩:=g;exact⟨p,v,rfl,by rw[←g1];exact C3.k h1,g2⟩
theorem PR{H:Hp}{kvs:List (pQ×D)}{x:V}{key:pQ}(r:sv K H (.dict kvs) x):∃a o,x = .ref a/\C3 H a (kV key) o/\o.isSome=(getD kvs key).isSome:=by
 obtain⟨p,vs,rfl,h1,h2⟩:=r.dict_inv;have g:=A2 (key:=key) h2;refine⟨p,_,rfl,C3.k h1,?_⟩;cases e:getD kvs key with
 |none=>rw[e]at g;rw[g];rfl
 |some d=>rw[e]at g;obtain⟨v,g1,_⟩:=g;rw[g1];rfl
theorem E9{a:ME}(ha:SR K ta a) (hb:SR K tb b):SR K (Kn ta tb) (wj a b):=by
 intro H₀ Hf₀ Hf S σ H Fs d S' R e Q q;obtain⟨x,e1,e⟩:=oBq.mp e;obtain⟨y,e2,e⟩:=oBq.mp e;refine ha R (d:=x.1) (S':=x.2) e1 _ λHf1 H1 Fs1 v1 t1 R1 r1=>hb R1 (d:=y.1) (S':=y.2) e2 _ λHf2 H2 Fs2 v2 t2 R2 r2=>?_
 split at e
 .rename_i kvs hy;rw[hy]at r2;obtain⟨key,e3,e⟩:=oMq.mp e;cases e;obtain⟨p,o,rfl,g1,g2⟩:=PR (key:=key) r2;refine⟨p,o,rfl,by rw[wC e3 r1];exact g1,?_⟩
  rw[g2];exact q _ _ _ _ (t1.trans t2) R2 .bl
 .cases e
theorem CH{a:ME}(ha:SR K ta a) (hb:SR K tb b):SR K (Po ta tb) (DW a b):=by
 intro H₀ Hf₀ Hf S σ H Fs d S' R e Q q;obtain⟨x,e1,e⟩:=oBq.mp e;obtain⟨y,e2,e⟩:=oBq.mp e;refine ha R (d:=x.1) (S':=x.2) e1 _ λHf1 H1 Fs1 v1 t1 R1 r1=>hb R1 (d:=y.1) (S':=y.2) e2 _ λHf2 H2 Fs2 v2 t2 R2 r2=>?_
 split at e
 .rename_i kvs hy;rw[hy]at r1;obtain⟨key,e3,e⟩:=oBq.mp e;obtain⟨d',e4,e⟩:=oMq.mp e;cases e;obtain⟨p,v,rfl,g1,g2⟩:=K7 (r1.mono t2.sh) e4;exact⟨p,v,rfl,by rw[wC e3 r2];exact g1,q _ _ _ _ (t1.trans t2) R2 g2⟩
 .cases e
end
def tF(x:Nat) (body:MS):List D->AS->Option Fp
 | [],S=>some (.nx S)
 |d::ds,S=>(body (S.set x (some (.sh d)))).bind λo=>match o with
  | .nx S'=>tF x body ds S'
  | .ct S'=>tF x body ds S'
  | .bk S'=>some (.nx S')
  | .rt a=>some (.rt a)
def vm:D->Option (List D)
 | .list ds=>some ds
 | .scr ns=>some (ns.map .int)
 |_=>none
def Bh(x:Nat) (k:MK) (body:MS):MS:=λS=>(xj k S).bind λy=>(vm (pH y.1)).bind λds=>tF x body ds y.2
def rL(lo:Int) (n:Nat):List D:=(cw n).map λi:Nat=>.int (lo+i)
def Ej:List D->Option (List D)
 | [.int j]=>vY (-(2 ^ 62)<=j/\j<2 ^ 62) (some (rL 0 j.toNat))
 |_=>none
def Xf:List D->Option (List D)
 | [.int i,.int j]=>vY (-(2 ^ 62)<=i/\i<2 ^ 62/\-(2 ^ 62)<=j/\j<2 ^ 62) (some (rL i (j-i).toNat))
 |_=>none
def Ff(x:Nat) (a:ML) (body:MS):MS:=λS=>(a S).bind λy=>(Ej y.1).bind λds=>tF x body ds y.2
def Xr(x:Nat) (a:ML) (body:MS):MS:=λS=>(a S).bind λy=>(Xf y.1).bind λds=>tF x body ds y.2
def BF(x y:Nat) (body:MS):Nat->List D->AS->Option Fp
 |_,[],S=>some (.nx S)
 |i,d::ds,S=>(body ((S.set x (some (.sh (.int i)))).set y (some (.sh d)))).bind λo=>match o with
  | .nx S'=>BF x y body (i+1) ds S'
  | .ct S'=>BF x y body (i+1) ds S'
  | .bk S'=>some (.nx S')
  | .rt a=>some (.rt a)
def Pp(x y:Nat) (k:MK) (body:MS):MS:=λS=>(xj k S).bind λz=>(vm (pH z.1)).bind λds=>BF x y body 0 ds z.2
def JL(x y:Nat) (body:MS):List D->List D->AS->Option Fp
 |d::ds,e::es,S=>(body ((S.set x (some (.sh d))).set y (some (.sh e)))).bind λo=>match o with
  | .nx S'=>JL x y body ds es S'
  | .ct S'=>JL x y body ds es S'
  | .bk S'=>some (.nx S')
  | .rt a=>some (.rt a)
 |_,_,S=>some (.nx S)
def Ys(x y:Nat) (k l:MK) (body:MS):MS:=λS=>(xj k S).bind λz=>(xj l z.2).bind λw=>(vm (pH z.1)).bind λds=>(vm (pH w.1)).bind λes =>
 if ds.length=es.length then JL x y body ds es w.2 else none
def uq(c:MT) (body:MS):Nat->MS
 |0,_=>none
 |n+1,S=>(c S).bind λx=>if x.1=true then (body x.2).bind λo=>match o with
   | .nx S'=>uq c body n S'
   | .ct S'=>uq c body n S'
   | .bk S'=>some (.nx S')
   | .rt a=>some (.rt a)
  else some (.nx x.2)
section
variable {K:W.Frag}{te tf:TE}{k l:MK}{tb:TS}{body:MS}{x y:Nat}
theorem BB{H:Hp}{d:D}{ds:List D}{v:V}(e:vm d=some ds) (r:sv K H d v):∃a vs,v = .ref a/\tJ K H a vs/\qV K H ds vs:=by
 cases d with
 |list es =>
  cases e;obtain⟨p,vs,rfl,h1,h2⟩:=r.list_inv;exact⟨p,vs,rfl,tJ.of h1,h2⟩
 |scr ns =>
  cases e;cases r with
  |scr h=>exact⟨_,_,rfl,h,uK ns⟩
 |_=>cases e
theorem DK{te:TE}{S:AS}{z:AV×AS}(e:xj k S=some z):∃d,z.1 = .sh d:=by
 obtain⟨w,_,e⟩:=oMq.mp e;rw[←e];exact⟨_,rfl⟩
theorem qt.setD{H₀ Hf₀ Hf H:Hp}{S:AS}{σ:St}{Fs:List (List Addr)}{d:D}{v:V}(R:qt K H₀ Hf₀ Hf S σ H Fs) (i:Nat) (r:sv K Hf d v):qt K H₀ Hf₀ Hf (S.set i (some (.sh d))) (σ.set i (some v)) H (Fs.set i []) :=
 R.set i (.sh r) aV λq h=>(by cases h)
theorem xH(hk:SK K te k) (hb:SS K tb body):SS K (Lw (Ki K te) (uv x) tb) (Bh x k body):=by
 intro H₀ Hf₀ Hf S σ H Fs o R e D h;obtain⟨z,e1,e⟩:=oBq.mp e;obtain⟨ds,e2,e⟩:=oBq.mp e;have hk':SK K te (xj k):=SK.frz hk;refine hk' R (a:=z.1) (S':=z.2) e1 _ λHf1 H1 Fs1 v F t1 R1 r1 o1=>?_
 obtain⟨d,hd⟩:=DK (te:=te) e1;rw[hd]at r1;rw[hd,sm]at e2;obtain⟨a,vs,rfl,g1,g2⟩:=BB e2 r1.sh_inv.2;refine⟨a,rfl,⟨vs,R1.sub.seq g1⟩,Ii (xs:=vs) (λi σ' H'=>∃Hf' S' Fs',qt K H₀ Hf₀ Hf' S' σ' H' Fs'/\qB Hf1 Hf'/\tF x body (ds.drop i) S'=some o) ⟨Hf1,z.2,Fs1,R1,.refl _,e⟩
  (λi σ' H' _ ⟨Hf',S',Fs',R',s',_⟩=>R'.sub.seq (s'.seq g1)) ?_ ?_⟩
 .rintro i w σ' H' hw ⟨Hf',S',Fs',R',s',e'⟩;obtain⟨di,hdi,rw'⟩:=g2.get' hw;have hlt:i<ds.length:=(gSq.mp hdi).1;rw[aT hlt]at e';have hdi':ds[i]=di:=(gSq.mp hdi).2;rw[hdi']at e';obtain⟨ob,e3,e4⟩:=oBq.mp e';refine hb (R'.setD x (rw'.mono s')) e3 _ ?_;cases ob with
  |nx S2=>exact λHf2 σ2 H2 Fs2 s2 R2=>⟨Hf2,S2,Fs2,R2,s'.trans s2,e4⟩
  |ct S2=>exact λHf2 σ2 H2 Fs2 s2 R2=>⟨Hf2,S2,Fs2,R2,s'.trans s2,e4⟩
  |bk S2=>cases e4;exact λHf2 σ2 H2 Fs2 s2 R2=>h _ _ _ _ ((t1.sf.trans s').trans s2) R2
  |rt a=>cases e4;exact h
 .rintro σ' H' ⟨Hf',S',Fs',R',s',e'⟩;rw[←g2.1,dU]at e';cases e';exact h _ _ _ _ (t1.sf.trans s') R'
theorem K9{H₀ Hf₀ Hf1 H1:Hp}{S1:AS}{σ:St}{Fs1:List (List Addr)}{o:Fp}{D:Ad}{lo:Int}{n:Nat}(hb:SS K tb body) (R1:qt K H₀ Hf₀ Hf1 S1 σ H1 Fs1) (e:tF x body (rL lo n) S1=some o) (h:CV K H₀ Hf₀ Hf1 D o) :
  ∃W:Nat->Nat->St->Hp->Prop,(∃m,W 0 m σ H1)/\∀i m σ H,W i m σ H ->
   ((Qx lo n).stop i H/\D.nx σ H)∨((Qx lo n).go i H/\∃N:St->Hp->Prop,(∀σ' H',N σ' H'->∃m',m'<m/\W (i+1) m' σ' H')/\∀v H',(Qx lo n).yld i H v H'->uv x v σ H' λσ2 H2=>tb { D with nx:=N,ct:=N,bk:=D.nx } σ2 H2):=by
 refine LF (λi σ' H'=>∃Hf' S' Fs',qt K H₀ Hf₀ Hf' S' σ' H' Fs'/\qB Hf1 Hf'/\tF x body ((rL lo n).drop i) S'=some o) ⟨Hf1,S1,Fs1,R1,.refl _,e⟩ ?_ ?_
 .rintro i σ' H' hi ⟨Hf',S',Fs',R',s',e'⟩;have hlt:i<(rL lo n).length:=by unfold rL;rw[lMq,bC];exact hi
  rw[aT hlt]at e';have hdi:(rL lo n)[i] = .int (lo+i):=by simp[rL]
  rw[hdi]at e';obtain⟨ob,e3,e4⟩:=oBq.mp e';refine hb (R'.setD x .int) e3 _ ?_;cases ob with
  |nx S2=>exact λHf2 σ2 H2 Fs2 s2 R2=>⟨Hf2,S2,Fs2,R2,s'.trans s2,e4⟩
  |ct S2=>exact λHf2 σ2 H2 Fs2 s2 R2=>⟨Hf2,S2,Fs2,R2,s'.trans s2,e4⟩
  |bk S2=>cases e4;exact λHf2 σ2 H2 Fs2 s2 R2=>h _ _ _ _ (s'.trans s2) R2
  |rt a=>cases e4;exact h
 .rintro σ' H' ⟨Hf',S',Fs',R',s',e'⟩;have hl:(rL lo n).length=n:=by unfold rL;rw[lMq,bC]
  rw[dS (gT hl)]at e';cases e';exact h _ _ _ _ s' R'
theorem O7{ta:TA}{a:ML}(ha:S6 K ta a) (hb:SS K tb body):SS K (Lw (OR ta) (uv x) tb) (Ff x a body):=by
 intro H₀ Hf₀ Hf S σ H Fs o R e D h;obtain⟨z,e1,e⟩:=oBq.mp e;obtain⟨ds,e2,e⟩:=oBq.mp e;refine ha R (ds:=z.1) (S':=z.2) e1 _ λHf1 H1 Fs1 vs t1 R1 r1=>?_
 unfold Ej at e2;split at e2
 .rename_i j hz;rcases qh e2 with ⟨hj,e2⟩|e2
  .skip
   cases e2;rw[hz]at r1;obtain⟨v,ws,rfl,h1,h2⟩:=r1.cons_inv;rw[h2.nil_inv];cases h1;exact⟨j,rfl,hj.1,hj.2,K9 hb R1 e (h.mono t1.sf)⟩
  .cases e2
 .cases e2
theorem Q3(hk:SK K te k) (hb:SS K tb body):SS K (Lw (Sq K (uM te wQ)) (QY K 2 (D6 (uv x) (D6 (uv y) Rp))) tb) (Pp x y k body):=by
 intro H₀ Hf₀ Hf S σ H Fs o R e D h;obtain⟨z,e1,e⟩:=oBq.mp e;obtain⟨ds,e2,e⟩:=oBq.mp e;have hk':SK K te (xj k):=SK.frz hk;refine hk' R (a:=z.1) (S':=z.2) e1 _ λHf1 H1 Fs1 v F t1 R1 r1 o1=>?_
 obtain⟨d,hd⟩:=DK (te:=te) e1;rw[hd]at r1;rw[hd,sm]at e2;obtain⟨a,vs,rfl,g1,g2⟩:=BB e2 r1.sh_inv.2;refine⟨a,rfl,⟨vs,R1.sub.seq g1⟩,Nt (xs:=vs) (λi σ' H'=>∃Hf' S' Fs',qt K H₀ Hf₀ Hf' S' σ' H' Fs'/\qB Hf1 Hf'/\BF x y body i (ds.drop i) S'=some o) ⟨Hf1,z.2,Fs1,R1,.refl _,e⟩
  (λi σ' H' _ ⟨Hf',S',Fs',R',s',_⟩=>R'.sub.seq (s'.seq g1)) ?_ ?_⟩
 .rintro i w σ' H' T hw ⟨Hf',S',Fs',R',s',e'⟩ hT;obtain⟨di,hdi,rw'⟩:=g2.get' hw;have hlt:i<ds.length:=(gSq.mp hdi).1;rw[aT hlt]at e';have hdi':ds[i]=di:=(gSq.mp hdi).2;rw[hdi']at e';obtain⟨ob,e3,e4⟩:=oBq.mp e';have R2:=(R'.new (o:=.tup [.int i,w]) hT).2.1;refine hb ((R2.setD x .int).setD y (rw'.mono s')) e3 _ ?_;cases ob with
  |nx S2=>exact λHf2 σ2 H2 Fs2 s2 R2=>⟨Hf2,S2,Fs2,R2,s'.trans s2,e4⟩
  |ct S2=>exact λHf2 σ2 H2 Fs2 s2 R2=>⟨Hf2,S2,Fs2,R2,s'.trans s2,e4⟩
  |bk S2=>cases e4;exact λHf2 σ2 H2 Fs2 s2 R2=>h _ _ _ _ ((t1.sf.trans s').trans s2) R2
  |rt a=>cases e4;exact h
 .rintro σ' H' ⟨Hf',S',Fs',R',s',e'⟩;rw[←g2.1,dU]at e';cases e';exact h _ _ _ _ (t1.sf.trans s') R'
theorem Dy{c:TT}{m:MT}(n:Nat) (hc:EK K c m) (hb:SS K tb body):SS K (P9 c tb) (uq m body n):=by
 intro H₀ Hf₀ Hf S σ H Fs o R e D h;refine⟨λn σ' H'=>∃Hf' S' Fs',qt K H₀ Hf₀ Hf' S' σ' H' Fs'/\qB Hf Hf'/\uq m body n S'=some o,⟨n,Hf,S,Fs,R,.refl _,e⟩,?_⟩
 rintro n σ' H' ⟨Hf',S',Fs',R',s',e'⟩;cases n with
 |zero=>cases e'
 |succ n =>
  obtain⟨z,e1,e2⟩:=oBq.mp e';refine hc R' (b:=z.1) (S':=z.2) e1 _ λHf1 H1 Fs1 t1 R1=>?_
  split at e2
  .rename_i hz;rw[hz];refine GF ⟨λσ2 H2=>∃Hf' S' Fs',qt K H₀ Hf₀ Hf' S' σ2 H2 Fs'/\qB Hf Hf'/\uq m body n S'=some o,λσ2 H2 w=>⟨n,fA n,w⟩,?_⟩
   obtain⟨ob,e3,e4⟩:=oBq.mp e2;refine hb R1 e3 _ ?_;cases ob with
   |nx S2=>exact λHf2 σ2 H2 Fs2 s2 R2=>⟨Hf2,S2,Fs2,R2,(s'.trans t1.sf).trans s2,e4⟩
   |ct S2=>exact λHf2 σ2 H2 Fs2 s2 R2=>⟨Hf2,S2,Fs2,R2,(s'.trans t1.sf).trans s2,e4⟩
   |bk S2=>cases e4;exact λHf2 σ2 H2 Fs2 s2 R2=>h _ _ _ _ ((s'.trans t1.sf).trans s2) R2
   |rt a=>cases e4;exact h
  .rename_i hz;rw[dW]at hz;rw[hz];cases e2;exact GK (h _ _ _ _ (s'.trans t1.sf) R1)
end
def vU(np n:Nat) (m:MS):MF:=λds=>if ds.length=np then (m (ds.map (λd=>some (.sh d))++ax (n-ds.length) none)).bind λo=>match o with
  | .rt a=>some a
  | .nx _=>some (.sh .non)
  |_=>none
 else none
theorem Mq{K:W.Frag}{Hf H:Hp}{ds:List D}{vs:List V}(N:List Str) (s:qB Hf H) (r:qV K Hf ds vs) :
  qt K H Hf Hf (ds.map (λd=>some (.sh d))++ax (N.length-ds.length) none) (L2.yV N vs) H (ax (ds.length+(N.length-ds.length)) []):=by
 have fl:=wA (ds.length+(N.length-ds.length));refine⟨by simp[L2.yV,r.1],by simp,λi av e=>?_,λi e=>?_,by rw[fl];exact aV,λp hp=>(by rw[fl]at hp;cases hp),s,qB.refl _,λb h _=>h,qB.refl _⟩
 .by_cases hi:i<ds.length
  .rw [gZq (by simpa using hi),gMq]at e
   obtain⟨d,e1,e2⟩:=oMq.mp e;cases e2;obtain⟨v,e3,rv⟩:=r.get e1;refine⟨v,[],?_,?_,.sh rv⟩
   .unfold L2.yV;rw[gZq (by simpa [←r.1] using hi),gMq,e3]
    rfl
   .rw [cP,qe (by lia)]
  .rw [gYq (by simpa using hi)]at e
   have:=mGq e;rw[fJ this]at e;have h2:=fJ this;cases h2
 .rw [cP];have hi:=(gSq.mp e).1;rw[lAq,lMq,bD]at hi;rw[qe hi]
theorem qH{K:W.Frag}{t:TS}{m:MS}{np:Nat}(N:List Str) (h:SS K t m) {vs:List V}{H:Hp}{Q:VK}{E:XK}(hs:rX K (vU np N.length m) vs H Q E):t { nx:=λ_ H'=>Q .non H',rt:=Q } (L2.yV N vs) H:=by
 obtain⟨Hf,ds,a,s,r,e,q⟩:=hs;unfold vU at e;split at e
 .obtain ⟨o,e1,e2⟩:=oBq.mp e;refine h (Mq N s r) e1 _ ?_;cases o with
  |rt a' =>
   cases e2;exact λHf' H' v F s1 s2 s3 l r nd fr=>q Hf' H' v F s1 s2 s3 l r nd fr
  |nx S' =>
   cases e2;exact λHf' σ' H' Fs' s1 R=>q Hf' H' .non [] R.sf R.fr R.sub R.lim (.sh .non) aV λq h=>(by cases h)
  |bk S'=>cases e2
  |ct S'=>cases e2
 .cases e
theorem sE{K:W.Frag}{m:MS}{np n:Nat}{vs:List V}{H:Hp}{Q:VK}{E:XK}(hs:rX K (vU np n m) vs H Q E):vs.length=np:=by
 obtain⟨Hf,ds,a,s,r,e,q⟩:=hs;unfold vU at e;split at e
 .rename_i h;rw[←r.1,h]
 .cases e
def fzAll:List Nat->AS->Option AS
 | [],S=>some S
 |j::js,S=>(S[j]?.join).bind λa=>fzAll js (S.set j (some (.sh (pH a))))
def Uk:Option AV->Option AV
 |some (.sh d)=>some (.sh d)
 |_=>none
def Fh(S:AS):List Nat->Option AS
 | []=>some []
 |j::js=>(Uk S[j]?.join).bind λa=>(Fh S js).map (some a :: ·)
def rF(tf:MT) (te:MK) (cap:AS):List D->Option (List AV)
 | []=>some []
 |d::ds=>(tf (some (.sh d)::cap)).bind λb=>if b.1=true then (te b.2).bind λa=>(rF tf te cap ds).map (a.1 :: ·) else rF tf te cap ds
abbrev MI:=AS->Option (List D×AS)
def Ac(k:MK):MI:=λS=>(xj k S).bind λy=>(vm (pH y.1)).map λds=>(ds,y.2)
def Vf(a:ML):MI:=λS=>(a S).bind λy=>(Ej y.1).map λds=>(ds,y.2)
def sZ(src:MI) (fr:List Nat) (tf:MT) (te:MK):MK:=λS=>(src S).bind λy=>(fzAll fr y.2).bind λS2=>(Fh S2 fr).bind λcap=>vY (y.1.length<=rY) ((rF tf te cap y.1).map λavs=>(.ow avs,S2))
def rG:MT:=λS=>some (true,S)
section
variable {K:W.Frag}{H₀ Hf₀ Hf Hf' H H':Hp}{S S':AS}{σ:St}{Fs Fs':List (List Addr)}
theorem qt.fz(R:qt K H₀ Hf₀ Hf S σ H Fs) {j:Nat}{a:AV}(e:S[j]?.join=some a):∃Hf' Fs',zZ Hf H Fs Hf' H Fs'/\qt K H₀ Hf₀ Hf' (S.set j (some (.sh (pH a)))) σ H Fs':=by
 obtain⟨v,F,s1,s2,r,nd,o,R1⟩:=R.move (qz e);have n:∀q∈F,Hf q=none:=λq hq=>(r.owned q hq).2
 have R2:=R1.frz o n;have r2:=r.frozen (tI (H:=H) n) λq hq=>Aw hq
 have R3:=R2.again (F:=F) (G:=[]) s1 (.sh r2) aV λq h=>(by cases h)
 refine⟨_,_,⟨tI n,.refl _,λp hp=>rE hp,λb h g=>?_⟩,R3⟩
 by_cases m:b∈F
 .exact .inr (mFq.mpr ⟨F,mGq s2,m⟩)
 .rw [va m]at g;exact absurd h g
theorem qt.fzAll:∀{fr:List Nat}{Hf:Hp}{S S':AS}{Fs:List (List Addr)},qt K H₀ Hf₀ Hf S σ H Fs->fzAll fr S=some S'->∃Hf' Fs',zZ Hf H Fs Hf' H Fs'/\qt K H₀ Hf₀ Hf' S' σ H Fs'
 | [],Hf,S,S',Fs,R,e=>by
  cases e;exact⟨Hf,Fs,.refl,R⟩
 |j::js,Hf,S,S',Fs,R,e=>by
  obtain⟨a,e1,e2⟩:=oBq.mp e;obtain⟨Hf1,Fs1,t1,R1⟩:=R.fz e1;obtain⟨Hf2,Fs2,t2,R2⟩:=qt.fzAll R1 e2;exact⟨Hf2,Fs2,t1.trans t2,R2⟩
theorem HJ(R:qt K H₀ Hf₀ Hf S σ H Fs):∀{fr:List Nat}{cap:AS},Fh S fr=some cap->cap.length=fr.length/\∀(k:Nat) (a:AV),cap[k]?=some (some a)->∃d v,a = .sh d/\(slots σ fr)[k]?=some (some v)/\sv K Hf d v
 | [],cap,e=>by
  cases e;exact⟨rfl,λk a h=>by simp at h⟩
 |j::js,cap,e=>by
  obtain⟨a,e1,e2⟩:=oBq.mp e;obtain⟨cap',e3,e4⟩:=oMq.mp e2;subst e4;obtain⟨h1,h2⟩:=HJ R e3;refine⟨by simp[h1],λk b hk=>?_⟩
  cases k with
  |zero =>
   cases hk;cases ej:S[j]?.join with
   |none=>rw[ej]at e1;cases e1
   |some c =>
    rw[ej]at e1;cases c with
    |sh d =>
     cases e1;obtain⟨v,F,s1,s2,r⟩:=R.rep j _ (qz ej);refine⟨d,v,rfl,?_,r.sh_inv.2⟩;show some ((σ[j]?).join)=_;rw[s1];rfl
    |_=>cases e1
  |succ k=>exact h2 k b (by simpa using hk)
theorem K1(R:qt K H₀ Hf₀ Hf S σ H Fs) {fr:List Nat}{cap:AS}(e:Fh S fr=some cap) {d:D}{x:V}(rx:sv K Hf d x) :
  qt K H₀ Hf₀ Hf (some (.sh d)::cap) (some x::slots σ fr) H (ax (cap.length+1) []):=by
 obtain⟨h1,h2⟩:=HJ R e;have fl:=wA (cap.length+1);refine⟨by simp[slots,h1],by simp,λi av ei=>?_,λi ei=>?_,by rw[fl];exact aV,λp hp=>(by rw[fl]at hp;cases hp),R.sub,R.fr,R.lim,R.sf⟩
 .cases i with
  |zero =>
   cases ei;exact⟨x,[],rfl,by simp,.sh rx⟩
  |succ k =>
   have hk:k<cap.length:=(gSq.mp (by simpa using ei)).1
   obtain⟨d',v,rfl,s1,r⟩:=h2 k av (by simpa using ei)
   exact⟨v,[],by simpa using s1,by rw[cP,qe (by lia)],.sh r⟩
 .rw [cP];have hi:=(gSq.mp ei).1;rw[qe (by simpa using hi)]
theorem qt.updOut(R:qt K H₀ Hf₀ Hf S σ H Fs) {p:Addr}{o:HO}(h1:p∉Fs.flatten) (h2:Hf p=none) (h3:H₀ p=none):qt K H₀ Hf₀ Hf S σ (rK H p o) Fs where
 len:=R.len
 lenF:=R.lenF
 rep:=λi av e=>by
  obtain⟨v,F,s1,s2,r⟩:=R.rep i av e;exact⟨v,F,s1,s2,r.keepUpd λm=>h1 (qo s2 m)⟩
 emp:=R.emp
 nd:=R.nd
 fresh:=R.fresh
 sub:=λb u e=>by
  rw[pS λz=>by rw[z,h2]at e;cases e]
  exact R.sub b u e
 fr:=λb u e=>by
  rw[pS λz=>by rw[z,h3]at e;cases e]
  exact R.fr b u e
 lim:=R.lim
 sf:=R.sf
theorem qt.outer{σ2:St}{Fs2 Fs3:List (List Addr)}{Hf3 H3:Hp}{S3:AS}(R:qt K H₀ Hf₀ Hf S σ H Fs) (R3:qt K H₀ Hf₀ Hf3 S3 σ2 H3 Fs3) (t:zZ Hf H Fs2 Hf3 H3 Fs3) (h0:Fs2.flatten=[]):zZ Hf H Fs Hf3 H3 Fs/\qt K H₀ Hf₀ Hf3 S σ H3 Fs:=by
 have g:∀b,Hf b=none->H b≠none->Hf3 b=none:=λb h1 h2=>by
  by_cases e:Hf3 b=none
  .exact e
  .rcases t.gr b h1 e with z|z
   .exact absurd z h2
   .rw [h0]at z;cases z
 exact⟨⟨t.sf,t.sh,λ_ h=>h,λb h1 h2=>.inl (by
  by_cases e:H b=none
  .exact e
  .exact absurd (g b h1 e) h2)⟩,R.more t.sh t.sf R3.sub (λq hq=>g q (R.mem hq).2 (R.mem hq).1) R3.lim⟩
end
section
variable {K:W.Frag}{tf:TT}{te:TE}{mf:MT}{me:MK}{fr:List Nat}
theorem zX{H₀ Hf₀ Hf1 H1:Hp}{S1:AS}{σ:St}{Fs1:List (List Addr)}{cap:AS}{ds:List D}{avs:List AV}{J:It}{Q:VK}(hf:EK K tf mf) (he:SK K te me)
  (R1:qt K H₀ Hf₀ Hf1 S1 σ H1 Fs1) (ec:Fh S1 fr=some cap) (hl:ds.length<=rY) (e:rF mf me cap ds=some avs)
  (hgo:∀i H,qB Hf1 H->i<ds.length->J.go i H) (hst:∀H,qB Hf1 H->J.stop ds.length H) (hy:∀i H x H',qB Hf1 H->i<ds.length->J.yld i H x H'->H'=H/\∃d,ds[i]?=some d/\sv K Hf1 d x)
  (q:∀Hf' H' v F,zZ Hf1 H1 Fs1 Hf' H' Fs1->qt K H₀ Hf₀ Hf' S1 σ H' Fs1->qr K Hf' H' (.ow avs) v F->za H₀ H1 Fs1 Fs1 F->Q v H') :
  ∀acc,H1 acc=none->∃W:Nat->Nat->Hp->Prop,(∃m,W 0 m (rK H1 acc (.lst [])))/\∀i m H,W i m H ->
   (J.stop i H/\Q (.ref acc) H) ∨
   (J.go i H/\∃N:Hp->Prop,(∀H',N H'->∃m',m'<m/\W (i+1) m' H')/\∀x H',J.yld i H x H'->tf (some x::slots σ fr) H' λb H2 =>
    if b=true then te (some x::slots σ fr) H2 λy H3=>∃ys,H3 acc=some (.lst ys)/\ys.length<kK/\N (rK H3 acc (.lst (ys++[y]))) else N H2):=by
 intro acc hacc;obtain⟨t0,R0,n1,n2,n3⟩:=R1.new (o:=.lst []) hacc
 let P:Nat->Hp->Prop:=λi H=>∃Hf as vs Gs rest,qt K H₀ Hf₀ Hf S1 σ H Fs1/\zZ Hf1 H1 Fs1 Hf H Fs1/\H acc=some (.lst vs)/\Hf acc=none/\qu K Hf H as vs Gs/\za H₀ H1 Fs1 Fs1 (acc::Gs.flatten)/\as.length<=i /\
  rF mf me cap (ds.drop i)=some rest/\avs=as++rest
 refine⟨λi m H=>m=ds.length-i/\i<=ds.length/\P i H,⟨ds.length,by simp,bq _,Hf1,[],[],[],avs,R0,t0,qa,n1,.nil,za.one R1 hacc,bq _,e,rfl⟩,?_⟩
 rintro i m H ⟨rfl,hi,Hf,as,vs,Gs,rest,R,t,ha,hfa,ra,ow,la,er,ea⟩;have hs:qB Hf1 H:=t.sf.trans R.sub
 by_cases hlt:i<ds.length
 .refine .inr ⟨hgo i H hs hlt,P (i+1),λH' p=>⟨ds.length-(i+1),by lia,rfl,hlt,p⟩,λx H' y=>?_⟩
  obtain⟨rfl,d,hd,rx⟩:=hy i H x H' hs hlt y;rw[aT hlt,(gSq.mp hd).2]at er;obtain⟨b,e1,e2⟩:=oBq.mp er;have fl:=wA (cap.length+1);refine hf (K1 R ec (rx.mono t.sf)) (b:=b.1) (S':=b.2) e1 _ λHf2 H2 Fs2 t2 R2=>?_
  obtain⟨t2',R2'⟩:=R.outer R2 t2 fl;have ha2:H2 acc=some (.lst vs):=t2.sh _ _ ha;have hfa2:Hf2 acc=none:=by
   by_cases z:Hf2 acc=none
   .exact z
   .rcases t2.gr acc hfa z with z|z
    .rw [ha]at z;cases z
    .rw [fl]at z;cases z
  have ra2:=ra.stp (λq hq=>ow.out q (mCo _ hq)) t2'
  split at e2
  .rename_i hb;rw[hb];refine GF ?_;obtain⟨a,e3,e4⟩:=oBq.mp e2;obtain⟨rest',e5,e6⟩:=oMq.mp e4;subst e6;refine he R2 (a:=a.1) (S':=a.2) e3 _ λHf3 H3 Fs3 v F t3 R3 r3 o3=>?_
   have fl2:Fs2.flatten=[]:=by
    cases hz:Fs2.flatten with
    |nil=>rfl
    |cons z zs =>
     have:=t2.own z (by rw[hz];simp)
     rw[fl]at this;cases this
   obtain⟨t3',R3'⟩:=R2'.outer R3 t3 fl2;have ha3:H3 acc=some (.lst vs):=t3.sh _ _ ha2;have hfa3:Hf3 acc=none:=by
    by_cases z:Hf3 acc=none
    .exact z
    .rcases t3.gr acc hfa2 z with z|z
     .rw [ha2]at z;cases z
     .rw [fl2]at z;cases z
   have ra3:=ra2.stp (λq hq=>ow.out q (mCo _ hq)) t3'
   have newF:∀q∈F,H2 q=none:=λq hq=>(o3.new q hq).elim id λz=>by rw[fl2]at z;cases z
   have accF:acc∉F:=λm=>by rw[newF acc m]at ha2;cases ha2
   have accG:acc∉Gs.flatten:=(aq.mp ow.nd).1;have tt:=(t.trans t2').trans t3';refine⟨vs,ha3,?_,?_⟩
   .rw [vx,←ra.1];lia
   .refine ⟨Hf3,as++[a.1],vs++[v],Gs++[F],rest',R3'.updOut n3 hfa3 n2,⟨tt.sf,λb o eb=>?_,λ_ h=>h,tt.gr⟩,qa,hfa3,(ra3.keepUpd accG).snoc (r3.keepUpd accF),?_,by rw[lAq,lSq];lia,e5,by rw[ea];simp⟩
    .rw [pS λz=>by rw[z,hacc]at eb;cases eb]
     exact tt.sh b o eb
    .rw [fAq,bO];have oF:za H₀ H1 Fs1 Fs1 F:=⟨o3.nd,o3.fr,λq hq m=>(R2'.mem m).1 (newF q hq),λq hq=>.inl ((t.trans t2').sh.free (newF q hq))⟩
     refine(show za H₀ H1 Fs1 Fs1 ((acc::Gs.flatten)++F) from ow.app oF λq hq m=>?_)
     rcases ae.mp hq with z|z
     .rw [z]at m;exact accF m
     .exact (ra2.owned q z).1 (newF q m)
  .rename_i hb;rw[dW]at hb;rw[hb];exact GK ⟨Hf2,as,vs,Gs,rest,R2',t.trans t2',ha2,hfa2,ra2,ow,by lia,e2,ea⟩
 .have e0:i=ds.length:=by lia
  subst e0;rw[dU]at er;cases er;rw[aNq]at ea;subst ea;exact .inl ⟨hst H hs,q Hf H (.ref acc) _ t R (qr.news ha hfa ra) ow⟩
theorem sS{tl:TE}{k:MK}(hk:SK K tl k) (hf:EK K tf mf) (he:SK K te me):SK K (E6 (Ki K tl) fr tf te) (sZ (Ac k) fr mf me):=by
 intro H₀ Hf₀ Hf S σ H Fs av S' R e Q q;obtain⟨y,e1,e⟩:=oBq.mp e;obtain⟨z,e0,e1⟩:=oBq.mp e1;obtain⟨ds,e2,e1⟩:=oMq.mp e1;subst e1;obtain⟨S2,e3,e⟩:=oBq.mp e;obtain⟨cap,e4,e⟩:=oBq.mp e;rcases qh e with ⟨hl,e⟩|e
 .obtain ⟨avs,e5,e⟩:=oMq.mp e;cases e;have hk':SK K tl (xj k):=SK.frz hk;refine hk' R (a:=z.1) (S':=z.2) e0 _ λHf1 H1 Fs1 v F t1 R1 r1 o1=>?_
  obtain⟨d,hd⟩:=DK (te:=tl) e0;rw[hd]at r1;rw[hd,sm]at e2;obtain⟨Hf2,Fs2,t2,R2⟩:=R1.fzAll e3;obtain⟨a,vs,rfl,g1,g2⟩:=BB e2 (r1.sh_inv.2.mono t2.sf);refine⟨a,rfl,⟨vs,R2.sub.seq g1⟩,zX (K:=K) hf he R2 e4 hl e5 (λi H s hi=>⟨vs,vs[i]'(g2.1 ▸ hi),s.seq g1,gEg (g2.1 ▸ hi)⟩) (λH s=>⟨vs,s.seq g1,gT g2.1.symm⟩) (λi H x H' s hi y=>?_) λHf' H' v F t R' r o=>q _ _ _ v F ((t1.trans t2).trans t) R' r (o.back (t1.trans t2))⟩
  obtain⟨y1,y2⟩:=y;obtain⟨di,h1,h2⟩:=g2.get' (y2 vs (s.seq g1));exact⟨y1,di,h1,h2⟩
 .cases e
theorem AB{lo:Int}{n i:Nat}(h:i<n):(rL lo n)[i]?=some (.int (lo+i)):=by
 unfold rL;rw[gMq,dO h];rfl
theorem tm(lo:Int) (n:Nat):(rL lo n).length=n:=by unfold rL;rw[lMq,bC]
theorem Ep{ta:TA}{a:ML}(ha:S6 K ta a) (hf:EK K tf mf) (he:SK K te me):SK K (E6 (OR ta) fr tf te) (sZ (Vf a) fr mf me):=by
 intro H₀ Hf₀ Hf S σ H Fs av S' R e Q q;obtain⟨y,e1,e⟩:=oBq.mp e;obtain⟨z,e0,e1⟩:=oBq.mp e1;obtain⟨ds,e2,e1⟩:=oMq.mp e1;subst e1;obtain⟨S2,e3,e⟩:=oBq.mp e;obtain⟨cap,e4,e⟩:=oBq.mp e;rcases qh e with ⟨hl,e⟩|e
 .obtain ⟨avs,e5,e⟩:=oMq.mp e;cases e;refine ha R (ds:=z.1) (S':=z.2) e0 _ λHf1 H1 Fs1 vs t1 R1 r1=>?_
  unfold Ej at e2;split at e2
  .rename_i j hz;rcases qh e2 with ⟨hj,e2⟩|e2
   .skip
    cases e2;rw[hz]at r1;obtain⟨v,ws,rfl,h1,h2⟩:=r1.cons_inv;rw[h2.nil_inv];cases h1;obtain⟨Hf2,Fs2,t2,R2⟩:=R1.fzAll e3;refine⟨j,rfl,hj.1,hj.2,zX (K:=K) hf he R2 e4 hl e5 (λi H s hi=>(by rw[tm]at hi;exact hi)) (λH s=>(by rw[tm];exact aj _)) (λi H x H' s hi y=>?_) λHf' H' v F t R' r o=>q _ _ _ v F ((t1.trans t2).trans t) R' r (o.back (t1.trans t2))⟩
    obtain⟨y1,y2⟩:=y;rw[tm]at hi;exact⟨y1,_,AB hi,by rw[y2];exact .int⟩
   .cases e2
  .cases e2
 .cases e
theorem uF:EK K WC rG:=by
 intro H₀ Hf₀ Hf S σ H Fs b S' R e Q q;cases e;exact q _ _ _ .refl R
end
mutual
def py:D->Option PyData
 | .non=>some .none
 | .bl b=>some (.bool b)
 | .int i=>some (.int i)
 | .str x=>some (.str x)
 | .list ds=>(LS ds).map .list
 | .tup ds=>(LS ds).map .tuple
 |_=>none
def LS:List D->Option (List PyData)
 | []=>some []
 |d::ds=>(py d).bind λx=>(LS ds).map (x :: ·)
end
section
variable {X:Cx}
theorem zK{h:Heap}:∀{ds:List D}{vs:List V}{its:List Value}{xs:List PyData},(∀(i:Nat) (d:D) (v:V),ds[i]?=some d->vs[i]?=some v->∀u x,qN v u->py d=some x->∃as,Reads h u x as)->ds.length=vs.length->qv vs its->LS ds=some xs->∃as,ReadsAll h its xs as
 | [],vs,its,xs,_,hl,hv,e=>by
  have:vs=[]:=bc.mp hl.symm;subst this;cases hv;simp only[LS]at e;cases e;exact⟨_,.nil⟩
 |d::ds,vs,its,xs,ih,hl,hv,e=>by
  cases vs with
  |nil=>simp at hl
  |cons v vs =>
   cases hv with
   |cons r t =>
    simp only[LS]at e;obtain⟨x,e1,e2⟩:=oBq.mp e;obtain⟨ys,e3,e4⟩:=oMq.mp e2;subst e4;obtain⟨as,h1⟩:=ih 0 d v rfl rfl _ x r e1;obtain⟨bs,h2⟩:=zK (λi d' v' q1 q2=>ih (i+1) d' v' (by simpa using q1) (by simpa using q2)) (by simpa using hl) t e3
    exact⟨_,.cons h1 h2⟩
theorem A5{oV:List (Addr×Obj)}{σ:St}{H:Hp}{s:Shared}(I:Inv X oV σ H s) {d:D}{v:V}(r:sv X.K H d v):∀(u:Value) (x:PyData),qN v u->py d=some x->∃as,Reads s.heap u x as:=by
 induction r with
 |non=>intro u x ru e;cases ru;simp only[py]at e;cases e;exact⟨_,.none⟩
 |bl=>intro u x ru e;cases ru;simp only[py]at e;cases e;exact⟨_,.bool _⟩
 |int=>intro u x ru e;obtain⟨t,rfl⟩:=ru;simp only[py]at e;cases e;exact⟨_,.int _ _⟩
 |str=>intro u x ru e;obtain⟨t,rfl⟩:=ru;simp only[py]at e;cases e;exact⟨_,.str _ _⟩
 |ty=>intro u x ru e;simp only[py]at e;cases e
 |list h l _ ih =>
  intro u x ru e;cases ru;simp only[py]at e;obtain⟨xs,e1,rfl⟩:=oMq.mp e;obtain⟨its,rv,hl,hz⟩:=I.list (tJ.of h);obtain⟨o,ho,hc,n,hd⟩:=hl.isList;obtain⟨as,e2⟩:=zK ih l rv e1;exact⟨_,Reads.list ho hc hd (by simpa using e2)⟩
 |tup h l _ ih =>
  intro u x ru e;cases ru;simp only[py]at e;obtain⟨xs,e1,rfl⟩:=oMq.mp e;obtain⟨its,rv,⟨o,ho,hc,n,hd⟩,hz⟩:=I.tuple (IT.of h);obtain⟨as,e2⟩:=zK ih l rv e1;exact⟨_,Reads.tuple ho hc hd (by simpa using e2)⟩
 |dict h l _ ih=>intro u x ru e;simp only[py]at e;cases e
 |fd h l _ ih=>intro u x ru e;simp only[py]at e;cases e
 |scr h=>intro u x ru e;simp only[py]at e;cases e
 |exc rf nf h hx=>intro u x ru e;simp only[py]at e;cases e
 |exc0 rf h=>intro u x ru e;simp only[py]at e;cases e
 |cls h=>intro u x ru e;simp only[py]at e;cases e
 |ins rf h l _ ih=>intro u x ru e;simp only[py]at e;cases e
def QO(K:W.Frag) (neg:Bool):R2:=λx y H Q=>∃(d e:D) (a b:PyData),sv K H d x/\sv K H e y/\py d=some a/\py e=some b/\SeqAt.shaped a=true/\SeqAt.shaped b=true/\SeqAt.noMix a b=true /\
 Q (.bl (if neg then !(PySem.Spec.same a b) else PySem.Spec.same a b)) H
theorem PP(hu:X.A.units+64<lZ):Ef X (lz .Eq) (QO X.K false):=by
 intro oV s σ H x y v u Q I rx ry h;obtain⟨d,e,a,b,h1,h2,p1,p2,s1,s2,nm,q⟩:=h;obtain⟨as,r1⟩:=A5 I h1 _ _ rx p1;obtain⟨bs,r2⟩:=A5 I h2 _ _ ry p2;exact ke r1 r2 s1 s2 hu nm (qI I q rfl)
theorem Oj(hu:X.A.units+64<lZ):Ef X (lz .NotEq) (QO X.K true):=by
 intro oV s σ H x y v u Q I rx ry h;obtain⟨d,e,a,b,h1,h2,p1,p2,s1,s2,nm,q⟩:=h;obtain⟨as,r1⟩:=A5 I h1 _ _ rx p1;obtain⟨bs,r2⟩:=A5 I h2 _ _ ry p2;exact kf r1 r2 s1 s2 hu nm (qI I q rfl)
end
def DV(d e:D):Option D:=(py d).bind λa=>(py e).bind λb=>if SeqAt.shaped a=true/\SeqAt.shaped b=true/\SeqAt.noMix a b=true then some (.bl (PySem.Spec.same a b)) else none
def GS(d e:D):Option D:=(DV d e).bind K0
section
variable {K:W.Frag}
theorem Pr:ET K (QO K false) DV:=by
 intro x y H Q dx dy d rx ry e q;obtain⟨a,e1,e⟩:=oBq.mp e;obtain⟨b,e2,e⟩:=oBq.mp e;split at e
 .rename_i h;cases e;exact⟨dx,dy,a,b,rx,ry,e1,e2,h.1,h.2.1,h.2.2,q _ .bl⟩
 .cases e
theorem MR:ET K (QO K true) GS:=by
 intro x y H Q dx dy d rx ry e q;obtain⟨c,e,e'⟩:=oBq.mp e;obtain⟨a,e1,e⟩:=oBq.mp e;obtain⟨b,e2,e⟩:=oBq.mp e;split at e
 .rename_i h;cases e;cases e';exact⟨dx,dy,a,b,rx,ry,e1,e2,h.1,h.2.1,h.2.2,q _ .bl⟩
 .cases e
end
abbrev dI(ns:List Int):D:=.list (ns.map .int)
abbrev dM(rs:List (List Int)):D:=.list (rs.map dI)
theorem NK(ns:List Int):LS (ns.map .int)=some (ns.map PyData.int):=by
 induction ns with
 |nil=>simp[LS]
 |cons n ns ih=>simp[LS,py,ih]
theorem Tc(ns:List Int):py (dI ns)=some (xh ns):=by
 show py (.list _)=_;simp only[py,NK];rfl
theorem ND(rs:List (List Int)):LS (rs.map dI)=some (rs.map xh):=by
 induction rs with
 |nil=>simp[LS]
 |cons r rs ih =>
  show LS (dI r::rs.map dI)=_;simp only[LS,Tc,ih];rfl
theorem Vp(rs:List (List Int)):py (dM rs)=some (AN rs):=by
 show py (.list _)=_;simp only[py,ND];rfl
theorem DU(r:List Int):SeqAt.shaped (xh r)=true:=by
 have h2:=W.depthAll_ints r;have h3:PyData.depth (xh r)<=64:=by simp only[xh,PyData.depth];lia
 show (PyData.canLay0 (xh r) && decide (PyData.depth (xh r)<=64))=true;rw[fu];exact⟨by simp only[xh,PyData.canLay0];exact W.canLayAll0_ints r,decide_eq_true h3⟩
@[simp] theorem XB (ns ms:List Int):DV (dI ns) (dI ms)=some (.bl (decide (ns=ms))):=by
 unfold DV;rw[Tc,Tc];show (if _ then _ else _)=_
 rw[qe ⟨DU ns,DU ms,by simp only[xh,SeqAt.noMix];exact W.noMix_ints ns ms⟩]
 simp only[xh,PySem.Spec.same,W.same_ints]
@[simp] theorem OJ (rs ts:List (List Int)):DV (dM rs) (dM ts)=some (.bl (decide (rs=ts))):=by
 unfold DV;rw[Vp,Vp];show (if _ then _ else _)=_
 rw[qe ⟨Ca rs,Ca ts,by simp only[AN,SeqAt.noMix];exact Dc rs ts⟩]
 simp only[AN,PySem.Spec.same,Ew]
@[simp] theorem Tg (rs ts:List (List Int)):GS (dM rs) (dM ts)=some (.bl (!decide (rs=ts))):=by unfold GS;rw[OJ];rfl
def Cd(l:ML):MK:=λS=>(l S).map λx=>(.ow (x.1.map .sh),x.2)
def CU(l:ML):MK:=λS=>(l S).bind λx=>(tQ x.1).map λns=>(.ow ((rO ns).map λn=>.sh (.int n)),x.2)
def zb:List D->Option (List (List Int))
 | []=>some []
 | .list ds::es=>(tQ ds).bind λr=>(zb es).map (r :: ·)
 |_=>none
theorem EJ:∀{ds:List D}{rs:List (List Int)},zb ds=some rs->ds=rs.map dI
 | [],rs,h=>by cases h;rfl
 |d::ds,rs,h=>by
  cases d with
  |list es =>
   obtain⟨r,h1,h⟩:=oBq.mp (show (tQ es).bind (λr=>(zb ds).map (r :: ·))=some rs from h)
   obtain⟨ts,h2,h3⟩:=oMq.mp h;subst h3;rw[EJ h2,vE h1];rfl
  |_=>cases h
@[simp] theorem IG (rs:List (List Int)):zb (rs.map dI)=some rs:=by
 induction rs with
 |nil=>rfl
 |cons r rs ih =>
  show (tQ (r.map .int)).bind (λr=>(zb (rs.map dI)).map (r :: ·))=_
  rw[wK,ih];rfl
def W3(l:ML):MK:=λS=>(l S).bind λx=>(zb x.1).map λrs=>(.ow ((tR rs).map λr=>.sh (dI r)),x.2)
section
variable {K:W.Frag}{te:TE}{l:ML}
theorem KM(hl:SQ K te l):SK K (Qe (λxs H Q=>∃p ys,xs=[.ref p]/\(tJ K H p ys∨IT K H p ys)/\∀l,H l=none->Q (.ref l) (rK H l (.lst ys))) (uM te wQ)) (Cd l):=by
 intro H₀ Hf₀ Hf S σ H Fs av S' R e Q q;obtain⟨x,e1,e⟩:=oMq.mp e;cases e;refine hl R (ds:=x.1) (S':=x.2) e1 _ λHf1 H1 Fs1 p1 vs1 t1 R1 h1 r1=>⟨p1,vs1,rfl,.inl h1,λp hp=>?_⟩
 obtain⟨t4,R4,n1,n2,n3⟩:=R1.new (o:=.lst vs1) hp;exact q _ _ _ (.ref p) [p] (t1.trans t4) R4 (qr.new qa n1 r1) ((za.one R1 hp).back t1)
theorem zo(ns:List Int):(ns.map λn=>AV.sh (.int n))=(ns.map D.int).map .sh:=by rw[mPq];rfl
theorem OL(hl:SQ K te l):SK K (Qe (λxs H Q=>∃(a:Addr) (ns:List Int),xs=[.ref a]/\tJ K H a (ns.map V.int)/\∀p,H p=none->Q (.ref p) (rK H p (.lst ((rO ns).map V.int)))) (uM te wQ)) (CU l):=by
 intro H₀ Hf₀ Hf S σ H Fs av S' R e Q q;obtain⟨x,e1,e⟩:=oBq.mp e;obtain⟨ns,e2,e⟩:=oMq.mp e;cases e;refine hl R (ds:=x.1) (S':=x.2) e1 _ λHf1 H1 Fs1 p1 vs1 t1 R1 h1 r1=>?_
 rw[vE e2]at r1;rw[tN r1]at h1;refine⟨p1,ns,rfl,h1,λp hp=>?_⟩
 obtain⟨t4,R4,n1,n2,n3⟩:=R1.new (o:=.lst ((rO ns).map V.int)) hp;rw[zo]at q;exact q _ _ _ (.ref p) [p] (t1.trans t4) R4 (qr.new qa n1 (uK _)) ((za.one R1 hp).back t1)
theorem Ao{H:Hp}:∀{rs:List (List Int)}{vs:List V},qV K H (rs.map dI) vs->∃ps,vs=ps.map V.ref/\rZ H ps rs
 | [],vs,h=>⟨[],h.nil_inv,.nil⟩
 |r::rs,vs,h=>by
  obtain⟨v,ws,rfl,h1,h2⟩:=qV.cons_inv (d:=dI r) (ds:=rs.map dI) h;obtain⟨p,us,rfl,h3,h4⟩:=h1.list_inv;rw[tN h4]at h3;obtain⟨ps,rfl,h5⟩:=Ao h2;exact⟨p::ps,rfl,rZ.cons_iff.mpr ⟨h3,h5⟩⟩
end
def V4:String->D->Bool
 |T,.list _=>T == "list"
 |T,.scr _=>T == "list"
 |T,.str _=>T == "str"
 |_,_=>false
def Xx(T:String) (f:D->List D->Option D) (a:ME) (as:ML):ME:=λS=>(a S).bind λx=>if V4 T x.1=true then (as x.2).bind λy=>(f x.1 y.1).map λd=>(d,y.2) else none
def Ye(K:W.Frag) (r:V->List V->Hp->VK->Prop) (f:D->List D->Option D):Prop:=∀{x:V}{vs:List V}{H:Hp}{Q:VK}{dx:D}{ds:List D}{d:D},sv K H dx x->qV K H ds vs->f dx ds=some d->(∀v,sv K H d v->Q v H)->r x vs H Q
section
variable {K:W.Frag}{te:TE}{ta:TA}{a:ME}{as:ML}{r:V->List V->Hp->VK->Prop}{f:D->List D->Option D}{T:String}
theorem Ue{H:Hp}{d:D}{v:V}(h:V4 T d=true) (rv:sv K H d v):Vy K T v H:=by
 cases rv <;> simp only[V4]at h
 all_goals first|(exfalso;simp at h;done)|skip
 .exact eq_of_beq h
 .rename_i p vs ds h1 l e;exact .inl ⟨eq_of_beq h,vs,tJ.of h1⟩
 .rename_i p ns h1;exact .inl ⟨eq_of_beq h,_,h1⟩
theorem SZ(hr:Ye K r f) (ha:SR K te a) (hs:S6 K ta as):SR K (Qg K T r te ta) (Xx T f a as):=by
 intro H₀ Hf₀ Hf S σ H Fs d S' R e Q q;obtain⟨x,e1,e⟩:=oBq.mp e;split at e
 .rename_i hT;obtain⟨y,e2,e⟩:=oBq.mp e;obtain⟨z,e3,e⟩:=oMq.mp e;cases e;refine ha R (d:=x.1) (S':=x.2) e1 _ λHf1 H1 Fs1 v t1 R1 r1=>⟨Ue hT r1,hs R1 (ds:=y.1) (S':=y.2) e2 _ λHf2 H2 Fs2 vs t2 R2 r2=>?_⟩
  exact hr (r1.mono t2.sh) r2 e3 λv rv=>q _ _ _ v (t1.trans t2) R2 rv
 .cases e
def Gg:D->List D->Option D
 | .list ds,[.int k]=>(tQ ds).bind λns=>if k∈ns then some (.int (ns.idxOf k:Nat)) else none
 |_,_=>none
theorem GU:Ye K (NG K) Gg:=by
 intro x vs H Q dx ds d rx rs e q;unfold Gg at e;split at e
 .rename_i es k;obtain⟨ns,e1,e⟩:=oBq.mp e;split at e
  .rename_i hk;cases e;obtain⟨v,ws,rfl,h1,h2⟩:=rs.cons_inv;rw[h2.nil_inv];cases h1;rw[vE e1]at rx;obtain⟨p,us,rfl,h3,h4⟩:=rx.list_inv;rw[tN h4]at h3;exact⟨p,ns,k,rfl,rfl,tJ.of h3,hk,q _ .int⟩
  .cases e
 .cases e
def Kk(a:ME):ME:=λS=>(a S).bind λx=>match x.1 with
 | .list ds=>(zb ds).map λrs=>(.int (rs.countP (·=([]:List Int)):Nat),x.2)
 |_=>none
theorem JT(ha:SR K te a):SR K (Qg K "list" Oz te (uM (Rc wQ) wQ)) (Kk a):=by
 intro H₀ Hf₀ Hf S σ H Fs d S' R e Q q;obtain⟨x,e1,e⟩:=oBq.mp e;refine ha R (d:=x.1) (S':=x.2) e1 _ λHf1 H1 Fs1 v t1 R1 r1=>?_
 split at e
 .rename_i ds hx;obtain⟨rs,e2,e⟩:=oMq.mp e;cases e;rw[hx,EJ e2]at r1;obtain⟨p,us,rfl,h3,h4⟩:=r1.list_inv;obtain⟨ps,rfl,hE⟩:=Ao h4;refine⟨.inl ⟨rfl,_,tJ.of h3⟩,bq _,λb hb=>?_⟩
  obtain⟨t4,R4,n1,n2,n3⟩:=R1.new (o:=.lst []) hb;refine⟨p,b,ps,rs,[],rfl,rfl,(by rw[pS (rM h3 hb)];exact h3),hE.same t4.sh,qa,hE.free (H:=H1) hb,q _ _ _ _ (t1.trans t4) R4 .int⟩
 .cases e
def XH:D->Option Bool
 | .non=>some false
 | .bl b=>some b
 | .int i=>some (i != 0)
 | .list ds=>some (!ds.isEmpty)
 | .tup ds=>some (!ds.isEmpty)
 | .dict ds=>some (!ds.isEmpty)
 |_=>none
def Yv(a:ME):MT:=λS=>(a S).bind λx=>(XH x.1).map λb=>(b,x.2)
end
def qM:AV->List Nat->Option (List AV)
 | .ow avs,[]=>some avs
 | .ow avs,j::js=>(avs[j]?).bind λa=>qM a js
 |_,_=>none
def putAt:AV->List Nat->List AV->AV
 | .ow _,[],as=>.ow as
 | .ow avs,j::js,as=>match avs[j]? with
  |some a=>.ow (avs.set j (putAt a js as))
  |none=>.ow avs
 |a,_,_=>a
def FC(H:Hp):V->List Nat->V->Prop
 |v,[],w=>v=w
 |v,j::js,w=>∃p vs u,v = .ref p/\H p=some (.lst vs)/\vs[j]?=some u/\FC H u js w
section
variable {K:W.Frag}{H₀ Hf₀ Hf Hf' H H':Hp}{S S':AS}{σ:St}{Fs Fs':List (List Addr)}
theorem yT:∀{Fs:List (List Addr)}{F G:List Addr}(i:Nat),Fs.flatten.Nodup->Fs[i]?=some G->F.Nodup->(∀p∈F,p∈G∨p∉Fs.flatten)->(Fs.set i F).flatten.Nodup
 | [],F,G,i,h,e,_,_=>by simp at e
 |E::Gs,F,G,0,h,e,hF,hd=>by
  simp at e;subst e;rw[cJ,fCq,nAq];rw[fCq,nAq]at h;refine⟨hF,h.2.1,λa ha b hb e=>?_⟩
  subst e;rcases hd a ha with z|z
  .exact h.2.2 a z a hb rfl
  .exact z (by rw[fCq];exact ag _ hb)
 |E::Gs,F,G,i+1,h,e,hF,hd=>by
  rw[dh,fCq,nAq];rw[fCq,nAq]at h;have e':Gs[i]?=some G:=by simpa using e
  refine⟨h.1,yT i h.2.1 e' hF λp hp=>(hd p hp).imp id λz m=>z (by rw[fCq];exact ag _ m),λa ha b hb e=>?_⟩
  subst e;rcases tE hb with q|q
  .rcases hd a q with z|z
   .exact h.2.2 a ha a (mFq.mpr ⟨G,mGq e',z⟩) rfl
   .exact z (by rw[fCq];exact ah _ ha)
  .exact h.2.2 a ha a q rfl
theorem DT:∀{Fs:List (List Addr)}{F G:List Addr}{i j:Nat}{p:Addr},Fs.flatten.Nodup->Fs[i]?=some F->Fs[j]?=some G->i≠j->p∈F->p∉G
 | [],F,G,i,j,p,_,e,_,_,_,_=>by simp at e
 |E::Es,F,G,0,0,p,h,e,f,n,_,_=>n rfl
 |E::Es,F,G,0,j+1,p,h,e,f,n,hp,m=>by
  simp at e;subst e;rw[fCq,nAq]at h;exact h.2.2 p hp p (mFq.mpr ⟨G,mGq (i:=j) (by simpa using f),m⟩) rfl
 |E::Es,F,G,i+1,0,p,h,e,f,n,hp,m=>by
  simp at f;subst f;rw[fCq,nAq]at h;exact h.2.2 p m p (mFq.mpr ⟨F,mGq (i:=i) (by simpa using e),hp⟩) rfl
 |E::Es,F,G,i+1,j+1,p,h,e,f,n,hp,m=>by
  rw[fCq,nAq]at h;exact DT h.2.1 (i:=i) (j:=j) (by simpa using e) (by simpa using f) (λz=>n (by rw[z])) hp m
theorem qr.path:∀{path:List Nat}{av:AV}{v:V}{F:List Addr}{as:List AV},qr K Hf H av v F->F.Nodup->qM av path=some as->∃p vs Gs,FC H v path (.ref p)/\H p=some (.lst vs)/\Hf p=none/\qu K Hf H as vs Gs/\p∈F/\p∉Gs.flatten/\Gs.flatten.Nodup/\(∀q∈Gs.flatten,q∈F) /\
  ∀as' vs' Gs',qu K Hf (rK H p (.lst vs')) as' vs' Gs'->(p::Gs'.flatten).Nodup->(∀q∈Gs'.flatten,q∈Gs.flatten∨q∉F)->∃F',qr K Hf (rK H p (.lst vs')) (putAt av path as') v F'/\F'.Nodup/\∀q∈F',q∈F∨q∈Gs'.flatten
 | [],av,v,F,as,r,nd,e=>by
  cases av with
  |ow avs =>
   cases e;obtain⟨p,vs,Gs,rfl,rfl,h1,h2,h3⟩:=r.ow_inv;have n:=aq.mp nd;refine⟨p,vs,Gs,rfl,h1,h2,h3,by simp,n.1,n.2,λq hq=>mCo _ hq,λas' vs' Gs' r' nd' _=>⟨p::Gs'.flatten,qr.news qa h2 r',nd',λq hq=>?_⟩⟩
   rcases ae.mp hq with z|z
   .exact .inl (by rw[z];simp)
   .exact .inr z
  |_=>cases e
 |j::js,av,v,F,as,r,nd,e=>by
  cases av with
  |ow avs =>
   obtain⟨a,e1,e2⟩:=oBq.mp (show (avs[j]?).bind (λa=>qM a js)=some as from e)
   obtain⟨p0,vs0,Gs0,rfl,rfl,h1,h2,h3⟩:=r.ow_inv;have n:=aq.mp nd;have hj:j<avs.length:=(gSq.mp e1).1;have hv:vs0[j]?=some (vs0[j]'(h3.1 ▸ hj)):=gEg _;have hg:Gs0[j]?=some (Gs0[j]'(h3.2.1 ▸ hj)):=gEg _;generalize vs0[j]'(h3.1 ▸ hj)=vj at hv;generalize Gs0[j]'(h3.2.1 ▸ hj)=Fj at hg;have rj:=h3.2.2 j a vj Fj e1 hv hg;have ndj:Fj.Nodup:=aZ.sublist (aO (mGq hg)) n.2;have sub:∀q∈Fj,q∈Gs0.flatten:=λq hq=>qo hg hq
   obtain⟨p,vs,Gs,g1,g2,g3,g4,g5,g6,g6',g7,g8⟩:=qr.path rj ndj e2;have pne:p0≠p:=λz=>n.1 (z ▸ sub p g5)
   refine⟨p,vs,Gs,⟨p0,vs0,vj,rfl,h1,hv,g1⟩,g2,g3,g4,mCo _ (sub p g5),g6,g6',λq hq=>mCo _ (sub q (g7 q hq)),λas' vs' Gs' r' nd' hd=>?_⟩
   obtain⟨F',k1,k2,k3⟩:=g8 as' vs' Gs' r' nd' λq hq=>(hd q hq).imp id λz m=>z (mCo _ (sub q m))
   have hF':∀q∈F',q∈Fj∨q∉Gs0.flatten:=λq hq=>by
    rcases k3 q hq with z|z
    .exact .inl z
    .rcases hd q z with y|y
     .exact .inl (g7 q y)
     .exact .inr λm=>y (mCo _ m)
   refine⟨p0::(Gs0.set j F').flatten,?_,aq.mpr ⟨λm=>?_,yT j n.2 hg k2 hF'⟩,λq hq=>?_⟩
   .show qr K Hf (rK H p (.lst vs')) (match avs[j]? with|some a=>.ow (avs.set j (putAt a js as'))|none=>.ow avs) (.ref p0) _
    rw[e1];refine .ow (vs:=vs0) (by rw[pS pne];exact h1) h2 (by rw[lZq];exact h3.1) (by rw[lZq,lZq];exact h3.2.1) λi b w G q1 q2 q3=>?_
    rw[bI]at q1 q3
    by_cases hij:j=i
    .subst hij;rw[qe rfl,qe hj]at q1;rw[qe rfl,qe (h3.2.1 ▸ hj)]at q3;rw[hv]at q2;cases q1;cases q2;cases q3;exact k1
    .rw [pV hij]at q1 q3;exact(h3.2.2 i b w G q1 q2 q3).keepUpd λm=>DT n.2 hg q3 hij g5 m
   .rcases tE m with z|z
    .rcases k3 p0 z with y|y
     .exact n.1 (sub p0 y)
     .rcases hd p0 y with x|x
      .exact n.1 (sub p0 (g7 p0 x))
      .exact x (by simp)
    .exact n.1 z
   .rcases ae.mp hq with z|z
    .exact .inl (by rw[z];simp)
    .rcases tE z with z|z
     .exact (k3 q z).imp (λy=>mCo _ (sub q y)) id
     .exact .inl (mCo _ z)
  |_=>cases e
theorem qt.turnAny(R:qt K H₀ Hf₀ Hf S σ H Fs) {i:Nat}{av:AV}{p:Addr}{o:HO}{v:V}{F F':List Addr}(s1:σ[i]?=some (some v)) (s2:Fs[i]?=some F) (hp:p∈F) (r:qr K Hf (rK H p o) av v F') (nd:F'.Nodup)
  (hf:∀q∈F',H₀ q=none/\q∉(Fs.set i []).flatten):qt K H₀ Hf₀ Hf (S.set i (some av)) σ (rK H p o) (Fs.set i F'):=by
 have hin:p∈Fs.flatten:=mFq.mpr ⟨F,mGq s2,hp⟩;have pn:Hf p=none:=(R.mem hin).2;have p0:H₀ p=none:=R.fresh p hin;have out:=uW R.nd s2 hp;have R1:qt K H₀ Hf₀ Hf (S.set i none) σ (rK H p o) (Fs.set i []):=by
  refine⟨by simp[R.len],by simp[R.lenF],λj a ej=>?_,λj ej=>?_,sO i R.nd aV (λp hp=>by cases hp),λp hp=>R.fresh p (rE hp),λb u e=>?_,λb u e=>?_,R.lim,R.sf⟩
  .rw [bI]at ej
   by_cases hij:i=j
   .subst hij;rw[qe rfl]at ej;split at ej <;> cases ej
   .rw [pV hij]at ej;obtain⟨w,G,f1,f2,q⟩:=R.rep j a ej;refine⟨w,G,f1,by rw[aB hij];exact f2,q.keep (.refl _) (λc hc=>pS λe=>out ?_) λc hc=>(q.owned c hc).2⟩
    subst e;exact mFq.mpr ⟨G,mGq (i:=j) (by rw[aB hij];exact f2),hc⟩
  .rw [bI]at ej
   by_cases hij:i=j
   .subst hij;rw[qe rfl]at ej;split at ej
    .rename_i hi;rw[aA (R.lenF.symm ▸ hi)]
    .cases ej
   .rw [pV hij]at ej;rw[aB hij];exact R.emp j ej
  .rw [pS λz=>by rw[z,pn]at e;cases e]
   exact R.sub b u e
  .rw [pS λz=>by rw[z,p0]at e;cases e]
   exact R.fr b u e
 exact R1.again (F:=F) s1 r nd hf
theorem qt.kill(R:qt K H₀ Hf₀ Hf S σ H Fs) (x:Nat):qt K H₀ Hf₀ Hf (S.set x none) σ H (Fs.set x []):=by
 refine⟨by simp[R.len],by simp[R.lenF],λj a ej=>?_,λj ej=>?_,sO x R.nd aV (λp hp=>by cases hp),λp hp=>R.fresh p (rE hp),R.sub,R.fr,R.lim,R.sf⟩
 .rw [bI]at ej
  by_cases hij:x=j
  .subst hij;rw[qe rfl]at ej;split at ej <;> cases ej
  .rw [pV hij]at ej;obtain⟨w,G,f1,f2,q⟩:=R.rep j a ej;exact⟨w,G,f1,by rw[aB hij];exact f2,q⟩
 .rw [bI]at ej
  by_cases hij:x=j
  .subst hij;rw[qe rfl]at ej;split at ej
   .rename_i hi;rw[aA (R.lenF.symm ▸ hi)]
   .cases ej
  .rw [pV hij]at ej;rw[aB hij];exact R.emp j ej
theorem qt.any(R:qt K H₀ Hf₀ Hf (S.set x none) σ H Fs) (v:V):qt K H₀ Hf₀ Hf (S.set x none) (σ.set x (some v)) H Fs where
 len:=by rw[R.len,lZq]
 lenF:=R.lenF
 rep:=λi av e=>by
  by_cases hij:x=i
  .subst hij;rw[bI]at e;rw[qe rfl]at e;split at e <;> cases e
  .obtain ⟨w,G,f1,f2,q⟩:=R.rep i av e;exact⟨w,G,by rw[aB hij];exact f1,f2,q⟩
 emp:=R.emp
 nd:=R.nd
 fresh:=R.fresh
 sub:=R.sub
 fr:=R.fr
 lim:=R.lim
 sf:=R.sf
end
def yK(d:D):List AV->Option (List AV)
 | []=>some []
 | .ow as::r=>vY (as.length<rY) ((yK d r).map (.ow (as++[.sh d]) :: ·))
 |_=>none
def Bw(i x:Nat) (d:D):MS:=λS=>if i=x∨S.length<=x then none else if d.scal=true then (si S i).bind λavs=>(yK d avs).map λbs=>.nx ((S.set i (some (.ow bs))).set x none) else none
section
variable {K:W.Frag}
theorem DO{d:D}:∀{avs bs:List AV}{j:Nat}{a:AV},yK d avs=some bs->avs[j]?=some a->∃as,a = .ow as/\as.length<rY/\bs[j]?=some (.ow (as++[.sh d]))
 | [],bs,j,a,_,h=>by simp at h
 |b::r,bs,j,a,e,h=>by
  cases b with
  |ow as =>
   simp only[yK]at e;rcases qh e with ⟨hl,e⟩|e
   .obtain ⟨cs,e1,e2⟩:=oMq.mp e;subst e2;cases j with
    |zero =>
     simp at h;subst h;exact⟨as,rfl,hl,rfl⟩
    |succ j=>exact DO (j:=j) e1 (by simpa using h)
   .cases e
  |_=>cases e
theorem DM{d:D}:∀{avs bs:List AV},yK d avs=some bs->bs.length=avs.length
 | [],bs,e=>by cases e;rfl
 |b::r,bs,e=>by
  cases b with
  |ow as =>
   simp only[yK]at e;rcases qh e with ⟨hl,e⟩|e
   .obtain ⟨cs,e1,e2⟩:=oMq.mp e;subst e2;simp[DM e1]
   .cases e
  |_=>cases e
theorem NY{i x:Nat}{d:D}{v:V}(hv:∀H,sv K H d v):SS K (Lw (Ki K (xi i)) (uv x) (B5 (Qg K "list" xB (xi x) (uM (tC v) wQ)))) (Bw i x d):=by
 intro H₀ Hf₀ Hf S σ H Fs o R e D h;unfold Bw at e;split at e
 .cases e
 rename_i nix0;have nix:¬ i=x:=λz=>nix0 (.inl z)
 have xlt:x<S.length:=Nat.lt_of_not_le λz=>nix0 (.inr z)
 split at e
 .rename_i hs;obtain⟨avs,e1,e⟩:=oBq.mp e;obtain⟨bs,e2,e⟩:=oMq.mp e;cases e;obtain⟨p,vs,Gs,s1,s2,h1,h2,h3,h4,h5,h6⟩:=R.ow (qF e1);refine⟨_,s1,p,rfl,⟨vs,tJ.of h1⟩,?_⟩
  let mid:Nat->List AV:=λj=>bs.take j++avs.drop j
  have hbl:=DM e2;refine Ii (xs:=vs) (λj σ' H'=>∃Fs',qt K H₀ Hf₀ Hf ((S.set i (some (.ow (mid j)))).set x none) σ' H' Fs'/\σ'[i]?=some (some (.ref p))/\H' p=some (.lst vs)) ⟨Fs.set x [],?_,s1,h1⟩ (λj σ' H' _ ⟨_,_,_,q⟩=>tJ.of q) ?_ ?_
  .have e0:S.set i (some (.ow (mid 0)))=S:=by
    show S.set i (some (.ow (bs.take 0++avs.drop 0)))=S;rw[ed,fj,dC];obtain⟨hk,ev⟩:=gSq.mp (qF e1);rw[←ev];exact fg hk
   rw[e0];exact R.kill x
  .rintro j w σ' H' hw ⟨Fs',R',s1',hp'⟩;have hj:j<vs.length:=(gSq.mp hw).1;have hja:j<avs.length:=h3.1.symm ▸ hj;have hjb:j<bs.length:=hbl.symm ▸ hja;obtain⟨as,ea,hl,eb⟩:=DO e2 (gEg hja);have hlen:i<S.length:=(gSq.mp (qF e1)).1;have hSi:((S.set i (some (.ow (mid j)))).set x none)[i]?=some (some (.ow (mid j))):=by
    rw[aB (Ne.symm nix),aA hlen]
   have hmj:(mid j)[j]?=some (.ow as):=by
    show (bs.take j++avs.drop j)[j]?=_;have hl1:(bs.take j).length=j:=by rw[lTq];lia
    rw[gYq (by lia),hl1,cR,cI,gV,gEg hja,ea]
   obtain⟨v0,F,t1,t2,r,nd,oo,_⟩:=R'.move hSi;rw[s1']at t1;cases t1;have hnode:qM (.ow (mid j)) [j]=some as:=by
    show ((mid j)[j]?).bind (λa=>qM a [])=_
    rw[hmj];rfl
   obtain⟨q,us,Es,g1,g2,g3,g4,g5,g6,g6',g7,g8⟩:=r.path nd hnode;obtain⟨p2,vs2,u,z1,z2,z3,z4⟩:=g1;cases z1;rw[hp']at z2;cases z2;rw[hw]at z3;cases z3;have z4':w = .ref q:=z4;subst z4';have hx:∀y:V,((σ'.set x (some (.ref q)))[x]?=some (some y))->True:=λ_ _=>trivial
   have hxl:x<σ'.length:=by
    have:=R'.len;rw[lZq,lZq]at this;lia
   .refine ⟨.ref q,aA hxl,.inl ⟨rfl,us,tJ.of g2⟩,q,us,v,rfl,rfl,g2,by rw[vx,←g4.1];exact hl,?_⟩
    obtain⟨F',k1,k2,k3⟩:=g8 (as++[AV.sh d]) (us++[v]) (Es++[[]]) ((g4.keepUpd g6).snoc (.sh (hv _))) (by rw[fAq];simp only[fCq,iK,aNq];exact aq.mpr ⟨g6,g6'⟩) (λz hz=>by
     rw[fAq]at hz;simp only[fCq,iK,aNq]at hz;exact .inl hz)
    have hF':∀z∈F',z∈F:=λz hz=>(k3 z hz).elim id λm=>by
     rw[fAq]at m;simp only[fCq,iK,aNq]at m;exact g7 z m
    have hne:p≠q:=λz=>by
     obtain⟨p3,vs3,Gs3,y1,y2,y3,y4,y5⟩:=r.ow_inv;cases y1;subst y2;rw[z]at nd;rcases ae.mp g5 with y|y
     .-- q is an item's own list
      have n3:=(aq.mp nd).1;have hj3:j<(mid j).length:=(gSq.mp hmj).1;have hG:=gEg (y5.2.1 ▸ hj3);rw[hp']at y3;cases y3;have rj:=y5.2.2 j _ _ _ hmj hw hG;obtain⟨p4,vs4,Gs4,x1,x2,_⟩:=rj.ow_inv;cases x1;exact n3 (qo hG (by rw[x2];simp))
     .exact (aq.mp nd).1 y
    have R2:=R'.turnAny (o:=.lst (us++[v])) (F':=F') s1' t2 g5 k1 k2 λz hz=>oo z (hF' z hz)
    have em:putAt (.ow (mid j)) [j] (as++[.sh d]) = .ow (mid (j+1)):=by
     show (match (mid j)[j]? with|some a=>AV.ow ((mid j).set j (putAt a [] (as++[AV.sh d])))|none=>.ow (mid j))=_
     rw[hmj];show AV.ow ((mid j).set j (.ow (as++[.sh d]))) = .ow (mid (j+1));congr 1;show (bs.take j++avs.drop j).set j _=bs.take (j+1)++avs.drop (j+1);have hl1:(bs.take j).length=j:=by rw[lTq];lia
     rw[gG _ _ (by lia),hl1,cR,aT hja,cJ,bH,eb]
     simp
    rw[em]at R2;have e5:((S.set i (some (.ow (mid j)))).set x none).set i (some (.ow (mid (j+1))))=(S.set i (some (.ow (mid (j+1))))).set x none:=by
     rw[List.set_comm _ _ (Ne.symm nix),dc]
    rw[e5]at R2;exact⟨_,R2.any (.ref q),by rw[aB (Ne.symm nix)];exact s1',by rw[pS hne];exact hp'⟩
  .rintro σ' H' ⟨Fs',R',_,_⟩;have em:mid vs.length=bs:=by
    show bs.take vs.length++avs.drop vs.length=bs;rw[←h3.1,dU,aNq,←hbl,bo]
   rw[em]at R';exact h _ _ _ _ (.refl _) R'
 .cases e
end
abbrev aI(ns:List Int):AV:=.ow (ns.map λn=>.sh (.int n))
def Ck:List AV->Option (List Int)
 | []=>some []
 | .sh (.int i)::r=>(Ck r).map (i :: ·)
 |_=>none
def Dz:List AV->Option (List (List Int))
 | []=>some []
 | .ow as::r=>(Ck as).bind λns=>(Dz r).map (ns :: ·)
 |_=>none
theorem Hu:∀{as:List AV}{ns:List Int},Ck as=some ns->as=ns.map λn=>.sh (.int n)
 | [],ns,h=>by cases h;rfl
 |a::as,ns,h=>by
  cases a with
  |sh d =>
   cases d with
   |int i =>
    obtain⟨ms,h1,h2⟩:=oMq.mp (show (Ck as).map (i :: ·)=some ns from h)
    subst h2;rw[Hu h1];rfl
   |_=>cases h
  |_=>cases h
theorem C7:∀{as:List AV}{rs:List (List Int)},Dz as=some rs->as=rs.map aI
 | [],rs,h=>by cases h;rfl
 |a::as,rs,h=>by
  cases a with
  |ow es =>
   obtain⟨r,h1,h⟩:=oBq.mp (show (Ck es).bind (λns=>(Dz as).map (ns :: ·))=some rs from h)
   obtain⟨ts,h2,h3⟩:=oMq.mp h;subst h3;rw[C7 h2,Hu h1];rfl
  |_=>cases h
@[simp] theorem LR (ns:List Int):Ck (ns.map λn=>.sh (.int n))=some ns:=by
 induction ns with
 |nil=>rfl
 |cons n ns ih=>show (Ck (ns.map λn=>.sh (.int n))).map (n :: ·)=_;rw[ih];rfl
@[simp] theorem Lf (rs:List (List Int)):Dz (rs.map aI)=some rs:=by
 induction rs with
 |nil=>rfl
 |cons r rs ih=>show (Ck (r.map λn=>.sh (.int n))).bind (λns=>(Dz (rs.map aI)).map (ns :: ·))=_;rw[LR,ih];rfl
def A9(k:MK):MK:=λS=>(k S).bind λx=>match x.1 with
 | .ow avs=>(Dz avs).map λrs=>(.ow ((tR rs).map aI),x.2)
 |_=>none
section
variable {K:W.Frag}{Hf H:Hp}
theorem JN{ns:List Int}{v:V}{F:List Addr}(h:qr K Hf H (aI ns) v F):∃p,v = .ref p/\F=[p]/\H p=some (.lst (ns.map V.int))/\Hf p=none:=by
 obtain⟨p,vs,Gs,rfl,rfl,h1,h2,h3⟩:=h.ow_inv;have e:∀{ns:List Int}{vs:List V}{Gs:List (List Addr)},qu K Hf H (ns.map λn=>AV.sh (.int n)) vs Gs->vs=ns.map V.int/\Gs.flatten=[]:=by
  intro ns
  induction ns with
  |nil =>
   intro vs Gs h;obtain⟨a,b⟩:=h.nil_inv;exact⟨a,by rw[b];rfl⟩
  |cons n ns ih =>
   intro vs Gs h;obtain⟨v,ws,F,Gs',rfl,rfl,r1,r2⟩:=qu.cons_inv (a:=.sh (.int n)) h;obtain⟨f1,f2⟩:=r1.sh_inv;subst f1;cases f2;obtain⟨g1,g2⟩:=ih r2;rw[g1];exact⟨rfl,by rw[fCq,g2];rfl⟩
 obtain⟨e1,e2⟩:=e h3;rw[e2];subst e1;exact⟨p,rfl,rfl,h1,h2⟩
theorem TC{ns:List Int}{p:Addr}(h1:H p=some (.lst (ns.map V.int))) (h2:Hf p=none):qr K Hf H (aI ns) (.ref p) [p]:=by
 have:=qr.new (K:=K) (Hf:=Hf) (H:=H) (ds:=ns.map D.int) h1 h2 (uK ns);rw[←zo]at this;exact this
theorem xg:∀{rs:List (List Int)}{vs:List V}{Gs:List (List Addr)},qu K Hf H (rs.map aI) vs Gs->∃ps,vs=ps.map V.ref/\Gs=ps.map (λp=>[p])/\rZ H ps rs/\∀p∈ps,Hf p=none
 | [],vs,Gs,h=>by
  obtain⟨a,b⟩:=h.nil_inv;exact⟨[],a,b,.nil,λp hp=>by cases hp⟩
 |r::rs,vs,Gs,h=>by
  obtain⟨v,ws,F,Gs',rfl,rfl,r1,r2⟩:=qu.cons_inv (a:=aI r) (as:=rs.map aI) h;obtain⟨p,rfl,rfl,h1,h2⟩:=JN r1;obtain⟨ps,rfl,rfl,h3,h4⟩:=xg r2;exact⟨p::ps,rfl,rfl,rZ.cons_iff.mpr ⟨h1,h3⟩,λq hq=>(ae.mp hq).elim (λe=>e ▸ h2) (h4 q)⟩
theorem AG:∀{rs:List (List Int)}{ps:List Addr},rZ H ps rs->(∀p∈ps,Hf p=none)->qu K Hf H (rs.map aI) (ps.map V.ref) (ps.map λp=>[p])
 | [],[],_,_=>.nil
 | [],_::_,h,_=>by have:=h.length;simp at this
 |_::_,[],h,_=>by have:=h.length;simp at this
 |r::rs,p::ps,h,n=>by
  obtain⟨h1,h2⟩:=rZ.cons_iff.mp h;exact .cons (TC h1 (n p (by simp))) (AG h2 λq hq=>n q (mCo _ hq))
theorem flat_one(ps:List Addr):(ps.map λp=>[p]).flatten=ps:=by
 induction ps with
 |nil=>rfl
 |cons p ps ih=>rw[ar,fCq,ih];rfl
theorem E7{te:TE}{k:MK}(hk:SK K te k):SK K (Qe (λxs H Q=>∃(a:Addr) (ps:List Addr) (rs:List (List Int)),xs=[.ref a]/\tJ K H a (ps.map V.ref)/\rZ H ps rs /\
  ∀p qs,H p=none->qs.Perm ps->rZ (rK H p (.lst (qs.map V.ref))) qs (tR rs)->Q (.ref p) (rK H p (.lst (qs.map V.ref)))) (uM te wQ)) (A9 k):=by
 intro H₀ Hf₀ Hf S σ H Fs av S' R e Q q;obtain⟨x,e1,e⟩:=oBq.mp e;refine hk R (a:=x.1) (S':=x.2) e1 _ λHf1 H1 Fs1 v F t1 R1 r1 o1=>?_
 split at e
 .rename_i avs hx;obtain⟨rs,e2,e⟩:=oMq.mp e;cases e;rw[hx,C7 e2]at r1;obtain⟨p0,vs,Gs,rfl,rfl,h1,h2,h3⟩:=r1.ow_inv;obtain⟨ps,rfl,rfl,hE,hn⟩:=xg h3;rw[flat_one]at o1;refine⟨p0,ps,rs,rfl,tJ.of h1,hE,λp qs hp hq hE2=>?_⟩
  obtain⟨t4,R4,n1,n2,n3⟩:=R1.new (o:=.lst (qs.map V.ref)) hp;have pq:p∉qs:=λm=>hE.free (H:=H1) hp (hq.mem_iff.mp m)
  have hm:∀z∈qs,z∈p0::ps:=λz hz=>mCo _ (hq.mem_iff.mp hz)
  refine q _ _ _ (.ref p) (p::(qs.map λp=>[p]).flatten) (t1.trans t4) R4 (qr.news qa n1 (AG hE2 λz hz=>hn z (hq.mem_iff.mp hz))) ?_
  rw[flat_one];refine⟨aq.mpr ⟨pq,hq.nodup_iff.mpr (aq.mp o1.nd).2⟩,λz hz=>?_,λz hz=>?_,λz hz=>?_⟩
  .rcases ae.mp hz with y|y
   .rw [y];exact n2
   .exact o1.fr z (hm z y)
  .rcases ae.mp hz with y|y
   .rw [y];exact n3
   .exact o1.out z (hm z y)
  .rcases ae.mp hz with y|y
   .rw [y];exact .inl (t1.sh.free hp)
   .exact o1.new z (hm z y)
 .cases e
def OZ:AV->Option D
 | .sh d=>if d.scal=true then some d else none
 |_=>none
def uu(f:MF) (a:ML):ME:=λS=>(a S).bind λx=>(f x.1).bind λr=>(OZ r).map λd=>(d,x.2)
theorem xr{f:MF}{ta:TA}{a:ML}(ha:S6 K ta a):SR K (J9 (rX K f) [] E0 ta) (uu f a):=by
 intro H₀ Hf₀ Hf S σ H Fs d S' R e Q q;obtain⟨x,e1,e⟩:=oBq.mp e;obtain⟨r,e2,e⟩:=oBq.mp e;obtain⟨z,e3,e⟩:=oMq.mp e;cases e;refine ha R (ds:=x.1) (S':=x.2) e1 _ λHf1 H1 Fs1 vs t1 R1 r1=>?_
 rw[aNq];refine⟨H1,x.1,r,.refl _,r1,e2,λHf' H' v F s1 s2 s3 l rv nd fr=>?_⟩
 have t2:zZ Hf1 H1 Fs1 Hf1 H' Fs1:=⟨.refl _,s2,λ_ h=>h,λb h g=>absurd h g⟩
 cases r with
 |sh d' =>
  simp only[OZ]at e3;split at e3
  .rename_i hs;cases e3;exact q _ _ _ v (t1.trans t2) (R1.laid s2) (rv.sh_inv.2.scal hs)
  .cases e3
 |_=>cases e3
end
section
variable (S:AS)
@[simp] theorem Vj (i:Nat):pd i S=(S[i]?.join).map λa=>(pH a,S):=rfl
@[simp] theorem V0 (i:Nat):qp i S=(S[i]?.join).map λa=>(.sh (pH a),S.set i (some (.sh (pH a)))):=rfl
@[simp] theorem VJ (i:Nat):Jy i S=(S[i]?.join).map λa=>(a,S.set i none):=rfl
@[simp] theorem Xz (k:MK):rOf k S=(k S).map λx=>(pH x.1,x.2):=rfl
@[simp] theorem XI (m:ME):kSc m S=(m S).bind λx=>if x.1.scal then some (.sh x.1,x.2) else none:=rfl
@[simp] theorem Vh (k:MK):xj k S=(k S).map λx=>(.sh (pH x.1),x.2):=rfl
@[simp] theorem YK (d:D):rC d S=if d.scal then some (d,S) else none:=rfl
@[simp] theorem Xy (f:D->D->Option D) (a b:ME):qG f a b S=(a S).bind λx=>(b x.2).bind λy=>(f x.1 y.1).map λd=>(d,y.2):=rfl
@[simp] theorem W6 (f:D->Option D) (a:ME):MM f a S=(a S).bind λx=>(f x.1).map λd=>(d,x.2):=rfl
@[simp] theorem VW (a:ME):R5 a S=(a S).bind λx=>(K0 x.1).map λd=>(d,x.2):=rfl
@[simp] theorem Tp (a b:MT):Cj a b S=(a S).bind λx=>if x.1=true then b x.2 else some (false,x.2):=rfl
@[simp] theorem V3 (a b:MT):Le a b S=(a S).bind λx=>if x.1=true then some (true,x.2) else b x.2:=rfl
@[simp] theorem U8 (a:MT):Dj a S=(a S).map λx=>(!x.1,x.2):=rfl
def Uc:D->Option Bool
 | .bl b=>some b
 |_=>none
@[simp] theorem Xl (a:ME):uS a S=(a S).bind λx=>(Uc x.1).map λb=>(b,x.2):=by
 show (a S).bind _=_;congr 1;funext x;obtain⟨d,S'⟩:=x;cases d <;> rfl
@[simp] theorem VH (a b:ME):Lu a b S=(a S).bind λx=>(Uc x.1).bind λc=>if c=true then b x.2 else some (.bl false,x.2):=by
 show (a S).bind _=_;congr 1;funext x;obtain⟨d,S'⟩:=x;cases d <;> try rfl
 rename_i c;cases c <;> rfl
@[simp] theorem Q5 (b:Bool):Uc (.bl b)=some b:=rfl
@[simp] theorem VN:rS S=some ([],S):=rfl
@[simp] theorem U2 (k:MK) (r:MA):qk k r S=(k S).bind λx=>(r x.2).map λy=>(x.1::y.1,y.2):=rfl
@[simp] theorem U6:pO S=some ([],S):=rfl
@[simp] theorem RS (k:ME) (r:ML):oZ k r S=(k S).bind λx=>(r x.2).map λy=>(x.1::y.1,y.2):=rfl
@[simp] theorem Wc (a:MA):zF a S=(a S).bind λx=>vY (x.1.length<=rY) (some (.ow x.1,x.2)):=rfl
@[simp] theorem Vg (a b:ML):Da a b S=(a S).bind λx=>(b x.2).bind λy=>vY (x.1.length+y.1.length<=rY) (some (.ow ((x.1++y.1).map .sh),y.2)):=rfl
@[simp] theorem TL:An S=some (none,S):=rfl
@[simp] theorem TV (m:ME):xD m S=(m S).bind λx=>(intOf x.1).map λi=>(some i,x.2):=by
 show (m S).bind _=_;congr 1;funext x;obtain⟨d,S'⟩:=x;cases d <;> rfl
@[simp] theorem LQ (i:Int):intOf (.int i)=some i:=rfl
@[simp] theorem XN (l:ML) (lo hi:MO):MJ l lo hi S=(l S).bind λx=>(lo x.2).bind λy=>(hi y.2).map λz=>(.ow ((yX x.1 y.1 z.1).map .sh),z.2):=rfl
@[simp] theorem Xn (l:ML) (b:ME):NT l b S=(l S).bind λx=>(b x.2).bind λy=>(intOf y.1).bind λi=>(atI x.1 i).map λd=>(.sh d,y.2):=by
 show (l S).bind _=_;congr 1;funext x;show (b x.2).bind _=_;congr 1;funext y;obtain⟨d,S'⟩:=y;cases d <;> rfl
@[simp] theorem Xa (f:List D->Option D) (a:ML):uO f a S=(a S).bind λx=>(f x.1).map λd=>(d,x.2):=rfl
@[simp] theorem TR (f:MF) (a:MA):rH f a S=(a S).bind λx=>(f (x.1.map pH)).map λr=>(r,x.2):=rfl
@[simp] theorem UF (f:MF) (a:ML):uu f a S=(a S).bind λx=>(f x.1).bind λr=>(OZ r).map λd=>(d,x.2):=rfl
@[simp] theorem UC:sY S=some (.nx S):=rfl
def O9(o:Option Fp) (b:MS):Option Fp:=o.bind λo=>match o with
 | .nx S'=>b S'
 |o=>some o
@[simp] theorem M9 (b:MS):O9 (some (.nx S)) b=b S:=rfl
@[simp] theorem Pw (a:AV) (b:MS):O9 (some (.rt a)) b=some (.rt a):=rfl
@[simp] theorem VS (a b:MS):qi a b S=O9 (a S) b:=rfl
@[simp] theorem WA (i:Nat) (k:MK):qK i k S=(k S).map λx=>.nx (x.2.set i (some x.1)):=rfl
@[simp] theorem WB (k:MK):tP k S=(k S).map λx=>.rt x.1:=rfl
@[simp] theorem Xi (c:MT) (a b:MS):BQ c a b S=(c S).bind λx=>if x.1=true then a x.2 else b x.2:=rfl
@[simp] theorem VI (i:Nat) (k:MK):Ea i k S=(si S i).bind λ_=>(k S).bind λx=>(si x.2 i).bind λavs=>vY (avs.length<rY) (some (.nx (x.2.set i (some (.ow (avs++[x.1])))))):=rfl
@[simp] theorem Ur (i:Nat) (b:ME) (k:MK):Bn i b k S=(xj k S).bind λx=>(vp x.2 i).bind λ_=>(b x.2).bind λy=>(vp y.2 i).bind λkvs=>(vi y.1).bind λkey =>
 vY (kvs.length<rY) (some (.nx (y.2.set i (some (.owd (yC kvs key (pH x.1))))))):=rfl
def dictOf:D->Option (List (pQ×D))
 | .dict kvs=>some kvs
 |_=>none
@[simp] theorem GE (kvs:List (pQ×D)):dictOf (.dict kvs)=some kvs:=rfl
@[simp] theorem K4 (i:Int):vi (.int i)=some (.inl i):=rfl
@[simp] theorem Pd (a b:ME):wj a b S=(a S).bind λx=>(b x.2).bind λy=>(dictOf y.1).bind λkvs=>(vi x.1).map λkey=>(.bl (!(getD kvs key).isSome),y.2):=by
 show (a S).bind _=_;congr 1;funext x;show (b x.2).bind _=_;congr 1;funext y;obtain⟨d,S'⟩:=y;cases d <;> rfl
@[simp] theorem T8 (a b:ME):DW a b S=(a S).bind λx=>(b x.2).bind λy=>(dictOf x.1).bind λkvs=>(vi y.1).bind λkey=>(getD kvs key).map λd=>(d,y.2):=by
 show (a S).bind _=_;congr 1;funext x;show (b x.2).bind _=_;congr 1;funext y;obtain⟨d,S'⟩:=x;cases d <;> rfl
@[simp] theorem Tw:Cb S=some (.owd [],S):=rfl
@[simp] theorem VB (x:Nat) (k:MK) (body:MS):Bh x k body S=(xj k S).bind λy=>(vm (pH y.1)).bind λds=>tF x body ds y.2:=rfl
@[simp] theorem Q9 (x:Nat) (a:ML) (body:MS):Ff x a body S=(a S).bind λy=>(Ej y.1).bind λds=>tF x body ds y.2:=rfl
@[simp] theorem UX (x y:Nat) (k:MK) (body:MS):Pp x y k body S=(xj k S).bind λz=>(vm (pH z.1)).bind λds=>BF x y body 0 ds z.2:=rfl
@[simp] theorem Tf (src:MI) (fr:List Nat) (tf:MT) (te:MK):sZ src fr tf te S=(src S).bind λy=>(fzAll fr y.2).bind λS2=>(Fh S2 fr).bind λcap=>vY (y.1.length<=rY) ((rF tf te cap y.1).map λavs=>(.ow avs,S2)):=rfl
@[simp] theorem Vq (k:MK):Ac k S=(xj k S).bind λy=>(vm (pH y.1)).map λds=>(ds,y.2):=rfl
@[simp] theorem XM (a:ML):Vf a S=(a S).bind λy=>(Ej y.1).map λds=>(ds,y.2):=rfl
@[simp] theorem LH:fzAll [] S=some S:=rfl
@[simp] theorem Ik (j:Nat) (js:List Nat):fzAll (j::js) S=(S[j]?.join).bind λa=>fzAll js (S.set j (some (.sh (pH a)))):=rfl
@[simp] theorem Pb:Fh S []=some []:=rfl
@[simp] theorem LZ (j:Nat) (js:List Nat):Fh S (j::js)=(Uk S[j]?.join).bind λa=>(Fh S js).map (some a :: ·):=rfl
@[simp] theorem Ut (l:ML):Cd l S=(l S).map λx=>(.ow (x.1.map .sh),x.2):=rfl
@[simp] theorem Qs (l:ML):CU l S=(l S).bind λx=>(tQ x.1).map λns=>(.ow ((rO ns).map λn=>.sh (.int n)),x.2):=rfl
def TJ:AV->Option (List AV)
 | .ow avs=>some avs
 |_=>none
@[simp] theorem RE (avs:List AV):TJ (.ow avs)=some avs:=rfl
@[simp] theorem PL (k:MK):A9 k S=(k S).bind λx=>(TJ x.1).bind λavs=>(Dz avs).map λrs=>(.ow ((tR rs).map aI),x.2):=by
 show (k S).bind _=_;congr 1;funext x;obtain⟨d,S'⟩:=x;cases d <;> rfl
@[simp] theorem W9 (T:String) (f:D->List D->Option D) (a:ME) (as:ML):Xx T f a as S=(a S).bind λx=>if V4 T x.1=true then (as x.2).bind λy=>(f x.1 y.1).map λd=>(d,y.2) else none:=rfl
def SB:D->Option (List D)
 | .list ds=>some ds
 |_=>none
@[simp] theorem IP (ds:List D):SB (.list ds)=some ds:=rfl
@[simp] theorem Ts (a:ME):Kk a S=(a S).bind λx=>(SB x.1).bind λds=>(zb ds).map λrs=>(.int (rs.countP (·=([]:List Int)):Nat),x.2):=by
 show (a S).bind _=_;congr 1;funext x;obtain⟨d,S'⟩:=x;cases d <;> rfl
def Wh:AV->Option (List D)
 | .sh (.list ds)=>some ds
 | .ow avs=>some (avs.map pH)
 |_=>none
@[simp] theorem Uj (ds:List D):Wh (.sh (.list ds))=some ds:=rfl
@[simp] theorem UR (avs:List AV):Wh (.ow avs)=some (avs.map pH):=rfl
@[simp] theorem Xk (k:MK):lOf k S=(k S).bind λx=>(Wh x.1).map λds=>(ds,x.2):=by
 show (k S).bind _=_;congr 1;funext x;obtain⟨a,S'⟩:=x;cases a with
 |sh d=>cases d <;> rfl
 |_=>rfl
end
@[simp] theorem Py (ds:List D):(ds.map AV.sh).map pH=ds:=by
 rw[mPq];have:pH∘AV.sh=id:=by funext d;simp
 rw[this,dF]
def Vd:AV->AV
 | .ow avs=>.ow ((avs.map pH).map .sh)
 |a=>a
@[simp] theorem Uz (d:D):Vd (.sh d) = .sh d:=rfl
@[simp] theorem Pe (avs:List AV):Vd (.ow avs) = .ow ((avs.map pH).map .sh):=rfl
theorem D3{S:AS}{i:Nat}{a:AV}(h:S[i]?=some (some a)):S.set i (some a)=S:=by
 obtain⟨hk,ev⟩:=gSq.mp h;rw[←ev];exact fg hk
@[simp] theorem We (S:AS) (i:Nat):Fw i S=(S[i]?.join).bind λa=>(Wh a).map λds=>(ds,S.set i (some (Vd a))):=by
 unfold Fw;cases e:S[i]?.join with
 |none=>rfl
 |some a =>
  cases a with
  |sh d =>
   cases d with
   |list ds =>
    show some (ds,S)=some (ds,S.set i (some (.sh (.list ds))));rw[D3 (qz e)]
   |_=>rfl
  |ow avs=>rfl
  |owd kvs=>rfl
  |owl kvs=>rfl
def Vn:AV->Option (List D)
 | .sh (.scr ns)=>some (ns.map .int)
 |a=>Wh a
@[simp] theorem R6 (ns:List Int):Vn (.sh (.scr ns))=some (ns.map .int):=rfl
@[simp] theorem Th (ds:List D):Vn (.sh (.list ds))=some ds:=rfl
@[simp] theorem TF (avs:List AV):Vn (.ow avs)=some (avs.map pH):=rfl
@[simp] theorem V2 (S:AS) (i:Nat):vd i S=(S[i]?.join).bind λa=>(Vn a).map λds=>(ds,S.set i (some (Vd a))):=by
 unfold vd;cases e:S[i]?.join with
 |none=>rfl
 |some a =>
  cases a with
  |sh d =>
   cases d with
   |list ds =>
    show some (ds,S)=some (ds,S.set i (some (.sh (.list ds))));rw[D3 (qz e)]
   |scr ns =>
    show some (ns.map D.int,S)=some (ns.map D.int,S.set i (some (.sh (.scr ns))));rw[D3 (qz e)]
   |_=>rfl
  |ow avs=>rfl
  |owd kvs=>rfl
  |owl kvs=>rfl
@[simp] theorem M6 (i:Int):(D.int i).scal=true:=rfl
@[simp] theorem Si (i:Bool):(D.bl i).scal=true:=rfl
@[simp] theorem Q4 (i:String):(D.ty i).scal=true:=rfl
@[simp] theorem M3 (i:Int):OZ (.sh (.int i))=some (.int i):=rfl
@[simp] theorem Ru (i:Bool):OZ (.sh (.bl i))=some (.bl i):=rfl
@[simp] theorem QN (i j:Int):GB (.int i) (.int j)=some (.bl (decide (i=j))):=rfl
@[simp] theorem QP (b:Bool):K0 (.bl b)=some (.bl (!b)):=rfl
@[simp] theorem Ku (i j:Int):SC (.int i) (.int j)=some (.bl (!decide (i=j))):=rfl
@[simp] theorem Mn (ds:List D):tH [.list ds]=some (.int ds.length):=rfl
@[simp] theorem MW (ns:List Int):tH [.scr ns]=some (.int ns.length):=rfl
@[simp] theorem MZ (i:Int):BC [.int i]=some (.int (if i<0 then -i else i)):=rfl
@[simp] theorem KW (i j:Int):G5 [.int i,.int j]=some (.int (if j>i then j else i)):=rfl
@[simp] theorem L8 (ds:List D):Ar [.list ds,.ty "list"]=some (.bl true):=by simp[Ar,VT]
@[simp] theorem M7 (i:Int):Ar [.int i,.ty "int"]=some (.bl true):=by simp[Ar,VT]
@[simp] theorem Ld (i:Int):Ar [.int i,.ty "bool"]=some (.bl false):=by simp[Ar,VT]
@[simp] theorem Ge (ds:List D):vm (.list ds)=some ds:=rfl
@[simp] theorem Ob (ds:List D) (i:Int):IU (.list ds) (.int i)=atI ds i:=rfl
@[simp] theorem RP (ns:List Int) (i:Int):IU (.scr ns) (.int i)=(atI ns i).map .int:=rfl
@[simp] theorem QF (d:D):Uk (some (.sh d))=some (.sh d):=rfl
@[simp] theorem Pa (ds:List D):V4 "list" (.list ds)=true:=rfl
theorem Kj(S:AS) (i:Nat):si S i=(S[i]?.join).bind TJ:=by
 unfold si;cases S[i]?.join with
 |none=>rfl
 |some a=>cases a <;> rfl
def OD:AV->Option (List (pQ×D))
 | .owd kvs=>some kvs
 |_=>none
@[simp] theorem My (kvs:List (pQ×D)):OD (.owd kvs)=some kvs:=rfl
theorem MY(S:AS) (i:Nat):vp S i=(S[i]?.join).bind OD:=by
 unfold vp;cases S[i]?.join with
 |none=>rfl
 |some a=>cases a <;> rfl
theorem GT{x:Nat}{body:MS}(P:Nat->AS->Prop):∀{ds:List D}{S:AS}{k:Nat},P k S->(∀i d S,ds[i]?=some d->P (k+i) S->∃S',(body (S.set x (some (.sh d)))=some (.nx S')∨body (S.set x (some (.sh d)))=some (.ct S'))/\P (k+i+1) S')->∃S',tF x body ds S=some (.nx S')/\P (k+ds.length) S'
 | [],S,k,h0,_=>⟨S,rfl,h0⟩
 |d::ds,S,k,h0,hs=>by
  obtain⟨S',e,h1⟩:=hs 0 d S rfl h0;have hs':∀i d S,ds[i]?=some d->P (k+1+i) S->∃S',(body (S.set x (some (.sh d)))=some (.nx S')∨body (S.set x (some (.sh d)))=some (.ct S'))/\P (k+1+i+1) S':=λi d S h p=>by
   have:=hs (i+1) d S (by simpa using h) (by rw[show k+(i+1)=k+1+i by lia];exact p)
   rw[show k+(i+1)=k+1+i by lia]at this
   exact this
  obtain⟨S2,e2,h2⟩:=GT P (k:=k+1) h1 hs';refine⟨S2,?_,by rw[lCq,show k+(ds.length+1)=k+1+ds.length by lia];exact h2⟩
  show (body _).bind _=_;rcases e with e|e <;> (rw[e];exact e2)
theorem xq{x:Nat}{body:MS}(P:Nat->AS->Prop) {ds:List D}{S:AS}(h0:P 0 S) (hs:∀i d S,ds[i]?=some d->P i S->∃S',body (S.set x (some (.sh d)))=some (.nx S')/\P (i+1) S'):∃S',tF x body ds S=some (.nx S')/\P ds.length S':=by
 have:=GT (x:=x) (body:=body) P (ds:=ds) (k:=0) h0 λi d S h p=>by
  rw[cF]at p ⊢;obtain⟨S',e,q⟩:=hs i d S h p;exact⟨S',.inl e,q⟩
 rw[cF]at this;exact this
theorem Sk{x y:Nat}{body:MS}(P:Nat->AS->Prop):∀{ds:List D}{S:AS}{k:Nat},P k S->(∀i d S,ds[i]?=some d->P (k+i) S->∃S',body ((S.set x (some (.sh (.int (k+i:Nat))))).set y (some (.sh d)))=some (.nx S')/\P (k+i+1) S')->∃S',BF x y body k ds S=some (.nx S')/\P (k+ds.length) S'
 | [],S,k,h0,_=>⟨S,rfl,h0⟩
 |d::ds,S,k,h0,hs=>by
  obtain⟨S',e,h1⟩:=hs 0 d S rfl h0;have hs':∀i d S,ds[i]?=some d->P (k+1+i) S->∃S',body ((S.set x (some (.sh (.int (k+1+i:Nat))))).set y (some (.sh d)))=some (.nx S')/\P (k+1+i+1) S':=λi d S h p=>by
   have:=hs (i+1) d S (by simpa using h) (by rw[show k+(i+1)=k+1+i by lia];exact p)
   rw[show k+(i+1)=k+1+i by lia]at this
   exact this
  obtain⟨S2,e2,h2⟩:=Sk P (k:=k+1) h1 hs';refine⟨S2,?_,by rw[lCq,show k+(ds.length+1)=k+1+ds.length by lia];exact h2⟩
  show (body ((S.set x (some (.sh (.int (k:Nat))))).set y (some (.sh d)))).bind _=_;rw[gV]at e;rw[e];exact e2
theorem rP{te:MK}{cap:AS}(g:D->AV):∀{ds:List D},(∀d∈ds,∃S',te (some (.sh d)::cap)=some (g d,S'))->rF rG te cap ds=some (ds.map g)
 | [],_=>rfl
 |d::ds,h=>by
  obtain⟨S',e⟩:=h d (by simp)
  show (te (some (.sh d)::cap)).bind (λa=>(rF rG te cap ds).map (a.1 :: ·))=_
  rw[e,rP g λx hx=>h x (mCo _ hx)]
  rfl
theorem zl{tf:MT}{te:MK}{cap:AS}(p:D->Bool) (g:D->AV):∀{ds:List D},(∀d∈ds,∃S1,tf (some (.sh d)::cap)=some (p d,S1)/\(p d=true->∃S',te S1=some (g d,S')))->rF tf te cap ds=some ((ds.filter p).map g)
 | [],_=>rfl
 |d::ds,h=>by
  obtain⟨S1,e1,e2⟩:=h d (by simp)
  have ih:=zl (tf:=tf) (te:=te) (cap:=cap) p g λx hx=>h x (mCo _ hx)
  show (tf (some (.sh d)::cap)).bind _=_;rw[e1];show (if p d=true then _ else _)=_
  by_cases c:p d=true
  .obtain ⟨S',e3⟩:=e2 c;rw[qe c,e3,fS c];show (rF tf te cap ds).map _=_;rw[ih];rfl
  .rw [pV c,eT c,ih]
theorem yn{α β:Type}(f:α->β) (xs:List α) (lo hi:Option Int):yX (xs.map f) lo hi=(yX xs lo hi).map f:=by
 unfold yX;rw[lMq,jq,List.map_drop]
theorem BL{α:Type}(xs:List α) (i:Nat) (h:i<=xs.length):yX xs (some (i:Int)) none=xs.drop i:=by
 unfold yX;rw[HT.CG,HT.HN,fc h,cX (by rw[aJ];exact aj _)]
theorem Fg{α:Type}(xs:List α) (i:Nat) (h:i<=xs.length):yX xs none (some (i:Int))=xs.take i:=by
 unfold yX;rw[HT.CG,HT.HN,fc h,fj,Nat.sub_zero]
theorem Na{α:Type}(xs:List α) (i j:Nat):yX xs (some (i:Int)) (some (j:Int))=(xs.drop i).take (j-i):=by
 unfold yX;rw[HT.CG,HT.CG]
 by_cases h:i<=xs.length
 .rw [fc h]
  by_cases h2:j<=xs.length
  .rw [fc h2]
  .rw [jS (by lia),cX (by rw[aJ];exact aj _),cX (by rw[aJ];lia)]
 .have e:min i xs.length=xs.length:=jS (by lia)
  rw[e,gw (aj xs.length),gw (show xs.length<=i by lia)]
  simp
theorem JS{α:Type}{xs:List α}{i:Int}(h0:0<=i):atI xs i=xs[i.toNat]?:=by
 unfold atI Jc;rw[qe h0]
 by_cases h:i<xs.length
 .rw [qe h];rfl
 .rw [pV h,bf (by lia)]
  rfl
theorem RZ{α β:Type}(f:α->β) (xs:List α) (i:Int):atI (xs.map f) i=(atI xs i).map f:=by
 unfold atI;rw[lMq];cases Jc xs.length i with
 |none=>rfl
 |some j=>show (xs.map f)[j]?=_;rw[gMq];rfl
theorem J8{n:Nat}{i:Nat}(h:i<n):Jc n (i:Int)=some i:=by
 unfold Jc;rw[qe (by lia),qe (by lia)]
 simp
theorem JY(ns:List Int):(ns.map D.int).map AV.sh=ns.map λn=>AV.sh (.int n):=by rw[mPq];rfl
theorem Gm(ns:List Int):(ns.map λn=>AV.sh (.int n)).map pH=ns.map D.int:=by rw[mPq];exact mCq λn _=>by simp
theorem Qt(rs:List (List Int)):(rs.map aI).map pH=rs.map dI:=by
 rw[mPq];refine mCq λr _=>?_
 show pH (.ow (r.map λn=>AV.sh (.int n)))=_
 rw[sV,Gm]
theorem Ro(rs:List (List Int)):(rs.map dI).map AV.sh=rs.map λr=>AV.sh (dI r):=by rw[mPq];rfl
theorem Qu(rs:List (List Int)):(rs.map λr=>AV.sh (dI r)).map pH=rs.map dI:=by rw[mPq];exact mCq λn _=>by simp
theorem qP(ns:List Int):pH (aI ns)=dI ns:=by
 show pH (.ow (ns.map λn=>AV.sh (.int n)))=_
 rw[sV,Gm]
theorem Sg(i j:Int):zu (.int i) (.int j)=some (.int (i+j)):=xU _
theorem Rn(i j:Int):Bd (.int i) (.int j)=some (.int (i-j)):=xU _
theorem TQ(i j:Int):Xw (.int i) (.int j)=some (.bl (decide (i<j))):=xU _
theorem UA(i j:Int):Ij (.int i) (.int j)=some (.bl (decide (j<i))):=xU _
theorem U0(i:Int):Eb (.int i)=some (.int (-i)):=rfl
theorem XY:RG (.int 10) (.int 40)=some (.int (10 ^ 40)):=wk ⟨by decide,by decide,by decide⟩ _
theorem Kw{i j:Int}(h1:-(2 ^ 64)<i) (h2:i<2 ^ 64):Cq (.int i) (.int j)=some (.int (i*j)):=wk (.inl ⟨h1,h2⟩) _
theorem KL{i j:Int}(h1:-(2 ^ 64)<j) (h2:j<2 ^ 64):Cq (.int i) (.int j)=some (.int (i*j)):=wk (.inr ⟨h1,h2⟩) _
theorem tW{i j:Int}(h:0<j):vR (.int i) (.int j)=some (.int (i % j)):=wk h _
theorem zI{i j:Int}(h:0<j) (h2:j<1073741824):BN (.int i) (.int j)=some (.int (i / j)):=wk ⟨h,h2⟩ _
theorem VG:(0:Nat)<=rY:=by decide
theorem Wx:(1:Nat)<=rY:=by decide
theorem rN{n:Nat}(h:n<=16777216):n<=rY:=h
theorem OB{n:Nat}(h:n<16777216):n<rY:=h
theorem Cv{n:Nat}(h:n<1000000):Ej [.int (n:Int)]=some (rL 0 n):=by
 have e:Ej [.int (n:Int)]=some (rL 0 (n:Int).toNat):=wk ⟨by lia,by lia⟩ _
 rw[e,eJ]
theorem Ce(n:Nat):rL 0 n=(cw n).map λi:Nat=>D.int i:=by
 unfold rL;exact mCq λi _=>by rw[jF]
theorem V1(np n:Nat) (m:MS) (ds:List D):vU np n m ds=if ds.length=np then (m (ds.map (λd=>some (.sh d))++ax (n-ds.length) none)).bind λo=>match o with
  | .rt a=>some a
  | .nx _=>some (.sh .non)
  |_=>none
 else none:=rfl
theorem YS{α:Type}{a b:α}{l:List α}:(a::b::l)[1]?=some b:=rfl
theorem WY{α:Type}{a b v:α}{l:List α}:(a::b::l).set 1 v=a::v::l:=rfl
theorem YZ{α:Type}{a b c:α}{l:List α}:(a::b::c::l)[2]?=some c:=rfl
theorem Eg{α:Type}{a b c v:α}{l:List α}:(a::b::c::l).set 2 v=a::b::v::l:=rfl
theorem YN{α:Type}{a b c d:α}{l:List α}:(a::b::c::d::l)[3]?=some d:=rfl
theorem WU{α:Type}{a b c d v:α}{l:List α}:(a::b::c::d::l).set 3 v=a::b::c::v::l:=rfl
theorem YU{α:Type}{a b c d:α}{l:List α}{n:Nat}:(a::b::c::d::l)[n+4]?=l[n]?:=rfl
theorem WN{α:Type}{a b c d v:α}{l:List α}{n:Nat}:(a::b::c::d::l).set (n+4) v=a::b::c::d::l.set n v:=rfl
def zq:=aa @Z.xU (aa @Z.VG (aa @Z.Wx (aa @Z.Vj (aa @Z.V0 (aa @Z.VJ (aa @Z.Xz (aa @Z.XI (aa @Z.Vh (aa @Z.YK (aa @Z.Xy (aa @Z.W6 (aa @Z.VW (aa @Z.Tp (aa @Z.V3 (aa @Z.U8 (aa @Z.Xl (aa @Z.VH (aa @Z.Q5 (aa @Z.VN (aa @Z.U2 (aa @Z.U6 (aa @Z.RS (aa @Z.Wc (aa @Z.Vg (aa @Z.TL (aa @Z.TV (aa @Z.LQ (aa @Z.XN (aa @Z.Xn (aa @Z.Xa (aa @Z.TR (aa @Z.UF (aa @Z.UC (aa @Z.M9 (aa @Z.Pw (aa @Z.VS (aa @Z.WA (aa @Z.WB (aa @Z.Xi (aa @Z.VI (aa @Z.Ur (aa @Z.GE (aa @Z.K4 (aa @Z.Pd (aa @Z.T8 (aa @Z.Tw (aa @Z.VB (aa @Z.Q9 (aa @Z.UX (aa @Z.Tf (aa @Z.Vq (aa @Z.XM (aa @Z.LH (aa @Z.Ik (aa @Z.Pb (aa @Z.LZ (aa @Z.Ut (aa @Z.Qs (aa @Z.RE (aa @Z.PL (aa @Z.W9 (aa @Z.IP (aa @Z.Ts (aa @Z.Uj (aa @Z.UR (aa @Z.Xk (aa @Z.Py (aa @Z.Uz (aa @Z.Pe (aa @Z.We (aa @Z.R6 (aa @Z.Th (aa @Z.V2 (aa @Z.M6 (aa @Z.Si (aa @Z.Q4 (aa @Z.M3 (aa @Z.Ru (aa @Z.Sg (aa @Z.Rn (aa @Z.TQ (aa @Z.UA (aa @Z.U0 (aa @Z.XY (aa @Z.JY (aa @Z.Gm (aa @Z.Qt (aa @Z.Ro (aa @Z.Qu (aa @Z.QN (aa @Z.QP (aa @Z.Ku (aa @Z.Mn (aa @Z.MW (aa @Z.MZ (aa @Z.KW (aa @Z.L8 (aa @Z.M7 (aa @Z.Ld (aa @Z.Ge (aa @Z.Ob (aa @Z.RP (aa @Z.QF (aa @Z.Pa (aa @Z.Kj (aa @Z.MY (aa @Z.My (aa @Z.sm (aa @Z.sV (aa @Z.zQ (aa @Z.V1 (aa @Z.wK (aa @Z.IG (aa @Z.Lf (aa @List.getElem?_cons_zero.{0} (aa @Z.YS (aa @Z.YZ (aa @Z.YN (aa @Z.YU (aa @List.set_cons_zero.{0} (aa @Z.WY (aa @Z.Eg (aa @Z.WU (aa @Z.WN (aa @Option.join_some.{0} (aa @Option.map_some.{0, 0} (aa @Option.map_none.{0, 0} (aa @Option.bind_some.{0, 0} (aa @List.length_cons.{0} (aa @List.length_nil.{0} (aa @List.map_cons.{0, 0} (aa @List.map_nil.{0, 0} (aa @List.nil_append.{0} (aa @List.cons_append.{0} (aa @List.length_map.{0, 0} (aa @Bool.not_true (aa @Bool.not_false (aa @Bool.false_eq_true (aa @decide_true (aa @decide_false (aa @Nat.zero_add (aa @List.replicate_zero.{0} @List.append_nil.{0}))))))))))))))))))))))))))))))))))))))))))))))))))))))))))))))))))))))))))))))))))))))))))))))))))))))))))))))))))))))))))))))))))))))))))))))
theorem Rg{K:W.Frag}{f:MF}(h:∀ns:List Int,ns.length<=63->f [.scr ns]=some (.sh (.bl true))):∀vs H Q E,Kg K vs H Q E->rX K f vs H Q E:=by
 rintro vs H Q E ⟨a,ns,rfl,hS,hl,q⟩;refine⟨H,[.scr ns],_,.refl _,.cons (.scr hS) .nil,h ns hl,λHf' H' v F _ _ _ _ r _ _=>?_⟩
 cases r.sh_inv.2;exact q H'
end Z
namespace Mr
open PySem PySem.Spec PyProof.Rows L2
section
variable {X:Cx}{tg:Expr}
def JJ{α:Type}(P:α->Prop):List α->Prop
 | []=>True
 |a::l=>P a/\JJ P l
theorem JJ.mem{α:Type}{P:α->Prop}:∀{l:List α},JJ P l->∀a∈l,P a
 | [],_,a,h=>by cases h
 |b::l,hp,a,h=>(ae.mp h).elim (λe=>e ▸ hp.1) (JJ.mem hp.2 a)
theorem tM.of{scope:mH}{cl:List (Str×Addr)}{x:Str}{N:List Str}{fr:List Nat}(h1:N.Nodup) (h2:N[0]?=some x) (h3:N.length=fr.length+1)
  (h4:JJ (λp=>X.env.cells.lookup p.1=some p.2) cl) (h5:JJ (λp=>(p.2 = .cell∨p.2 = .free)->∃c,cl.lookup p.1=some c) (mW scope X.env).names)
  (h6:JJ (λp=>X.N[p.1]?=some p.2/\X.env.scope.names.lookup p.2=some .cell/\(mW scope X.env).names.lookup p.2=some .cell) (fr.zip (N.drop 1))):tM X scope cl x N fr where
 names:=h1
 own:=h2
 len:=h3
 sub:=λy c e=>h4.mem (y,c) (PySem.mem_of_lookup e)
 has:=λy e=>by
  rcases e with e|e
  .exact h5.mem _ (PySem.mem_of_lookup e) (.inl rfl)
  .exact h5.mem _ (PySem.mem_of_lookup e) (.inr rfl)
 get:=λk j y e1 e2=>by
  have hm:(j,y)∈fr.zip (N.drop 1):=by
   refine mGq (i:=k) ?_;rw[iz];exact⟨e1,by rw[cI,fo];exact e2⟩
  exact h6.mem _ hm
end
end Mr
namespace Z
open PySem L2 Mr
def Zj(k:MK):MI:=λS=>(xj k S).bind λy=>(vm (pH y.1)).map λds=>(ds.reverse,y.2)
section
variable {K:W.Frag}{tf:TT}{te:TE}{mf:MT}{me:MK}{fr:List Nat}
def XE(a b:ME):ME:=λS=>(a S).bind λx=>(b x.2).bind λy=>(dictOf x.1).bind λkvs=>(vi y.1).map λkey=>((getD kvs key).getD .non,y.2)
end
theorem UO(ds:List (pQ×D)):Km [.dict ds]=some (.int ds.length):=rfl
def YE:=@UO
end Z
namespace Mr
open PySem PySem.W PySem.Spec PyProof.Rows L2
abbrev g2(K:W.Frag):TG:=QY K 2 (D6 (uv 0) (D6 (uv 1) Rp))
end Mr
namespace Mr
open PySem L2
end Mr
namespace Xe
open PySem PySem.Spec PySem.W PyProof.Rows L2 Mr
section
variable {X:Cx}
def Wg(o:Obj) (d:Addr) (kvs:List (pQ×V)):It :=
  ⟨λi H=>H d=some (.frz o (.dK kvs))/\∃p,kvs[i]?=some p,
   λi H x H'=>H'=H/\∃p,kvs[i]?=some p/\x=kV p.1,
   λi H=>H d=some (.frz o (.dK kvs))/\kvs.length<=i⟩
theorem Li{P:kL}{w:kN}{K:Frag}{tg:Expr}(o:Obj) (d it:Addr) (kvs:List (pQ×V)) (vs:List (pQ×Value)) (ep:Nat) (hne:d≠it)
  (ho:∀h:Heap,h.get? d=some o->h.DictAt (qQ P w) d vs ep) (kv:KV kvs vs):IV P w K tg (Wg o d kvs) [it] it (λi h=>h.IsKeyIter it d i vs.length ep) where
 mem:=by simp
 obj:=λi h st b hb=>by
  have e:b=it:=by simpa using hb
  subst e;obtain⟨o',e,c,dd⟩:=st;exact⟨o',e,λv z=>by rw[dd]at z;cases z⟩
 keep:=λi h h' st k=>by
  obtain⟨o',e,c,dd⟩:=st;exact⟨o',k it (by simp) _ e,c,dd⟩
 item:=by
  intro X hP hw hK hc i oV s σ H E I hf st hg;subst hP hw hK;obtain⟨hd,p,hp⟩:=hg;have e1:s.heap.get? d=some o:=(show rV X.prog X.w H s.heap d (.frz o (.dK kvs)) from I.hok d _ hd).1
  obtain⟨u,hx,ru⟩:=PN kv hp;obtain⟨f0,f1,f2,f3,f4,f5⟩:=hf it (by simp)
  refine wpAny_pyNext_dict_item st (ho _ e1) hx λkey h' hkey st' sb=>?_
  have I1:L2.Inv X oV σ H { s with heap:=h' }:=I.turned (t':=s.toks) (λb o hb e=>(sb.2 b hb).trans e) f0 f1 f3 f4 f5
  have rk:qN (kV p.1) key:=by
   rcases rh hkey with ⟨j,t,e,rfl⟩|⟨z,t,e,rfl⟩
   .rw [e];exact⟨t,rfl⟩
   .rw [e];exact⟨t,rfl⟩
  obtain⟨o',e,c,dd⟩:=id st';exact⟨key,rfl,KD (s:={ s with heap:=h' }) e c dd (by decide) ⟨_,H,I1,rk,⟨rfl,p,hp,rfl⟩,st',λb hb=>(hf b hb).1⟩⟩
 done:=by
  intro X hP hw hK hc i oV s σ H E I hf st hg;subst hP hw hK;obtain⟨hd,hl⟩:=hg;have e1:s.heap.get? d=some o:=(show rV X.prog X.w H s.heap d (.frz o (.dK kvs)) from I.hok d _ hd).1
  have l:=Paired.length kv;obtain⟨f0,f1,f2,f3,f4,f5⟩:=hf it (by simp)
  exact wpAny_pyNext_dict_end (I.ok.hd hc) st (ho _ e1) (bf (by lia)) λh' eb=>⟨rfl,I.turned (t':=s.toks) (λb o hb e=>eb b o hb e) f0 f1 f3 f4 f5⟩
 self:=λ_ _ _ _ _ st h=>wpAny_pyIter_keyiter st h
def O3(te:TE):TI:=λσ H R=>te σ H λx H1=>∃d kvs,x = .ref d/\H1 d=some (.dK kvs)/\∀o,R (Wg o d kvs) (rK H1 d (.frz o (.dK kvs)))
theorem Fz{tg o:Expr}{te:TE}(ho:PE X o te):PI X tg o (O3 te):=by
 intro oV s σ H R I h;refine thn (ho oV s σ H _ I h) λv s1 hz1=>?_
 obtain⟨x,H1,I1,r1,d,kvs,ex,ha,q⟩:=hz1;subst ex;obtain rfl:=(show v=bZ d from r1)
 obtain⟨hz,sa,vs,kv,dd⟩:=(show rV X.prog X.w H1 s1.heap d (.dK kvs) from I1.hok d _ ha)
 obtain⟨ep,ob,es,hob,rest⟩:=dd.dictAt;have da:∀h:Heap,h.get? d=some ob->h.DictAt (qQ X.prog X.w) d vs ep:=λh e=>⟨ob,es,e,rest⟩
 have hlt:d<s1.heap.objs.size:=az hob;refine wpAny_pyIter_dict sa (da _ hob) ?_;have kp:∀b u,s1.heap.get? b=some u->(s1.heap.push { cls:=.type "dict_keyiterator", data:=.fields #[.ref d,.int 0 0,.int vs.length 0,.int ep 0] }).get? b=some u:=λb u e=>au _ e
 have I2:L2.Inv X oV σ (rK H1 d (.frz ob (.dK kvs))) { s1 with heap:=s1.heap.push { cls:=.type "dict_keyiterator", data:=.fields #[.ref d,.int 0 0,.int vs.length 0,.int ep 0] } } :=
  (I1.kept (t':=s1.toks) kp).write (x:=d) (e:=d) (o:=.frz ob (.dK kvs)) (t':=s1.toks) (by rw[ha];trivial) (.inl rfl) (λb u _ e=>e) ⟨_,kp _ _ hob⟩ ⟨kp _ _ hob,hz,sa,vs,kv,(da _ (kp _ _ hob)).dictOf⟩
 refine⟨s1.heap.objs.size,[s1.heap.objs.size],_,_,_,rfl,I2,Li ob d _ kvs vs ep (aL hlt) da kv,?_,λb hb=>?_,q ob⟩
 .exact ⟨_,bh _ rfl,rfl,rfl⟩
 .have e:b=s1.heap.objs.size:=by simpa using hb
  subst e;exact I1.fpOk (aj _) (by rw[pS (fk hlt)];exact I1.hok.fresh (aj _))
end
end Xe
namespace Mr
open PySem PySem.Spec PyProof.Rows L2
end Mr
namespace Z
open PySem L2 Mr
theorem QD(c:MT) (body:MS) (n:Nat) (S:AS):uq c body (n+1) S=(c S).bind λx=>if x.1=true then (body x.2).bind λo=>match o with
   | .nx S'=>uq c body n S'
   | .ct S'=>uq c body n S'
   | .bk S'=>some (.nx S')
   | .rt a=>some (.rt a)
  else some (.nx x.2):=rfl
end Z
namespace Z
open PySem L2 Mr Xe
inductive Va where
 |ok (a:AV)|ex (c:Str) (fs:List (Str×Int))
abbrev Wq:=List D->Option Va
def Y2:Va->Option AV
 | .ok a=>some a
 |_=>none
def Ze(f:Wq):MF:=λds=>(f ds).bind Y2
inductive JC where
 |ok (o:Fp)|ex (c:Str) (fs:List (Str×Int))
abbrev MX:=AS->Option JC
def Zh(m:MS):MX:=λS=>(m S).map .ok
def Y4(a b:MX):MX:=λS=>(a S).bind λo=>match o with
 | .ok (.nx S')=>b S'
 |o=>some o
def Zb(c:MT) (a b:MX):MX:=λS=>(c S).bind λx=>if x.1=true then a x.2 else b x.2
def Xs(c fld:Str) (a:ML):MX:=λS=>(a S).bind λx=>match x.1 with
 | [.int n]=>some (.ex c [(fld,n)])
 |_=>none
def YX(np n:Nat) (m:MX):Wq:=λds=>if ds.length=np then (m (ds.map (λd=>some (.sh d))++ax (n-ds.length) none)).bind λo=>match o with
  | .ok (.rt a)=>some (.ok a)
  | .ok (.nx _)=>some (.ok (.sh .non))
  | .ex c fs=>some (.ex c fs)
  |_=>none
 else none
abbrev MH:=Str->List (Str×Int)->MS
def MV(c c':Str):Bool:=decide (c'=c∨c' = "MapError")
def YT(i:Nat):Fp->Fp
 | .nx S=>.nx (S.set i none)
 | .bk S=>.bk (S.set i none)
 | .ct S=>.ct (S.set i none)
 | .rt a=>.rt a
def Zi(c':Str) (i:Nat) (mb:MS) (rest:MH):MH:=λc fs S=>if MV c c'=true then (mb (S.set i (some (.sh (.exc c fs))))).map (YT i) else rest c fs S
def Y9(c':Str) (mb:MS) (rest:MH):MH:=λc fs S=>if MV c c'=true then mb S else rest c fs S
def Ym(f:Wq) (a:MA) (hm:MH):MS:=λS=>(a S).bind λx=>(f (x.1.map pH)).bind λr=>match r with
 | .ok _=>some (.nx x.2)
 | .ex c fs=>hm c fs x.2
def X9(i:Nat) (f:Wq) (a:MA) (hm:MH):MS:=λS=>(a S).bind λx=>(f (x.1.map pH)).bind λr=>match r with
 | .ok r=>some (.nx (x.2.set i (some r)))
 | .ex c fs=>hm c fs x.2
def XX(f:Str):D->Option D
 | .exc _ fs=>(fs.lookup f).map .int
 |_=>none
section
variable {K:W.Frag}{te:TE}{m:ME}{f:Str}
def YF(c:Str):ME:=λS=>some (.cls c,S)
def NO(c:Str):D->Option Bool
 | .cls c'=>some (MV c c')
 | .ty T=>if T = "ValueError" then some true else none
 |_=>none
def Hh(c:Str):List D->Option Bool
 | []=>some false
 |d::ds=>(NO c d).bind λb=>(Hh c ds).map λb2=>b || b2
def YH:List D->Option D
 | [.exc c _,.tup ds]=>(Hh c ds).map .bl
 | [.exc c _,d]=>(NO c d).map .bl
 |_=>none
end
def kD:pQ->D
 | .inl i=>.int i
 | .inr x=>.str x
theorem Gu{K:W.Frag}{H:Hp}(k:pQ):sv K H (kD k) (kV k):=by
 cases k with
 |inl i=>exact .int
 |inr x=>exact .str
def Js(x y:Nat) (body:MS):List (pQ×D)->AS->Option Fp
 | [],S=>some (.nx S)
 |p::ps,S=>(body ((S.set x (some (.sh (kD p.1)))).set y (some (.sh p.2)))).bind λo=>match o with
  | .nx S'=>Js x y body ps S'
  | .ct S'=>Js x y body ps S'
  | .bk S'=>some (.nx S')
  | .rt a=>some (.rt a)
def X5(x y:Nat) (k:MK) (body:MS):MS:=λS=>(k S).bind λz=>(OD z.1).bind λkvs=>Js x y body kvs z.2
section
variable {K:W.Frag}{te tf:TE}{k:MK}{tb:TS}{body:MS}{x y:Nat}
theorem qt.fix{H₀ Hf₀ Hf H:Hp}{S:AS}{σ:St}{Fs:List (List Addr)}(R:qt K H₀ Hf₀ Hf S σ H Fs) {p:Addr}{o:HO}(h1:p∉Fs.flatten) (h2:Hf p=none) (h3:H₀ p=none):qt K H₀ Hf₀ (rK Hf p o) S σ (rK H p o) Fs:=by
 have s:qB Hf (rK Hf p o):=xR h2;refine⟨R.len,R.lenF,λi av e=>?_,R.emp,R.nd,R.fresh,λb u z=>?_,λb u z=>?_,λb z1 z2=>?_,R.sf.trans s⟩
 .obtain ⟨v,F,e1,e2,r⟩:=R.rep i av e;have hne:∀q∈F,q≠p:=λq hq z=>h1 (by rw[←z];exact mFq.mpr ⟨F,mGq e2,hq⟩)
  exact⟨v,F,e1,e2,r.keep s (λq hq=>pS (hne q hq)) λq hq=>by rw[pS (hne q hq)];exact(r.owned q hq).2⟩
 .by_cases hb:b=p
  .subst hb;rw[qa]at z ⊢;exact z
  .rw [pS hb]at z ⊢;exact R.sub b u z
 .have hb:b≠p:=λq=>by rw[q,h3]at z;cases z
  rw[pS hb];exact R.fr b u z
 .have hb:b≠p:=λq=>z2 (by rw[q];exact h3)
  rw[pS hb];exact R.lim b z1 z2
def Ja(a:ME):MK:=λS=>(a S).bind λx=>(dictOf x.1).map λkvs=>(.ow (kvs.map λp=>.sh (kD p.1)),x.2)
end
def Yz(c:Str):MK:=λS=>some (.sh (.cls c),S)
def X0:Option JC->MX->Option JC
 |none,_=>none
 |some (.ok (.nx S)),b=>b S
 |some o,_=>some o
def WX(c fld:Str):List D->Option JC
 | [.int n]=>some (.ex c [(fld,n)])
 |_=>none
def X6:JC->Option Va
 | .ok (.rt a)=>some (.ok a)
 | .ok (.nx _)=>some (.ok (.sh .non))
 | .ex c fs=>some (.ex c fs)
 |_=>none
def YL(hm:MH) (S:AS):Va->Option Fp
 | .ok _=>some (.nx S)
 | .ex c fs=>hm c fs S
def Yy(i:Nat) (hm:MH) (S:AS):Va->Option Fp
 | .ok r=>some (.nx (S.set i (some r)))
 | .ex c fs=>hm c fs S
variable (S:AS)
theorem Kz(a:ME):Ja a S=(a S).bind λx=>(dictOf x.1).map λkvs=>(.ow (kvs.map λp=>.sh (kD p.1)),x.2):=rfl
def YB:=@Kz
def Vi(f:AV->Option JC):Va->Option JC
 | .ok r=>f r
 | .ex c fs=>some (.ex c fs)
def WO:D->List D->Option D
 | .str a,[.str b]=>some (.bl (Txt.startswith a b))
 |_,_=>none
def uP:List D->Option (List Bool)
 | []=>some []
 | .bl b::ds=>(uP ds).map (b :: ·)
 |_=>none
def G0:List D->Option D
 | [.list ds]=>(uP ds).map λbs=>.bl (bs.all id)
 |_=>none
theorem Di:∀{ds:List D}{bs:List Bool},uP ds=some bs->ds=bs.map .bl
 | [],bs,h=>by cases h;rfl
 |d::ds,bs,h=>by
  cases d with
  |bl b =>
   obtain⟨ms,h1,h2⟩:=oMq.mp (show (uP ds).map (b :: ·)=some bs from h)
   subst h2;rw[Di h1];rfl
  |_=>cases h
theorem Hj(bs:List Bool):uP (bs.map .bl)=some bs:=by
 induction bs with
 |nil=>rfl
 |cons b bs ih=>show (uP (bs.map .bl)).map (b :: ·)=_;rw[ih];rfl
theorem zk{K:W.Frag}{H:Hp}:∀{bs:List Bool}{vs:List V},qV K H (bs.map .bl) vs->vs=bs.map V.bl
 | [],vs,h=>h.nil_inv
 |b::bs,vs,h=>by
  obtain⟨v,ws,rfl,h1,h2⟩:=qV.cons_inv (d:=.bl b) (ds:=bs.map .bl) h;cases h1;rw[zk h2];rfl
section
variable {K:W.Frag}
theorem N9:Sl K (λxs H Q=>∃(a:Addr) (bs:List Bool),xs=[.ref a]/\tJ K H a (bs.map V.bl)/\Q (.bl (bs.all id)) H) G0:=by
 intro vs H Q ds d r e q;unfold G0 at e;split at e
 .obtain ⟨bs,e1,e⟩:=oMq.mp e;cases e;obtain⟨v,ws,rfl,h1,h2⟩:=r.cons_inv;rw[h2.nil_inv];rw[Di e1]at h1;obtain⟨p,us,rfl,h3,h4⟩:=h1.list_inv;rw[zk h4]at h3;exact⟨p,bs,rfl,tJ.of h3,q _ .bl⟩
 .cases e
end
theorem S4(ds:List D):G0 [.list ds]=(uP ds).map λbs=>.bl (bs.all id):=rfl
def SM(K:W.Frag) (te:TE) (m:ME):Prop:=∀{H₀ Hf₀ Hf:Hp}{S:AS}{σ:St}{H:Hp}{Fs:List (List Addr)}{d:D}{S':AS},qt K H₀ Hf₀ Hf S σ H Fs->m S=some (d,S')->∀Q:VK,
 (∀Hf' H' Fs' v,qB Hf Hf'->qt K H₀ Hf₀ Hf' S' σ H' Fs'->sv K Hf' d v->Q v H')->te σ H Q
def Tr:AV->Option D
 | .sh d=>some d
 |_=>none
theorem NU{a:AV}{d:D}(h:Tr a=some d):a = .sh d:=by
 unfold Tr at h;split at h <;> cases h
 rfl
def zS(i:Nat) (b:ME):ME:=λS=>(si S i).bind λ_=>(b S).bind λy=>(intOf y.1).bind λz=>(si y.2 i).bind λavs=>vY (0<=z/\z<avs.length/\avs.length<=rY) ((avs[z.toNat]?.bind Tr).map λd=>(d,y.2.set i (some (.ow (avs.eraseIdx z.toNat)))))
def DA(i:Nat):ME:=λS=>(si S i).bind λavs=>(avs[avs.length-1]?.bind Tr).map λd=>(d,S.set i (some (.ow avs.dropLast)))
def VU(kvs:List (pQ×D)) (k:pQ):List (pQ×D):=kvs.filter λkv=>decide (kv.1≠k)
def XW(i:Nat) (b:ME):ME:=λS=>(vp S i).bind λ_=>(b S).bind λy=>(vi y.1).bind λkey=>(vp y.2 i).bind λkvs=>(getD kvs key).map λd=>(d,y.2.set i (some (.owd (VU kvs key))))
section
variable {K:W.Frag}
theorem qu.erase{Hf H:Hp}{as:List AV}{vs:List V}{Gs:List (List Addr)}(r:qu K Hf H as vs Gs) (k:Nat):qu K Hf H (as.eraseIdx k) (vs.eraseIdx k) (Gs.eraseIdx k):=by
 obtain⟨h1,h2,h3⟩:=r;refine⟨by rw[fq,fq,h1],by rw[fq,fq,h2],λi b w G e1 e2 e3=>?_⟩
 rw[List.getElem?_eraseIdx]at e1 e2 e3;split at e1
 .rename_i q;rw[qe q]at e2 e3;exact h3 i b w G e1 e2 e3
 .rename_i q;rw[pV q]at e2 e3;exact h3 (i+1) b w G e1 e2 e3
theorem IZ{Gs:List (List Addr)}{k:Nat}(h:Gs[k]?=some []):(Gs.eraseIdx k).flatten=Gs.flatten:=by
 induction Gs generalizing k with
 |nil=>cases h
 |cons g r ih =>
  cases k with
  |zero =>
   simp at h;subst h;rfl
  |succ k =>
   rw[cQ,fCq,fCq,ih (by simpa using h)]
theorem qt.lose{H₀ Hf₀ Hf H:Hp}{S:AS}{σ:St}{Fs:List (List Addr)}(R:qt K H₀ Hf₀ Hf S σ H Fs) {i k:Nat}{avs:List AV}{d:D}(h:S[i]?=some (some (.ow avs))) (hk:avs[k]?=some (.sh d)) :
  ∃p vs y F',σ[i]?=some (some (.ref p))/\H p=some (.lst vs)/\avs.length=vs.length/\vs[k]?=some y/\sv K Hf d y/\qt K H₀ Hf₀ Hf (S.set i (some (.ow (avs.eraseIdx k)))) σ (rK H p (.lst (vs.eraseIdx k))) (Fs.set i F'):=by
 obtain⟨p,vs,Gs,s1,s2,h1,h2,h3,h4,h5,h6⟩:=R.ow h;have lk:k<avs.length:=(gSq.mp hk).1;obtain⟨y,hy⟩:∃y,vs[k]?=some y:=⟨_,gEg (by rw[←h3.1];exact lk)⟩
 obtain⟨G,hG⟩:∃G,Gs[k]?=some G:=⟨_,gEg (by rw[←h3.2.1];exact lk)⟩
 obtain⟨hG0,ry⟩:=(h3.2.2 k _ _ _ hk hy hG).sh_inv;subst hG0;have hf:=IZ hG;refine⟨p,vs,y,p::(Gs.eraseIdx k).flatten,s1,h1,h3.1,hy,ry,R.turn s1 s2 (by simp) (qr.news qa h2 ((h3.keepUpd h4).erase k)) ?_ ?_⟩
 .rw [hf];exact aq.mpr ⟨h4,h5⟩
 .rw [hf];exact h6
theorem HF{i:Nat}{tb:TE}{b:ME}(hb:SR K tb b):SM K (Qg K "list" P6 (xi i) (uM tb wQ)) (zS i b):=by
 intro H₀ Hf₀ Hf S σ H Fs d S' R e Q q;obtain⟨a0,e0,e⟩:=oBq.mp e;obtain⟨y,e1,e⟩:=oBq.mp e;obtain⟨z,e2,e⟩:=oBq.mp e;obtain⟨avs,e3,e⟩:=oBq.mp e;rcases qh e with ⟨⟨z0,z1,z2⟩,e⟩|e
 .obtain ⟨d',e4,e⟩:=oMq.mp e;cases e;obtain⟨a,e4,e5⟩:=oBq.mp e4;have e5:=NU e5;subst e5;obtain⟨p,vs,Gs,s1,_,h1,_⟩:=R.ow (qF e0);refine⟨.ref p,s1,.inl ⟨rfl,vs,tJ.of h1⟩,hb R (d:=y.1) (S':=y.2) e1 _ λHf1 H1 Fs1 v t1 R1 r1=>?_⟩
  obtain⟨p',vs',w,F',s1',hp,hl,hw,rw',R2⟩:=R1.lose (qF e3) e4;rw[s1]at s1';cases s1';have hv:v = .int z:=by
   have:y.1 = .int z:=by
    revert e2
    unfold intOf;split <;> intro e2 <;> cases e2
    assumption
   rw[this]at r1;cases r1;rfl
  subst hv;have hz:(avs.length:Int)<=16777216:=by
   have:avs.length<=16777216:=z2;lia
  refine⟨p,vs',z,z.toNat,w,rfl,rfl,hp,by lia,by lia,?_,hw,q _ _ _ _ t1.sf R2 rw'⟩
  rw[←hl];unfold oi;have n1:¬ z<0:=by lia
  have n2:(decide (0<=z) && decide (z<(avs.length:Int)))=true:=by
   rw[decide_eq_true z0,decide_eq_true z1];rfl
  simp only[n1,if_false];exact qe n2
 .cases e
theorem TB{i:Nat}:SM K (Qg K "list" Ux (xi i) wQ) (DA i):=by
 intro H₀ Hf₀ Hf S σ H Fs d S' R e Q q;obtain⟨avs,e0,e⟩:=oBq.mp e;obtain⟨d',e4,e⟩:=oMq.mp e;cases e;obtain⟨a,e4,e5⟩:=oBq.mp e4;have e5:=NU e5;subst e5;obtain⟨p,vs,w,F',s1,hp,hl,hw,rw',R2⟩:=R.lose (qF e0) e4;refine⟨.ref p,s1,.inl ⟨rfl,vs,tJ.of hp⟩,p,vs,w,rfl,rfl,hp,by rw[←hl];exact hw,?_⟩
 rw[AF,hl,AF]at R2;exact q _ _ _ _ (.refl _) R2 rw'
def EL(i:Nat) (m:ME):MS:=λS=>(m S).map λx=>.nx (x.2.set i (some (.sh x.1)))
theorem Re{i:Nat}{te:TE}{m:ME}(h:SM K te m):SS K (Jj te (uv i)) (EL i m):=by
 intro H₀ Hf₀ Hf S σ H Fs o R e D hd;obtain⟨x,e1,e⟩:=oMq.mp e;cases e;refine h R (d:=x.1) (S':=x.2) e1 _ λHf1 H1 Fs1 v t1 R1 r1=>?_
 exact hd _ _ _ _ t1 (R1.setD i r1)
def Yi(i:Nat) (m:ME):MS:=λS=>(si S i).bind λ_=>(m S).bind λx=>(si x.2 i).bind λavs=>vY (avs.length<rY) (some (.nx (x.2.set i (some (.ow (avs++[.sh x.1]))))))
def Xj(i:Nat) (b:ME) (m:ME):MS:=λS=>(m S).bind λx=>(vp x.2 i).bind λ_=>(b x.2).bind λy=>(vp y.2 i).bind λkvs=>(vi y.1).bind λkey =>
 vY (kvs.length<rY) (some (.nx (y.2.set i (some (.owd (yC kvs key x.1))))))
end
theorem UM(d:D):Tr (.sh d)=some d:=rfl
theorem Qa(S:AS) (i:Nat) (b:ME):zS i b S=(si S i).bind λ_=>(b S).bind λy=>(intOf y.1).bind λz=>(si y.2 i).bind λavs=>vY (0<=z/\z<avs.length/\avs.length<=rY) ((avs[z.toNat]?.bind Tr).map λd=>(d,y.2.set i (some (.ow (avs.eraseIdx z.toNat))))):=rfl
theorem UU(S:AS) (i:Nat):DA i S=(si S i).bind λavs=>(avs[avs.length-1]?.bind Tr).map λd=>(d,S.set i (some (.ow avs.dropLast))):=rfl
theorem UW(S:AS) (i:Nat) (m:ME):EL i m S=(m S).map λx=>.nx (x.2.set i (some (.sh x.1))):=rfl
def YG:=aa @UM (aa @Qa (aa @UU @UW))
section
variable {K:W.Frag}{H₀ Hf₀ Hf H:Hp}{S:AS}{σ:St}{Fs:List (List Addr)}{te tb:TE}{k:MK}{b:ME}
theorem qt.poke(R:qt K H₀ Hf₀ Hf S σ H Fs) {p:Addr}{o:HO}(pn:Hf p=none) (p0:H₀ p=none) (pf:p∉Fs.flatten):qt K H₀ Hf₀ Hf S σ (rK H p o) Fs:=by
 refine⟨R.len,R.lenF,λj a ej=>?_,R.emp,R.nd,R.fresh,λb u e=>?_,λb u e=>?_,R.lim,R.sf⟩
 .obtain ⟨w,G,f1,f2,q⟩:=R.rep j a ej;refine⟨w,G,f1,f2,q.keep (.refl _) (λc hc=>pS λe=>pf ?_) λc hc=>(q.owned c hc).2⟩
  subst e;exact qo f2 hc
 .rw [pS λz=>by rw[z,pn]at e;cases e]
  exact R.sub b u e
 .rw [pS λz=>by rw[z,p0]at e;cases e]
  exact R.fr b u e
theorem zZ.stays{Hf' H':Hp}{Fs':List (List Addr)}(t:zZ Hf H Fs Hf' H' Fs') {p:Addr}(pn:Hf p=none) (ph:H p≠none) (pf:p∉Fs.flatten):Hf' p=none/\p∉Fs'.flatten:=by
 refine⟨?_,λm=>pf (t.own p m)⟩
 by_cases h:Hf' p=none
 .exact h
 .exact ((t.gr p pn h).elim (λe=>absurd e ph) λm=>absurd m pf)
def Iq(b:ME) (k:MK):MK:=λS=>(b S).bind λy=>(xj k y.2).bind λx=>(vi y.1).map λkey=>(.owd [(key,pH x.1)],x.2)
theorem NQ(hb:SR K tb b) (hk:SK K te k):SK K (SN [(tb,te)]) (Iq b k):=by
 intro H₀ Hf₀ Hf S σ H Fs av S' R e Q q;obtain⟨y,e1,e⟩:=oBq.mp e;obtain⟨x,e2,e⟩:=oBq.mp e;obtain⟨key,e3,e⟩:=oMq.mp e;cases e;have hk':SK K te (xj k):=SK.frz hk;intro p hp;obtain⟨t0,R0,n1,n2,n3⟩:=R.new (o:=.dK []) hp;have own0:=za.one R hp;refine hb R0 (d:=y.1) (S':=y.2) e1 _ λHf1 H1 Fs1 w t1 R1 r1=>?_
 have p0:rK H p (HO.dK []) p=some (.dK []):=qa;have p1:H1 p=some (.dK []):=t1.sh p _ p0;obtain⟨a1,a2⟩:=t1.stays n1 (by rw[p0];simp) n3
 refine hk' R1 (a:=x.1) (S':=x.2) e2 _ λHf2 H2 Fs2 v F t2 R2 r2 o2=>?_
 have p2:H2 p=some (.dK []):=t2.sh p _ p1;obtain⟨b1,b2⟩:=t2.stays a1 (by rw[p1];simp) a2
 obtain⟨x1,hx1⟩:∃d,x.1 = .sh d:=by
  obtain⟨w,_,e⟩:=oMq.mp e2;rw[←e];exact⟨_,rfl⟩
 rw[hx1]at r2;have rv:=r2.sh_inv.2;have hw:=wC e3 r1;subst hw;refine⟨p2,[(key,v)],rfl,by simp,?_⟩
 have t12:=(t0.trans t1).trans t2;have hs:qB H (rK H2 p (HO.dK (Bs [] [(key,v)]))):=λc u e=>by
  rw[pS λz=>by rw[z,hp]at e;cases e]
  exact t12.sh c u e
 refine q Hf2 _ Fs2 (.ref p) [p] ⟨t12.sf,hs,t12.own,t12.gr⟩ (R2.poke b1 n2 b2) (.owd qa b1 ⟨rfl,λi d u h1 h2=>?_⟩) ⟨by simp,λc h=>by rw[mSq.mp h];exact n2,λc h=>by rw[mSq.mp h];exact b2,λc h=>by rw[mSq.mp h];exact .inl hp⟩
 match i,h1,h2 with
 |0,h1,h2 =>
  cases h1;cases h2;rw[hx1,sm];exact rv
 |i+1,h1,_=>simp at h1
theorem FW{i:Nat}:SM K (VF K "list" Ux (xi i)) (DA i):=TB
def Am:List (pQ×D)->Option (List Int)
 | []=>some []
 | (.inl i,_)::r=>(Am r).map (i :: ·)
 |_=>none
theorem Hk:∀{kvs:List (pQ×D)}{ns:List Int},Am kvs=some ns->kvs.map (·.1)=ns.map aM
 | [],ns,h=>by cases h;rfl
 | (.inl i,d)::r,ns,h=>by
  obtain⟨ms,h1,h2⟩:=oMq.mp (show (Am r).map (i :: ·)=some ns from h)
  subst h2;rw[ar,ar,Hk h1]
 | (.inr _,_)::_,_,h=>by cases h
def Gn(a:ME):MK:=λS=>(a S).bind λx=>match x.1 with
 | .dict kvs=>(Am kvs).map λns=>(.ow ((rO ns).map λn=>.sh (.int n)),x.2)
 |_=>none
theorem Nc(hb:SR K te b):SK K (Qe (λxs H Q=>∃(a:Addr) (kvs:List (pQ×V)) (ns:List Int),xs=[.ref a]/\H a=some (.dK kvs)/\kvs.map (·.1)=ns.map aM/\∀p,H p=none->Q (.ref p) (rK H p (.lst ((rO ns).map V.int)))) (uM te wQ)) (Gn b):=by
 intro H₀ Hf₀ Hf S σ H Fs av S' R e Q q;obtain⟨x,e1,e⟩:=oBq.mp e;obtain⟨x1,x2⟩:=x;cases x1 with
 |dict kvs =>
  obtain⟨ns,e2,e⟩:=oMq.mp (show (Am kvs).map (λns=>(AV.ow ((rO ns).map λn=>.sh (.int n)),x2))=some (av,S') from e)
  cases e;refine hb R (d:=.dict kvs) (S':=S') e1 _ λHf1 H1 Fs1 w t1 R1 r1=>?_
  obtain⟨p1,vs,rfl,h1,h2⟩:=r1.dict_inv;refine⟨p1,vs,ns,rfl,h1,by rw[←h2.1];exact Hk e2,λp hp=>?_⟩
  obtain⟨t4,R4,n1,n2,n3⟩:=R1.new (o:=.lst ((rO ns).map V.int)) hp;rw[zo]at q;exact q _ _ _ (.ref p) [p] (t1.trans t4) R4 (qr.new qa n1 (uK _)) ((za.one R1 hp).back t1)
 |_=>cases e
end
theorem RD(S:AS) (b:ME) (k:MK):Iq b k S=(b S).bind λy=>(xj k y.2).bind λx=>(vi y.1).map λkey=>(.owd [(key,pH x.1)],x.2):=rfl
def Sn:D->AS->Option (AV×AS)
 | .dict kvs,S=>(Am kvs).map λns=>(.ow ((rO ns).map λn=>.sh (.int n)),S)
 |_,_=>none
theorem R7(S:AS) (a:ME):Gn a S=(a S).bind λx=>Sn x.1 x.2:=by
 unfold Gn;congr 1;funext x;obtain⟨x1,x2⟩:=x;cases x1 <;> rfl
theorem UB(kvs:List (pQ×D)) (S:AS):Sn (.dict kvs) S=(Am kvs).map λns=>(.ow ((rO ns).map λn=>.sh (.int n)),S):=rfl
theorem Ez{α:Type}(f:α->Int) (g:α->D):∀l:List α,Am (l.map λx=>(aM (f x),g x))=some (l.map f)
 | []=>rfl
 |x::l=>by
  show (Am (l.map λx=>(aM (f x),g x))).map (f x :: ·)=_
  rw[Ez f g l];rfl
def YD:=aa @RD (aa @R7 @UB)
def NM:D->Option V
 | .non=>some .non
 | .bl b=>some (.bl b)
 | .int i=>some (.int i)
 | .str s=>some (.str s)
 |_=>none
def BW:List D->Option (List V)
 | []=>some []
 |d::ds=>(NM d).bind λv=>(BW ds).map (v :: ·)
def T3:D->Option (List D)
 | .list ds=>some ds
 | .tup ds=>some ds
 |_=>none
def G2(neg:Bool) (x y:D):Option D:=(NM x).bind λv=>(T3 y).bind λds=>(BW ds).map λvs=>.bl (if neg then !Ve v vs else Ve v vs)
section
variable {K:W.Frag}{te:TE}
theorem ED{H:Hp}{d:D}{v w:V}(e:NM d=some v) (r:sv K H d w):w=v/\Ak v=true:=by
 cases d <;> first|(cases e;cases r;exact⟨rfl,rfl⟩)|cases e
theorem zN{H:Hp}:∀{ds:List D}{vs ws:List V},BW ds=some vs->qV K H ds ws->ws=vs/\vs.all Ak=true
 | [],vs,ws,e,r=>by
  cases e;exact⟨r.nil_inv,rfl⟩
 |d::ds,vs,ws,e,r=>by
  obtain⟨v,e1,e⟩:=oBq.mp e;obtain⟨us,e2,rfl⟩:=oMq.mp e;obtain⟨w,ws',rfl,r1,r2⟩:=r.cons_inv;obtain⟨rfl,f1⟩:=ED e1 r1;obtain⟨rfl,f2⟩:=zN e2 r2;exact⟨rfl,by rw[jn,f1,f2];rfl⟩
theorem FO(neg:Bool):ET K (Xd K neg) (G2 neg):=by
 intro x y H Q dx dy d rx ry e q;obtain⟨v,e1,e⟩:=oBq.mp e;obtain⟨ds,e2,e⟩:=oBq.mp e;obtain⟨vs,e3,e⟩:=oMq.mp e;subst e;obtain⟨rfl,f1⟩:=ED e1 rx;cases dy with
 |list xs =>
  cases e2;obtain⟨p,us,rfl,h1,h2⟩:=ry.list_inv;obtain⟨rfl,f2⟩:=zN e3 h2;exact⟨p,us,rfl,.inl (tJ.of h1),f1,f2,q _ .bl⟩
 |tup xs =>
  cases e2;obtain⟨p,us,rfl,h1,h2⟩:=ry.tup_inv;obtain⟨rfl,f2⟩:=zN e3 h2;exact⟨p,us,rfl,.inr (IT.of h1),f1,f2,q _ .bl⟩
 |_=>cases e2
theorem OP{a:ME}(ha:SR K te a):SK K (Qe (λxs H Q=>∃a kvs,xs=[V.ref a]/\H a=some (.dK kvs)/\∀l,H l=none->Q (.ref l) (rK H l (.lst (kvs.map λp=>kV p.1)))) (uM te wQ)) (Ja a):=by
 intro H₀ Hf₀ Hf S σ H Fs av S' R e Q q;obtain⟨z,e1,e⟩:=oBq.mp e;obtain⟨ds,e2,e⟩:=oMq.mp e;cases e;refine ha R (d:=z.1) (S':=z.2) e1 _ λHf1 H1 Fs1 v t1 R1 r1=>?_
 have hz:z.1 = .dict ds:=by
  cases hx:z.1 <;> rw[hx]at e2 <;> simp only[dictOf]at e2
  all_goals first|(exfalso;simp at e2;done)|skip
  cases e2;rfl
 rw[hz]at r1;obtain⟨p,kvs,rfl,g1,g2⟩:=r1.dict_inv;refine⟨p,kvs,rfl,g1,λl hl=>?_⟩
 obtain⟨t3,R3,n4,n5,n6⟩:=R1.new (o:=.lst (kvs.map λp=>kV p.1)) hl
 have e3:ds.map (λp:pQ×D=>AV.sh (kD p.1))=(ds.map λp=>kD p.1).map AV.sh:=by rw[mPq];rfl
 rw[e3]at q;refine q _ _ _ (.ref l) [l] (t1.trans t3) R3 (qr.new qa n4 ?_) ((za.one R1 hl).back t1);have e4:kvs.map (λp=>kV p.1)=(ds.map λp=>p.1).map kV:=by rw[g2.1,mPq];rfl
 have e5:(ds.map λp:pQ×D=>kD p.1)=(ds.map λp=>p.1).map kD:=by rw[mPq];rfl
 rw[e4,e5];refine⟨by simp,λi d v h1 h2=>?_⟩
 rw[gMq]at h1 h2;cases hk:(ds.map λp:pQ×D=>p.1)[i]? with
 |none=>rw[hk]at h1;cases h1
 |some k=>rw[hk]at h1 h2;cases h1;cases h2;exact Gu k
end
theorem HM(ns:List Int):BW (ns.map D.int)=some (ns.map V.int):=by
 induction ns with
 |nil=>rfl
 |cons n ns ih=>rw[ar,BW,ih];rfl
theorem Qn(i:Int) (ns:List Int):Ve (.int i) (ns.map V.int)=decide (i∈ns):=by
 unfold Ve
 induction ns with
 |nil=>rfl
 |cons n ns ih =>
  rw[ar,cg,ih];show (n == i || decide (i∈ns))=_
  by_cases h:i=n
  .subst h;simp
  .have h':¬ n=i:=λz=>h z.symm
   simp[h,h']
theorem IQ(neg:Bool) (i:Int) (ns:List Int):G2 neg (.int i) (.list (ns.map D.int))=some (.bl (if neg then !decide (i∈ns) else decide (i∈ns))):=by
 show (BW (ns.map D.int)).map _=_;rw[HM,bR,Qn]
section
variable {K:W.Frag}{H₀ Hf₀ Hf Hf' H H':Hp}{S S':AS}{σ σ':St}{Fs Fs':List (List Addr)}
theorem FC.same(s:qB H H'):∀{path:List Nat}{v w:V},FC H v path w->FC H' v path w
 | [],v,w,h=>h
 |j::js,v,w,⟨p,vs,u,h1,h2,h3,h4⟩=>⟨p,vs,u,h1,s _ _ h2,h3,FC.same s h4⟩
theorem FC.one:∀{path:List Nat}{v w w':V},FC H v path w->FC H v path w'->w=w'
 | [],v,w,w',h,h'=>h.symm.trans h'
 |j::js,v,w,w',hz,hy=>by
  obtain⟨p,vs,u,h1,h2,h3,h4⟩:=hz;obtain⟨p',vs',u',g1,g2,g3,g4⟩:=hy;rw[h1]at g1;cases g1;rw[h2]at g2;cases g2;rw[h3]at g3;cases g3;exact h4.one g4
theorem FC.snoc:∀{path:List Nat}{v:V}{p:Addr}{vs:List V}{n:Nat}{u:V},FC H v path (.ref p)->H p=some (.lst vs)->vs[n]?=some u->FC H v (path++[n]) u
 | [],v,p,vs,n,u,h,h1,h2=>⟨p,vs,u,h,h1,h2,rfl⟩
 |j::js,v,p,vs,n,u,⟨p',vs',u',g1,g2,g3,g4⟩,h1,h2=>⟨p',vs',u',g1,g2,g3,g4.snoc h1 h2⟩
theorem FC.kept:∀{path:List Nat}{av:AV}{v w:V}{F:List Addr}{as:List AV},qr K Hf H av v F->qM av path=some as->FC H v path w->(∀q∈F,H' q=H q)->FC H' v path w
 | [],av,v,w,F,as,_,_,h,_=>h
 |j::js,av,v,w,F,as,r,e,hz,hk=>by
  obtain⟨p,vs,u,h1,h2,h3,h4⟩:=hz;cases av with
  |ow avs =>
   obtain⟨p',vs',Gs,e1,e2,e3,e4,e5⟩:=r.ow_inv;rw[h1]at e1;cases e1;rw[h2]at e3;cases e3;obtain⟨a,ea,e⟩:=oBq.mp (show (avs[j]?).bind (λa=>qM a js)=some as from e)
   have hj:j<avs.length:=(gSq.mp ea).1;have hG:=gEg (e5.2.1 ▸ hj);have rj:=e5.2.2 j a u _ ea h3 hG;refine⟨p,vs,u,h1,by rw[hk p (by rw[e2];simp)];exact h2,h3,h4.kept rj e λq hq=>hk q ?_⟩
   rw[e2];exact mCo _ (qo hG hq)
  |_=>cases e
def Vs(H₀ H:Hp) (F:List Addr):Hp:=λb=>if b∈F then H b else H₀ b
theorem D5{F:List Addr}{b:Addr}(h:b∈F):Vs H₀ H F b=H b:=qe h
theorem yF{F:List Addr}{b:Addr}(h:b∉F):Vs H₀ H F b=H₀ b:=pV h
theorem qt.frame(R:qt K H₀ Hf₀ Hf S σ H Fs) {i:Nat}{F:List Addr}(s2:Fs[i]?=some F):qt K (Vs H₀ H F) Hf₀ Hf (S.set i none) σ H (Fs.set i []):=by
 have R1:=R.kill i;have hF:∀q∈F,q∈Fs.flatten:=λq hq=>qo s2 hq
 refine⟨R1.len,R1.lenF,R1.rep,R1.emp,R1.nd,λp hp=>?_,R1.sub,λb u e=>?_,λb h1 h2=>?_,R1.sf⟩
 .have hn:p∉F:=λz=>uW R.nd s2 z hp
  rw[yF hn];exact R1.fresh p hp
 .by_cases hb:b∈F
  .rw [D5 hb]at e;exact e
  .rw [yF hb]at e;exact R.fr b u e
 .by_cases hb:b∈F
  .exact (R.mem (hF b hb)).2
  .rw [yF hb]at h2;exact R.lim b h1 h2
theorem Av{α:Type}{l:List α}{i:Nat}{a:α}(h:l[i]?=some a):l.set i a=l:=by
 obtain⟨hk,ev⟩:=gSq.mp h;rw[←ev];exact fg hk
theorem qt.unframe(R:qt K H₀ Hf₀ Hf S σ H Fs) {i:Nat}{av:AV}{v:V}{F:List Addr}(s2:Fs[i]?=some F) (r:qr K Hf H av v F) (nd:F.Nodup) (h0:∀q∈F,H₀ q=none)
  (R':qt K (Vs H₀ H F) Hf₀ Hf' S' σ' H' Fs') (e':S'[i]?=some none) (s1:σ'[i]?=some (some v)) (sf:qB Hf Hf') :
  (∀q∈F,H' q=H q)/\qr K Hf' H' av v F/\qt K H₀ Hf₀ Hf' (S'.set i (some av)) σ' H' (Fs'.set i F):=by
 have hk:∀q∈F,H' q=H q:=λq hq=>by
  have hn:=(R.mem (qo s2 hq)).1;cases hu:H q with
  |none=>exact absurd hu hn
  |some u=>exact R'.fr q u (by rw[D5 hq];exact hu)
 have hf:∀q∈F,Hf' q=none:=λq hq=>by
  have hm:=R.mem (qo s2 hq);refine R'.lim q ?_ (by rw[D5 hq];exact hm.1)
  cases hz:Hf₀ q with
  |none=>rfl
  |some u=>rw[R.sf q u hz]at hm;exact absurd hm.2 (by simp)
 have r':=r.keep sf hk hf;refine⟨hk,r',?_⟩;have R1:qt K H₀ Hf₀ Hf' (S'.set i none) σ' H' (Fs'.set i []):=by
  rw[Av e',Av (R'.emp i e')];refine⟨R'.len,R'.lenF,R'.rep,R'.emp,R'.nd,λp hp=>?_,R'.sub,λb u e=>?_,λb h1 h2=>?_,R'.sf⟩
  .have:=R'.fresh p hp
   by_cases hb:p∈F
   .exact h0 p hb
   .rwa [yF hb]at this
  .refine R'.fr b u ?_;rw[yF λz=>by rw[h0 b z]at e;cases e]
   exact e
  .refine R'.lim b h1 ?_;rw[yF λz=>h2 (h0 b z)]
   exact h2
 refine R1.again (F:=F) s1 r' nd λq hq=>⟨h0 q hq,λm=>?_⟩
 rw[Av (R'.emp i e')]at m;have:=R'.fresh q m;rw[D5 hq]at this;exact(R.mem (qo s2 hq)).1 this
end
abbrev MP:=AS->Option (List Nat×AS)
def Px(i:Nat):MP:=λS=>(si S i).map λ_=>([],S)
def WH(i:Nat) (pf:MP) (b:ME):MP:=λS=>(pf S).bind λx=>(b x.2).bind λy=>(intOf y.1).bind λj=>(si y.2 i).bind λavs=>(qM (.ow avs) x.1).bind λas=>(Jc as.length j).map λn=>(x.1++[n],y.2)
def Wu(K:W.Frag) (i:Nat) (te:TE) (pf:MP):Prop:=∀{H₀ Hf₀ Hf:Hp}{S:AS}{σ:St}{H:Hp}{Fs:List (List Addr)}{path:List Nat}{S':AS},qt K H₀ Hf₀ Hf S σ H Fs->pf S=some (path,S')->∀Q:VK,
 (∀Hf' H' Fs' v w,zZ Hf H Fs Hf' H' Fs'->qt K H₀ Hf₀ Hf' S' σ H' Fs'->σ[i]?=some (some v)->FC H' v path w->Q w H')->te σ H Q
section
variable {K:W.Frag}
theorem KI(i:Nat):Wu K i (xi i) (Px i):=by
 intro H₀ Hf₀ Hf S σ H Fs path S' R e Q q;obtain⟨avs,e1,e⟩:=oMq.mp e;cases e;obtain⟨p,vs,Gs,s1,_⟩:=R.ow (qF e1);exact⟨_,s1,q _ _ _ _ _ .refl R s1 rfl⟩
theorem Br{H₀ Hf₀ Hf H:Hp}{S:AS}{σ:St}{Fs:List (List Addr)}{i:Nat}{avs as:List AV}{path:List Nat}{v w:V}(R:qt K H₀ Hf₀ Hf S σ H Fs) (e:S[i]?=some (some (.ow avs))) (s1:σ[i]?=some (some v)) (en:qM (.ow avs) path=some as) (h:FC H v path w) :
  ∃p vs,w = .ref p/\H p=some (.lst vs)/\vs.length=as.length:=by
 obtain⟨v',F,t1,t2,r,nd,_⟩:=R.move e;rw[s1]at t1;cases t1;obtain⟨p,vs,Gs,g1,g2,g3,g4,_⟩:=r.path nd en;exact⟨p,vs,h.one g1,g2,g4.1.symm⟩
theorem Oh{i:Nat}{te tb:TE}{pf:MP}{b:ME}(hp:Wu K i te pf) (hb:SR K tb b):Wu K i (MN (Sj K) te tb) (WH i pf b):=by
 intro H₀ Hf₀ Hf S σ H Fs path S' R e Q q;obtain⟨x,e1,e⟩:=oBq.mp e;obtain⟨y,e2,e⟩:=oBq.mp e;obtain⟨j,e3,e⟩:=oBq.mp e;obtain⟨avs,e4,e⟩:=oBq.mp e;obtain⟨as,e5,e⟩:=oBq.mp e;obtain⟨n,e6,e⟩:=oMq.mp e;cases e;refine hp R (path:=x.1) (S':=x.2) e1 _ λHf1 H1 Fs1 v w t1 R1 s1 a1=>hb R1 (d:=y.1) (S':=y.2) e2 _ λHf2 H2 Fs2 u t2 R2 r2=>?_
 have hy:y.1 = .int j:=by
  cases hx:y.1 <;> rw[hx]at e3 <;> first|(cases e3;rfl)|cases e3
 rw[hy]at r2;cases r2;have a2:=a1.same t2.sh;obtain⟨p,vs,rfl,h1,h2⟩:=Br R2 (qF e4) s1 e5 a2;have hix:=e6;obtain⟨_,hn,_⟩:=J6 e6;have hn':n<vs.length:=by rw[h2];exact hn
 obtain⟨u,hv⟩:∃u,vs[n]?=some u:=⟨_,gEg hn'⟩;refine⟨p,vs,j,u,rfl,rfl,tJ.of h1,?_,q _ _ _ v _ (t1.trans t2) R2 s1 (a2.snoc h1 hv)⟩;unfold atI;rw[h2,e6];exact hv
end
section
variable {K:W.Frag}
theorem qt.grow{H₀ Hf₀ Hf H:Hp}{S:AS}{σ:St}{Fs:List (List Addr)}{i:Nat}{avs as:List AV}{path:List Nat}{v:V}{p:Addr}(R:qt K H₀ Hf₀ Hf S σ H Fs) (e:S[i]?=some (some (.ow avs))) (s1:σ[i]?=some (some v)) (en:qM (.ow avs) path=some as) (h:FC H v path (.ref p)) :
  ∃vs,H p=some (.lst vs)/\as.length=vs.length/\∀(bs:List AV) (ws:List V) (Gs:List (List Addr)),qu K Hf H bs ws Gs->Gs.flatten.Nodup->(∀q∈Gs.flatten,H₀ q=none/\q∉Fs.flatten) ->
   ∃Fs',qt K H₀ Hf₀ Hf (S.set i (some (putAt (.ow avs) path (as++bs)))) σ (rK H p (.lst (vs++ws))) Fs':=by
 obtain⟨v',F,t1,t2,r,nd,oo,_⟩:=R.move e;rw[s1]at t1;cases t1;obtain⟨p',vs,Es,g1,g2,g3,g4,g5,g6,g6',g7,g8⟩:=r.path nd en;have hpp:V.ref p=V.ref p':=h.one g1;cases hpp;refine⟨vs,g2,g4.1,λbs ws Gs rb nG oG=>?_⟩
 have pG:p∉Gs.flatten:=λm=>(oG p m).2 (qo t2 g5)
 have hfl:(Es++Gs).flatten=Es.flatten++Gs.flatten:=fAq;obtain⟨F',k1,k2,k3⟩:=g8 (as++bs) (vs++ws) (Es++Gs) ((g4.keepUpd g6).append (rb.keepUpd pG)) (by
  rw[hfl];refine aq.mpr ⟨λm=>(mAq.mp m).elim g6 pG,nAq.mpr ⟨g6',nG,λa ha b hb z=>(oG b hb).2 (qo t2 (g7 b (z ▸ ha)))⟩⟩) (λq hq=>by
  rw[hfl]at hq;exact(mAq.mp hq).imp id λm z=>(oG q m).2 (qo t2 z))
 refine⟨_,R.turnAny s1 t2 g5 k1 k2 λq hq=>?_⟩
 rcases k3 q hq with z|z
 .exact oo q z
 .rw [hfl]at z;rcases mAq.mp z with z|z
  .exact oo q (g7 q z)
  .exact ⟨(oG q z).1,λm=>(oG q z).2 (rE m)⟩
def Yn(i:Nat) (pf:MP) (k:MK):MS:=λS=>(pf S).bind λx=>(si x.2 i).bind λa0=>(qM (.ow a0) x.1).bind λ_=>(k x.2).bind λy=>(si y.2 i).bind λavs=>(qM (.ow avs) x.1).bind λas=>vY (as.length<rY) (some (.nx (y.2.set i (some (putAt (.ow avs) x.1 (as++[y.1]))))))
def Yq(i:Nat) (pf:MP) (l:ML):MS:=λS=>(pf S).bind λx=>(si x.2 i).bind λa0=>(qM (.ow a0) x.1).bind λ_=>(l x.2).bind λy=>(si y.2 i).bind λavs=>(qM (.ow avs) x.1).bind λas=>vY (as.length+y.1.length<=rY) (some (.nx (y.2.set i (some (putAt (.ow avs) x.1 (as++y.1.map .sh))))))
def X7(x i:Nat) (path:List Nat) (S:AS) (σ:St) (H:Hp):Prop:=∃v p avs as,S[i]?=some (some (.ow avs))/\qM (.ow avs) path=some as/\σ[x]?=some (some (.ref p))/\σ[i]?=some (some v)/\FC H v path (.ref p)
def OY(K:W.Frag) (x i:Nat) (t:TS) (m:List Nat->MS):Prop:=∀{path:List Nat}{H₀ Hf₀ Hf:Hp}{S:AS}{σ:St}{H:Hp}{Fs:List (List Addr)}{o:Fp},qt K H₀ Hf₀ Hf S σ H Fs->X7 x i path S σ H->m path S=some o->∀D:Ad,CV K H₀ Hf₀ Hf D o->t D σ H
def Rz(x i:Nat) (pf:MP) (m:List Nat->MS):MS:=λS=>(pf S).bind λy=>(si y.2 i).bind λavs=>(qM (.ow avs) y.1).bind λ_=>vY (x≠i/\x<y.2.length) (m y.1 (y.2.set x none))
theorem UE{x i:Nat}{te:TE}{pf:MP}{t:TS}{m:List Nat->MS}(hp:Wu K i te pf) (hm:OY K x i t m):SS K (N0 (Jj te (uv x)) t) (Rz x i pf m):=by
 intro H₀ Hf₀ Hf S σ H Fs o R e D h;obtain⟨y,e1,e⟩:=oBq.mp e;obtain⟨avs,e2,e⟩:=oBq.mp e;obtain⟨as,e3,e⟩:=oBq.mp e;rcases qh e with ⟨⟨hne,hlt⟩,e⟩|e
 .refine hp R (path:=y.1) (S':=y.2) e1 _ λHf1 H1 Fs1 v w t1 R1 s1 a1=>?_
  obtain⟨p,vs,rfl,h1,h2⟩:=Br R1 (qF e2) s1 e3 a1;have R2:=(R1.kill x).any (V.ref p);refine hm R2 ⟨v,p,avs,as,?_,e3,?_,?_,a1⟩ e D (h.mono t1.sf)
  .rw [aB hne];exact qF e2
  .exact aA (by rw[←R1.len];exact hlt)
  .rw [aB hne];exact s1
 .cases e
theorem SX{x i:Nat}{t:TS}{m:MS}(h:SS K t m):OY K x i t (λ_=>m):=λR _ e D o=>h R e D o
theorem T5{x i:Nat}{t u:TS}{a:List Nat->MS}{b:MS}(ha:OY K x i t a) (hb:SS K u b):OY K x i (N0 t u) (λpath=>qi (a path) b):=by
 intro path H₀ Hf₀ Hf S σ H Fs o R A e D h;obtain⟨y,e1,e⟩:=oBq.mp e;refine ha R A e1 _ ?_;cases y with
 |nx S'=>exact λHf' σ' H' Fs' s R'=>hb R' e D (h.mono s)
 |rt a=>cases e;exact h
 |bk a=>cases e;exact h
 |ct a=>cases e;exact h
def HV(i:Nat) (c:MT) (a b:List Nat->MS):List Nat->MS:=λpath S=>(c S).bind λy=>(si y.2 i).bind λavs=>(qM (.ow avs) path).bind λ_=>if y.1=true then a path y.2 else b path y.2
theorem Oq{x i:Nat}{c:TT}{m:MT}{t u:TS}{a b:List Nat->MS}(hc:EK K c m) (ha:OY K x i t a) (hb:OY K x i u b):OY K x i (Ri c t u) (HV i m a b):=by
 intro path H₀ Hf₀ Hf S σ H Fs o R A e D h;obtain⟨y,e1,e⟩:=oBq.mp e;obtain⟨avs,e2,e⟩:=oBq.mp e;obtain⟨as,e3,e⟩:=oBq.mp e;obtain⟨v,p,_,_,_,_,s2,s1,at0⟩:=A;refine hc R (b:=y.1) (S':=y.2) e1 _ λHf1 H1 Fs1 t1 R1=>?_
 have A1:X7 x i path y.2 σ H1:=⟨v,p,avs,as,qF e2,e3,s2,s1,at0.same t1.sh⟩;split at e
 .rename_i hx;rw[hx];exact GF (ha R1 A1 e D (h.mono t1.sf))
 .rename_i hx;rw[dW]at hx;rw[hx];exact GK (hb R1 A1 e D (h.mono t1.sf))
def Kf(i:Nat) (k:MK):List Nat->MS:=λpath S=>(k S).bind λy=>(si y.2 i).bind λavs=>(qM (.ow avs) path).bind λas=>vY (as.length<rY) (some (.nx (y.2.set i (some (putAt (.ow avs) path (as++[y.1]))))))
theorem Us{x i:Nat}{te:TE}{k:MK}(hk:SK K te k):OY K x i (B5 (Qg K "list" xB (xi x) (uM te wQ))) (Kf i k):=by
 intro path H₀ Hf₀ Hf S σ H Fs o R A e D h;obtain⟨y,e4,e⟩:=oBq.mp e;obtain⟨avs,e5,e⟩:=oBq.mp e;obtain⟨as,e6,e⟩:=oBq.mp e;rcases qh e with ⟨hl,e⟩|e
 .cases e;obtain⟨v,p,a0,n0,e2,e3,s2,s1,at0⟩:=A;obtain⟨p',vs,hp,h1,h2⟩:=Br R e2 s1 e3 at0;cases hp;refine⟨.ref p,s2,.inl ⟨rfl,vs,tJ.of h1⟩,hk R (a:=y.1) (S':=y.2) e4 _ λHf2 H2 Fs2 u F t2 R2 r2 o2=>?_⟩
  obtain⟨vs',g1,g2,g3⟩:=R2.grow (qF e5) s1 e6 (at0.same t2.sh);obtain⟨Fs',R3⟩:=g3 [y.1] [u] [F] (qu.nil.snoc r2) (by rw[bO];exact o2.nd) (λq hq=>by rw[bO]at hq;exact⟨o2.fr q hq,o2.out q hq⟩)
  exact⟨p,vs',u,rfl,rfl,g1,by rw[vx,←g2];exact hl,h _ _ _ _ t2.sf R3⟩
 .cases e
def Yj(i:Nat) (l:ML):List Nat->MS:=λpath S=>(l S).bind λy=>(si y.2 i).bind λavs=>(qM (.ow avs) path).bind λas=>vY (as.length+y.1.length<=rY) (some (.nx (y.2.set i (some (putAt (.ow avs) path (as++y.1.map .sh))))))
def FH(i:Nat) (mm:ME):List Nat->MS:=λpath S=>(si S i).bind λavs=>(qM (.ow avs) path).bind λas=>(mm (S.set i none)).bind λy=>vY (y.2[i]?=some none/\as.length<rY) (some (.nx (y.2.set i (some (putAt (.ow avs) path (as++[.sh y.1]))))))
theorem Ra{x i:Nat}{te:TE}{mm:ME}(hk:SM K te mm):OY K x i (B5 (Qg K "list" xB (xi x) (uM te wQ))) (FH i mm):=by
 intro path H₀ Hf₀ Hf S σ H Fs o R A e D h;obtain⟨avs,e2,e⟩:=oBq.mp e;obtain⟨as,e3,e⟩:=oBq.mp e;obtain⟨y,e4,e⟩:=oBq.mp e;rcases qh e with ⟨⟨hn,hl⟩,e⟩|e
 .cases e;obtain⟨v,p,a0,n0,_,_,s2,s1,at0⟩:=A;have e2':=qF e2;obtain⟨p',vs,hp,h1,h2⟩:=Br R e2' s1 e3 at0;cases hp;obtain⟨v',F,t1,t2,r,nd,oo,_⟩:=R.move e2';rw[s1]at t1;cases t1;refine⟨.ref p,s2,.inl ⟨rfl,vs,tJ.of h1⟩,hk (R.frame t2) (d:=y.1) (S':=y.2) e4 _ λHf2 H2 Fs2 u t3 R2 r2=>?_⟩
  obtain⟨k1,k2,R3⟩:=R.unframe t2 r nd (λq hq=>(oo q hq).1) R2 hn s1 t3
  have hlt:i<y.2.length:=(gSq.mp hn).1;have e5:(y.2.set i (some (.ow avs)))[i]?=some (some (.ow avs)):=aA hlt;obtain⟨vs',g1,g2,g3⟩:=R3.grow e5 s1 e3 (at0.kept r e3 k1);obtain⟨Fs',R4⟩:=g3 [.sh y.1] [u] [[]] (qu.nil.snoc (.sh r2)) (by simp) (λq hq=>by simp at hq)
  rw[dc]at R4;exact⟨p,vs',u,rfl,rfl,g1,by rw[vx,←g2];exact hl,h _ _ _ _ t3 R4⟩
 .cases e
def UN(K:W.Frag) (J:List Nat) (t:TS) (m:MS):Prop:=∀{H₀ Hf₀ Hf:Hp}{S:AS}{σ:St}{H:Hp}{Fs:List (List Addr)}{S':AS},qt K H₀ Hf₀ Hf S σ H Fs->m S=some (.nx S')->∀D:Ad,(∀Hf' σ' H' Fs',qB Hf Hf'->qt K H₀ Hf₀ Hf' S' σ' H' Fs'->(∀j∈J,σ'[j]?=σ[j]?)->D.nx σ' H')->t D σ H
theorem Qi{J:List Nat}{t:TS}(h:∀D σ H,D.nx σ H->t D σ H):UN K J t sY:=by
 intro H₀ Hf₀ Hf S σ H Fs S' R e D q;cases e;exact h _ _ _ (q _ _ _ _ (.refl _) R λ_ _=>rfl)
theorem JZ{J:List Nat}{y:Nat}{te:TE}{k:MK}(hk:SK K te k) (hJ:y∉J):UN K J (Jj te (uv y)) (qK y k):=by
 intro H₀ Hf₀ Hf S σ H Fs S' R e D q;obtain⟨x,e1,e⟩:=oMq.mp e;cases e;refine hk R (a:=x.1) (S':=x.2) e1 _ λHf1 H1 Fs1 v F t1 R1 r1 o1=>?_
 exact q _ _ _ _ t1.sf (R1.set y r1 o1.nd λq hq=>⟨o1.fr q hq,o1.out q hq⟩) λj hj=>aB (show y≠j from λz=>hJ (by rw[z];exact hj))
theorem Oo{J:List Nat}{y:Nat}{te:TE}{m:ME}(hk:SM K te m) (hJ:y∉J):UN K J (Jj te (uv y)) (EL y m):=by
 intro H₀ Hf₀ Hf S σ H Fs S' R e D q;obtain⟨x,e1,e⟩:=oMq.mp e;cases e;refine hk R (d:=x.1) (S':=x.2) e1 _ λHf1 H1 Fs1 v t1 R1 r1=>?_
 exact q _ _ _ _ t1 (R1.setD y r1) λj hj=>aB (show y≠j from λz=>hJ (by rw[z];exact hj))
theorem Ui{J:List Nat}{c:TT}{m:MT}{t u:TS}{a b:MS}(hc:EK K c m) (ha:UN K J t a) (hb:UN K J u b):UN K J (Ri c t u) (BQ m a b):=by
 intro H₀ Hf₀ Hf S σ H Fs S' R e D q;obtain⟨x,e1,e⟩:=oBq.mp e;refine hc R (b:=x.1) (S':=x.2) e1 _ λHf1 H1 Fs1 t1 R1=>?_
 split at e
 .rename_i hx;rw[hx];exact GF (ha R1 e D λHf' σ' H' Fs' s R' j=>q _ _ _ _ (t1.sf.trans s) R' j)
 .rename_i hx;rw[dW]at hx;rw[hx];exact GK (hb R1 e D λHf' σ' H' Fs' s R' j=>q _ _ _ _ (t1.sf.trans s) R' j)
def FY(i:Nat) (a:MS) (m:List Nat->MS):List Nat->MS:=λpath S=>(si S i).bind λavs=>(a (S.set i none)).bind λo=>match o with
 | .nx S1=>vY (S1[i]?=some none) (m path (S1.set i (some (.ow avs))))
 |_=>none
theorem IW{x i:Nat}{t u:TS}{a:MS}{m:List Nat->MS}(ha:UN K [x,i] t a) (hm:OY K x i u m):OY K x i (N0 t u) (FY i a m):=by
 intro path H₀ Hf₀ Hf S σ H Fs o R A e D h;obtain⟨avs,e2,e⟩:=oBq.mp e;obtain⟨oo,e3,e⟩:=oBq.mp e;cases oo with
 |nx S1 =>
  rcases qh (show vY (S1[i]?=some none) (m path (S1.set i (some (.ow avs))))=some o from e) with ⟨hn,e⟩|e
  .obtain ⟨v,p,a0,n0,e2',e4,s2,s1,at0⟩:=A;have e5:=qF e2;rw[e5]at e2';cases e2';obtain⟨v',F,t1,t2,r,nd,ow,_⟩:=R.move e5;rw[s1]at t1;cases t1;refine ha (R.frame t2) e3 _ λHf' σ' H' Fs' s R' hJ=>?_
   have j1:σ'[x]?=σ[x]?:=hJ x (by simp)
   have j2:σ'[i]?=σ[i]?:=hJ i (by simp)
   obtain⟨k1,k2,R3⟩:=R.unframe t2 r nd (λq hq=>(ow q hq).1) R' hn (j2.trans s1) s
   have hlt:i<S1.length:=(gSq.mp hn).1;exact hm R3 ⟨v,p,avs,n0,aA hlt,e4,j1.trans s2,j2.trans s1,at0.kept r e4 k1⟩ e D (h.mono s)
  .cases e
 |_=>cases e
end
theorem VC(S:AS) (i:Nat):Px i S=(si S i).map λ_=>([],S):=rfl
theorem Xg(S:AS) (i:Nat) (pf:MP) (b:ME):WH i pf b S=(pf S).bind λx=>(b x.2).bind λy=>(intOf y.1).bind λj=>(si y.2 i).bind λavs=>(qM (.ow avs) x.1).bind λas=>(Jc as.length j).map λn=>(x.1++[n],y.2):=rfl
theorem V8(S:AS) (x i:Nat) (pf:MP) (m:List Nat->MS):Rz x i pf m S=(pf S).bind λy=>(si y.2 i).bind λavs=>(qM (.ow avs) y.1).bind λ_=>vY (x≠i/\x<y.2.length) (m y.1 (y.2.set x none)):=rfl
theorem VO(S:AS) (i:Nat) (c:MT) (a b:List Nat->MS) (path:List Nat):HV i c a b path S=(c S).bind λy=>(si y.2 i).bind λavs=>(qM (.ow avs) path).bind λ_=>if y.1=true then a path y.2 else b path y.2:=rfl
theorem Ul(S:AS) (i:Nat) (k:MK) (path:List Nat):Kf i k path S=(k S).bind λy=>(si y.2 i).bind λavs=>(qM (.ow avs) path).bind λas=>vY (as.length<rY) (some (.nx (y.2.set i (some (putAt (.ow avs) path (as++[y.1])))))):=rfl
theorem RU(S:AS) (i:Nat) (mm:ME) (path:List Nat):FH i mm path S=(si S i).bind λavs=>(qM (.ow avs) path).bind λas=>(mm (S.set i none)).bind λy=>vY (y.2[i]?=some none/\as.length<rY) (some (.nx (y.2.set i (some (putAt (.ow avs) path (as++[.sh y.1])))))):=rfl
def V6(i:Nat) (avs:List AV) (m:List Nat->MS) (path:List Nat):Fp->Option Fp
 | .nx S1=>vY (S1[i]?=some none) (m path (S1.set i (some (.ow avs))))
 |_=>none
theorem Wt(S:AS) (i:Nat) (a:MS) (m:List Nat->MS) (path:List Nat):FY i a m path S=(si S i).bind λavs=>(a (S.set i none)).bind (V6 i avs m path):=by
 unfold FY;congr 1
theorem Q2(i:Nat) (avs:List AV) (m:List Nat->MS) (path:List Nat) (S1:AS):V6 i avs m path (.nx S1)=vY (S1[i]?=some none) (m path (S1.set i (some (.ow avs)))):=rfl
theorem Ji(avs:List AV):qM (.ow avs) []=some avs:=rfl
theorem GY(avs:List AV) (j:Nat) (js:List Nat):qM (.ow avs) (j::js)=(avs[j]?).bind λa=>qM a js:=rfl
theorem Jp{avs:List AV}{j:Nat}{js:List Nat}{as:List AV}{a:AV}(h:avs[j]?=some a):putAt (.ow avs) (j::js) as = .ow (avs.set j (putAt a js as)):=by
 show (match avs[j]? with|some a=>_|none=>_)=_
 rw[h]
def YV:=aa @VC (aa @Xg (aa @V8 (aa @VO (aa @Ul (aa @RU (aa @Wt (aa @Q2 @Ji)))))))
section
variable {K:W.Frag}
def Gq(m:ME):MS:=λS=>(m S).map λx=>.nx x.2
theorem Oi{te:TE}{m:ME}(h:SM K te m):SS K (B5 te) (Gq m):=by
 intro H₀ Hf₀ Hf S σ H Fs o R e D hd;obtain⟨x,e1,e⟩:=oMq.mp e;cases e;exact h R (d:=x.1) (S':=x.2) e1 _ λHf1 H1 Fs1 v t1 R1 r1=>hd _ _ _ _ t1 R1
def Yt(i:Nat):MS:=λS=>(si S i).map λavs=>.nx (S.set i (some (.ow avs.reverse)))
end
theorem Sh(S:AS) (m:ME):Gq m S=(m S).map λx=>.nx x.2:=rfl
def YC:=@Sh
section
variable {K:W.Frag}
theorem sv.fd_inv{H:Hp}{ds:List (pQ×D)}{v:V}(h:sv K H (.fd ds) v):∃p o kvs,v = .ref p/\H p=some (.frz o (.dK kvs))/\vb K H ds kvs:=by
 cases h with
 |fd h l e=>exact⟨_,_,_,rfl,h,l,e⟩
def Rh:D->Option (List (pQ×D))
 | .fd kvs=>some kvs
 |_=>none
theorem QL{d:D}{kvs:List (pQ×D)}(h:Rh d=some kvs):d = .fd kvs:=by
 cases d <;> first|(cases h;rfl)|cases h
def AK(a b:ME):ME:=λS=>(a S).bind λx=>(b x.2).bind λy=>(Rh x.1).bind λkvs=>(vi y.1).bind λkey=>(getD kvs key).map λd=>(d,y.2)
theorem C1{ta tb:TE}{a b:ME}(ha:SR K ta a) (hb:SR K tb b):SR K (Po ta tb) (AK a b):=by
 intro H₀ Hf₀ Hf S σ H Fs d S' R e Q q;obtain⟨x,e1,e⟩:=oBq.mp e;obtain⟨y,e2,e⟩:=oBq.mp e;obtain⟨kvs,e3,e⟩:=oBq.mp e;obtain⟨key,e4,e⟩:=oBq.mp e;obtain⟨d',e5,e⟩:=oMq.mp e;cases e;refine ha R (d:=x.1) (S':=x.2) e1 _ λHf1 H1 Fs1 v1 t1 R1 r1=>hb R1 (d:=y.1) (S':=y.2) e2 _ λHf2 H2 Fs2 v2 t2 R2 r2=>?_
 rw[QL e3]at r1;obtain⟨p,o,vs,rfl,h1,h2⟩:=(r1.mono t2.sh).fd_inv;have g:=A2 (key:=key) h2;rw[e5]at g;obtain⟨v,g1,g2⟩:=g;exact⟨p,v,rfl,by rw[wC e4 r2,←g1];exact .inl ⟨vs,key,.inr ⟨o,h1⟩,rfl,rfl⟩,q _ _ _ _ (t1.trans t2) R2 g2⟩
theorem Pt{ob:Obj}{d:Addr}{kvs:List (pQ×V)}{i1:Nat}{tb:TS}{D:Ad}{σ:St}{H:Hp}(Pv:Nat->St->Hp->Prop) (h0:Pv 0 σ H) (hl:∀i σ H,Pv i σ H->H d=some (.frz ob (.dK kvs)))
  (hs:∀i p σ H,kvs[i]?=some p->Pv i σ H->tb { D with nx:=Pv (i+1),ct:=Pv (i+1),bk:=D.nx } (σ.set i1 (some (kV p.1))) H) (hd:∀σ H,Pv kvs.length σ H->D.nx σ H) :
  ∃W:Nat->Nat->St->Hp->Prop,(∃m,W 0 m σ H)/\∀i m σ H,W i m σ H ->
   ((Wg ob d kvs).stop i H/\D.nx σ H)∨((Wg ob d kvs).go i H/\∃N:St->Hp->Prop,(∀σ' H',N σ' H'->∃m',m'<m/\W (i+1) m' σ' H')/\∀x H',(Wg ob d kvs).yld i H x H'->uv i1 x σ H' λσ2 H2=>tb { D with nx:=N,ct:=N,bk:=D.nx } σ2 H2):=by
 refine⟨λi m σ H=>m=kvs.length-i/\i<=kvs.length/\Pv i σ H,⟨kvs.length,by simp,bq _,h0⟩,?_⟩
 rintro i m σ H ⟨rfl,hi,p⟩;have q:=hl i σ H p
 by_cases hlt:i<kvs.length
 .refine .inr ⟨⟨q,kvs[i],by simp[hlt]⟩,Pv (i+1),λσ' H' p'=>⟨kvs.length-(i+1),by lia,rfl,hlt,p'⟩,λv H' y=>?_⟩
  obtain⟨rfl,x,hx,rfl⟩:=y;exact hs i x σ H' hx p
 .have e:i=kvs.length:=by lia
  subst e;exact .inl ⟨⟨q,aj _⟩,hd σ H p⟩
def OH(x i:Nat) (body:MS):MS:=λS=>(vp S i).bind λkvs=>vY (x≠i) (tF x body (kvs.map λp=>kD p.1) (S.set i (some (.sh (.fd kvs)))))
theorem Rr{x i:Nat}{tb:TS}{body:MS}(hb:SS K tb body):SS K (Lw (O3 (xi i)) (uv x) tb) (OH x i body):=by
 intro H₀ Hf₀ Hf S σ H Fs o R e D h;obtain⟨ds,e1,e⟩:=oBq.mp e;rcases qh e with ⟨hne,e⟩|e
 .have e1':=yp e1;obtain⟨p,kvs,s1,s2,h1,h2,h3,h4,h5⟩:=R.owd e1';refine⟨_,s1,p,kvs,rfl,h1,λob=>?_⟩
  obtain⟨v,F,t1,t2,r,nd,oo,R1⟩:=R.move e1';rw[s2]at t2;cases t2;have R2:=qt.fix R1 (p:=p) (o:=.frz ob (.dK kvs)) h5 h2 h4;have s3:qB Hf (rK Hf p (.frz ob (.dK kvs))):=xR h2;have h3':vb K (rK Hf p (.frz ob (.dK kvs))) ds kvs:=⟨h3.1,λi d v a b=>(h3.2 i d v a b).mono s3⟩
  have R3:qt K H₀ Hf₀ (rK Hf p (.frz ob (.dK kvs))) (S.set i (some (.sh (.fd ds)))) σ (rK H p (.frz ob (.dK kvs))) (Fs.set i []) :=
   R2.again (F:=[]) s1 (.sh (.fd qa h3'.1 h3'.2)) aV λq hq=>by cases hq
  have hlen:ds.length=kvs.length:=by have:=congrArg bV h3.1;simpa using this
  refine Pt (λn σ' H'=>∃Hf' S' Fs',qt K H₀ Hf₀ Hf' S' σ' H' Fs'/\qB (rK Hf p (.frz ob (.dK kvs))) Hf'/\tF x body ((ds.map λp=>kD p.1).drop n) S'=some o) ⟨_,_,_,R3,.refl _,e⟩
   (λn σ' H' ⟨Hf',S',Fs',R',s',_⟩=>R'.sub _ _ (s' _ _ qa)) ?_ ?_
  .rintro n w σ' H' hw ⟨Hf',S',Fs',R',s',e'⟩;have hn:n<ds.length:=by rw[hlen];exact(gSq.mp hw).1
   have hk:(ds.map λp=>kD p.1)[n]?=some (kD w.1):=by
    have:=congrArg (λl=>l[n]?) h3.1
    simp only[gMq,hw,bR]at this;rw[gMq];cases hd:ds[n]? with
    |none=>rw[hd]at this;cases this
    |some dd =>
     rw[hd]at this;rw[bR,show dd.1=w.1 from aD.inj this]
   have hlt:n<(ds.map λp=>kD p.1).length:=by rw[lMq];exact hn
   rw[aT hlt,(gSq.mp hk).2]at e';obtain⟨o2,e3,e4⟩:=oBq.mp e';refine hb (R'.setD x (Gu w.1)) e3 _ ?_;cases o2 with
   |nx S2=>exact λHf2 σ2 H2 Fs2 s4 R4=>⟨Hf2,S2,Fs2,R4,s'.trans s4,e4⟩
   |ct S2=>exact λHf2 σ2 H2 Fs2 s4 R4=>⟨Hf2,S2,Fs2,R4,s'.trans s4,e4⟩
   |bk S2=>cases e4;exact λHf2 σ2 H2 Fs2 s4 R4=>h _ _ _ _ ((s3.trans s').trans s4) R4
   |rt a=>cases e4;exact h
  .rintro σ' H' ⟨Hf',S',Fs',R',s',e'⟩;rw[←hlen,show ds.length=(ds.map λp=>kD p.1).length from (lMq _).symm,dU]at e'
   cases e';exact h _ _ _ _ (s3.trans s') R'
 .cases e
end
theorem Gx(kvs:List (pQ×D)):Rh (.fd kvs)=some kvs:=rfl
theorem Gw(S:AS) (a b:ME):AK a b S=(a S).bind λx=>(b x.2).bind λy=>(Rh x.1).bind λkvs=>(vi y.1).bind λkey=>(getD kvs key).map λd=>(d,y.2):=rfl
theorem To(S:AS) (x i:Nat) (body:MS):OH x i body S=(vp S i).bind λkvs=>vY (x≠i) (tF x body (kvs.map λp=>kD p.1) (S.set i (some (.sh (.fd kvs))))):=rfl
def Y0:=aa @Gx (aa @Gw @To)
end Z
namespace Mr
open PySem PySem.Spec PyProof.Rows L2
end Mr
namespace Z
open PySem L2 Mr
mutual
def xJ:AV->Bool
 | .sh d=>d.scal
 | .ow l=>FM l
 | .owd kvs=>kvs.all λp=>p.2.scal
 | .owl _=>true
def FM:List AV->Bool
 | []=>true
 |a::l=>xJ a && FM l
end
theorem De:∀{l:List AV},FM l=true->∀a∈l,xJ a=true
 | [],_,a,h=>by cases h
 |b::l,hc,a,h=>by
  rw[FM,fu]at hc;rcases ae.mp h with e|e
  .rw [e];exact hc.1
  .exact De hc.2 a e
section
variable {K:W.Frag}{Hf Hf' H:Hp}
theorem qr.bare{a:AV}{v:V}{F:List Addr}(r:qr K Hf' H a v F):xJ a=true->(∀q∈F,Hf q=none)->qr K Hf H a v F:=by
 induction r with
 |sh r =>
  intro hc _;rw[xJ]at hc;exact .sh (r.scal hc)
 |ow h n e1 e2 e ih =>
  intro hc hn;rw[xJ]at hc;exact .ow h (hn _ (af ..)) e1 e2 λi a v F x1 x2 x3=>ih i a v F x1 x2 x3 (De hc a (mGq x1)) λq hq=>hn q (mCo _ (mFq.mpr ⟨F,mGq x3,hq⟩))
 |owd h n r =>
  intro hc hn;rw[xJ,gI]at hc;refine .owd h (hn _ (af ..)) ?_;exact⟨r.1,λi d v a b=>(r.2 i d v a b).scal (hc d (mGq a))⟩
 |owl h n l e =>
  intro hc hn;exact .owl h (hn _ (af ..)) l λi q x h1 h2=>⟨(e i q x h1 h2).1,hn q (mCo _ (mGq h1))⟩
end
end Z
namespace Xe
open PySem PySem.Spec PySem.W PyProof.Rows L2 Mr
end Xe
namespace Z
open PySem L2 Mr Xe
end Z
namespace HT
open PySem PyProof.Rows
open PySem.SeqAt
open PySem.AutoSeq1 (wpAny_loadPart')
open PySem.MeetsSeq PySem.MeetsSeq2 PySem.MeetsSeq3
end HT
namespace Mr
open PySem PySem.Spec PyProof.Rows L2
end Mr
namespace Z
open PySem L2 Mr
end Z
namespace Z
open PySem L2 Mr Xe
end Z
namespace Xe
open PySem PySem.Spec PySem.W PyProof.Rows L2 Mr
end Xe
namespace Z
open PySem L2 Mr Xe
end Z
namespace Mr
open PySem PySem.Spec PySem.W PyProof.Rows L2 HT
end Mr
namespace Z
open PySem L2 Mr Xe
end Z
namespace Z
open PySem PySem.Spec PySem.W PyProof.Rows L2 Mr Xe
end Z
namespace Mr
open PySem L2
open PySem.Spec PyProof.Rows
section
variable {X:Cx}
end
end Mr
namespace Z
open PySem L2 Mr Xe
def QV(f:D->D->Option D) (m b:ME):ME:=λS=>(m S).bind λx=>(b x.2).bind λy=>(f x.1 y.1).bind λd=>if d.scal then some (d,y.2) else none
def Y3(i:Nat) (g:Int->Int->Int) (b:ME):MS:=λS=>(pd i S).bind λx=>(intOf x.1).bind λa=>(b x.2).bind λy=>(intOf y.1).map λc=>.nx (y.2.set i (some (.sh (.int (g a c)))))
def IL(i:Nat) (pf:MP) (mm:ME):MS:=λS=>(pf S).bind λx=>(si x.2 i).bind λavs=>(qM (.ow avs) x.1).bind λas=>(mm (x.2.set i none)).bind λy=>vY (y.2[i]?=some none/\as.length<rY) (some (.nx (y.2.set i (some (putAt (.ow avs) x.1 (as++[.sh y.1]))))))
def Ya(g:MF) (f:Wq) (a:MA):MX:=λS=>(a S).bind λx=>(f (x.1.map pH)).bind (Vi λr=>(g [pH r]).map λz=>.ok (.rt z))
section
variable {K:W.Frag}
theorem Vk{r:R2}{f:D->D->Option D}{ta tb:TE}{m b:ME}(hr:ET K r f) (ha:SM K ta m) (hb:SR K tb b):SM K (MN r ta tb) (QV f m b):=by
 intro H₀ Hf₀ Hf S σ H Fs d S' R e Q q;obtain⟨x,e1,e⟩:=oBq.mp e;obtain⟨y,e2,e⟩:=oBq.mp e;obtain⟨z,e3,e⟩:=oBq.mp e;split at e
 .rename_i hs;cases e;refine ha R (d:=x.1) (S':=x.2) e1 _ λHf1 H1 Fs1 v1 t1 R1 r1=>hb R1 (d:=y.1) (S':=y.2) e2 _ λHf2 H2 Fs2 v2 t2 R2 r2=>?_
  exact hr ((r1.mono R1.sub).mono t2.sh) r2 e3 λv rv=>q _ _ _ v (t1.trans t2.sf) R2 (rv.scal hs)
 .cases e
theorem O1{i:Nat}{tp te:TE}{pf:MP}{mm:ME}(hp:Wu K i tp pf) (hk:SM K te mm):SS K (B5 (Qg K "list" xB tp (uM te wQ))) (IL i pf mm):=by
 intro H₀ Hf₀ Hf S σ H Fs o R e D h;obtain⟨x,e1,e⟩:=oBq.mp e;obtain⟨avs,e2,e⟩:=oBq.mp e;obtain⟨as,e3,e⟩:=oBq.mp e;obtain⟨y,e4,e⟩:=oBq.mp e;rcases qh e with ⟨⟨hn,hl⟩,e⟩|e
 .cases e;refine hp R (path:=x.1) (S':=x.2) e1 _ λHf1 H1 Fs1 v w t1 R1 s1 at0=>?_
  have e2':=qF e2;obtain⟨p,vs,rfl,h1,h2⟩:=Br R1 e2' s1 e3 at0;obtain⟨v',F,u1,u2,r,nd,oo,_⟩:=R1.move e2';rw[s1]at u1;cases u1;refine⟨.inl ⟨rfl,vs,tJ.of h1⟩,hk (R1.frame u2) (d:=y.1) (S':=y.2) e4 _ λHf2 H2 Fs2 u t3 R2 r2=>?_⟩
  obtain⟨k1,k2,R3⟩:=R1.unframe u2 r nd (λq hq=>(oo q hq).1) R2 hn s1 t3
  have hlt:i<y.2.length:=(gSq.mp hn).1;have e5:(y.2.set i (some (.ow avs)))[i]?=some (some (.ow avs)):=aA hlt;obtain⟨vs',g1,g2,g3⟩:=R3.grow e5 s1 e3 (at0.kept r e3 k1);obtain⟨Fs',R4⟩:=g3 [.sh y.1] [u] [[]] (qu.nil.snoc (.sh r2)) (by simp) (λq hq=>by simp at hq)
  rw[dc]at R4;exact⟨p,vs',u,rfl,rfl,g1,by rw[vx,←g2];exact hl,h _ _ _ _ (t1.sf.trans t3) R4⟩
 .cases e
end
theorem V9(S:AS) (f:D->D->Option D) (m b:ME):QV f m b S=(m S).bind λx=>(b x.2).bind λy=>(f x.1 y.1).bind λd=>if d.scal then some (d,y.2) else none:=rfl
theorem Rx(S:AS) (i:Nat) (pf:MP) (mm:ME):IL i pf mm S=(pf S).bind λx=>(si x.2 i).bind λavs=>(qM (.ow avs) x.1).bind λas=>(mm (x.2.set i none)).bind λy=>vY (y.2[i]?=some none/\as.length<rY) (some (.nx (y.2.set i (some (putAt (.ow avs) x.1 (as++[.sh y.1])))))):=rfl
def Yu:=aa @V9 @Rx
def WL:=aa zq (aa YE (aa YB (aa YG (aa YD (aa YV (aa YC (aa Y0 (Yu))))))))
end Z
local macro_rules | `(tactic| simp_arith [$ls,*]) => `(tactic| simp -implicitDefEqProofs only [Z.WL,iA,iB,gJ,gK,ft,↓reduceIte,reduceCtorEq,$ls,*])
namespace Z
open PySem PySem.Spec PySem.W PyProof.Rows L2 Mr Xe
end Z
namespace Z
open PySem L2 Mr Xe
end Z
namespace HT
open PySem PyProof.Rows
open PySem.SeqAt
open PySem.AutoSeq1 (wpAny_loadPart')
open PySem.MeetsSeq PySem.MeetsSeq2 PySem.MeetsSeq3
end HT
namespace Mr
open PySem L2
open PySem.Spec PyProof.Rows
end Mr
namespace Z
open PySem L2 Mr Xe
def Dg(S:AS):AS:=S.map λx=>x.map λa=>.sh (pH a)
def HC(k:MK):MK:=λS=>(k (Dg S)).bind λy=>if xJ y.1=true then some (y.1,S) else none
section
variable {K:W.Frag}{H₀ Hf₀ Hf H:Hp}{S:AS}{σ:St}{Fs:List (List Addr)}
theorem qt.pin(R:qt K H₀ Hf₀ Hf S σ H Fs):qt K H H H (Dg S) σ H (ax S.length []):=by
 have lt:∀{i:Nat}{x:Option AV},(Dg S)[i]?=some x->(ax S.length ([]:List Addr))[i]?=some []:=λ{i x} e=>by
  have:=(gSq.mp e).1;unfold Dg at this;rw[lMq]at this;rw[cP,qe this]
 refine⟨by unfold Dg;rw[lMq];exact R.len,by unfold Dg;rw[bD,lMq],λi av e=>?_,λi e=>lt e,by rw[wA];exact aV,λp hp=>(by rw[wA]at hp;cases hp),.refl _,.refl _,λb h g=>absurd h g,.refl _⟩
 have hF:=lt e;unfold Dg at e;rw[gMq]at e;obtain⟨x,hx,e⟩:=oMq.mp e;obtain⟨a,ha,e2⟩:=oMq.mp e;subst ha;subst e2;obtain⟨v,F,s1,s2,r⟩:=R.rep i a hx;exact⟨v,[],s1,hF,.sh (r.rep R.sub)⟩
theorem JX{te:TE}{k:MK}(hk:SK K te k):SK K te (HC k):=by
 intro H₀ Hf₀ Hf S σ H Fs av S' R e Q q;obtain⟨y,e1,e⟩:=oBq.mp e;split at e
 .rename_i hc;cases e;refine hk R.pin (a:=y.1) (S':=y.2) e1 _ λHf1 H1 Fs1 v F t1 R1 r1 o1=>?_
  have hn:∀q∈F,H q=none:=o1.fr;exact q Hf H1 Fs v F ⟨.refl _,t1.sh,λ_ h=>h,λb h g=>absurd h g⟩ (R.laid t1.sh) (r1.bare hc λq hq=>R.sub.free (hn q hq)) ⟨o1.nd,λq hq=>R.fr.free (hn q hq),λq hq m=>(R.mem m).1 (hn q hq),λq hq=>.inl (hn q hq)⟩
 .cases e
end
theorem Oe(k:MK) (S:AS):HC k S=(k (Dg S)).bind λy=>if xJ y.1=true then some (y.1,S) else none:=rfl
theorem Hb:Dg []=[]:=rfl
theorem EV(x:Option AV) (S:AS):Dg (x::S)=(x.map λa=>.sh (pH a))::Dg S:=rfl
end Z
namespace Mr
open PySem PySem.Calls PySem.Spec PyProof.Rows L2
end Mr
namespace Z
open PySem L2 Mr Xe
end Z
namespace Mo
open PySem PyProof.Rows Mr
section
variable {K:Type} [DecidableEq K]
def fz(ks:List K) (ws:List Value) (j:Nat):List (K×Value):=((ks.zip ws).take j).foldl (λm p=>stored m p.1 p.2) []
end
end Mo
namespace Mr
open PySem PySem.W PySem.Spec PyProof.Rows L2 Mo
def fv(ns ms:List Int):List (pQ×V):=(ns.zip ms).foldl (λm p=>yW m (.inl p.1) (.int p.2)) []
end Mr
namespace Z
open PySem L2 Mr
def dz(ns ms:List Int):List (pQ×D):=(ns.zip ms).foldl (λm p=>yC m (.inl p.1) (.int p.2)) []
end Z
namespace Ms
open PySem
def Up(xs:Array Nat):Prop:=∀a b u v:Nat,xs[a]?=some u->xs[b]?=some v->a<b->u<v
theorem Up.list{xs:Array Nat}(h:xs.toList.Pairwise (· < ·)):Up xs:=λa b u v ha hb hl=>by
 rw[←ay]at ha hb;obtain⟨la,ea⟩:=gSq.mp ha;obtain⟨lb,eb⟩:=gSq.mp hb;have:=cj.mp h a b la lb hl;rw[ea,eb]at this;exact this
theorem Up.pw{xs:Array Nat}(h:Up xs):xs.toList.Pairwise (· < ·):=cj.mpr λa b la lb hl=>h a b _ _ (by rw[←ay];exact gEg la) (by rw[←ay];exact gEg lb) hl
theorem Df{xs:Array Nat}{j:Nat}(hs:Up xs):∀(fuel lo hi:Nat),hi-lo<=fuel->lo<=hi->hi<=xs.size->(∀k v,xs[k]?=some v->k<lo->v<j)->(∀k v,xs[k]?=some v->hi<=k->j<=v) ->
  ∃i,SetTable.below.go xs j fuel lo hi=i/\i<=xs.size/\(∀k v,xs[k]?=some v->k<i->v<j)/\∀k v,xs[k]?=some v->i<=k->j<=v
 |0,lo,hi,hf,hl,hh,h1,h2=>⟨lo,by rw[SetTable.below.go],by lia,h1,λk v e hk=>h2 k v e (by lia)⟩
 |fuel+1,lo,hi,hf,hl,hh,h1,h2=>by
  rw[SetTable.below.go]
  by_cases c:lo<hi
  .rw [qe c];have hm:(lo+hi) / 2<xs.size:=by lia
   have em:xs[(lo+hi) / 2]?=some (xs[(lo+hi) / 2]'hm):=ak hm;have eg:xs.getD ((lo+hi) / 2) j=xs[(lo+hi) / 2]'hm:=by simp[iI,hm]
   show ∃i,(if xs.getD ((lo+hi) / 2) j<j then SetTable.below.go xs j fuel ((lo+hi) / 2+1) hi else SetTable.below.go xs j fuel lo ((lo+hi) / 2))=i/\_
   rw[eg]
   by_cases d:xs[(lo+hi) / 2]'hm<j
   .rw [qe d];refine Df hs fuel _ _ (by lia) (by lia) hh (λk v e hk=>?_) h2
    by_cases q:k=(lo+hi) / 2
    .subst q;rw[em]at e;cases e;exact d
    .exact jD (hs _ _ _ _ e em (by lia)) d
   .rw [pV d];refine Df hs fuel _ _ (by lia) (by lia) (by lia) h1 λk v e hk=>?_
    by_cases q:k=(lo+hi) / 2
    .subst q;rw[em]at e;cases e;lia
    .have:=hs _ _ _ _ em e (by lia)
     lia
  .rw [pV c];exact⟨lo,rfl,by lia,h1,λk v e hk=>h2 k v e (by lia)⟩
theorem He{xs:Array Nat}(hs:Up xs) (j:Nat):SetTable.below xs j<=xs.size/\(∀k v,xs[k]?=some v->k<SetTable.below xs j->v<j)/\∀k v,xs[k]?=some v->SetTable.below xs j<=k->j<=v:=by
 obtain⟨i,e,h1,h2,h3⟩:=Df (j:=j) hs xs.size 0 xs.size (by lia) (bq _) (aj _) (λk v _ hk=>absurd hk (dA _)) (λk v e hk=>by
  have:=(bg.mp e).1;lia)
 have:SetTable.below xs j=i:=e;rw[this];exact⟨h1,h2,h3⟩
theorem Mw{xs:Array Nat}(hs:Up xs) {j:Nat}(hn:∀k:Nat,xs[k]? ≠ some j):Up (SetTable.insertAt xs (SetTable.below xs j) j):=by
 refine Up.list ?_;rw[SetTable.toList_insertAt];obtain⟨h1,h2,h3⟩:=He hs j;generalize SetTable.below xs j=b at h1 h2 h3;have hp:=hs.pw;rw[aN];refine⟨hp.sublist (bG _ _),bP.mpr ⟨λv hv=>?_,hp.sublist (cv _ _)⟩,λu hu v hv=>?_⟩
 .obtain ⟨k,hk⟩:=aC.mp hv;rw[cI,ay]at hk;have a:=h3 _ v hk (by lia)
  have:v≠j:=λz=>hn _ (z ▸ hk)
  lia
 .obtain ⟨k,hk⟩:=aC.mp hu;rw[jA]at hk;split at hk
  .rename_i q;rw[ay]at hk;have a:=h2 k u hk q;rcases ae.mp hv with z|z
   .rw [z];exact a
   .obtain ⟨k2,hk2⟩:=aC.mp z;rw[cI,ay]at hk2;exact hs _ _ _ _ hk hk2 (by lia)
  .cases hk
theorem TK:Up #[]:=λa b u v h=>by simp at h
theorem MQ(n:Nat):Up (Array.range n):=λa b u v ha hb hl=>by
 rw[Array.getElem?_range]at ha hb;split at ha <;> split at hb
 .cases ha;cases hb;exact hl
 .cases hb
 .cases ha
 .cases ha
structure Tb (led:Bool) (t:SetTable):Prop where
 up:Up t.place
 dm:t.dummies=#[]
 led:t.led=led
theorem Tb.fresh(led:Bool):Tb led (.fresh 0 0 led):=⟨TK,rfl,rfl⟩
theorem Tb.standIn{led:Bool}{t:SetTable}(h:Tb led t) (n:Nat):Tb led (t.standIn n):=⟨MQ n,rfl,h.led⟩
theorem Tb.orStandIn{led:Bool}{t:SetTable}(h:Tb led t) (n:Nat):Tb led (t.orStandIn n):=by
 unfold SetTable.orStandIn;split
 .exact h
 .exact h.standIn n
theorem Tb.plain{led:Bool}{t:SetTable}(h:Tb led t) (b:Bool):Tb led { t with plain:=b }:=⟨h.up,h.dm,h.led⟩
theorem Dv{t:SetTable}(hd:t.dummies=#[]) {h:Int}:∀(fuel:Nat) (p:SetTable.Probe) (m:SetTable.Met),p.dummy=none->SetTable.probe.go t (λ_=>h+1) h fuel p=some m->∃j,m = .empty j none/\t.slot j = .empty
 |0,p,m,_,e=>by rw[SetTable.probe.go]at e;cases e
 |fuel+1,p,m,hp,e=>by
  rw[SetTable.probe.go]at e;have adv:(t.advance p).dummy=none:=by
   unfold SetTable.advance;split <;> exact hp
  cases hs:t.slot p.j with
  |empty =>
   rw[hs]at e;cases e;exact⟨p.j,by rw[hp],hs⟩
  |dummy =>
   exfalso;unfold SetTable.slot at hs;simp only at hs;split at hs
   .cases hs
   .split at hs
    .rename_i q;unfold SetTable.has at q;rw[hd]at q;simp at q
    .cases hs
  |live i =>
   rw[hs]at e;have:((h+1:Int) == h)=false:=by
    rw[beq_eq_false_iff_ne];lia
   simp only[this,eV,if_false]at e;exact Dv hd fuel _ m adv e
theorem LP{t:SetTable}(hs:Up t.place) {j:Nat}(h:t.slot j = .empty):∀k:Nat,t.place[k]? ≠ some j:=by
 intro k hk;obtain⟨h1,h2,h3⟩:=He hs j;unfold SetTable.slot at h;simp only at h;have hi:=(bg.mp hk).1;have e:k=SetTable.below t.place j:=by
  rcases iw k (SetTable.below t.place j) with c|c|c
  .have:=h2 k j hk c;lia
  .exact c
  .have hb:=ak (jD c hi);have a:=h3 _ _ hb (aj _);have:=hs _ _ _ _ hb hk c;lia
 rw[←e,hk]at h;simp at h
theorem Ub{led:Bool}{t:SetTable}(h:Tb led t) (es:Array (Int×Value)) (hh:Int) (x:Value):Tb led (layNew t es hh x).2.1:=by
 unfold layNew;split
 .rename_i slot wd e;refine Tb.orStandIn ?_ _;unfold SetTable.freeSlot at e;split at e
  .rename_i j d em;obtain⟨j',e1,e2⟩:=Dv h.dm _ _ _ rfl em;cases e1;cases e;have hf:=LP h.up e2;refine⟨Mw h.up hf,?_,h.led⟩;show (if SetTable.has t.dummies j then SetTable.eraseAt t.dummies (SetTable.below t.dummies j) else t.dummies)=#[]
   rw[h.dm];have:SetTable.has #[] j=false:=by simp[SetTable.has]
   rw[this];rfl
  .cases e
 .exact h.standIn _
theorem Nu{led:Bool}{t:SetTable}(h:Tb led t) (es:Array (Int×Value)) (n:Nat):Tb led (nJ t es n).2.1:=by
 unfold nJ;split
 .rename_i t' order e;dsimp only;split
  .unfold SetTable.relaid SetTable.laid at e;obtain⟨ow,e1,e2⟩:=oBq.mp e;cases e2;refine⟨Up.list ?_,rfl,h.led⟩;show (((cw _).filterMap λj=>(ow.getD j none).map λx=>(j,x)).map (·.1)).Pairwise (· < ·)
   rw[bb,List.pairwise_filterMap];refine aZ.imp ?_ gA;intro a b hab x hx y hy;obtain⟨_,_,rfl⟩:=oMq.mp hx;obtain⟨_,_,rfl⟩:=oMq.mp hy;exact hab
  .exact h.standIn _
 .exact h.standIn _
end Ms
namespace Ms
open PySem PyProof.Rows Mr
def SI(prog:kL) (w:kN) (h:Heap) (a:Addr) (F:List Int):Prop :=
 ∃o es ep t,h.get? a=some o/\o.ExactSet/\o.data = .set es ep t/\ElemsOf (lS prog w) es.toList/\(∀e∈es.toList,∃k u,e.2 = .int k u)/\(es.toList.map λe=>Mr.intOf e.2).Perm F/\es.size<lV/\t.fits es.size=true/\Tb (!w.params.followText "set-order") t
def yg(F:List Int) (k:Int):List Int:=if k∈F then F else F++[k]
section
variable {prog:kL}{w:kN}{A:Around}{E:Value->Shared->Prop}{s:Shared}
theorem SI.keep{h h':Heap}{a:Addr}{F:List Int}(x:SI prog w h a F) (k:∀o,h.get? a=some o->h'.get? a=some o):SI prog w h' a F:=by
 obtain⟨o,es,ep,t,ho,r⟩:=x;exact⟨o,es,ep,t,k o ho,r⟩
theorem HH{h:Heap}{a:Addr}{o:Obj}{es:Array (Int×Value)}{ep:Nat}{t:SetTable}(ho:h.get? a=some o) (hd:o.data = .set es ep t) (es':Array (Int×Value)) (t':SetTable) :
  (h.update a (Obj.putSet es' t')).get? a=some { o with data:=.set es' (ep+1) t' }:=by
 have:=iZ (Obj.putSet es' t') ho (by rw[putSet_of es' t' hd];rfl)
 rw[putSet_of es' t' hd]at this;exact this
theorem UQ{a:Addr}{F:List Int}{k:Int}{u:Tok}{Q:Bool->Shared->Prop}(hS:SI prog w s.heap a F) (hroom:F.length+1<lV)
  (h:∀b h',cO a s.heap h'->SI prog w h' a (yg F k)->Q b { s with heap:=h' }) :
  kJ (kG prog w) A (setAddHashed a (.int k u) ((lS prog w).hash k)) Q E s:=by
 obtain⟨o,es,ep,t,ho,hex,hd,hel,hin,hp,hb,hf,hT⟩:=hS;have hkey:=oa prog w k u;have hsz:es.size=F.length:=by
  have:=hp.length_eq
  rwa [lMq,aw]at this
 have his:∀e∈es.toList,(lS prog w).is k e.2=true->Mr.intOf e.2=k:=λe he hk=>by
  obtain⟨m,v,ev⟩:=hin e he;rw[ev]at hk ⊢;exact(lS prog w).inj _ _ _ (oa prog w m v) hk
 unfold setAddHashed setAddHashedIn;refine lO (kC (wpAny_setState_of ho hd hf ?_));dsimp only;rw[byScan_of (knd:=lS prog w) rfl hb hel];simp only[↓reduceIte];unfold setAddByScan;refine kC ?_;refine kC (nv ?_);refine kC (wpAny_setScan_of hkey ho hd hf hel ?_);cases hr:jr (λe=>(lS prog w).is k e.2) es.toList with
 |some j =>
  dsimp only;obtain⟨hj,hpj,_⟩:=List.findIdx?_eq_some_iff_getElem.mp hr;have hm:k∈F:=hp.mem_iff.mp (mMq.mpr ⟨_,gRq hj,his _ (gRq hj) hpj⟩);refine kH (kH ?_);have e:s={ s with heap:=s.heap }:=by cases s;rfl
  rw[e];refine h _ s.heap (cO.refl a s.heap) ?_;unfold yg;rw[qe hm];exact⟨o,es,ep,t,ho,hex,hd,hel,hin,hp,hb,hf,hT⟩
 |none =>
  dsimp only;have hm:k∉F:=λz=>by
   obtain⟨e,he,ek⟩:=mMq.mp (hp.mem_iff.mpr z);have:=iC.mp hr e he;obtain⟨m,v,ev⟩:=hin e he;rw[ev]at ek this;have ek':m=k:=ek;rw[ek',oa]at this;cases this
  have hgw:∀(b:Bool) {z:Shared}{Q':Unit->Shared->Prop},Q' () z->kJ (kG prog w) A (match b with|true=>rule "set.scan.the-table-gave-way" |false=>pure ()) Q' E z:=λb z Q' hq=>by cases b <;> first|exact kH hq|exact nv hq
  have hperm:=layNew_perm t es ((lS prog w).hash k) (.int k u);have hfits:=layNew_fits t es ((lS prog w).hash k) (.int k u);have hT1:=Ub hT es ((lS prog w).hash k) (.int k u);generalize hL:layNew t es ((lS prog w).hash k) (.int k u)=L at hperm hfits hT1 ⊢;obtain⟨es1,t1,wasDummy,gave⟩:=L;dsimp only at hperm hfits hT1 ⊢;rw[dB]at hperm;have hel1:ElemsOf (lS prog w) es1.toList:=(hel.push hkey rfl).perm hperm;have hin1:∀e∈es1.toList,∃k u,e.2 = .int k u:=λe he=>by
   rcases mAq.mp (hperm.mem_iff.mp he) with z|z
   .exact hin e z
   .rw [mSq.mp z];exact⟨k,u,rfl⟩
  have hp1:(es1.toList.map λe=>Mr.intOf e.2).Perm (yg F k):=by
   unfold yg;rw[pV hm];refine(hperm.map _).trans ?_;rw[mBq];exact hp.append_right _
  have hz1:es1.size=es.size+1:=by
   have:=hperm.length_eq
   rwa [lAq,aw,aw]at this
  have hb1:es1.size<lV:=by rw[hz1,hsz];exact hroom
  refine kC (hgw _ ?_);have fin:∀{t2:SetTable},t2.fits es1.size=true->Tb (!w.params.followText "set-order") t2->∀{R:Option Bool->Shared->Prop},(∀h',cO a s.heap h'->SI prog w h' a (yg F k)->R (some true) { s with heap:=h' }) ->
    kJ (kG prog w) A (do
     storeSet a es1 t2
     if (!wasDummy && t2.tooFull)=true then do
       (match (nJ t2 es1 (SetTable.grown es1.size)).2.2 with|true=>rule "set.scan.the-table-gave-way" |false=>pure ())
       storeSet a (nJ t2 es1 (SetTable.grown es1.size)).1 (nJ t2 es1 (SetTable.grown es1.size)).2.1
       pure (some true)
      else pure (some true)) R E s:=by
   intro t2 hf2 hT2 R hR;refine kC (wpAny_storeSet_of ho hd ?_ (fits_of_scanBound hb1));have g1:=HH ho hd es1 t2;have sb1:=cO.update s.heap a (Obj.putSet es1 t2);split
   .have q1:=relayAll_perm t2 es1 (SetTable.grown es1.size);have q2:=relayAll_fits t2 es1 (SetTable.grown es1.size);have q3:=Nu hT2 es1 (SetTable.grown es1.size);generalize nJ t2 es1 (SetTable.grown es1.size)=V at q1 q2 q3 ⊢;obtain⟨es2,t3,gv⟩:=V;dsimp only at q1 q2 q3 ⊢;have hz2:es2.size=es1.size:=by
     have:=q1.length_eq
     rwa [aw,aw]at this
    refine kC (hgw _ ?_);refine kC (wpAny_storeSet_of g1 rfl ?_ (fits_of_scanBound (by rw[hz2];exact hb1)))
    have g2:=HH g1 rfl es2 t3;exact kH (hR _ (sb1.trans (cO.update _ a _)) ⟨_,es2,_,t3,g2,hex,rfl,hel1.perm q1,λe he=>hin1 e (q1.mem_iff.mp he),(q1.map _).trans hp1,by rw[hz2];exact hb1,q2,q3⟩)
   .exact kH (hR _ sb1 ⟨_,es1,_,t2,g1,hex,rfl,hel1,hin1,hp1,hb1,hf2,hT2⟩)
  split
  .refine kC ?_;rw[hashByValue_scannable 8 (x:=.int k u) rfl];refine kH ?_;refine fin ?_ ?_ λh' sb hS'=>?_
   .split
    .exact hfits
    .exact SetTable.fits_plain_off hfits
   .split
    .exact hT1
    .exact hT1.plain false
   .dsimp only;exact kH (h _ h' sb hS')
  .refine kC (kH ?_);simp only[↓reduceIte];refine fin hfits hT1 λh' sb hS'=>?_
   dsimp only;exact kH (h _ h' sb hS')
end
def dd(ns:List Int):List Int:=ns.foldl yg []
theorem Kp(ns:List Int) (k:Int):dd (ns++[k])=yg (dd ns) k:=by
 unfold dd;rw[gm];rfl
theorem Nz(F:List Int) (k:Int):(yg F k).length<=F.length+1:=by
 unfold yg;split
 .lia
 .simp
theorem N8{F:List Int}{k x:Int}:x∈yg F k↔x∈F∨x=k:=by
 unfold yg;split
 .rename_i h;exact⟨.inl,λq=>q.elim id λq=>q ▸ h⟩
 .simp
theorem Q8{F:List Int}{k:Int}(h:F.Nodup):(yg F k).Nodup:=by
 unfold yg;split
 .exact h
 .rename_i q;rw[nAq];exact⟨h,by simp,λx hx y hy z=>q (by rw[mSq.mp hy]at z;rw[←z];exact hx)⟩
theorem AX:∀(ns F:List Int),(ns.foldl yg F).length<=F.length+ns.length/\(∀x,x∈ns.foldl yg F↔x∈F∨x∈ns)/\(F.Nodup->(ns.foldl yg F).Nodup)
 | [],F=>⟨by simp,by simp,λh=>h⟩
 |n::ns,F=>by
  obtain⟨h1,h2,h3⟩:=AX ns (yg F n);have:=Nz F n;rw[cG,lCq];refine⟨by lia,λx=>?_,λh=>h3 (Q8 h)⟩
  rw[h2 x,N8,ae,or_assoc]
theorem Fk(ns:List Int):(dd ns).length<=ns.length:=by
 have:=(AX ns []).1;simpa [dd] using this
theorem yL{ns:List Int}{x:Int}:x∈dd ns↔x∈ns:=by
 have:=(AX ns []).2.1 x;simpa [dd] using this
theorem EZ(ns:List Int):(dd ns).Nodup:=(AX ns []).2.2 aV
section
variable {prog:kL}{w:kN}{A:Around}{E:Value->Shared->Prop}{s:Shared}{R:Result->Shared->Prop}{l I S:Addr}{vs:List Value}{ns:List Int}
theorem O6(hh:A.handled=none) (hi:kS vs ns) (hlI:l≠I) (hSI:S≠I) (hSl:S≠l) (hb:ns.length+1<lV):∀(k j:Nat) (z:Shared),vs.length-j=k->j<=vs.length->z.heap.IsListIter I l j->z.heap.IsList l vs.toArray->SI prog w z.heap S (dd (ns.take j)) ->
  (∀h' tk,SI prog w h' S (dd ns)->(∀b o,b≠I->b≠S->z.heap.get? b=some o->h'.get? b=some o)->R (.ok (.ret .none)) { z with heap:=h',toks:=tk }) ->
  mO (kG prog w) A (.builtin "set.update.loop" ⟨[.ref S,.ref I],[]⟩) R z:=by
 have W:=Walks.list (prog:=prog) (w:=w) (A:=A.in1) hh I l hlI vs.toArray;have vl:vs.toArray.size=vs.length:=aS ..;have hln:=hi.length;intro k
 induction k with
 |zero =>
  intro j z hk hj hst hL hS hR;have hjn:j=vs.toArray.size:=by rw[vl];lia
  refine kZ PyProof.Rows.F.entry_set_update_loop ?_;rw[Around.under_plainId PyProof.Rows.F.plain_set_update_loop _];show kJ _ A.in1 (pyNext (.ref I) >>= _) _ _ z;refine kC (W.done z _ _ ⟨hjn ▸ hst,hL⟩ λh' tk kp=>?_)
  show kJ _ A.in1 (ret jm) _ _ _;refine kH (hR h' tk ?_ λb o nI _ e=>kp b o (by simpa using nI) e)
  rw[cX (by lia)]at hS
  exact hS.keep λo e=>kp S o (by simpa using hSI) e
 |succ k ih =>
  intro j z hk hj hst hL hS hR;have hlt:j<vs.toArray.size:=by rw[vl];lia
  refine kZ PyProof.Rows.F.entry_set_update_loop ?_;rw[Around.under_plainId PyProof.Rows.F.plain_set_update_loop _];show kJ _ A.in1 (pyNext (.ref I) >>= _) _ _ z;refine kC (W.item j z _ _ hlt ⟨hst,hL⟩ λv h' tk hP Eg kp=>?_)
  obtain⟨n,hn⟩:∃n,ns[j]?=some n:=⟨_,gEg (by lia)⟩
  obtain⟨u,hu⟩:=hi.get j n hn;have hv:vs[j]?=some v:=by simpa using hP
  rw[hu]at hv;cases hv;have hS':SI prog w h' S (dd (ns.take j)):=hS.keep λo e=>kp S o (by simpa using hSI) e
  show kJ _ A.in1 (holding [ir n u] (setAdd S (.int n u)) >>= _) _ _ _;refine kC (lO ?_);unfold setAdd;refine lO ?_;refine kC ((lS prog w).pyHash (k:=n) (oa _ _ _ _) ?_);have hrm:(dd (ns.take j)).length+1<lV:=by
   have a:=Fk (ns.take j);rw[lTq]at a;lia
  refine UQ hS' hrm λb h2 sb hS2=>?_
  have ht:ns.take (j+1)=ns.take j++[n]:=by rw[bH,hn];rfl
  rw[←Kp,←ht]at hS2;refine kH ⟨nj PyProof.Rows.F.plain_set_update_loop _,ih (j+1) _ (by lia) (by lia) (Eg.1.extBut sb.extBut (Ne.symm hSI)) (Eg.2.extBut sb.extBut (Ne.symm hSl)) hS2 λh3 tk3 hS3 kp3=>?_⟩
  exact hR h3 tk3 hS3 λb o nI nS e=>kp3 b o nI nS (sb.extBut b o nS (kp b o (by simpa using nI) e))
theorem Oc(a:Value) {Q1:Value->Shared->Prop}
  (h:Q1 (.ref s.heap.objs.size) { s with heap:=s.heap.push { cls:=.type "set", dict:=none,data:=.set #[] 0 (.fresh 0 0 (!w.params.followText "set-order")) } }) :
  mO (kG prog w) A (.call (.builtin "set.__new__") ⟨[.type "set", a],[]⟩) (wants Q1 E) s:=by
 refine codeAny_of_tree ?_;show kJ _ A.in1 (do checkBuiltinCall "set.__new__" ⟨[.type "set", a],[]⟩;again (.builtin "set.__new__" ⟨[.type "set", a],[]⟩)) _ _ s
 refine kC (wpAny_of_eq (PySem.F.newCall_set_1 a) (kH ⟨nj ja _,kZ PySem.F.entry_set_new ?_⟩));rw[Around.under_plainId ja _];unfold Builtin.«set.__new__» Builtin.Frozenset.newClass;have hsub:=sub_set_self;obtain⟨hp,g,d,tk,os⟩:=s;dsimp only
 wp_walk
 refine wpAny_askSetting (kH ?_);dsimp only;simp only[newObj];refine kC (wpAny_alloc (kH ?_));exact kH h
theorem SI.fresh{h:Heap}{a:Addr}(ho:h.get? a=some { cls:=.type "set", dict:=none,data:=.set #[] 0 (.fresh 0 0 (!w.params.followText "set-order")) }):SI prog w h a [] :=
 ⟨_,#[],0,_,ho,⟨rfl,rfl,rfl⟩,rfl,λe he=>by simp at he,λe he=>by simp at he,.refl _,by unfold lV;decide,rfl,Tb.fresh _⟩
theorem M1{Q:Value->Shared->Prop}(hh:A.handled=none) (hl:s.heap.IsList l vs.toArray) (hi:kS vs ns) (hb:ns.length+1<lV)
  (h:∀(h':Heap) (tk:Nat),SI prog w h' s.heap.objs.size (dd ns)->(∀b o,s.heap.get? b=some o->h'.get? b=some o)->Q (.ref s.heap.objs.size) { s with heap:=h',toks:=tk }) :
  kJ (kG prog w) A (call (.type "set") [.ref l]) Q E s:=by
 obtain⟨c,tl,hmro⟩:=cK.mro;have hmade:=cK.made;have hsub:=cK.sub;refine wpAny_call (codeAny_of_tree ?_);show kJ _ _ (callAny (.type "set") _) _ _ _;refine kH ⟨Code.quiet_builtin _ (by decide +kernel),kZ PySem.F.entry_type_call ?_⟩
 rw[Around.under_plain (weight_type_call_type "set" [.ref l] []) rfl];have h1:=cK.notType;have h2:=cK.canCreate;have hct:=PySem.F.typeCall_set_1 (.ref l)
 repeat (any_goals (first|assumption|wp_step))
 generalize hg1:s.heap.push { cls:=.type "set", dict:=none,data:=.set #[] 0 (.fresh 0 0 (!w.params.followText "set-order")) }=g1;have z1:g1.objs.size=s.heap.objs.size+1:=by rw[←hg1];exact jg ..
 have k1:∀b o,s.heap.get? b=some o->g1.get? b=some o:=λb o e=>by rw[←hg1];exact au _ e
 have o1:g1.get? s.heap.objs.size=some { cls:=.type "set", dict:=none,data:=.set #[] 0 (.fresh 0 0 (!w.params.followText "set-order")) }:=by rw[←hg1];exact bh _ rfl
 refine mT (Oc (.ref l) (E:=E) (Q1:=λobj z=>obj = .ref s.heap.objs.size/\z={ s with heap:=g1 }) ⟨rfl,by rw[hg1]⟩) λr z hr=>?_
 cases r with
 |error e=>exact hr
 |ok fl =>
  cases fl with
  |ret obj =>
   obtain⟨rfl,rfl⟩:=hr;have hT:Shared.TypeIs { s with heap:=g1 } (.ref s.heap.objs.size) "set" := ⟨_,o1,rfl⟩
   have hli:=cK.init.lookup;have hbi:=cK.init.bind (.ref s.heap.objs.size)
   repeat (any_goals (first|assumption|wp_step))
   refine mT (codeAny_call_builtin (R:=wants (λr y=>r = .none/\∃h' tk,y={ s with heap:=h',toks:=tk }/\SI prog w h' s.heap.objs.size (dd ns)/\∀b o,s.heap.get? b=some o->h'.get? b=some o) E) cK.init.plain PySem.F.entry_set_init (check_set_init_1 hT ?_)) λr2 y hr2=>?_
   .obtain ⟨⟨oc,od,odt,osl⟩,hol,hcl,nl,hdl⟩:=hl;simp only at hcl hdl;subst hcl;subst hdl;have hol1:=k1 l _ hol;have n1:=PySem.F.sub_list_set;have n2:=PySem.F.sub_list_frozenset;have n3:(gq "list" == gq "dict")=false:=by decide
    have hl1:g1.IsList l vs.toArray:=⟨_,hol1,rfl,nl,rfl⟩;unfold Builtin.«set.__init__» noKeywords Builtin.Frozenset.updateFrom;generalize hPI:pyIter=PI
    wp_walk
    subst hPI;refine nt hl1 ?_;refine kC (wpAny_runValue ?_);have hlS:l<s.heap.objs.size:=az hol;have hh3:A.in1.in1.handled=none:=by simp[hh]
    have lI:l≠g1.objs.size:=by rw[z1];exact aL (cu hlS)
    have sI:s.heap.objs.size≠g1.objs.size:=by rw[z1];exact aL (fA _)
    refine O6 (prog:=prog) (w:=w) (vs:=vs) (ns:=ns) hh3 hi lI sI (fk hlS) hb _ 0 _ rfl (bq _) ⟨_,bh _ rfl,rfl,rfl⟩ (hl1.push _) (SI.fresh (au _ o1)) λh' tk hS kp=>?_
    show kJ _ _ _ _ _ _;refine kH ?_;show kJ _ _ (ret jm) _ _ _;refine kH ⟨rfl,h',tk,rfl,hS,λb o e=>kp b o ?_ ?_ (au _ (k1 b o e))⟩
    .have:=az e;rw[z1];exact aL (cu this)
    .exact aL (az e)
   .cases r2 with
    |error e=>exact hr2
    |ok fl2 =>
     cases fl2 with
     |ret r =>
      obtain⟨rfl,h',tk,rfl,hS',hk'⟩:=hr2
      repeat (any_goals (first|assumption|wp_step))
      exact h _ _ hS' hk'
     |_=>exact hr2.elim
  |_=>exact hr.elim
end
def SA(h:Heap) (a:Addr) (es:Array (Int×Value)) (ep:Nat) (t:SetTable):Prop:=∃o,h.get? a=some o/\o.ExactSet/\o.data = .set es ep t
end Ms
namespace Ms
open PySem PySem.W PyProof.Rows Mr MrS
end Ms
namespace Mr
open PySem PySem.Spec PyProof.Rows L2
end Mr
namespace Z
open PySem L2 Mr Xe
end Z
namespace Mr
open PySem PySem.Spec PyProof.Rows L2
end Mr
namespace Z
open PySem L2 Mr
end Z
namespace Mr
open PySem L2
theorem BK{prog:kL}{w:kN}{K:Type} [DecidableEq K] {knd:KeyKind prog w K}{A:Around}{E:Value->Shared->Prop}{s:Shared}{d:Addr}{k:K}{key dflt:Value}{kvs:List (K×Value)}{Q:Value->Shared->Prop}
  (hk:knd.is k key=true) (dd:il knd s.heap d kvs) (hz:kvs.length<=kK)
  (there:∀v,lQ kvs k=some v->Q v { s with toks:=s.toks+1 })
  (new:lQ kvs k=none->∀h',il knd h' d (kvs++[(k,dflt)])->cO d s.heap h'->Q dflt { s with heap:=h',toks:=s.toks+1 }) :
  kJ (kG prog w) A (dictSetDefault d key dflt) Q E s:=by
 obtain⟨o,es,ep,ho,hx,hd,hkeys,hp,hn⟩:=dd;unfold dictSetDefault;refine lO (kC (knd.pyHash hk ?_));refine kC (wpAny_dictFind_of hk ho hd hkeys ?_);have hf:Array.findIdx? (λe=>knd.is k e.key) es=jr (λe=>knd.is k e.key) es.toList:=by
  cases es;exact(List.findIdx?_toArray ..)
 rw[hf];cases e:jr (λe=>knd.is k e.key) es.toList with
 |some i =>
  obtain⟨x,h1,h2,h3⟩:=hp.at e;refine kC (wpAny_dictEntries ho hd ?_);rw[←ay,h1];exact kC (nv (kH (there _ h3)))
 |none =>
  have hz':es.size<=kK:=by rw[←aw,hp.length];exact hz
  have h1:=hp.findIdx k;rw[e]at h1;have h2:=iC.mp h1.symm;have hv:lQ kvs k=none:=by
   unfold lQ;rw[List.find?_eq_none.mpr λx hx=>by rw[h2 x hx];decide]
   rfl
  refine kC (nv (kC (wpAny_updateDictKeys ho hd ?_ hz' (by simp))))
  refine kH (new hv _ ⟨_,_,_,iZ _ ho ?_,hx.mapDictKeys _,Obj.data_mapDictKeys hd _,hkeys.push hk dflt,?_,?_⟩ (cO.update _ _ _))
  .have hq:=Obj.data_mapDictKeys hd (λx=>x.push { hash:=knd.hash k,key:=key,val:=dflt })
   generalize Obj.mapDictKeys (λx=>x.push { hash:=knd.hash k,key:=key,val:=dflt }) o=o' at hq ⊢
   obtain⟨c,d',dt,sl⟩:=o';cases hq;rfl
  .rw [dB];exact hp.append hk _ _
  .rw [mBq,nAq];refine⟨hn,by simp,λa ha b hb=>?_⟩
   obtain⟨x,hx,rfl⟩:=mMq.mp ha;rw[mSq.mp hb];exact of_decide_eq_false (h2 x hx)
theorem BM{prog:kL}{w:kN}{K:Type} [DecidableEq K] (knd:KeyKind prog w K) {k:K}{key:Value}(d:Addr) (hk:knd.is k key=true) (hs:(d == lE)=false) (dflt:Value) :
  MeetsIn prog w (Builtin.«dict.setdefault» { pos:=[.ref d,key,dflt] }) λ_ R s=>∃kvs:List (K×Value),il knd s.heap d kvs/\kvs.length<=kK/\(∀v,lQ kvs k=some v->R (.ok (.ret v)) { s with toks:=s.toks+1 }) /\
   (lQ kvs k=none->∀h',il knd h' d (kvs++[(k,dflt)])->cO d s.heap h'->R (.ok (.ret dflt)) { s with heap:=h',toks:=s.toks+1 }):=by
 rintro A R s ⟨kvs,dd,hz,h1,h2⟩;unfold Builtin.«dict.setdefault» Builtin.Dict.keyAndDefault;refine kC (kC (wpAny_notOrdered_dict dd.typeIs ?_));refine kC (kH ?_);refine kC (kC (kH ?_));dsimp only;refine kC (kH ?_);refine kH ?_;dsimp only;refine kC (kH ?_);refine kH ?_;dsimp only;rw[pV (by rw[hs];decide)]
 exact kC (BK hk dd hz (λv hv=>kH (h1 v hv)) λhv h' d' sb=>kH (h2 hv h' d' sb))
section
variable {X:Cx}{oV:List (Addr×Obj)}{σ:St}{H:Hp}{s:Shared}{a:Addr}{kvs:List (pQ×V)}{k:pQ}{u r:Value}{v:V}{A:Around}{E:Value->Shared->Prop}
theorem Qc{Q:Value->Shared->Prop}(I:Inv X oV σ H s) (e:H a=some (.dK kvs)) (ry:qN (kV k) u) (rv:qN v r) (l:kvs.length<kK)
  (there:∀v',vo kvs k=some v'->∀w' s',Inv X oV σ H s'->qN v' w'->Q w' s')
  (new:vo kvs k=none->∀s',Inv X oV σ (rK H a (.dK (kvs++[(k,v)]))) s'->Q r s') :
  kJ (kG X.prog X.w) A (call (.builtin "dict.setdefault") [.ref a,u,r]) Q E s:=by
 obtain⟨z,hd,vs,rel,dd⟩:=Ot I.hok e;have hv:=rel.val k;refine call_meetsIn gZ dd.typeIs PySem.F.entry_dict_setdefault (PySem.F.args_dict_setdefault_3 _ _ _) (BM (qQ X.prog X.w) a (Fd ry) hd r)
  ⟨vs,dd,by rw[←rel.length];exact z,λw' hw=>?_,λhn h' dd' hs=>new ?_ _ ?_⟩
 .cases q:vo kvs k with
  |none=>rw[q]at hv;rw[A3.none_of hv]at hw;cases hw
  |some v' =>
   rw[q,hw]at hv;exact there v' q w' _ (I.tok _) hv
 .cases q:vo kvs k with
  |none=>rfl
  |some v' =>
   rw[q]at hv;obtain⟨y,h1,_⟩:=A3.some_of hv;rw[hn]at h1;cases h1
 .have he:∃q,h'.get? a=some q:=let ⟨q,_,_,hq,_⟩:=dd';⟨q,hq⟩
  refine Cu I (by rw[e];exact True.intro) hs he (JI (by rw[lAq];exact l) hd ?_ dd')
  exact Paired.snoc rel ⟨rfl,rv⟩
end
end Mr
namespace Mr
open PySem PySem.Spec PyProof.Rows L2
def J7(td ty tx:TE):TE:=λσ H Q=>td σ H λx H1=>∃a,x = .ref a/\X8 H1 a/\ty σ H1 λy H2=>tx σ H2 λz H3=>∃kvs k,H3 a=some (.dK kvs)/\y=kV k/\kvs.length<kK /\
 (∀v,vo kvs k=some v->Q v H3)/\(vo kvs k=none->Q z (rK H3 a (.dK (kvs++[(k,z)]))))
section
variable {X:Cx}{o e f:Expr}{apos cpos:Pos}{td ty tx:TE}
theorem Lh(ho:PE X o td) (he:PE X e ty) (hf:PE X f tx) (m:M2 X o "setdefault" apos e f cpos):PE X (.Call (.Attribute o "setdefault" apos) [e,f] [] cpos) (J7 td ty tx):=by
 intro oV s σ H Q I h;refine wpAny_Call_method m.base m.few m.line iO gZ PySem.F.type_dict_setdefault (thn (ho oV s σ H _ I h) λu s1 hz1=>?_)
 obtain⟨x,H1,I1,rx,a,ex,d,q1⟩:=hz1;subst ex;obtain rfl:u=bZ a:=rx;obtain⟨t1,t2,_⟩:=NJ I1 d;refine⟨t1,t2,?_⟩;rw[m.trees];refine Calls.callWith_builtin rfl (Calls.evalArgs_plain (Calls.spliced_cons (thn (he oV s1 σ H1 _ I1 q1) λiv s2 hz1=>?_)))
 obtain⟨y,H2,I2,ry,q2⟩:=hz1;refine Calls.spliced_cons (thn (hf oV s2 σ H2 _ I2 q2) λjv s3 hz1=>?_)
 obtain⟨z,H3,I3,rz,kvs,k,ea,ey,l,p1,p2⟩:=hz1;refine Calls.spliced_nil ?_;subst ey;exact Qc I3 ea ry rz l (λv hv w' s4 I4 rw'=>⟨v,_,I4,rw',p1 v hv⟩) λhv s4 I4=>⟨z,_,I4,rz,p2 hv⟩
end
end Mr
namespace Z
open PySem L2 Mr Xe
theorem qr.owl_inv{K:W.Frag}{Hf H:Hp}{kvs:List (pQ×List Int)}{v:V}{F:List Addr}(h:qr K Hf H (.owl kvs) v F):∃p qs,v = .ref p/\F=p::qs/\H p=some (.dK (bL (λx q=>(x.1,V.ref q)) kvs qs))/\Hf p=none/\kvs.length=qs.length /\
  ∀(i:Nat) (q:Addr) (x:pQ×List Int),qs[i]?=some q->kvs[i]?=some x->H q=some (.lst (x.2.map V.int))/\Hf q=none:=by
 cases h with
 |owl h n l e=>exact⟨_,_,rfl,rfl,h,n,l,e⟩
def vt(S:AS) (i:Nat):Option (List (pQ×List Int)):=match S[i]?.join with
 |some (.owl kvs)=>some kvs
 |some (.owd [])=>some []
 |_=>none
def FT(kvs:List (pQ×List Int)) (k:pQ):List (pQ×List Int):=if kvs.any λx=>decide (x.1=k) then kvs else kvs++[(k,[])]
def vV:List (pQ×List Int)->pQ->Int->List (pQ×List Int)
 | [],_,_=>[]
 |x::r,k,n=>if x.1=k then (x.1,x.2++[n])::r else x::vV r k n
section
variable {K:W.Frag}{H₀ Hf₀ Hf H:Hp}{S:AS}{σ:St}{Fs:List (List Addr)}
theorem qt.owl(R:qt K H₀ Hf₀ Hf S σ H Fs) {i:Nat}{kvs:List (pQ×List Int)}(h:vt S i=some kvs):∃p qs,σ[i]?=some (some (.ref p))/\Fs[i]?=some (p::qs)/\H p=some (.dK (bL (λx q=>(x.1,V.ref q)) kvs qs))/\Hf p=none/\kvs.length=qs.length /\
  (∀(i:Nat) (q:Addr) (x:pQ×List Int),qs[i]?=some q->kvs[i]?=some x->H q=some (.lst (x.2.map V.int))/\Hf q=none)/\(p::qs).Nodup/\∀q∈p::qs,H₀ q=none/\q∉(Fs.set i []).flatten:=by
 unfold vt at h;cases e:S[i]? with
 |none=>rw[e]at h;cases h
 |some o =>
  cases o with
  |none=>rw[e]at h;cases h
  |some av =>
   rw[e]at h;obtain⟨v,F,s1,s2,r,nd,oo,_⟩:=R.move e;cases av with
   |owl k =>
    cases h;obtain⟨p,qs,rfl,rfl,h1,h2,h3,h4⟩:=r.owl_inv;exact⟨p,qs,s1,s2,h1,h2,h3,h4,nd,oo⟩
   |owd k =>
    cases k with
    |nil =>
     cases h;obtain⟨p,kv,rfl,rfl,h1,h2,h3⟩:=r.owd_inv;have:kv=[]:=by
      have:=congrArg bV h3.1;simpa using this.symm
     subst this;exact⟨p,[],s1,s2,h1,h2,rfl,λi q x a=>by simp at a,nd,oo⟩
    |cons _ _=>cases h
   |_=>cases h
end
def UP(i:Nat) (b x:ME):MS:=λS=>(vt S i).bind λ_=>(b S).bind λy=>(vi y.1).bind λk=>(vt y.2 i).bind λkvs=>vY (kvs.length<rY) ((x (y.2.set i (some (.owl (FT kvs k))))).bind λz=>(intOf z.1).bind λn=>(vt z.2 i).bind λls=>vY (∀l∈ls,l.2.length<rY) (some (.nx (z.2.set i (some (.owl (vV ls k n)))))))
theorem CZ:∀{as bs:List (pQ×List Int)}{ps qs:List Addr},as.length=ps.length->bs.length=qs.length->bL (λx q=>(x.1,V.ref q)) as ps=bL (λx q=>(x.1,V.ref q)) bs qs->ps=qs/\as.map (·.1)=bs.map (·.1)
 | [],[],[],[],_,_,_=>⟨rfl,rfl⟩
 | [],b::bs,[],q::qs,_,_,h=>by simp at h
 |a::as,[],p::ps,[],_,_,h=>by simp at h
 |a::as,b::bs,p::ps,q::qs,h1,h2,h=>by
  simp only[gB,jJ.injEq,Prod.mk.injEq,V.ref.injEq]at h;obtain⟨e1,e2⟩:=CZ (by simpa using h1) (by simpa using h2) h.2
  exact⟨by rw[h.1.2,e1],by rw[ar,ar,h.1.1,e2]⟩
 | [],_,p::ps,_,h,_,_=>by simp at h
 |a::as,_,[],_,h,_,_=>by simp at h
 |_,[],_,q::qs,_,h,_=>by simp at h
 |_,b::bs,_,[],_,h,_=>by simp at h
structure Pm (kvs:List (pQ×List Int)) (k:pQ) (n:Nat):Prop where
 lt:n<kvs.length
 at_:∀x,kvs[n]?=some x->x.1=k
 fst:∀j,j<n->∀x,kvs[j]?=some x->x.1≠k
theorem Pm.keys{as bs:List (pQ×List Int)}{k:pQ}{n:Nat}(h:Pm as k n) (e:as.map (·.1)=bs.map (·.1)):Pm bs k n:=by
 have hl:as.length=bs.length:=by simpa using congrArg bV e
 have ha:∀(j:Nat) (x:pQ×List Int),bs[j]?=some x->∃y:pQ×List Int,as[j]?=some y/\y.1=x.1:=λj x hx=>by
  have hj:=(gSq.mp hx).1;refine⟨as[j]'(by lia),gEg _,?_⟩
  have:=congrArg (λl=>l[j]?) e
  simp only[gMq,hx,gEg (show j<as.length by lia),bR,aD.injEq]at this
  exact this
 refine⟨hl ▸ h.lt,λx hx=>?_,λj hj x hx=>?_⟩
 .obtain ⟨y,h1,h2⟩:=ha _ _ hx;rw[←h2];exact h.at_ y h1
 .obtain ⟨y,h1,h2⟩:=ha _ _ hx;rw[←h2];exact h.fst j hj y h1
theorem Pm.add:∀{kvs:List (pQ×List Int)}{k:pQ}{n:Nat}{x:pQ×List Int},Pm kvs k n->kvs[n]?=some x->∀m,vV kvs k m=kvs.set n (x.1,x.2++[m])
 | [],k,n,x,h,e,m=>by simp at e
 |y::r,k,0,x,h,e,m=>by
  have:=h.at_ y rfl;simp only[fT,aD.injEq]at e;subst e;rw[vV,qe this];rfl
 |y::r,k,n+1,x,h,e,m=>by
  have:=h.fst 0 (by lia) y rfl
  rw[vV,pV this,dh];congr 1;refine Pm.add ⟨by have:=h.lt;simp at this;lia,λx hx=>h.at_ x (by simpa using hx),λj hj x hx=>h.fst (j+1) (by lia) x (by simpa using hx)⟩ (by simpa using e) m
theorem Vw{k:pQ}:∀{kvs:List (pQ×List Int)}{qs:List Addr},kvs.length=qs.length ->
  (∀v,vo (bL (λx q=>(x.1,V.ref q)) kvs qs) k=some v->∃n q,v = .ref q/\qs[n]?=some q/\Pm kvs k n/\FT kvs k=kvs) /\
  (vo (bL (λx q=>(x.1,V.ref q)) kvs qs) k=none->FT kvs k=kvs++[(k,[])]/\Pm (kvs++[(k,[])]) k kvs.length)
 | [],[],_=>by
  refine⟨λv h=>?_,λ_=>⟨rfl,by simp,λx h=>?_,λj hj=>?_⟩⟩
  .simp [vo]at h
  .simp at h;rw[←h]
  .simp at hj
 |y::r,q::qs,h=>by
  obtain⟨i1,i2⟩:=Vw (k:=k) (kvs:=r) (qs:=qs) (by simpa using h)
  by_cases c:y.1=k
  .refine ⟨λv hv=>⟨0,q,?_,rfl,⟨by simp,λx hx=>?_,λj hj=>by simp at hj⟩,?_⟩,λhv=>?_⟩
   .simp only [vo,gB,cW,c,decide_true,bR,aD.injEq]at hv;exact hv.symm
   .simp at hx;rw[←hx];exact c
   .simp [FT,c]
   .simp [vo,c]at hv
  .have e:vo (bL (λx q=>(x.1,V.ref q)) (y::r) (q::qs)) k=vo (bL (λx q=>(x.1,V.ref q)) r qs) k:=by
    simp only[vo,gB,cW,c,decide_false]
   have up:∀{l n},Pm l k n->Pm (y::l) k (n+1):=λ{l n} a=>⟨by have:=a.lt;simp;lia,λx hx=>a.at_ x (by simpa using hx),λj hj x hx=>by
    cases j with
    |zero=>simp at hx;rw[←hx];exact c
    |succ j=>exact a.fst j (by lia) x (by simpa using hx)⟩
   rw[e];refine⟨λv hv=>?_,λhv=>?_⟩
   .obtain ⟨n,w,h1,h2,h3,h4⟩:=i1 v hv;refine⟨n+1,w,h1,by simpa using h2,up h3,?_⟩
    have h5:(r.any λx=>decide (x.1=k))=true:=df.mpr ⟨r[n]'h3.lt,gRq _,decide_eq_true (h3.at_ _ (gEg h3.lt))⟩
    simp[FT,h5]
   .obtain ⟨h1,h2⟩:=i2 hv;refine⟨?_,up h2⟩;have h5:(r.any λx=>decide (x.1=k))=false:=by
     by_cases z:(r.any λx=>decide (x.1=k))=true
     .rw [FT,qe z]at h1;simpa using congrArg bV h1
     .exact Bool.eq_false_iff.mpr z
    simp[FT,h5,c]
 | [],_::_,h=>by simp at h
 |_::_,[],h=>by simp at h
theorem Ex{S:AS}{i:Nat}{kvs:List (pQ×List Int)}(h:i<S.length):vt (S.set i (some (.owl kvs))) i=some kvs:=by
 rw[vt,aA h];rfl
theorem ON{S:AS}{i:Nat}{kvs:List (pQ×List Int)}(h:vt S i=some kvs):i<S.length:=by
 by_cases c:i<S.length
 .exact c
 .rw [vt,bf (by lia)]at h;cases h
section
variable {K:W.Frag}{tb tx:TE}{b x:ME}
theorem Ks{H₀ Hf₀ Hf H:Hp}{S:AS}{σ:St}{Fs:List (List Addr)}{i n:Nat}{kvs ls:List (pQ×List Int)}{k:pQ}{p q:Addr}{qs:List Addr}{z:D×AS}{m:Int}(hx:SR K tx x) (R:qt K H₀ Hf₀ Hf S σ H Fs) (s1:σ[i]?=some (some (.ref p))) (h1:H p=some (.dK (bL (λx q=>(x.1,V.ref q)) kvs qs))) (l:kvs.length=qs.length) (hq:qs[n]?=some q) (ka:Pm kvs k n)
  (e0:vt S i=some kvs) (e1:x S=some z) (e2:intOf z.1=some m) (e3:vt z.2 i=some ls) (e4:∀l∈ls,l.2.length<rY) {D:Ad}(h:CV K H₀ Hf₀ Hf D (.nx (z.2.set i (some (.owl (vV ls k m)))))) :
  Vy K "list" (.ref q) H/\uM tx wQ σ H λxs H2=>xB (.ref q) xs H2 λ_ H1=>D.nx σ H1:=by
 obtain⟨p',qs',t1,_,t3,_,t5,t6,_,_⟩:=R.owl e0;rw[s1]at t1;cases t1;rw[h1]at t3;injection t3 with t3
 injection t3 with t3
 obtain⟨rfl,_⟩:=CZ l t5 t3;obtain⟨y,hy⟩:∃y,kvs[n]?=some y:=⟨_,gEg ka.lt⟩;refine⟨.inl ⟨rfl,_,tJ.of (t6 n q y hq hy).1⟩,hx R (d:=z.1) (S':=z.2) e1 _ λHf3 H3 Fs3 w t R3 r3=>?_⟩
 have hz:z.1 = .int m:=by
  cases hx:z.1 <;> rw[hx]at e2 <;> first|(cases e2;rfl)|cases e2
 rw[hz]at r3;cases r3;obtain⟨p',qs',u1,u2,u3,u4,u5,u6,u7,u8⟩:=R3.owl e3;rw[s1]at u1;cases u1;rw[t.sh _ _ h1]at u3;injection u3 with u3
 injection u3 with u3
 obtain⟨rfl,ek⟩:=CZ l u5 u3;have ka':=ka.keys ek;obtain⟨y',hy'⟩:∃y,ls[n]?=some y:=⟨_,gEg ka'.lt⟩;obtain⟨g1,g2⟩:=u6 n q y' hq hy';have hne:p≠q:=λe=>(aq.mp u7).1 (e ▸ mGq hq)
 refine⟨q,_,.int m,rfl,rfl,g1,by rw[vx,lMq];exact e4 y' (mGq hy'),h _ _ _ _ t.sf (R3.turnAny s1 u2 (mCo _ (mGq hq)) (F':=p::qs) ?_ u7 u8)⟩
 rw[ka'.add hy' m];have hs:∀j,(ls.set n (y'.1,y'.2++[m]))[j]?=if n=j then some (y'.1,y'.2++[m]) else ls[j]?:=λj=>by
  rw[bI]
  by_cases c:n=j
  .rw [qe c,qe c,qe ka'.lt]
  .rw [pV c,pV c]
 refine .owl ?_ u4 (by rw[lZq];exact u5) λj w x k1 k2=>?_
 .rw [pS hne,t.sh _ _ h1,u3];congr 2;refine dD λj=>?_
  rw[eh,eh,hs]
  by_cases c:n=j
  .subst c;rw[qe rfl,hy',hq]
  .rw [pV c]
 .rw [hs]at k2
  by_cases c:n=j
  .subst c;rw[qe rfl]at k2;rw[hq]at k1;cases k1;cases k2;exact⟨by rw[qa,mBq];rfl,g2⟩
  .rw [pV c]at k2;have hw:w≠q:=λe=>by
    subst e;have nd:=(aq.mp u7).2;obtain⟨a1,a2⟩:=gSq.mp k1;obtain⟨b1,b2⟩:=gSq.mp hq;exact c ((jM nd).mp (b2.trans a2.symm))
   rw[pS hw];exact u6 j w x k1 k2
theorem T4{i:Nat}(hb:SR K tb b) (hx:SR K tx x):SS K (B5 (Qg K "list" xB (J7 (xi i) tb (Rc wQ)) (uM tx wQ))) (UP i b x):=by
 intro H₀ Hf₀ Hf S σ H Fs o R e D h;obtain⟨k0,e0,e⟩:=oBq.mp e;obtain⟨y,e1,e⟩:=oBq.mp e;obtain⟨k,e2,e⟩:=oBq.mp e;obtain⟨kvs,e3,e⟩:=oBq.mp e;rcases qh e with ⟨hl,e⟩|e
 .obtain ⟨z,e4,e⟩:=oBq.mp e;obtain⟨m,e5,e⟩:=oBq.mp e;obtain⟨ls,e6,e⟩:=oBq.mp e;rcases qh e with ⟨hl2,e⟩|e
  .cases e;obtain⟨p,qs0,s1,_,h1,_⟩:=R.owl e0;refine⟨_,s1,p,rfl,.inl ⟨_,.inl h1⟩,hb R (d:=y.1) (S':=y.2) e1 _ λHf1 H1 Fs1 v t1 R1 r1=>⟨bq _,λq hq=>?_⟩⟩
   obtain⟨p',qs,u1,u2,u3,u4,u5,u6,u7,u8⟩:=R1.owl e3;rw[s1]at u1;cases u1;have hne:p≠q:=λe=>by rw[e,hq]at u3;cases u3
   obtain⟨t2,R2,n1,n2,n3⟩:=R1.new (o:=.lst []) hq;obtain⟨v1,v2⟩:=Vw (k:=k) u5;have hi:=ON e3;refine⟨_,k,(pS hne).trans u3,wC e2 r1,by rw[vx,jt,←u5,jG];exact hl,λw hw=>?_,λhw=>?_⟩
   .obtain ⟨n,q',rfl,g1,g2,g3⟩:=v1 w hw;rw[g3]at e4;have R3:qt K H₀ Hf₀ Hf1 (y.2.set i (some (.owl kvs))) σ (rK H1 q (.lst [])) (Fs1.set i (p::qs)):=by
     refine(R2.kill i).again (F:=p::qs) s1 (.owl ((pS hne).trans u3) u4 u5 λj q1 x a1 a2=>?_) u7 u8
     obtain⟨b1,b2⟩:=u6 j q1 x a1 a2;exact⟨by rw[pS λe=>by rw[e,hq]at b1;cases b1];exact b1,b2⟩
    exact Ks hx R3 s1 ((pS hne).trans u3) u5 g1 g2 (Ex hi) e4 e5 e6 hl2 (h.mono t1.sf)
   .obtain ⟨g1,g2⟩:=v2 hw;rw[g1]at e4;have eq:(bL (λx q=>(x.1,V.ref q)) kvs qs)++[(k,V.ref q)]=bL (λ(x:pQ×List Int) q=>(x.1,V.ref q)) (kvs++[(k,[])]) (qs++[q]):=by
     rw[List.zipWith_append (h:=u5)];rfl
    have l2:(kvs++[(k,[])]).length=(qs++[q]).length:=by rw[lAq,lAq,u5];rfl
    have R3:qt K H₀ Hf₀ Hf1 (y.2.set i (some (.owl (kvs++[(k,[])])))) σ (rK (rK H1 q (.lst [])) p (.dK ((bL (λx q=>(x.1,V.ref q)) kvs qs)++[(k,V.ref q)]))) (Fs1.set i (p::(qs++[q]))):=by
     refine R2.turnAny s1 u2 (af ..) (.owl ?_ u4 l2 λj q1 x a1 a2=>?_) ?_ ?_
     .rw [qa,eq]
     .have hp1:q1≠p:=λe=>by
       subst e;rcases mAq.mp (mGq a1) with c|c
       .exact (aq.mp u7).1 c
       .exact hne (mSq.mp c)
      rw[pS hp1]
      by_cases c:j<kvs.length
      .rw [gZq (u5 ▸ c)]at a1;rw[gZq c]at a2;obtain⟨b1,b2⟩:=u6 j q1 x a1 a2;exact⟨by rw[pS λe=>by rw[e,hq]at b1;cases b1];exact b1,b2⟩
      .have hj:=(gSq.mp a2).1;rw[lAq,lSq]at hj;have:j=kvs.length:=by lia
       subst this;rw[cV]at a2;rw[u5,cV]at a1;cases a1;cases a2;exact⟨qa,n1⟩
     .rw [←cL];refine nAq.mpr ⟨u7,by simp,λa ha b hb=>?_⟩
      rw[mSq.mp hb];intro e;subst e;exact(R1.mem (qo u2 ha)).1 hq
     .intro a ha;rw[←cL]at ha;rcases mAq.mp ha with c|c
      .exact u8 a c
      .rw [mSq.mp c];exact⟨n2,λm=>n3 (rE m)⟩
    refine Ks (n:=kvs.length) hx R3 s1 (qs:=qs++[q]) (by rw[qa,eq]) l2 ?_ g2 (Ex hi) e4 e5 e6 hl2 (h.mono t1.sf)
    rw[u5,cV]
  .cases e
 .cases e
end
end Z
namespace Xe
open PySem PySem.Spec PySem.W PyProof.Rows L2 Mr
section
variable {X:Cx}
def Yp(o:Obj) (d:Addr) (kvs:List (pQ×V)):It :=
  ⟨λi H=>H d=some (.frz o (.dK kvs))/\∃p,kvs[i]?=some p,
   λi H x H'=>H'=H/\∃p,kvs[i]?=some p/\x=p.2,
   λi H=>H d=some (.frz o (.dK kvs))/\kvs.length<=i⟩
theorem MB{P:kL}{w:kN}{K:Frag}{tg:Expr}(o:Obj) (d it:Addr) (kvs:List (pQ×V)) (vs:List (pQ×Value)) (ep:Nat) (hne:d≠it)
  (ho:∀h:Heap,h.get? d=some o->h.DictAt (qQ P w) d vs ep) (kv:KV kvs vs):IV P w K tg (Yp o d kvs) [it] it (λi h=>h.IsValIter it d i vs.length ep) where
 mem:=by simp
 obj:=λi h st b hb=>by
  obtain rfl:b=it:=by simpa using hb
  obtain⟨o',e,c,dd⟩:=st;exact⟨o',e,λv z=>by rw[dd]at z;cases z⟩
 keep:=λi h h' st k=>by
  obtain⟨o',e,r⟩:=st;exact⟨o',k it (by simp) _ e,r⟩
 item:=by
  intro X hP hw hK hc i oV s σ H E I hf st hg;subst hP hw hK;obtain⟨hd,p,hp⟩:=hg;have e1:s.heap.get? d=some o:=(show rV X.prog X.w H s.heap d (.frz o (.dK kvs)) from I.hok d _ hd).1
  obtain⟨u,hx,ru⟩:=PN kv hp;obtain⟨f0,f1,f2,f3,f4,f5⟩:=hf it (by simp)
  refine wpAny_pyNext_values_item st (ho _ e1) hx λh' st' sb=>?_
  have I1:L2.Inv X oV σ H { s with heap:=h' }:=I.turned (t':=s.toks) (λb o hb e=>(sb.2 b hb).trans e) f0 f1 f3 f4 f5
  obtain⟨o',e,c,dd⟩:=id st';exact⟨u,rfl,KD (s:={ s with heap:=h' }) e c dd (by decide) ⟨_,H,I1,ru,⟨rfl,p,hp,rfl⟩,st',λb hb=>(hf b hb).1⟩⟩
 done:=by
  intro X hP hw hK hc i oV s σ H E I hf st hg;subst hP hw hK;obtain⟨hd,hl⟩:=hg;have e1:s.heap.get? d=some o:=(show rV X.prog X.w H s.heap d (.frz o (.dK kvs)) from I.hok d _ hd).1
  have l:=Paired.length kv;obtain⟨f0,f1,f2,f3,f4,f5⟩:=hf it (by simp)
  exact wpAny_pyNext_values_end (I.ok.hd hc) st (ho _ e1) (bf (by lia)) λh' eb=>⟨rfl,I.turned (t':=s.toks) (λb o hb e=>eb b o hb e) f0 f1 f3 f4 f5⟩
 self:=λ_ _ _ _ _ st h=>wpAny_pyIter_valiter st h
def Ss(te:TE):TI:=λσ H R=>te σ H λx H1=>∃d kvs,x = .ref d/\H1 d=some (.dK kvs)/\∀o,R (Yp o d kvs) (rK H1 d (.frz o (.dK kvs)))
theorem QZ{tg o:Expr}{te:TE}{apos cpos:Pos}(ho:PE X o te) (hbase:nq o "values" X.env (eval o X.env)=eval o X.env:=by rfl) (hline:(apos.endLine == cpos.line)=true:=by rfl) :
  PI X tg (.Call (.Attribute o "values" apos) [] [] cpos) (Ss te):=by
 intro oV s σ H R I h;refine nK hbase hline (thn (ho oV s σ H _ I h) λv s1 hz1=>?_)
 obtain⟨x,H1,I1,r1,d,kvs,ex,ha,q⟩:=hz1;subst ex;obtain rfl:=(show v=bZ d from r1)
 obtain⟨hz,sa,vs,kv,dd⟩:=(show rV X.prog X.w H1 s1.heap d (.dK kvs) from I1.hok d _ ha)
 refine⟨"dict", "dict.values", iO,iG,PySem.F.type_dict_values,dd.typeIs,dd.mapOf.noDict,?_⟩;refine method_meetsIn iG PySem.F.entry_dict_values rfl (PySem.evalArgs_none ⟨rfl,dd.typeIs,PySem.F.args_dict_values_1 _,_,meets_dict_values _ d sa,⟨vs,dd⟩,?_⟩);obtain⟨ep,ob,es,hob,rest⟩:=dd.dictAt;have da:∀h:Heap,h.get? d=some ob->h.DictAt (qQ X.prog X.w) d vs ep:=λh e=>⟨ob,es,e,rest⟩
 have hlt:d<s1.heap.objs.size:=az hob;refine wpAny_pyIter_values (s:={ s1 with heap:=s1.heap.push { cls:=.type "dict_values", data:=.fields #[.ref d] } }) ⟨_,bh _ rfl,rfl,rfl⟩ (da _ (au _ hob)) ?_
 have kp:∀b u,s1.heap.get? b=some u->((s1.heap.push { cls:=.type "dict_values", data:=.fields #[.ref d] }).push { cls:=.type "dict_valueiterator", data:=.fields #[.ref d,.int 0 0,.int vs.length 0,.int ep 0] }).get? b=some u:=λb u e=>au _ (au _ e)
 have hs2:(s1.heap.push { cls:=.type "dict_values", data:=.fields #[.ref d] }).objs.size=s1.heap.objs.size+1:=jg ..;have I2:L2.Inv X oV σ (rK H1 d (.frz ob (.dK kvs))) { s1 with heap:=((s1.heap.push { cls:=.type "dict_values", data:=.fields #[.ref d] }).push { cls:=.type "dict_valueiterator", data:=.fields #[.ref d,.int 0 0,.int vs.length 0,.int ep 0] }) } :=
  (I1.kept (t':=s1.toks) kp).write (x:=d) (e:=d) (o:=.frz ob (.dK kvs)) (t':=s1.toks) (by rw[ha];trivial) (.inl rfl) (λb u _ e=>e) ⟨_,kp _ _ hob⟩ ⟨kp _ _ hob,hz,sa,vs,kv,(da _ (kp _ _ hob)).dictOf⟩
 refine⟨s1.heap.objs.size+1,[s1.heap.objs.size+1],_,_,_,by rw[hs2],I2,MB ob d _ kvs vs ep (aL (cu hlt)) da kv,?_,λb hb=>?_,q ob⟩
 .show Heap.IsValIter _ (s1.heap.objs.size+1) d 0 vs.length ep;rw[←hs2];exact⟨_,bh _ rfl,rfl,rfl⟩
 .have e:b=s1.heap.objs.size+1:=by simpa using hb
  subst e;exact I1.fpOk (cU _) (by rw[pS (fk (cu hlt))];exact I1.hok.fresh (cU _))
end
end Xe
namespace Z
open PySem L2 Mr Xe
def SW(K:W.Frag) (te:TE) (m:MK):Prop:=∀{H₀ Hf₀ Hf:Hp}{S:AS}{σ:St}{H:Hp}{Fs:List (List Addr)}{a:AV}{S':AS},qt K H₀ Hf₀ Hf S σ H Fs->m S=some (a,S')->∀Q:VK,
 (∀Hf' H' Fs' v F,qB Hf Hf'->qt K H₀ Hf₀ Hf' S' σ H' Fs'->qr K Hf' H' a v F->F.Nodup->(∀q∈F,H₀ q=none/\q∉Fs'.flatten)->Q v H')->te σ H Q
def UY(i:Nat):MI:=λS=>(vt S i).map λkvs=>(kvs.map λx=>.list (x.2.map .int),S.set i none)
def Ql(j:Nat) (k:MK):MK:=λS=>(si S j).bind λavs=>(k (S.set j none)).bind λx=>match x.1 with
 | .ow bvs=>vY (x.2[j]?=some none/\avs.length+bvs.length<=rY) (some (.ow (avs++bvs),x.2))
 |_=>none
section
variable {K:W.Frag}{tf:TT}{te:TE}{mf:MT}{me k:MK}{fr:List Nat}
theorem RO(hk:SW K te k):SS K (QT te) (tP k):=by
 intro H₀ Hf₀ Hf S σ H Fs o R e D h;obtain⟨x,e1,e⟩:=oMq.mp e;cases e;exact hk R (a:=x.1) (S':=x.2) e1 _ λHf1 H1 Fs1 v F t1 R1 r1 n1 o1=>h _ _ v F R1.sf R1.fr R1.sub R1.lim r1 n1 λq hq=>(o1 q hq).1
theorem LY(hk:SW K te k):SW K (Qe (λxs H Q=>∃(a:Addr) (ps:List Addr) (rs:List (List Int)),xs=[.ref a]/\tJ K H a (ps.map V.ref)/\rZ H ps rs /\
  ∀p qs,H p=none->qs.Perm ps->rZ (rK H p (.lst (qs.map V.ref))) qs (tR rs)->Q (.ref p) (rK H p (.lst (qs.map V.ref)))) (uM te wQ)) (A9 k):=by
 intro H₀ Hf₀ Hf S σ H Fs av S' R e Q q;obtain⟨x,e1,e⟩:=oBq.mp e;refine hk R (a:=x.1) (S':=x.2) e1 _ λHf1 H1 Fs1 v F t1 R1 r1 d1 o1=>?_
 split at e
 .rename_i avs hx;obtain⟨rs,e2,e⟩:=oMq.mp e;cases e;rw[hx,C7 e2]at r1;obtain⟨p0,vs,Gs,rfl,rfl,h1,h2,h3⟩:=r1.ow_inv;obtain⟨ps,rfl,rfl,hE,hn⟩:=xg h3;rw[flat_one]at o1 d1;refine⟨p0,ps,rs,rfl,tJ.of h1,hE,λp qs hp hq hE2=>?_⟩
  obtain⟨t4,R4,n1,n2,n3⟩:=R1.new (o:=.lst (qs.map V.ref)) hp;have pq:p∉qs:=λm=>hE.free (H:=H1) hp (hq.mem_iff.mp m)
  have hm:∀z∈qs,z∈p0::ps:=λz hz=>mCo _ (hq.mem_iff.mp hz)
  refine q _ _ _ (.ref p) (p::(qs.map λp=>[p]).flatten) (t1.trans t4.sf) R4 (qr.news qa n1 (AG hE2 λz hz=>hn z (hq.mem_iff.mp hz))) ?_ ?_
  .rw [flat_one];exact aq.mpr ⟨pq,hq.nodup_iff.mpr (aq.mp d1).2⟩
  .rw [flat_one];intro z hz;rcases ae.mp hz with y|y
   .rw [y];exact⟨n2,n3⟩
   .exact o1 z (hm z y)
 .cases e
theorem UZ{j:Nat}(hk:SW K te k):SW K (MN Tn (xi j) te) (Ql j k):=by
 intro H₀ Hf₀ Hf S σ H Fs av S' R e Q q;obtain⟨avs,e1,e⟩:=oBq.mp e;obtain⟨x,e2,e⟩:=oBq.mp e;split at e
 .rename_i bvs hx;rcases qh e with ⟨⟨hj,hl⟩,e⟩|e
  .cases e;obtain⟨v0,F0,s1,s2,r0,nd0,o0,_⟩:=R.move (qF e1);refine⟨_,s1,hk (R.frame s2) (a:=x.1) (S':=x.2) e2 _ λHf1 H1 Fs1 v F sf R1 r1 nd1 o1=>?_⟩
   obtain⟨hk0,r2,R2⟩:=R.unframe s2 r0 nd0 (λq hq=>(o0 q hq).1) R1 hj s1 sf
   have R3:=R2.kill j;rw[dc,dc,Av hj,Av (R1.emp j hj)]at R3;rw[hx]at r1;obtain⟨p1,vs1,Gs1,rfl,rfl,a1,a2,a3⟩:=r2.ow_inv;obtain⟨p2,vs2,Gs2,rfl,rfl,b1,b2,b3⟩:=r1.ow_inv;have hF:∀q∈p1::Gs1.flatten,Vs H₀ H (p1::Gs1.flatten) q≠none:=λq hq=>by
    rw[D5 hq];exact(R.mem (qo s2 hq)).1
   refine⟨p1,p2,vs1,vs2,rfl,rfl,a1,b1,by rw[vx,←a3.1,←b3.1];exact hl,λp hp=>?_⟩
   obtain⟨t4,R4,n1,n2,n3⟩:=R3.new (o:=.lst (vs1++vs2)) hp;have c1:∀q∈p1::Gs1.flatten,H1 q≠none:=λq hq=>by rw[hk0 q hq];exact(R.mem (qo s2 hq)).1
   have c2:∀q∈p2::Gs2.flatten,H1 q≠none:=λq hq=>(r1.owned q hq).1
   have m1:∀q∈Gs1.flatten,q∈p1::Gs1.flatten:=λq h=>mCo _ h
   have m2:∀q∈Gs2.flatten,q∈p2::Gs2.flatten:=λq h=>mCo _ h
   have k3:=(a3.append b3).keepUpd (p:=p) (o:=.lst (vs1++vs2)) (by
    rw[fAq];intro m;rcases mAq.mp m with z|z
    .exact c1 p (m1 p z) hp
    .exact c2 p (m2 p z) hp)
   refine q _ _ _ (.ref p) (p::(Gs1++Gs2).flatten) (sf.trans t4.sf) R4 (qr.news qa n1 k3) ?_ ?_
   .rw [fAq];refine aq.mpr ⟨λm=>?_,nAq.mpr ⟨(aq.mp nd0).2,(aq.mp nd1).2,λa ha b hb e=>?_⟩⟩
    .rcases mAq.mp m with z|z
     .exact c1 p (m1 p z) hp
     .exact c2 p (m2 p z) hp
    .subst e;exact hF a (m1 a ha) (o1 a (m2 a hb)).1
   .rw [fAq];intro z hz;rcases ae.mp hz with y|y
    .rw [y];exact⟨n2,n3⟩
    .rcases mAq.mp y with y|y
     .exact ⟨(o0 z (m1 z y)).1,λm=>hF z (m1 z y) (R1.fresh z m)⟩
     .have:=o1 z (m2 z y);refine⟨?_,this.2⟩;rw[←yF (H₀:=H₀) (H:=H) (F:=p1::Gs1.flatten) λm=>hF z m this.1]
      exact this.1
  .cases e
 .cases e
theorem NR{i:Nat}(hf:EK K tf mf) (he:SK K te me):SW K (E6 (Ss (xi i)) fr tf te) (sZ (UY i) fr mf me):=by
 intro H₀ Hf₀ Hf S σ H Fs av S' R e Q q;obtain⟨y,e1,e⟩:=oBq.mp e;obtain⟨kvs,e2,e1⟩:=oMq.mp e1;subst e1;obtain⟨S2,e3,e⟩:=oBq.mp e;obtain⟨cap,e4,e⟩:=oBq.mp e;rcases qh e with ⟨hl,e⟩|e
 .obtain ⟨avs,e5,e⟩:=oMq.mp e;cases e;obtain⟨p,qs,s1,s2,h1,h2,h3,h4,h5,h6⟩:=R.owl e2;refine⟨_,s1,p,_,rfl,h1,λob=>?_⟩
  have hn:∀q∈p::qs,Hf q=none:=λq hq=>(R.mem (qo s2 hq)).2
  have pq:=(aq.mp h5).1;have R1:=(R.kill i).frz (F:=qs) (λq hq=>h6 q (mCo _ hq)) λq hq=>hn q (mCo _ hq)
  have R2:=R1.fix (p:=p) (o:=.frz ob (.dK (bL (λx q=>(x.1,V.ref q)) kvs qs))) (h6 p (af ..)).2 (by rw[va pq];exact h2) (h6 p (af ..)).1
  obtain⟨Hf3,Fs3,t3,R3⟩:=R2.fzAll e3;have hp3:Hf3 p=some (.frz ob (.dK (bL (λx q=>(x.1,V.ref q)) kvs qs))):=t3.sf _ _ qa
  have sf1:qB Hf (rK (frz Hf H qs) p (.frz ob (.dK (bL (λx q=>(x.1,V.ref q)) kvs qs)))):=λb u eb=>by
   rw[pS λz=>by rw[z,h2]at eb;cases eb]
   exact tI (H:=H) (λq hq=>hn q (mCo _ hq)) b u eb
  have hz:(bL (λ(x:pQ×List Int) q=>(x.1,V.ref q)) kvs qs).length=kvs.length:=by rw[jt,←h3,jG]
  have hlen:(kvs.map λx=>D.list (x.2.map .int)).length=kvs.length:=lMq ..
  refine zX (K:=K) hf he R3 e4 hl e5 (λi H s hi=>⟨s _ _ hp3,_,gEg (by rw[hz,←hlen];exact hi)⟩) (λH s=>⟨s _ _ hp3,by rw[hz,hlen];exact aj _⟩) (λn H' x H'' s hi y=>?_) λHf' H' v F t R' r o=>q _ _ _ v F ((sf1.trans t3.sf).trans t.sf) R' r o.nd λq hq=>⟨o.fr q hq,o.out q hq⟩
  obtain⟨y1,⟨k,w⟩,y2,y3⟩:=y;rw[eh]at y2;rw[hlen]at hi;rw[gEg hi,gEg (h3 ▸ hi)]at y2;cases y2;refine⟨y1,_,by rw[gMq,gEg hi];rfl,?_⟩
  have g:=(h4 n _ _ (gEg (h3 ▸ hi)) (gEg hi)).1;have m:qs[n]'(h3 ▸ hi)∈qs:=gRq _;rw[y3];have hne:qs[n]'(h3 ▸ hi)≠p:=λz=>pq (by rw[←z];exact m)
  have g':=t3.sf (qs[n]'(h3 ▸ hi)) _ (((pS hne).trans (Aw m)).trans g);exact sv.mk_list g' (uK _)
 .cases e
end
theorem Uq(j:Nat) (k:MK) (S:AS):Ql j k S=(si S j).bind λavs=>(k (S.set j none)).bind λx=>match x.1 with
 | .ow bvs=>vY (x.2[j]?=some none/\avs.length+bvs.length<=rY) (some (.ow (avs++bvs),x.2))
 |_=>none:=rfl
theorem VL(i:Nat) (S:AS):UY i S=(vt S i).map λkvs=>(kvs.map λx=>.list (x.2.map .int),S.set i none):=rfl
theorem WD(i:Nat) (b x:ME) (S:AS):UP i b x S=(vt S i).bind λ_=>(b S).bind λy=>(vi y.1).bind λk=>(vt y.2 i).bind λkvs=>vY (kvs.length<rY) ((x (y.2.set i (some (.owl (FT kvs k))))).bind λz=>(intOf z.1).bind λn=>(vt z.2 i).bind λls=>vY (∀l∈ls,l.2.length<rY) (some (.nx (z.2.set i (some (.owl (vV ls k n))))))):=rfl
end Z
namespace Mr
open PySem PySem.Spec PyProof.Rows L2
section
variable {X:Cx}
def rLset(K:W.Frag) (xs:List V) (H:Hp) (Q:VK):Prop:=∃(a:Addr) (ns:List Int),xs=[.ref a]/\tJ K H a (ns.map V.int)/\ns.length+1<lV/\Q (.int ((Ms.dd ns).length:Nat)) H
theorem KG{e:Expr}{ta:TA}{p0 p pos0 pos:Pos}(hc:X.calm=true) (gl:Gl X "len") (ml:X.mg "len" = none) (hg:Gl X "set") (hm:X.mg "set" = none) (ha:PA X [e] ta)
  (he:kP [.Call (.Name "set" p) [e] [] pos] X.env=(false,eval (.Call (.Name "set" p) [e] [] pos) X.env)::kP [] X.env:=by rfl) (hs:kP [e] X.env=[(false,eval e X.env)]:=by rfl) :
  PE X (.Call (.Name "len" p0) [.Call (.Name "set" p) [e] [] pos] [] pos0) (Qe (rLset X.K) ta):=by
 intro oV s σ H Q I h;refine mz (AJ I gl ml boot_len ?_ (by decide) (by decide))
 refine gO ?_ he (by rfl)
 rw[he];show kJ _ _ (spliced ((false,eval (.Call (.Name "set" p) [e] [] pos) X.env)::mG pos0 (kP [] X.env))) _ _ s;refine Calls.spliced_cons ?_;refine Call_ (AJ I hg hm boot_set (dZ (thn (ha pos oV s σ H _ I h) λus s1 hz1=>?_) hs rfl))
 obtain⟨vs,H1,I1,r1,a,ns,e1,hS,hb,q⟩:=hz1;subst e1;obtain⟨u,rfl,ru⟩:=xl r1;cases ru;obtain⟨ws,hl,hi,_⟩:=xO I1 hS;refine Ms.M1 (I1.ok.hd hc) hl hi hb λh1 tk hSI kp=>Calls.spliced_nil ?_
 obtain⟨o,es,ep,t,ho,hex,hd,_,_,hp,hlt,hfit,_⟩:=hSI;have hsz:es.size=(Ms.dd ns).length:=by
  have:=hp.length_eq;rw[lMq,aw]at this;exact this
 refine call_len_set (s:={ s1 with heap:=h1,toks:=tk }) ho hex hd hfit (by unfold lV at hlt;lia) ?_
 rw[hsz];exact⟨.int ((Ms.dd ns).length:Nat),H1,(I1.kept (t':=tk+1+1) kp),⟨_,rfl⟩,q⟩
end
end Mr
namespace Z
open PySem L2 Mr
def rLset(l:ML):ME:=λS=>(l S).bind λx=>(tQ x.1).bind λns=>vY (ns.length<=4000) (some (.int ((Ms.dd ns).length:Nat),x.2))
theorem P8(l:ML) (S:AS):rLset l S=(l S).bind λx=>(tQ x.1).bind λns=>vY (ns.length<=4000) (some (.int ((Ms.dd ns).length:Nat),x.2)):=rfl
end Z
namespace MrS
open PySem PySem.W PyProof.Rows
end MrS
namespace Mr
open PySem PySem.W PySem.Spec PyProof.Rows L2
end Mr
namespace Z
open PySem L2 Mr Xe
section
variable {K:W.Frag}
end
def SV(K:W.Frag) (te:TE) (m:ME):Prop:=∀{H₀ Hf₀ Hf:Hp}{S:AS}{σ:St}{H:Hp}{Fs:List (List Addr)}{d:D}{S':AS},qt K H₀ Hf₀ Hf S σ H Fs->m S=some (d,S')->∀Q:VK,
 (∀Hf' H' Fs' v,qB Hf Hf'->qt K H₀ Hf₀ Hf' S' σ H' Fs'->(∀H2,sv K H2 d v)->Q v H')->te σ H Q
def XD(f:D->D->Option D):Prop:=∀{x y d:D},f x y=some d->x.scal=true/\d.scal=true
def Rl(i:Nat):MI:=λS=>(vp S i).map λkvs=>(kvs.map λp=>kD p.1,S.set i (some (.sh (.fd kvs))))
section
variable {K:W.Frag}{tf:TT}{te ta tb:TE}{mf:MT}{me k:MK}{fr:List Nat}{a b m:ME}{f:D->D->Option D}{r:R2}
theorem KA(hv:SV K te m):SS K (QT te) (tP (kSc m)):=by
 intro H₀ Hf₀ Hf S σ H Fs o R e D h;obtain⟨x,e1,e⟩:=oMq.mp e;cases e;obtain⟨y,e2,e1⟩:=oBq.mp e1;split at e1
 .cases e1;exact hv R (d:=y.1) (S':=y.2) e2 _ λHf1 H1 Fs1 v t1 R1 r1=>h _ _ v [] R1.sf R1.fr R1.sub R1.lim (.sh (r1 _)) aV λq hq=>by cases hq
 .cases e1
theorem Nl(hr:ET K r f) (hs:XD f) (ha:SV K ta a) (hb:SR K tb b):SV K (MN r ta tb) (qG f a b):=by
 intro H₀ Hf₀ Hf S σ H Fs d S' R e Q q;obtain⟨x,e1,e⟩:=oBq.mp e;obtain⟨y,e2,e⟩:=oBq.mp e;obtain⟨z,e3,e⟩:=oMq.mp e;cases e;refine ha R (d:=x.1) (S':=x.2) e1 _ λHf1 H1 Fs1 v1 t1 R1 r1=>hb R1 (d:=y.1) (S':=y.2) e2 _ λHf2 H2 Fs2 v2 t2 R2 r2=>?_
 exact hr (r1 _) r2 e3 λv rv=>q _ _ _ v (t1.trans t2.sf) R2 λ_=>rv.scal (hs e3).2
theorem Uy(hr:ET K r f) (hs:XD f) (ha:SR K ta a) (hb:SV K tb b):SV K (MN r ta tb) (qG f a b):=by
 intro H₀ Hf₀ Hf S σ H Fs d S' R e Q q;obtain⟨x,e1,e⟩:=oBq.mp e;obtain⟨y,e2,e⟩:=oBq.mp e;obtain⟨z,e3,e⟩:=oMq.mp e;cases e;refine ha R (d:=x.1) (S':=x.2) e1 _ λHf1 H1 Fs1 v1 t1 R1 r1=>hb R1 (d:=y.1) (S':=y.2) e2 _ λHf2 H2 Fs2 v2 t2 R2 r2=>?_
 exact hr (r1.scal (hs e3).1) (r2 _) e3 λv rv=>q _ _ _ v (t1.sf.trans t2) R2 λ_=>rv.scal (hs e3).2
theorem IM:XD zu:=λ{x y d} h=>by
 cases x with
 |int i =>
  cases y with
  |int j =>
   rcases qh (show vY True (some (D.int (i+j)))=some d from h) with ⟨_,h⟩|h
   .cases h;exact⟨rfl,rfl⟩
   .cases h
  |_=>cases h
 |_=>cases h
theorem GG{i:Nat}(hf:EK K tf mf) (he:SK K te me):SW K (E6 (O3 (xi i)) fr tf te) (sZ (Rl i) fr mf me):=by
 intro H₀ Hf₀ Hf S σ H Fs av S' R e Q q;obtain⟨y,e1,e⟩:=oBq.mp e;obtain⟨ds,e2,e1⟩:=oMq.mp e1;subst e1;obtain⟨S2,e3,e⟩:=oBq.mp e;obtain⟨cap,e4,e⟩:=oBq.mp e;rcases qh e with ⟨hl,e⟩|e
 .obtain ⟨avs,e5,e⟩:=oMq.mp e;cases e;have e1':=yp e2;obtain⟨p,kvs,s1,s2,h1,h2,h3,h4,h5⟩:=R.owd e1';refine⟨_,s1,p,kvs,rfl,h1,λob=>?_⟩
  obtain⟨v,F,t1,t2,r,nd,oo,R1⟩:=R.move e1';rw[s2]at t2;cases t2;have R2:=qt.fix R1 (p:=p) (o:=.frz ob (.dK kvs)) h5 h2 h4;have s3:qB Hf (rK Hf p (.frz ob (.dK kvs))):=xR h2;have h3':vb K (rK Hf p (.frz ob (.dK kvs))) ds kvs:=⟨h3.1,λi d v a b=>(h3.2 i d v a b).mono s3⟩
  have R3:qt K H₀ Hf₀ (rK Hf p (.frz ob (.dK kvs))) (S.set i (some (.sh (.fd ds)))) σ (rK H p (.frz ob (.dK kvs))) (Fs.set i []) :=
   R2.again (F:=[]) s1 (.sh (.fd qa h3'.1 h3'.2)) aV λq hq=>by cases hq
  have hlen:ds.length=kvs.length:=by have:=congrArg bV h3.1;simpa using this
  obtain⟨Hf3,Fs3,t3,R4⟩:=R3.fzAll e3;have hp3:Hf3 p=some (.frz ob (.dK kvs)):=t3.sf _ _ qa;have hl2:(ds.map λp:pQ×D=>kD p.1).length=kvs.length:=by rw[lMq];exact hlen
  refine zX (K:=K) hf he R4 e4 hl e5 (λi H s hi=>⟨s _ _ hp3,_,gEg (by rw[←hl2];exact hi)⟩) (λH s=>⟨s _ _ hp3,by rw[hl2];exact aj _⟩) (λn H' x H'' s hi y=>?_) λHf' H' v F t R' r o=>q _ _ _ v F ((s3.trans t3.sf).trans t.sf) R' r o.nd λq hq=>⟨o.fr q hq,o.out q hq⟩
  obtain⟨y1,w,y2,y3⟩:=y;have hk:(ds.map λp:pQ×D=>kD p.1)[n]?=some (kD w.1):=by
   have:=congrArg (λl=>l[n]?) h3.1
   simp only[gMq,y2,bR]at this;rw[gMq];cases hd:ds[n]? with
   |none=>rw[hd]at this;cases this
   |some dd =>
    rw[hd]at this;rw[bR,show dd.1=w.1 from aD.inj this]
  exact⟨y1,_,hk,by rw[y3];exact Gu w.1⟩
 .cases e
theorem J3(hk:SW K te k):SV K (Qe (Mr.rLset K) (uM te wQ)) (rLset (lOf k)):=by
 intro H₀ Hf₀ Hf S σ H Fs d S' R e Q q;obtain⟨x,e1,e⟩:=oBq.mp e;obtain⟨ns,e2,e⟩:=oBq.mp e;rcases qh e with ⟨hlen,e⟩|e
 .cases e;obtain⟨y,e3,e1⟩:=oBq.mp e1;refine hk R (a:=y.1) (S':=y.2) e3 _ λHf1 H1 Fs1 v F t1 R1 r1 d1 o1=>?_
  have hr:sv K H1 (.list (ns.map .int)) v:=by
   split at e1
   .rename_i ds hx;cases e1;rw[hx]at r1;have:=r1.rep R1.sub;rw[sm]at this;have e4:ds=ns.map .int:=vE e2;rw[e4]at this;exact this
   .rename_i avs hx;cases e1;rw[hx]at r1;have:=r1.rep R1.sub;rw[sV]at this;have e4:avs.map pH=ns.map .int:=vE e2;rw[e4]at this;exact this
   .cases e1
  obtain⟨p,vs,rfl,g1,g2⟩:=hr.list_inv;have:=tN g2;subst this;have hx2:x.2=y.2:=by split at e1 <;> first|(cases e1;rfl)|cases e1
  rw[hx2]at q;exact⟨p,ns,rfl,tJ.of g1,by unfold lV;lia,q _ _ _ _ t1 R1 λ_=>.int⟩
 .cases e
end
theorem Sx(i:Nat) (S:AS):Rl i S=(vp S i).map λkvs=>(kvs.map λp=>kD p.1,S.set i (some (.sh (.fd kvs)))):=rfl
end Z
namespace Mr
open PySem PySem.Calls PySem.Spec PyProof.Rows L2
open PySem.MeetsSeq (size_erased plain_remove_loop entry_remove_loop)
end Mr
namespace Z
open PySem L2 Mr Xe
variable {K:W.Frag}{t u:TS}{m m':MS}{te:TE}{k:MK}{J:List Nat}
variable {K:W.Frag}{t v:TS}
end Z
namespace Mr
open PySem L2
variable {K:W.Frag}{h:Heap}{mg:Str->Option Value}{x z:Str}{st:Stmt}{f O:Addr}{fd:kT}
structure At (K:W.Frag) (x:Str) (st:Stmt) (f:Addr) (fd:kT):Prop where
 a:W.nsIn K kM x=some (some (.ref f))
 F:S9 K x x st f fd
section
variable {oc kV doc pm vW ct:Value}{od an:Option Addr}{osl:Array (Option Value)}
theorem Vv(a:W.nsIn K kM x=some (some (.ref f))) (l:K.lookup f=some ⟨oc,od,.func (W.fnOf x x (wt st) (vN st) (qd st) .none kV doc pm an vW ct),osl⟩)
  (c:W.codeIn K vW x=true) (k:W.keepIn K (.ref f)=true):At K x st f (W.fnOf x x (wt st) (vN st) (qd st) .none kV doc pm an vW ct):=⟨a,JA l c k⟩
end
abbrev BA(x q:Str) (st:Stmt) (ps:List Str) (us:List Value):Prop:=∀(kV doc pm:Value) (an:Option Addr) (vW ct:Value),bindArgs (W.fnOf x q (wt st) (vN st) (qd st) .none kV doc pm an vW ct) ⟨us,[]⟩=pure (ps.zip us)
section
variable {q a b c d:Str}(F:S9 K x q st f fd)
include F
theorem b1(h:∀u,BA x q st [a] [u]):Ae K fd [a] []:=F.binds λ_ _ _ _ _ _ us hl=>by
 obtain - | ⟨u, - | ⟨v,l⟩⟩:=us <;> cases hl
 apply h
theorem b2(h:∀u v,BA x q st [a,b] [u,v]):Ae K fd [a,b] []:=F.binds λ_ _ _ _ _ _ us hl=>by
 obtain - | ⟨u, - | ⟨v, - | ⟨w,l⟩⟩⟩:=us <;> cases hl
 apply h
theorem b3(h:∀u v w,BA x q st [a,b,c] [u,v,w]):Ae K fd [a,b,c] []:=F.binds λ_ _ _ _ _ _ us hl=>by
 obtain - | ⟨u, - | ⟨v, - | ⟨w, - | ⟨y,l⟩⟩⟩⟩:=us <;> cases hl
 apply h
end
theorem EO{ps:List Str}(X:K.In h) (G:h.Ns kM mg) (a:At K x st f fd) (b:Ae K fd ps []):CM K mg x st ps f fd:=⟨a.F,W.mg_of X G a.a,b⟩
end Mr
namespace Zl
open PySem L2 Mr Z
def BG:MS:=(qi (BQ (uS (qG GB (uO tH (oZ (pd 0) pO)) (rC (.int 0)))) (tP (zF rS)) sY)
 (qi (qK 1 (kSc (Xx "list" Gg (pd 0) (oZ (uO QH (oZ (pd 0) pO)) pO))))
 (tP (Da (lOf (MJ (vd 0) (xD (pd 1)) An)) (lOf (MJ (vd 0) An (xD (pd 1))))))))
def uY:MF:=vU 1 2 BG
def yH:MS:=(qi (BQ (uS (qG Xw (pd 1) (uO tH (oZ (pd 0) pO)))) (tP (kSc (qG IU (pd 0) (pd 1)))) sY)
 (tP (kSc (rC (.int 0)))))
def qD:MF:=vU 2 2 yH
def xS:MS:=(tP (A9 (sZ (Ac (qp 0)) [] rG (rH Zl.uY (qk (qp 0) rS)))))
def qf:MF:=vU 1 1 xS
def xa:MS:=(Bn 1 (pd 4) (qp 2))
def wH:MS:=(Bh 4 (qp 3) xa)
def AR:MS:=(qi (qK 1 Cb)
 (qi (Pp 2 3 (qp 0) wH)
 (tP (Jy 1))))
def tX:MF:=vU 1 5 AR
theorem FG(ns:List Int) {k:Int}(h:0<=k):qD [.scr ns,.int k]=some (.sh (.int (cell ns k.toNat))):=by
 by_cases c:k<(ns.length:Int)
 .have hk:k.toNat<ns.length:=by lia
  have e:ns.getD k.toNat 0=ns[k.toNat]:=xv hk
  simp_arith [qD,yH,c,JS h,gEg hk,cell,e]
 .have hk:ns.length<=k.toNat:=by lia
  have e:ns.getD k.toNat 0=0:=by rw[gDq,bf hk];rfl
  simp_arith [qD,yH,c,cell,e]
theorem Mk{n:Int}{ns:List Int}:ns.foldl min n∈n::ns/\∀x∈n::ns,ns.foldl min n<=x:=⟨xK ns n,λx hx=>(ae.mp hx).elim (λe=>e ▸ (wu ns n).1) ((wu ns n).2 x)⟩
theorem Md{ns:List Int}(hl:ns.length<=500000):uY [dI ns]=some (aI (good ns)):=by
 cases ns with
 |nil =>
  have h1:((0:Nat):Int)=0:=rfl
  simp_arith [uY,BG,h1]
  rfl
 |cons n ns =>
  obtain⟨h1,h2⟩:=Mk (n:=n) (ns:=ns);have e:=B8 h1 h2;have hle:=Jz (n::ns);have hne:¬ ((n::ns).length:Int)=0:=by simp only[lCq];lia
  have hm:QH [dI (n::ns)]=some (.int (ns.foldl min n)):=by
   show (tQ ((n::ns).map D.int)).bind (λns=>(JU ns).map D.int)=_
   rw[wK];rfl
  have hx:Gg (dI (n::ns)) [.int (ns.foldl min n)]=some (.int (qS (n::ns) (n::ns).length:Nat)):=by
   show (tQ ((n::ns).map D.int)).bind _=_;rw[wK];show (if _ then _ else _)=_
   rw[qe h1,e]
  generalize hN:n::ns=N at *;have hlen:(N.drop (qS N N.length)).length+(N.take (qS N N.length)).length<=rY:=by rw[aJ,lTq];show _<=16777216;lia
  simp_arith [uY,BG,hne,hm,hx,yn,Fg N _ hle,BL N _ hle,hlen,←mBq,JY]
  rfl
theorem vn{rs:List (List Int)}{i:Nat}{r:List Int}(h:rs[i]?=some r):(rs.take (i+1)).flatten=(rs.take i).flatten++r:=by
 rw[bH,h,fAq];simp
theorem yS(rs:List (List Int)) (i:Nat):(rs.take i).flatten.length<=rs.flatten.length:=by
 have:=congrArg bV (congrArg List.flatten (aY i rs));rw[fAq,lAq]at this;lia
theorem Kc{rs:List (List Int)}{i:Nat}{d:D}(h:(rs.map dI)[i]?=some d):∃r,rs[i]?=some r/\d=dI r:=by
 rw[gMq]at h;obtain⟨r,h1,h2⟩:=oMq.mp h;exact⟨r,h1,h2.symm⟩
theorem QE{ns:List Int}{i:Nat}{d:D}(h:(ns.map D.int)[i]?=some d):∃z,ns[i]?=some z/\d = .int z:=by
 rw[gMq]at h;obtain⟨r,h1,h2⟩:=oMq.mp h;exact⟨r,h1,h2.symm⟩
theorem IS{rs:List (List Int)}{d:D}(h:d∈rs.map dI):∃r∈rs,d=dI r:=by
 obtain⟨r,h1,h2⟩:=mMq.mp h;exact⟨r,h1,h2.symm⟩
def C4:D->List Int
 | .list ds=>(tQ ds).getD []
 |_=>[]
theorem xE(r:List Int):C4 (dI r)=r:=by
 show (tQ (r.map D.int)).getD []=r;rw[wK];rfl
theorem GL{β:Type}(g:List Int->β) (rs:List (List Int)):(rs.map dI).map (λd=>g (C4 d))=rs.map g:=by
 rw[mPq];exact mCq λr _=>by show g (C4 (dI r))=g r;rw[xE]
theorem Hc{rs:List (List Int)}(hl:∀r∈rs,r.length<=500000):rF rG (rH uY (qk (qp 0) rS)) [] (rs.map dI)=some ((rs.map good).map aI):=by
 rw[rP (λd=>aI (good (C4 d)))]
 .rw [GL (λr=>aI (good r)),mPq]
  rfl
 .intro d hd;obtain⟨r,hr,rfl⟩:=IS hd;refine⟨[some (.sh (dI r))],?_⟩
  simp_arith [Md (hl r hr),xE]
theorem WI{ts:List (List Int)}{a:Nat}(h:a<ts.length):atI (ts.map dI) (a:Int)=some (dI (ts.getD a [])):=by
 rw[RZ,JS (by lia),eJ,gDq,gEg h]
 rfl
theorem uf{rs:List (List Int)}(hl:∀r∈rs,r.length<=500000) (h7:rs.length<=rY):qf [dM rs]=some (.ow ((tR (rs.map good)).map aI)):=by
 have h6:=Hc (rs:=rs) hl
 simp_arith [qf,xS,h6,h7]
end Zl
--ZQ3 --ZQ4
namespace Zl
open PySem L2 Mr Z Xe
def Xq(p:List Int->Int->Bool):List Int->List Int->Option Int
 |_,[]=>none
 |pre,z::r=>if p pre z=true then some z else Xq p (pre++[z]) r
def bare(rs:List (List Int)):Nat:=rs.countP (·=([]:List Int))
section
variable {rs:List (List Int)}(hl:rs.flatten.length<=500000)
include hl
end
end Zl
namespace Zl
open PySem L2 Mr Z
def vS(p:Nat) (r:List Int):List (pQ×D):=r.map λe=>(.inl e,.int (p:Int))
def rn:Nat->List (List Int)->List (pQ×D)
 |_,[]=>[]
 |p,r::rs=>vS p r++rn (p+1) rs
theorem B7(r:List Int):∀(rs:List (List Int)) (p:Nat),rn p (rs++[r])=rn p rs++vS (p+rs.length) r
 | [],p=>by simp[rn]
 |s::rs,p=>by
  show vS p s++rn (p+1) (rs++[r])=(vS p s++rn (p+1) rs)++_;rw[B7 r rs (p+1),ai,lCq,show p+1+rs.length=p+(rs.length+1) by lia]
theorem zf:∀(rs:List (List Int)) (p:Nat),(rn p rs).map (·.1)=rs.flatten.map aM
 | [],p=>rfl
 |r::rs,p=>by
  show (vS p r++rn (p+1) rs).map (·.1)=_;rw[mBq,zf rs (p+1),fCq,mBq];congr 1;unfold vS;rw[mPq];rfl
theorem JH(rs:List (List Int)) (p:Nat):(rn p rs).length=rs.flatten.length:=by
 have:=congrArg bV (zf rs p)
 rwa [lMq,lMq]at this
theorem DZ{kvs:List (pQ×D)}{k:pQ}{d:D}(h:k∉kvs.map (·.1)):yC kvs k d=kvs++[(k,d)]:=by
 unfold yC;rw[pV];intro e;obtain⟨kv,hk,e⟩:=df.mp e;exact h (mMq.mpr ⟨kv,hk,of_decide_eq_true e⟩)
theorem getD_app{k:pQ}:∀{a b:List (pQ×D)},k∉a.map (·.1)->Z.getD (a++b) k=Z.getD b k
 | [],b,_=>rfl
 |x::a,b,h=>by
  unfold Z.getD;rw[cL,dX (by
   intro e;exact h (by rw[←of_decide_eq_true e];simp))]
  exact getD_app (k:=k) (a:=a) (b:=b) λm=>h (by simp only[ar,ae];exact .inr m)
theorem GR{p:Nat}{e:Int}{b:List (pQ×D)}:∀{r:List Int},e∈r->Z.getD (vS p r++b) (.inl e)=some (.int p)
 | [],h=>by cases h
 |x::r,h=>by
  unfold Z.getD;show ((((aM x:pQ),D.int (p:Int))::(vS p r++b)).find? _).map _=_
  by_cases c:x=e
  .subst c;rw[ff (by simp)]
   rfl
  .rw [dX (by simp[c])]
   exact GR (r:=r) ((ae.mp h).resolve_left λz=>c z.symm)
theorem yE{e:Int}{r:List Int}:∀{rs:List (List Int)}{i:Nat}(p:Nat),rs.flatten.Nodup->rs[i]?=some r->e∈r->Z.getD (rn p rs) (.inl e)=some (.int ((p+i:Nat):Int))
 | [],i,p,_,h,_=>by simp at h
 |s::rs,0,p,hn,h,he=>by
  simp at h;subst h;exact GR he
 |s::rs,i+1,p,hn,h,he=>by
  rw[fCq,nAq]at hn;have h':rs[i]?=some r:=by simpa using h
  have:=yE (rs:=rs) (i:=i) (p+1) hn.2.1 h' he;rw[show p+1+i=p+(i+1) by lia]at this
  rw[←this];refine getD_app ?_;unfold vS;rw[mPq];intro m;obtain⟨x,hx,e2⟩:=mMq.mp m;cases e2;exact hn.2.2 _ hx _ (mFq.mpr ⟨r,mGq h',he⟩) rfl
theorem Bc{rs:List (List Int)}(hn:rs.flatten.Nodup) (hl:rs.flatten.length<=500000):tX [dM rs]=some (.owd (rn 0 rs)):=by
 have key:=Sk (x:=2) (y:=3) (k:=0) (body:=wH) (λi S=>∃v2 v3 v4,S=[some (.sh (dM rs)),some (.owd (rn 0 (rs.take i))),v2,v3,v4]) (ds:=rs.map dI) (S:=[some (.sh (dM rs)),some (.owd []),none,none,none]) ⟨none,none,none,rfl⟩ (by
  rintro i d S hd ⟨v2,v3,v4,rfl⟩;rw[cF];obtain⟨r,hr,rfl⟩:=Kc hd;have hfl:=vn hr;have hle:=yS rs (i+1);have hi:i<rs.length:=(gSq.mp hr).1;have hnd:((rs.take i).flatten++r).Nodup:=by
   rw[←hfl];have e0:rs.flatten=(rs.take (i+1)).flatten++(rs.drop (i+1)).flatten:=by rw[←fAq,aY]
   rw[e0]at hn;exact(nAq.mp hn).1
  rw[hfl,lAq]at hle;have k2:=xq (x:=4) (body:=xa) (λj S=>∃v4,S=[some (.sh (dM rs)),some (.owd (rn 0 (rs.take i)++vS i (r.take j))),some (.sh (.int i)),some (.sh (dI r)),v4]) (ds:=r.map D.int) (S:=[some (.sh (dM rs)),some (.owd (rn 0 (rs.take i))),some (.sh (.int i)),some (.sh (dI r)),v4]) ⟨v4,by simp[vS]⟩ (by
   rintro j d S hd ⟨v4,rfl⟩;obtain⟨z,hz,rfl⟩:=QE hd;have hj:j<r.length:=(gSq.mp hz).1;have h3:(rn 0 (rs.take i)++vS i (r.take j)).length<rY:=OB (by
    rw[lAq,JH];unfold vS;rw[lMq,lTq];lia)
   have hput:yC (rn 0 (rs.take i)++vS i (r.take j)) (.inl z) (.int (i:Int))=rn 0 (rs.take i)++vS i (r.take (j+1)):=by
    rw[DZ]
    .unfold vS;rw[um hz,mBq,ai];rfl
    .rw [mBq,zf];intro m;have e1:r.take (j+1)=r.take j++[z]:=um hz;rcases mAq.mp m with m|m
     .obtain ⟨x,hx,e2⟩:=mMq.mp m;cases e2;exact(nAq.mp hnd).2.2 _ hx _ (mGq hz) rfl
     .unfold vS at m;rw[mPq]at m;obtain⟨x,hx,e2⟩:=mMq.mp m;cases e2;have:=aZ.sublist (bG (j+1) r) (nAq.mp hnd).2.1;rw[e1]at this;exact(nAq.mp this).2.2 _ hx _ (by simp) rfl
   refine⟨_,?_,some (.sh (.int z)),rfl⟩
   simp_arith [xa,h3,hput])
  obtain⟨S2,e2,w4,rfl⟩:=k2;rw[lMq,bo]at e2;refine⟨_,?_,some (.sh (.int i)),some (.sh (dI r)),w4,rfl⟩;rw[um hr,B7,lTq,fc (by lia),cF]
  simp_arith [wH,e2])
 obtain⟨S',e,v2,v3,v4,rfl⟩:=key;rw[cF,lMq,bo]at e
 simp_arith [tX,AR,e]
theorem zh{c:MT}{body:MS}(P:AS->Prop) (μ:AS->Nat) (Qf:AS->Prop) (h:∀S,P S->∃b S1,c S=some (b,S1)/\(b=true->∃S2,body S1=some (.nx S2)/\P S2/\μ S2<μ S)/\(b=false->Qf S1)) :
  ∀(fuel:Nat) (S:AS),P S->μ S<fuel->∃S',uq c body fuel S=some (.nx S')/\Qf S'
 |0,S,_,hm=>absurd hm (dA _)
 |n+1,S,hp,hm=>by
  obtain⟨b,S1,e1,h1,h2⟩:=h S hp;rw[QD,e1,Option.bind_some];cases b with
  |true =>
   obtain⟨S2,e2,p2,m2⟩:=h1 rfl;rw[qe rfl,e2];exact zh P μ Qf h n S2 p2 (by lia)
  |false =>
   rw[pV (by simp)]
   exact⟨S1,rfl,h2 rfl⟩
end Zl
--ZQ3 --ZQ4 --ZQ5 --ZQ6 --ZQ8 --ZQ9 --ZQB
namespace Zl
open PySem L2 Mr Z Xe
def addN(kn:List Nat) (t:Nat):List Nat:=if t∈kn then kn else kn++[t]
def plc(rs:List (List Int)) (e:Int):Nat:=rs.findIdx λr=>decide (e∈r)
theorem same_place{rs:List (List Int)}(hn:rs.flatten.Nodup) {i j:Nat}{r s:List Int}{e:Int}(hi:rs[i]?=some r) (hj:rs[j]?=some s) (h1:e∈r) (h2:e∈s):i=j:=by
 have a:=yE 0 hn hi h1;have b:=yE 0 hn hj h2;rw[a]at b;have:=D.int.inj (aD.inj b);lia
theorem plc_eq{rs:List (List Int)}(hn:rs.flatten.Nodup) {i:Nat}{r:List Int}{e:Int}(hi:rs[i]?=some r) (h1:e∈r):plc rs e=i:=by
 have hl:rs.findIdx (λr=>decide (e∈r))<rs.length:=eK ⟨r,mGq hi,decide_eq_true h1⟩
 have h2:=gR (xs:=rs) (p:=λr=>decide (e∈r)) (w:=hl)
 exact same_place hn (gEg hl) hi (of_decide_eq_true h2) h1
structure Mp (rs:List (List Int)):Prop where
 hn:rs.flatten.Nodup
 hl:rs.flatten.length<=1000
 hr:rs.length<=1000
 hneg:∀e∈rs.flatten, -e∈rs.flatten
theorem Mp.at{rs:List (List Int)}(h:Mp rs) {e:Int}(he:e∈rs.flatten):∃r,rs[plc rs e]?=some r/\e∈r:=by
 obtain⟨r,h1,h2⟩:=mFq.mp he;obtain⟨i,h3⟩:=aC.mp h1;exact⟨r,by rw[plc_eq h.hn h3 h2];exact h3,h2⟩
theorem Mp.kv{rs:List (List Int)}(h:Mp rs) {e:Int}(he:e∈rs.flatten):Z.getD (rn 0 rs) (aM e)=some (.int (plc rs e:Int)):=by
 obtain⟨r,h1,h2⟩:=h.at he;have:=yE 0 h.hn h1 h2
 rwa [cF]at this
theorem Mp.lt{rs:List (List Int)}(h:Mp rs) {e:Int}(he:e∈rs.flatten):plc rs e<rs.length:=by
 obtain⟨r,h1,_⟩:=h.at he;exact(gSq.mp h1).1
theorem Mp.row{rs:List (List Int)}(h:Mp rs) {k:Nat}{r:List Int}(hk:rs[k]?=some r):r.length<=1000:=by
 have:=iP.length_le (aO (mGq hk));have:=h.hl;lia
def Yw(rs:List (List Int)) (k:Nat) (ks:List Nat) (e:Int):List Nat:=if plc rs (-e)=k then ks else addN ks (plc rs (-e))
def nb(rs:List (List Int)) (k:Nat) (r:List Int):List Nat:=r.foldl (Yw rs k) []
theorem Ll{α β:Type}{f:α->β->α}{a:α}{r:List β}{i:Nat}{e:β}(he:r[i]?=some e):(r.take (i+1)).foldl f a=f ((r.take i).foldl f a) e:=by
 obtain⟨hi,h2⟩:=gSq.mp he;rw[eN hi,gm,h2];rfl
def itr(f:Int->Int):Nat->Int->Int
 |0,e=>e
 |n+1,e=>f (itr f n e)
theorem yz(f:Int->Int) (m:Nat) (e:Int):∀n:Nat,itr f (n+m) e=itr f n (itr f m e)
 |0=>by rw[cF];rfl
 |n+1=>by rw[Nat.add_right_comm];show f (itr f (n+m) e)=f (itr f n (itr f m e));rw[yz f m e n]
theorem UT:∀(l E:List Int),l.Nodup->(∀x∈l,x∈E)->l.length<=E.length
 | [],E,_,_=>bq _
 |x::l,E,hn,h=>by
  have hn':=aq.mp hn;have hx:=h x (af ..);have h2:=UT l (E.erase x) hn'.2 (λy hy=>by
   refine(List.mem_erase_of_ne ?_).mpr (h y (mCo _ hy));intro e;exact hn'.1 (e ▸ hy))
  rw[iH hx]at h2;have:=gu hx;rw[lCq];lia
theorem Ox{p:Nat->Prop}:∀n,p n->∃m,m<=n/\p m/\∀j,j<m->¬ p j:=by
 intro n
 induction n using fI with
 |_ n ih =>
  intro h
  by_cases c:∃j,j<n/\p j
  .obtain ⟨j,hj,pj⟩:=c;obtain⟨m,h1,h2,h3⟩:=ih j hj pj;exact⟨m,by lia,h2,h3⟩
  .exact ⟨n,aj _,h,λj hj pj=>c ⟨j,hj,pj⟩⟩
structure KP (f:Int->Int) (E:List Int):Prop where
 nd:E.Nodup
 to:∀e∈E,f e∈E
 inj:∀a∈E,∀b∈E,f a=f b->a=b
section
variable {f:Int->Int}{E:List Int}
theorem KP.itr_mem(h:KP f E) {e:Int}(he:e∈E):∀n,itr f n e∈E
 |0=>he
 |n+1=>h.to _ (h.itr_mem he n)
theorem KP.itr_inj(h:KP f E) {a b:Int}(ha:a∈E) (hb:b∈E):∀n,itr f n a=itr f n b->a=b
 |0,e=>e
 |n+1,e=>h.itr_inj ha hb n (h.inj _ (h.itr_mem ha n) _ (h.itr_mem hb n) e)
theorem KP.cut(h:KP f E) {e:Int}(he:e∈E) {i j:Nat}(hij:i<=j) (q:itr f i e=itr f j e):itr f (j-i) e=e:=by
 have e1:itr f j e=itr f i (itr f (j-i) e):=by rw[←yz];congr 1;lia
 rw[e1]at q;exact(h.itr_inj he (h.itr_mem he _) i q).symm
structure Cy (f:Int->Int) (e:Int) (l:List Int):Prop where
 len:1<=l.length
 get:l=(cw l.length).map λn=>itr f n e
 back:itr f l.length e=e
 nd:l.Nodup
theorem KP.cy(h:KP f E) {e:Int}(he:e∈E):∃l,Cy f e l/\l.length<=E.length/\∀j,0<j->j<l.length->itr f j e≠e:=by
 have hex:∃k,1<=k/\k<=E.length/\itr f k e=e:=by
  by_cases c:((cw (E.length+1)).map λn=>itr f n e).Nodup
  .have:=UT _ E c (λx hx=>by obtain⟨n,_,rfl⟩:=mMq.mp hx;exact h.itr_mem he n)
   rw[lMq,bC]at this;lia
  .rw [aQ,bb]at c;have:∃i j,i<j/\j<E.length+1/\itr f i e=itr f j e:=by
    by_cases d:∃i j,i<j/\j<E.length+1/\itr f i e=itr f j e
    .exact d
    .exfalso;refine c ?_;refine aZ.imp_of_mem (R:=λa b=>a<b) (λ{a b} ha hb hab q=>d ⟨a,b,hab,dq.mp hb,q⟩) gA
   obtain⟨i,j,hij,hj,q⟩:=this;exact⟨j-i,by lia,by lia,h.cut he (cZ hij) q⟩
 obtain⟨k,h1,h2,h3⟩:=hex;obtain⟨m,m1,⟨m2,m3⟩,m4⟩:=Ox (p:=λk=>1<=k/\itr f k e=e) k ⟨h1,h3⟩
 refine⟨(cw m).map λn=>itr f n e,⟨by rw[lMq,bC];exact m2,by rw[lMq,bC],by rw[lMq,bC];exact m3,?_⟩,by rw[lMq,bC];lia,λj hj hjm q=>?_⟩
 .rw [aQ,bb];refine aZ.imp_of_mem (R:=λa b=>a<b) (λ{a b} ha hb hab q=>?_) gA
  have hb':=dq.mp hb;exact m4 (b-a) (by lia) ⟨by lia,h.cut he (cZ hab) q⟩
 .rw [lMq,bC]at hjm;exact m4 j hjm ⟨hj,q⟩
theorem Cy.at{e:Int}{l:List Int}(h:Cy f e l) {i:Nat}(hi:i<l.length):l[i]?=some (itr f i e):=by
 have e1:l[i]?=((cw l.length).map λn=>itr f n e)[i]?:=congrArg (λx:List Int=>x[i]?) h.get
 rw[e1,gMq,dO hi];rfl
theorem Cy.one{e:Int}{l l':List Int}(h:Cy f e l) (h':Cy f e l'):l=l':=by
 have key:∀{l l':List Int},Cy f e l->Cy f e l'->¬ l.length<l'.length:=λ{l l'} h h' hlt=>by
  have a0:=h'.at (i:=0) (by lia)
  have a1:=h'.at (i:=l.length) hlt;rw[h.back]at a1;have:=h'.nd;have e2:=(List.getElem?_inj (i:=0) (j:=l.length) (by lia) this).mp (by rw[a0,a1];rfl)
  have:=h.len;lia
 have h1:=key h h';have h2:=key h' h;have hl:l.length=l'.length:=by lia
 rw[h.get,h'.get,hl]
theorem Cy.self{e:Int}{l:List Int}(h:Cy f e l):e∈l:=mGq (h.at (i:=0) (by have:=h.len;lia))
theorem Cy.rot{e:Int}{l:List Int}(h:Cy f e l) {j:Nat}(hj:j<l.length):Cy f (itr f j e) (l.drop j++l.take j):=by
 have hlen:(l.drop j++l.take j).length=l.length:=by rw[lAq,aJ,lTq];lia
 refine⟨by rw[hlen];exact h.len,?_,?_,?_⟩
 .refine dD λi=>?_
  rw[hlen,gMq]
  by_cases hi:i<l.length
  .rw [dO hi,bR,←yz]
   by_cases hi2:i<l.length-j
   .rw [gZq (by rw[aJ];exact hi2),cI,h.at (by lia),fo j i]
   .rw [gYq (by rw[aJ];lia),aJ,eO (by lia),h.at (by lia)]
    congr 1;have e1:i+j=(i-(l.length-j))+l.length:=by lia
    rw[e1,yz,h.back]
  .rw [bf (by rw[hlen];lia),bf (by rw[bC];lia)]
   rfl
 .rw [hlen,←yz,fo,yz,h.back]
 .exact aF.nodup_iff.mpr (by rw[aY];exact h.nd)
theorem Cy.good{e x:Int}{l l':List Int}(h:Cy f e l) (hx:x∈l) (h':Cy f x l'):Mr.good l'=Mr.good l:=by
 obtain⟨j,hj⟩:=aC.mp hx;have hlt:=(gSq.mp hj).1;rw[h.at hlt]at hj;have r:=h.rot hlt;rw[aD.inj hj]at r;rw[h'.one r];exact NN h.nd j
structure Ee (f:Int->Int) (E:List Int) (L:List (List Int)):Prop where
 cy:∀l∈L,∃e,Cy f e l
 dj:L.flatten.Nodup
 all:∀x,x∈L.flatten↔x∈E
theorem FK:∀{L:List (List Int)},L.flatten.Nodup->L.Pairwise λa b=>∀x∈a,∀y∈b,x≠y
 | [],_=>aZ.nil
 |a::L,h=>by
  rw[fCq,nAq]at h;exact bP.mpr ⟨λb hb x hx y hy=>h.2.2 x hx y (mFq.mpr ⟨b,hb,hy⟩),FK h.2.1⟩
theorem Ee.nd{L:List (List Int)}(h:Ee f E L):(L.map Mr.good).Nodup:=by
 rw[aQ,bb];have hd:=FK h.dj;refine aZ.imp_of_mem (λ{a b} ha hb hab q=>?_) hd
 obtain⟨e,c⟩:=h.cy a ha;have h1:e∈Mr.good a:=(rJ a).mem_iff.mpr c.self;rw[q]at h1;exact hab e c.self e ((rJ b).mem_iff.mp h1) rfl
theorem Ee.sub(hf:KP f E) {L M:List (List Int)}(h:Ee f E L) (h':Ee f E M) {y:List Int}(hy:y∈L.map Mr.good):y∈M.map Mr.good:=by
 obtain⟨l,hl,rfl⟩:=mMq.mp hy;obtain⟨e,c⟩:=h.cy l hl;have hE:e∈E:=(h.all e).mp (mFq.mpr ⟨l,hl,c.self⟩);obtain⟨m,hm,hem⟩:=mFq.mp ((h'.all e).mpr hE);obtain⟨e',c'⟩:=h'.cy m hm;exact mMq.mpr ⟨m,hm,(c'.good hem c).symm⟩
theorem Ee.perm(hf:KP f E) {L M:List (List Int)}(h:Ee f E L) (h':Ee f E M):(L.map Mr.good).Perm (M.map Mr.good) :=
 (bA h.nd h'.nd).mpr λy=>⟨h.sub hf h',h'.sub hf h⟩
end
end Zl
namespace K13
open PySem L2 Mr Z Xe
end K13
namespace K51
open PySem L2 Mr Z Xe
def ui:MS:=(qi (qK 7 (kSc (DW (pd 2) (MM Eb (pd 6))))) (BQ (uS (wj (pd 7) (pd 3))) (qi (Bn 3 (pd 7) (kSc (rC (.bl true)))) (Ea 4 (qp 7))) sY))
def wy:MS:=(qi (EL 5 (DA 4)) (Bh 6 (NT (vd 0) (pd 5)) ui))
def C6:MS:=(qi (qK 2 (rH Zl.tX (qk (qp 0) rS)))
 (qi (qK 3 (Iq (pd 1) (kSc (rC (.bl true)))))
 (qi (qK 4 (zF (qk (qp 1) rS)))
 (qi (uq (uS (qG Ij (uO tH (oZ (pd 4) pO)) (rC (.int 0)))) wy 100000)
 (tP (Gn (pd 3)))))))
def vF:MF:=vU 2 8 C6
def xo:MS:=(Bn 1 (pd 5) (kSc (rC (.bl true))))
def xn:MS:=(BQ (uS (wj (pd 3) (pd 1))) (qi (qK 4 (rH K51.vF (qk (qp 0) (qk (qp 3) rS)))) (qi (Bh 5 (qp 4) xo) (Ea 2 (sZ (Ac (qp 4)) [0] rG (Cd (lOf (NT (vd 1) (pd 0)))))))) sY)
def EE:MS:=(qi (qK 1 Cb)
 (qi (qK 2 (zF rS))
 (qi (Ff 3 (oZ (uO tH (oZ (pd 0) pO)) pO) xn)
 (tP (Jy 2)))))
def Hn:MF:=vU 1 6 EE
def ER:MS:=(tP (sZ (Ac (qp 0)) [] rG (Cd (vd 0))))
def ya:MF:=vU 1 1 ER
end K51
namespace K12
open PySem L2 Mr Z Xe
end K12
namespace K15
open PySem L2 Mr Z
def yD:MS:=(Bn 1 (qG IU (pd 2) (pd 3)) (kSc (qG IU (pd 2) (qG vR (qG zu (pd 3) (rC (.int 1))) (uO tH (oZ (pd 2) pO))))))
def yB:MS:=(Ff 3 (oZ (uO tH (oZ (pd 2) pO)) pO) yD)
def Dn:MS:=(qi (qK 1 Cb)
 (qi (Bh 2 (qp 0) yB)
 (tP (Jy 1))))
def yi:MF:=vU 1 4 Dn
end K15
namespace K23
open PySem L2 Mr Z Xe
def Dw:MS:=(tP (sZ (Ac (qp 0)) [1] (uS (qG (G2 true) (pd 0) (pd 1))) (qp 0)))
def wz:MF:=vU 2 2 Dw
end K23
namespace K31
open PySem L2 Mr Z Xe
def BU:MS:=(qi (qK 3 (kSc (rC (.int 1))))
 (qi (qK 4 (kSc (rC (.int 0))))
 (qi (BQ (uS (qG Ij (qG vR (pd 0) (rC (.int 3))) (rC (.int 0)))) (qi (qK 3 (kSc (qG zu (rC (.int 1)) (qG vR (qG BN (pd 0) (rC (.int 3))) (qG RG (rC (.int 10)) (rC (.int 40))))))) (qK 4 (kSc (qG vR (qG BN (pd 1) (rC (.int 66))) (qG RG (rC (.int 10)) (rC (.int 40))))))) sY)
 (tP (kSc (qG zu (qG Cq (pd 3) (qG zu (qG vR (qG zu (qG Cq (qG zu (rC (.int 1)) (qG vR (pd 1) (rC (.int 66)))) (pd 2)) (pd 0)) (rC (.int 67))) (rC (.int 1)))) (pd 4)))))))
def uw:MF:=vU 3 5 BU
def tj:MS:=(Rz 8 3 (WH 3 (Px 3) (qG IU (pd 4) (qG Bd (uO tH (oZ (pd 4) pO)) (rC (.int 1))))) (HV 3 (Cj (uS (qG GB (qG vR (pd 7) (rC (.int 4))) (rC (.int 1)))) (uS (qG Ij (uO tH (oZ (pd 4) pO)) (rC (.int 1))))) (λ_=>(Gq (DA 4))) (HV 3 (Cj (uS (qG GB (qG vR (pd 7) (rC (.int 4))) (rC (.int 2)))) (uS (qG Ij (uO tH (oZ (pd 5) pO)) (rC (.int 0))))) (FY 3 (qK 9 (kSc (qG Bd (uO tH (oZ (pd 5) pO)) (rC (.int 1))))) (FY 3 (BQ (uS (pd 2)) (qK 9 (kSc (qG vR (qG BN (pd 7) (rC (.int 8))) (uO tH (oZ (pd 5) pO))))) sY) (FH 3 (zS 5 (pd 9))))) (HV 3 (uS (qG Ij (uO tH (oZ (pd 6) pO)) (rC (.int 0)))) (FY 3 (EL 10 (QV Cq (zS 6 (rC (.int 0))) (qG Bd (rC (.int 1)) (qG Cq (rC (.int 2)) (qG vR (qG BN (pd 7) (rC (.int 4))) (rC (.int 2))))))) (λpath=>qi ((Kf 3 (qp 10)) path) (BQ (uS (qG GB (qG vR (pd 7) (rC (.int 4))) (rC (.int 0)))) (qi (Ea 3 (zF (qk (kSc (MM Eb (pd 10))) rS))) (Ea 4 (kSc (qG Bd (uO tH (oZ (pd 3) pO)) (rC (.int 1)))))) (Ea 5 (kSc (MM Eb (pd 10))))))) (λ_=>sY)))))
def wm:MS:=(IL 3 (WH 3 (Px 3) (qG IU (pd 4) (qG Bd (uO tH (oZ (pd 4) pO)) (rC (.int 1))))) (DA 5))
def DG:MS:=(qi (qK 3 (zF (qk (zF rS) rS)))
 (qi (qK 4 (zF (qk (kSc (rC (.int 0))) rS)))
 (qi (qK 5 (zF rS))
 (qi (qK 6 (Cd (vd 1)))
 (qi (Bh 7 (qp 0) tj)
 (qi (uq (uS (qG Ij (uO tH (oZ (pd 5) pO)) (rC (.int 0)))) wm 100000)
 (tP (Jy 3))))))))
def vv:MF:=vU 3 11 DG
def Ci:MS:=(qi (BQ (Dj (uS (uO Ar (oZ (pd 0) (oZ (rC (.ty "list")) pO))))) (tP (kSc (rC (.bl false)))) sY)
 (tP (kSc (uO G0 (oZ (rOf (sZ (Ac (qp 0)) [] rG (kSc (Lu (uO Ar (oZ (pd 0) (oZ (rC (.ty "int")) pO))) (R5 (uO Ar (oZ (pd 0) (oZ (rC (.ty "bool")) pO)))))))) pO)))))
def uD:MF:=vU 1 1 Ci
end K31
namespace K43
open PySem L2 Mr Z Xe
def xT:MS:=(qi (qK 2 (Da (Fw 1) (lOf (sZ (Ac (qp 1)) [] rG (kSc (MM Eb (pd 0)))))))
 (tP (sZ (Ac (qp 0)) [2] rG (rH K23.wz (qk (qp 0) (qk (qp 1) rS))))))
def tG:MF:=vU 2 3 xT
end K43
namespace K41
open PySem L2 Mr Z
def uc:MS:=(qi (qK 7 (kSc (DW (pd 2) (MM Eb (pd 6))))) (BQ (uS (qG SC (pd 7) (pd 1))) (UP 5 (qG IU (rOf (rH K51.vF (qk (qp 3) (qk (qp 7) rS)))) (rC (.int 0))) (uO BC (oZ (pd 6) pO))) (BQ (uS (qG Ij (pd 6) (rC (.int 0)))) (Ea 4 (zF (qk (qp 6) rS))) sY)))
def E8:MS:=(qi (qK 2 (rH Zl.tX (qk (qp 0) rS)))
 (qi (qK 3 (rH K43.tG (qk (qp 0) (qk (sZ (Ac (NT (vd 0) (pd 1))) [] rG (kSc (uO BC (oZ (pd 0) pO)))) rS))))
 (qi (qK 4 (zF rS))
 (qi (qK 5 Cb)
 (qi (Bh 6 (NT (vd 0) (pd 1)) uc)
 (tP (A9 (Ql 4 (sZ (UY 5) [] rG (CU (vd 0)))))))))))
def tS:MF:=vU 2 8 E8
end K41
namespace K44
open PySem L2 Mr Z
def uh:MS:=(qi (Bn 2 (pd 4) (qp 3)) (qK 4 (kSc (AK (pd 1) (MM Eb (pd 4))))))
def uX:MS:=(qi (qK 4 (qp 3)) (uq (uS (wj (pd 4) (pd 2))) uh 100000))
def DC:MS:=(qi (qK 1 (rH K15.yi (qk (qp 0) rS)))
 (qi (qK 2 Cb)
 (qi (OH 3 1 uX)
 (tP (Jy 2)))))
def xV:MF:=vU 1 5 DC
end K44
namespace K45
open PySem L2 Mr Z
end K45
namespace K47
open PySem L2 Mr Z
def Af:MS:=(tP (sZ (Ac (qp 0)) [1] (uS (qG (G2 false) (uO BC (oZ (pd 0) pO)) (pd 1))) (qp 0)))
def ue:MF:=vU 2 2 Af
def BV:MS:=(qi (BQ (uS (qG GB (uO tH (oZ (qG IU (pd 0) (pd 1)) pO)) (rC (.int 0)))) (tP (rH Zl.qf (qk (qp 0) rS))) sY)
 (qi (qK 2 (sZ (Ac (rH K41.tS (qk (qp 0) (qk (qp 1) rS)))) [0,1] rG (rH K47.ue (qk (NT (vd 1) (pd 2)) (qk (qp 0) rS)))))
 (tP (rH Zl.qf (qk (Da (lOf (Da (lOf (MJ (vd 0) An (xD (pd 1)))) (Fw 2))) (lOf (MJ (vd 0) (xD (qG zu (pd 1) (rC (.int 1)))) An))) rS)))))
def ve:MF:=vU 2 3 BV
def vJ:MS:=(Bn 1 (uO BC (oZ (pd 3) pO)) (kSc (uO BC (oZ (pd 3) pO))))
def vI:MS:=(Bh 3 (qp 2) vJ)
def uy:MS:=(BQ (uS (qG (G2 false) (DW (pd 1) (pd 5)) (pd 4))) (Bn 1 (pd 5) (kSc (qG IU (pd 4) (rC (.int 0))))) sY)
def xM:MS:=(qi (qK 4 (HC (sZ (Ac (qp 2)) [1] rG (kSc (DW (pd 1) (uO BC (oZ (pd 0) pO))))))) (Bh 5 (Ja (pd 1)) uy))
def Cf:MS:=(qi (qK 1 Cb)
 (qi (Bh 2 (qp 0) vI)
 (qi (Bh 2 (qp 0) xM)
 (tP (kSc (qG zu (rLset (lOf (sZ (Rl 1) [1] rG (kSc (AK (pd 1) (pd 0)))))) (Kk (pd 0))))))))
def ud:MF:=vU 1 6 Cf
def Bb:MS:=(qi (qK 1 (rH K44.xV (qk (qp 0) rS)))
 (tP (kSc (qG zu (qG zu (qG Bd (uO tH (oZ (pd 0) pO)) (qG BN (uO Km (oZ (pd 1) pO)) (rC (.int 2)))) (rLset (lOf (sZ (Rl 1) [1] rG (kSc (AK (pd 1) (pd 0))))))) (Kk (pd 0))))))
def uN:MF:=vU 1 2 Bb
def zE:MS:=(qK 10 (Da (Fw 10) (lOf (zF (qk (sZ (Ac (NT (vd 5) (pd 6))) [11] (uS (qG (G2 false) (uO BC (oZ (pd 0) pO)) (pd 1))) (qp 0)) rS)))))
def Nj:MS:=(qi (qK 1 (kSc (uu Zl.qD (oZ (pd 0) (oZ (rC (.int 0)) pO)))))
 (qi (qK 2 (kSc (uu Zl.qD (oZ (pd 0) (oZ (rC (.int 1)) pO)))))
 (qi (qK 3 (kSc (uu Zl.qD (oZ (pd 0) (oZ (rC (.int 2)) pO)))))
 (qi (qK 4 (sZ (Vf (oZ (rC (.int 20)) pO)) [1,2] rG (kSc (uu K31.uw (oZ (pd 1) (oZ (pd 2) (oZ (pd 0) pO)))))))
 (qi (qK 5 (rH Zl.qf (qk (Da (lOf (rH K31.vv (qk (MJ (vd 0) (xD (rC (.int 3))) (xD (rC (.int 66)))) (qk (qp 4) (qk (kSc (qG GB (qG vR (pd 3) (rC (.int 2))) (rC (.int 1)))) rS))))) (lOf (sZ (Vf (oZ (qG vR (qG BN (pd 3) (rC (.int 2))) (rC (.int 3))) pO)) [] rG (zF rS)))) rS)))
 (qi (qK 6 (kSc (qG vR (qG BN (pd 3) (rC (.int 6))) (uO tH (oZ (pd 5) pO)))))
 (qi (qK 7 (rH K51.ya (qk (qp 5) rS)))
 (qi (qK 8 (rH K47.ve (qk (qp 7) (qk (qp 6) rS))))
 (qi (qK 9 (rH K41.tS (qk (qp 7) (qk (qp 6) rS))))
 (qi (BQ (Le (Dj (uS (uO Ar (oZ (pd 8) (oZ (rC (.ty "list")) pO))))) (Le (Dj (uS (uO G0 (oZ (rOf (HC (sZ (Ac (qp 8)) [] rG (kSc (uu K31.uD (oZ (pd 0) pO)))))) pO)))) (uS (qG GS (pd 7) (pd 5))))) (tP (kSc (rC (.bl false)))) sY)
 (qi (qK 10 (Da (lOf (MJ (vd 5) An (xD (pd 6)))) (lOf (MJ (vd 5) (xD (qG zu (pd 6) (rC (.int 1)))) An))))
 (qi (Bh 11 (qp 9) zE)
 (qi (BQ (uS (qG GB (uO tH (oZ (qG IU (pd 5) (pd 6)) pO)) (rC (.int 0)))) (qK 10 (qp 5)) sY)
 (qi (BQ (uS (qG GS (pd 8) (rOf (rH Zl.qf (qk (qp 10) rS))))) (tP (kSc (rC (.bl false)))) sY)
 (qi (qK 12 (kSc (uu K47.ud (oZ (pd 8) pO))))
 (qi (BQ (uS (qG SC (pd 12) (qG zu (uu K47.ud (oZ (pd 5) pO)) (uO G5 (oZ (rC (.int 0)) (oZ (qG Bd (uO tH (oZ (pd 9) pO)) (rC (.int 1))) pO)))))) (tP (kSc (rC (.bl false)))) sY)
 (qi (BQ (Cj (uS (qG GB (qG vR (pd 3) (rC (.int 2))) (rC (.int 0)))) (uS (qG SC (uu K47.uN (oZ (pd 8) pO)) (qG Cq (rC (.int 2)) (pd 12))))) (tP (kSc (rC (.bl false)))) sY)
 (qi (Bw 8 13 (.int 0))
 (tP (kSc (Lu (qG DV (pd 7) (pd 5)) (qG DV (rOf (rH K47.ve (qk (qp 7) (qk (qp 6) rS)))) (rOf (rH Zl.qf (qk (qp 10) rS)))))))))))))))))))))))))
def P1:MF:=vU 1 14 Nj
def Eh(i:Nat):Stmt:=PySem.Challenge.pw_mapround_k47_fallen_at_a_place.main.body.getD i (.Pass ⟨0,0,0,0⟩)
section
variable {P:kL}{w:kN}{K:W.Frag}{mg:Str->Option Value}{base:Heap}
abbrev zH:Stmt:=Eh 1
theorem Ey:qT ["ends", "start"] ["ends"] (qd zH):=by trivial
theorem Lb     (D:CM K mg "turned" zH ["ends"] f fd) (B:Bt mg)     : Fn P w K mg base 1 "turned" zH ["ends"] (rX K Zl.uY) f fd :=
 ⟨D,D.F.ok Ey (λ_ _ _ _=>sE) λvW A outer s H vs Q E hr h=>⟨_,(pB (uJ (qL A0 (pP qO (by rfl) B.len PySem.boot_len (oW (pv 0) oY)) pJ (rQ _)) (pE (qU (uH oY))) sH) (pB (qj (i:=1) Ey.nd rfl (by trivial) (wg aE fP iQ H0 (pv 0) (oW (pP (EI rfl) (by rfl) B.min jb (oW (pv 0) oY)) oY))) (pE (qU (qm yM (vk wx (pv 0) (vK (pv 1)) xG) (vk wx (pv 0) xG (vK (pv 1)))))))),qH _ (K:=K) (pK (we (qJ (pT Ah (ri sU (pD (oX 0) pR)) pN)) (rm (vT qC)) tq) (pK (ql (i:=1) (SR.kSc (SZ (T := "list") GU (oX 0) (pD (ri Nf (pD (oX 0) pR)) pR)))) (rm (zM (SK.lOf (Be (tY 0) (vM (oX 1)) xy)) (SK.lOf (Be (tY 0) xy (vM (oX 1)))))))) h⟩⟩
abbrev tK:Stmt:=Eh 2
theorem BD:qT ["turns"] ["turns"] (qd tK):=by trivial
theorem BR  (D:CM K mg "in_good_order" tK ["turns"] f fd) (B:Bt mg)   (G_turned:Fn P w K mg base 1 "turned" zH ["ends"] (rX K Zl.uY) fturned fdturned)  : Fn P w K mg base 2 "in_good_order" tK ["turns"] (rX K Zl.qf) f fd :=
 ⟨D,D.F.ok BD (λ_ _ _ _=>sE) λvW A outer s H vs Q E hr h=>have hu:=hr.units;⟨_,(pE (qU (pP (yA hu) (by rfl) B.sorted dr (oW (tD (cl:=[]) (N:=["turn"]) (fr:=[]) rfl rfl (by decide +kernel) rfl (by decide +kernel) rfl (tM.none (by decide +kernel)) (qR (pv 0)) (λ_ _ _ _=>uC) (λ_ _ _ _=>(sj G_turned (hr.mono (by decide)) (oW (pv 0) oY)))) oY)))),qH _ (K:=K) (rm (E7 (sS (pU 0) uF (rD (qg (pU 0) qC))))) h⟩⟩
abbrev uL:Stmt:=Eh 3
theorem uQ:qT ["m", "places", "place", "turn", "end"] ["m"] (qd uL):=by trivial
theorem Gz     (D:CM K mg "places_at" uL ["m"] f fd) (B:Bt mg)     : Fn P w K mg base 1 "places_at" uL ["m"] (rX K Zl.tX) f fd :=
 ⟨D,D.F.ok uQ (λ_ _ _ _=>sE) λvW A outer s H vs Q E hr h=>⟨_,(pB (qj (i:=1) uQ.nd rfl (by trivial) zD) (pB (vf PassesOwn.never rfl (QQ (by rfl) B.enum (oW (pv 0) oY)) (T9 rfl (HW (sk (i:=2) uQ.nd rfl (by trivial)) (HW (sk (i:=3) uQ.nd rfl (by trivial)) Rm))) (pE (vf PassesOwn.never rfl (qR (pv 3)) (sk (i:=4) uQ.nd rfl (by trivial)) (pE (Aa (wF hr) (pv 1) (pv 4) (pv 2) rfl))))) (pE (qU (pv 1))))),qH _ (K:=K) (pK (ql (i:=1) A7) (pK (Q3 (pU 0) (xH (pU 3) (zT (i:=1) (pU 2) (oX 4)))) (rm (GA 1)))) h⟩⟩
abbrev xX:Stmt:=Eh 5
theorem II:qT ["turn", "gone"] ["turn", "gone"] (qd xX):=by trivial
theorem IF     (D:CM K mg "thinned" xX ["turn", "gone"] f fd) (B:Bt mg)     : Fn P w K mg base 1 "thinned" xX ["turn", "gone"] (rX K K23.wz) f fd :=
 ⟨D,D.F.ok II (λ_ _ _ _=>sE) λvW A outer s H vs Q E hr h=>⟨_,(pE (qU (tD (N:=["end", "gone"]) (fr:=[1]) rfl rfl (by decide +kernel) rfl (by decide +kernel) rfl (tM.of (by decide +kernel) rfl rfl (by exact⟨rfl,trivial⟩) (by repeat (first|exact trivial|refine⟨(by first|exact λ_=>⟨_,rfl⟩|exact λh=>(by rcases h with h|h <;> cases h)),?_⟩)) (by exact⟨⟨rfl,rfl,rfl⟩,trivial⟩)) (qR (pv 0)) (λ_ _ _ _=>Jm (qL Ft (pv 0) (pv 1) rfl)) (λ_ _ _ _=>(pv 0))))),qH _ (K:=K) (rm (sS (pU 0) (qJ (pT (FO true) (oX 0) (oX 1))) (pU 0))) h⟩⟩
abbrev yf:Stmt:=Eh 7
theorem uB:qT ["m", "start", "place_of", "known", "waiting", "here", "end", "there"] ["m", "start"] (qd yf):=by trivial
theorem Jq  (D:CM K mg "reached" yf ["m", "start"] f fd) (B:Bt mg)   (G_places_at:Fn P w K mg base 1 "places_at" uL ["m"] (rX K Zl.tX) fplaces_at fdplaces_at)  : Fn P w K mg base 2 "reached" yf ["m", "start"] (rX K K51.vF) f fd :=
 ⟨D,D.F.ok uB (λ_ _ _ _=>sE) λvW A outer s H vs Q E hr h=>⟨_,(pB (qj (i:=2) uB.nd rfl (by trivial) (sj G_places_at (hr.mono (by decide)) (oW (pv 0) oY))) (pB (qj (i:=3) uB.nd rfl (by trivial) (Q0 (M4 (pv 1) Ds Rk) rfl rfl (by simp) (by decide))) (pB (qj (i:=4) uB.nd rfl (by trivial) (uH (oW (pv 1) oY))) (pB (C8 PassesOwn.never (qL Do (pP qO (by rfl) B.len PySem.boot_len (oW (pv 4) oY)) pJ (rQ _)) (pB (qj (i:=5) uB.nd rfl (by trivial) (Ip aE ez eE IJ (pv 4))) (pE (vf PassesOwn.never rfl (qR (wa sL (pv 0) (pv 5) (λ_ _=>rfl))) (sk (i:=6) uB.nd rfl (by trivial)) (pB (qj (i:=7) uB.nd rfl (by trivial) (yO (wF hr) (pv 2) (EG BX (pv 6)) (by first|rfl|exact trivial|(intro _ _;rfl)))) (pE (uJ (Qm (Fb (wF hr) (pv 7) (pv 3))) (pB (Aa (wF hr) (pv 3) (pv 7) Ds rfl) (pE (uR (wg aE bw bx sQ (pv 4) (oW (pv 7) oY))))) sH))))))) (pE (qU (pP (FV rfl) (by rfl) B.sorted dr (oW (pv 3) oY)))))))),qH _ (K:=K) (pK (ql (i:=2) (rD (qg (pU 0) qC))) (pK (ql (i:=3) (NQ (oX 1) (SR.kSc CY))) (pK (ql (i:=4) (vT (qg (pU 1) qC))) (pK (Dy 100000 (qJ (pT DR (ri sU (pD (oX 4) pR)) pN)) (pK (Re (i:=5) (FW (i:=4))) (xH (HX (tY 0) (oX 5)) (pK (ql (i:=7) (SR.kSc (CH (oX 2) (EM BH (oX 6))))) (we (DB (E9 (oX 7) (oX 3))) (pK (zT (i:=3) (SR.kSc CY) (oX 7)) (DI (i:=4) (pU 7))) tq))))) (rm (Nc (oX 3))))))) h⟩⟩
abbrev tL:Stmt:=Eh 9
theorem yk:qT ["m", "roads", "gone"] ["m", "roads"] (qd tL):=by trivial
theorem BS  (D:CM K mg "without_roads" tL ["m", "roads"] f fd) (B:Bt mg)   (G_thinned:Fn P w K mg base 1 "thinned" xX ["turn", "gone"] (rX K K23.wz) fthinned fdthinned)  : Fn P w K mg base 2 "without_roads" tL ["m", "roads"] (rX K K43.tG) f fd :=
 ⟨D,D.F.ok yk (λ_ _ _ _=>sE) λvW A outer s H vs Q E hr h=>⟨_,(pB (qj (i:=2) yk.nd rfl (by trivial) (qm yM (pv 1) (tD (cl:=[]) (N:=["road"]) (fr:=[]) rfl rfl (by decide +kernel) rfl (by decide +kernel) rfl (tM.none (by decide +kernel)) (qR (pv 1)) (λ_ _ _ _=>uC) (λ_ _ _ _=>(EG BX (pv 0)))))) (pE (qU (tD (N:=["turn", "gone"]) (fr:=[2]) rfl rfl (by decide +kernel) rfl (by decide +kernel) rfl (tM.of (by decide +kernel) rfl rfl (by exact⟨rfl,trivial⟩) (by repeat (first|exact trivial|refine⟨(by first|exact λ_=>⟨_,rfl⟩|exact λh=>(by rcases h with h|h <;> cases h)),?_⟩)) (by exact⟨⟨rfl,rfl,rfl⟩,trivial⟩)) (qR (pv 0)) (λ_ _ _ _=>uC) (λ_ _ _ _=>(sj G_thinned (hr.mono (by decide)) (oW (pv 0) (oW (pv 1) oY)))))))),qH _ (K:=K) (pK (ql (i:=2) (zM (Dx 1) (SK.lOf (sS (pU 1) uF (SR.kSc (EM BH (oX 0))))))) (rm (sS (pU 0) uF (rD (qg (pU 0) (qg (pU 1) qC)))))) h⟩⟩
abbrev xP:Stmt:=Eh 10
theorem vz:qT ["m", "place", "place_of", "past", "loops", "hanging", "end", "there"] ["m", "place"] (qd xP):=by trivial
theorem Mj  (D:CM K mg "groups" xP ["m", "place"] f fd) (B:Bt mg)   (G_places_at:Fn P w K mg base 1 "places_at" uL ["m"] (rX K Zl.tX) fplaces_at fdplaces_at) (G_without_roads:Fn P w K mg base 2 "without_roads" tL ["m", "roads"] (rX K K43.tG) fwithout_roads fdwithout_roads) (G_reached:Fn P w K mg base 2 "reached" yf ["m", "start"] (rX K K51.vF) freached fdreached)  : Fn P w K mg base 3 "groups" xP ["m", "place"] (rX K K41.tS) f fd :=
 ⟨D,D.F.ok vz (λ_ _ _ _=>sE) λvW A outer s H vs Q E hr h=>have hu:=hr.units;⟨_,(pB (qj (i:=2) vz.nd rfl (by trivial) (sj G_places_at (hr.mono (by decide)) (oW (pv 0) oY))) (pB (qj (i:=3) vz.nd rfl (by trivial) (sj G_without_roads (hr.mono (by decide)) (oW (pv 0) (oW (tD (cl:=[]) (N:=["end"]) (fr:=[]) rfl rfl (by decide +kernel) rfl (by decide +kernel) rfl (tM.none (by decide +kernel)) (qR (wa sL (pv 0) (pv 1) (λ_ _=>rfl))) (λ_ _ _ _=>uC) (λ_ _ _ _=>(pP wO (by rfl) B.abs cH (oW (pv 0) oY)))) oY)))) (pB (qj (i:=4) vz.nd rfl (by trivial) (uH oY)) (pB (qj (i:=5) vz.nd rfl (by trivial) zD) (pB (vf PassesOwn.never rfl (qR (wa sL (pv 0) (pv 1) (λ_ _=>rfl))) (sk (i:=6) vz.nd rfl (by trivial)) (pB (qj (i:=7) vz.nd rfl (by trivial) (yO (wF hr) (pv 2) (EG BX (pv 6)) (by first|rfl|exact trivial|(intro _ _;rfl)))) (pE (uJ (qL M8 (pv 7) (pv 1) (rQ _)) (pE (uR (wg aE bw bx sQ (Lh (pv 5) (wa sL (sj G_reached (hr.mono (by decide)) (oW (pv 3) (oW (pv 7) oY))) pJ (λ_ _=>rfl)) (uH oY) ⟨rfl,rfl,rfl,rfl⟩) (oW (pP wO (by rfl) B.abs cH (oW (pv 6) oY)) oY)))) (pE (uJ (qL Do (pv 6) pJ (rQ _)) (pE (uR (wg aE bw bx sQ (pv 4) (oW (uH (oW (pv 6) oY)) oY)))) sH)))))) (pE (qU (pP (yA hu) (by rfl) B.sorted dr (oW (qm yM (pv 4) (tD (cl:=[]) (N:=["roads"]) (fr:=[]) rfl rfl (by decide +kernel) rfl (by decide +kernel) rfl (tM.none (by decide +kernel)) (Xe.QZ (pv 5)) (λ_ _ _ _=>uC) (λ_ _ _ _=>(pP Fq (by rfl) B.sorted dr (oW (pv 0) oY))))) oY))))))))),qH _ (K:=K) (pK (ql (i:=2) (rD (qg (pU 0) qC))) (pK (ql (i:=3) (rD (qg (pU 0) (qg (sS (HX (tY 0) (oX 1)) uF (SR.kSc (ri AI (pD (oX 0) pR)))) qC)))) (pK (ql (i:=4) (vT qC)) (pK (ql (i:=5) A7) (pK (xH (HX (tY 0) (oX 1)) (pK (ql (i:=7) (SR.kSc (CH (oX 2) (EM BH (oX 6))))) (we (qJ (pT Ni (oX 7) (oX 1))) (T4 (i:=5) (pT AZ (SK.rOf (rD (qg (pU 3) (qg (pU 7) qC)))) pN) (ri AI (pD (oX 6) pR))) (we (qJ (pT DR (oX 6) pN)) (DI (i:=4) (vT (qg (pU 6) qC))) tq)))) (RO (LY (UZ (j:=4) (NR (i:=5) uF (OL (tY 0))))))))))) h⟩⟩
abbrev vh:Stmt:=Eh 11
theorem Ei:qT ["turn", "roads"] ["turn", "roads"] (qd vh):=by trivial
theorem Eo     (D:CM K mg "only_roads" vh ["turn", "roads"] f fd) (B:Bt mg)     : Fn P w K mg base 1 "only_roads" vh ["turn", "roads"] (rX K K47.ue) f fd :=
 ⟨D,D.F.ok Ei (λ_ _ _ _=>sE) λvW A outer s H vs Q E hr h=>⟨_,(pE (qU (tD (N:=["end", "roads"]) (fr:=[1]) rfl rfl (by decide +kernel) rfl (by decide +kernel) rfl (tM.of (by decide +kernel) rfl rfl (by exact⟨rfl,trivial⟩) (by repeat (first|exact trivial|refine⟨(by first|exact λ_=>⟨_,rfl⟩|exact λh=>(by rcases h with h|h <;> cases h)),?_⟩)) (by exact⟨⟨rfl,rfl,rfl⟩,trivial⟩)) (qR (pv 0)) (λ_ _ _ _=>Jm (qL BZ (pP wO (by rfl) B.abs cH (oW (pv 0) oY)) (pv 1) rfl)) (λ_ _ _ _=>(pv 0))))),qH _ (K:=K) (rm (sS (pU 0) (qJ (pT (FO false) (ri AI (pD (oX 0) pR)) (oX 1))) (pU 0))) h⟩⟩
abbrev zd:Stmt:=Eh 12
theorem ES:qT ["m", "place", "parts"] ["m", "place"] (qd zd):=by trivial
theorem Ly  (D:CM K mg "fallen" zd ["m", "place"] f fd) (B:Bt mg)   (G_in_good_order:Fn P w K mg base 2 "in_good_order" tK ["turns"] (rX K Zl.qf) fin_good_order fdin_good_order) (G_only_roads:Fn P w K mg base 1 "only_roads" vh ["turn", "roads"] (rX K K47.ue) fonly_roads fdonly_roads) (G_groups:Fn P w K mg base 3 "groups" xP ["m", "place"] (rX K K41.tS) fgroups fdgroups)  : Fn P w K mg base 4 "fallen" zd ["m", "place"] (rX K K47.ve) f fd :=
 ⟨D,D.F.ok ES (λ_ _ _ _=>sE) λvW A outer s H vs Q E hr h=>⟨_,(pB (uJ (qL A0 (pP qO (by rfl) B.len PySem.boot_len (oW (wa sL (pv 0) (pv 1) (λ_ _=>rfl)) oY)) pJ (rQ _)) (pE (qU (sj G_in_good_order (hr.mono (by decide)) (oW (pv 0) oY)))) sH) (pB (FE (i:=2) (N:=["roads", "m", "place"]) (fr:=[0,1]) rfl ES.nd rfl (by trivial) rfl (by decide +kernel) rfl (by decide +kernel) rfl (tM.of (by decide +kernel) rfl rfl (by exact⟨rfl,rfl,trivial⟩) (by repeat (first|exact trivial|refine⟨(by first|exact λ_=>⟨_,rfl⟩|exact λh=>(by rcases h with h|h <;> cases h)),?_⟩)) (by exact⟨⟨rfl,rfl,rfl⟩,⟨rfl,rfl,rfl⟩,trivial⟩)) (qR (sj G_groups (hr.mono (by decide)) (oW (pv 0) (oW (pv 1) oY)))) (λ_ _ _ _=>uC) (λ_ _ _ _=>(sj G_only_roads (hr.mono (by decide)) (oW (wa sL (pv 1) (pv 2) (λ_ _=>rfl)) (oW (pv 0) oY))))) (pE (qU (sj G_in_good_order (hr.mono (by decide)) (oW (qm yM (qm yM (vk wx (pv 0) xG (vK (pv 1))) (pv 2)) (vk wx (pv 0) (vK (qm vX (pv 1) pJ)) xG)) oY)))))),qH _ (K:=K) (pK (we (qJ (pT Ah (ri sU (pD (pT AZ (oX 0) (oX 1)) pR)) pN)) (rm (rD (qg (pU 0) qC))) tq) (pK (ql (i:=2) (sS (rD (qg (pU 0) (qg (pU 1) qC))) uF (rD (qg (HX (tY 1) (oX 2)) (qg (pU 0) qC))))) (rm (rD (qg (zM (SK.lOf (zM (SK.lOf (Be (tY 0) xy (vM (oX 1)))) (Dx 2))) (SK.lOf (Be (tY 0) (vM (pT vZ (oX 1) pN)) xy))) qC))))) h⟩⟩
abbrev zw:Stmt:=Eh 14
theorem LU:qT ["_law_script", "_law_k"] ["_law_script", "_law_k"] (qd zw):=by trivial
theorem LO     (D:CM K mg "_law_cell" zw ["_law_script", "_law_k"] f fd) (B:Bt mg)     : Fn P w K mg base 1 "_law_cell" zw ["_law_script", "_law_k"] (rX K Zl.qD) f fd :=
 ⟨D,D.F.ok LU (λ_ _ _ _=>sE) λvW A outer s H vs Q E hr h=>⟨_,(pB (uJ (qL Wo (pv 1) (pP qO (by rfl) B.len PySem.boot_len (oW (pv 0) oY)) (rQ _)) (pE (qU (wa sL (pv 0) (pv 1) (λ_ _=>rfl)))) sH) (pE (qU pJ))),qH _ (K:=K) (pK (we (qJ (pT VM (oX 1) (ri sU (pD (oX 0) pR)))) (rm (SR.kSc (pT AZ (oX 0) (oX 1)))) tq) (rm (SR.kSc pN))) h⟩⟩
abbrev zB:Stmt:=Eh 15
theorem xZ:qT ["_law_one", "_law_two", "_law_k", "_law_step", "_law_shift"] ["_law_one", "_law_two", "_law_k"] (qd zB):=by trivial
theorem Mi     (D:CM K mg "_law_name" zB ["_law_one", "_law_two", "_law_k"] f fd) (B:Bt mg)     : Fn P w K mg base 1 "_law_name" zB ["_law_one", "_law_two", "_law_k"] (rX K K31.uw) f fd :=
 ⟨D,D.F.ok xZ (λ_ _ _ _=>sE) λvW A outer s H vs Q E hr h=>⟨_,(pB (qj (i:=3) xZ.nd rfl (by trivial) pJ) (pB (qj (i:=4) xZ.nd rfl (by trivial) pJ) (pB (uJ (qL Do (qm uG (pv 0) pJ) pJ (rQ _)) (pB (qj (i:=3) xZ.nd rfl (by trivial) (qm vX pJ (qm uG (qm yQ (pv 0) pJ) (qm Nw pJ pJ)))) (pE (qj (i:=4) xZ.nd rfl (by trivial) (qm uG (qm yQ (pv 1) pJ) (qm Nw pJ pJ))))) sH) (pE (qU (qm vX (qm Dk (pv 3) (qm vX (qm uG (qm vX (qm Dk (qm vX pJ (qm uG (pv 1) pJ)) (pv 2)) (pv 0)) pJ) pJ)) (pv 4))))))),qH _ (K:=K) (pK (ql (i:=3) (SR.kSc pN)) (pK (ql (i:=4) (SR.kSc pN)) (pK (we (qJ (pT DR (pT uE (oX 0) pN) pN)) (pK (ql (i:=3) (SR.kSc (pT vZ pN (pT uE (pT As (oX 0) pN) (pT PM pN pN))))) (ql (i:=4) (SR.kSc (pT uE (pT As (oX 1) pN) (pT PM pN pN))))) tq) (rm (SR.kSc (pT vZ (pT Dm (oX 3) (pT vZ (pT uE (pT vZ (pT Dm (pT vZ pN (pT uE (oX 1) pN)) (oX 2)) (oX 0)) pN) pN)) (oX 4))))))) h⟩⟩
abbrev yj:Stmt:=Eh 16
theorem sA:qT ["_law_cells", "_law_names", "_law_wild", "_law_turns_here", "_law_way", "_law_loose", "_law_left", "_law_cell_here", "_law_here", "_law_at", "_law_end"] ["_law_cells", "_law_names", "_law_wild"] (qd yj):=by trivial
theorem Jg     (D:CM K mg "_law_turns" yj ["_law_cells", "_law_names", "_law_wild"] f fd) (B:Bt mg)     : Fn P w K mg base 1 "_law_turns" yj ["_law_cells", "_law_names", "_law_wild"] (rX K K31.vv) f fd :=
 ⟨D,D.F.ok sA (λ_ _ _ _=>sE) λvW A outer s H vs Q E hr h=>⟨_,(pB (qj (i:=3) sA.nd rfl (by trivial) (uH (oW (uH oY) oY))) (pB (qj (i:=4) sA.nd rfl (by trivial) (uH (oW pJ oY))) (pB (qj (i:=5) sA.nd rfl (by trivial) (uH oY)) (pB (qj (i:=6) sA.nd rfl (by trivial) (BP Bj (by rfl) B.list dY (oW (pv 1) oY))) (pB (vf PassesOwn.never rfl (qR (pv 0)) (sk (i:=7) sA.nd rfl (by trivial)) (pB (qj (i:=8) sA.nd rfl (by trivial) (wa sL (pv 3) (wa sL (pv 4) (qm AH (pP qO (by rfl) B.len PySem.boot_len (oW (pv 4) oY)) pJ) (λ_ _=>rfl)) (λ_ _=>rfl))) (pE (uJ (PW.pt (IY (qL A0 (qm uG (pv 7) pJ) pJ (rQ _)) (Fl (qL Do (pP qO (by rfl) B.len PySem.boot_len (oW (pv 4) oY)) pJ (rQ _))))) (pE (uR (Ip aE ez eE IJ (pv 4)))) (pE (uJ (PW.pt (IY (qL A0 (qm uG (pv 7) pJ) pJ (rQ _)) (Fl (qL Do (pP qO (by rfl) B.len PySem.boot_len (oW (pv 5) oY)) pJ (rQ _))))) (pB (qj (i:=9) sA.nd rfl (by trivial) (qm AH (pP qO (by rfl) B.len PySem.boot_len (oW (pv 5) oY)) pJ)) (pB (uJ (Fi (pv 2)) (pE (qj (i:=9) sA.nd rfl (by trivial) (qm uG (qm yQ (pv 7) pJ) (pP qO (by rfl) B.len PySem.boot_len (oW (pv 5) oY))))) sH) (pE (uR (wg aE bw bx sQ (pv 8) (oW (wg aE ez eE GJ (pv 5) (oW (pv 9) oY)) oY)))))) (pE (uJ (qL Do (pP qO (by rfl) B.len PySem.boot_len (oW (pv 6) oY)) pJ (rQ _)) (pB (qj (i:=10) sA.nd rfl (by trivial) (qm Dk (wg aE ez eE GJ (pv 6) (oW pJ oY)) (qm AH pJ (qm Dk pJ (qm uG (qm yQ (pv 7) pJ) pJ))))) (pB (uR (wg aE bw bx sQ (pv 8) (oW (pv 10) oY))) (pE (uJ (qL A0 (qm uG (pv 7) pJ) pJ (rQ _)) (pB (uR (wg aE bw bx sQ (pv 3) (oW (uH (oW (EG BX (pv 10)) oY)) oY))) (pE (uR (wg aE bw bx sQ (pv 4) (oW (qm AH (pP qO (by rfl) B.len PySem.boot_len (oW (pv 3) oY)) pJ) oY))))) (pE (uR (wg aE bw bx sQ (pv 5) (oW (EG BX (pv 10)) oY)))))))) sH)))))))) (pB (C8 PassesOwn.never (qL Do (pP qO (by rfl) B.len PySem.boot_len (oW (pv 5) oY)) pJ (rQ _)) (pE (uR (wg aE bw bx sQ (wa sL (pv 3) (wa sL (pv 4) (qm AH (pP qO (by rfl) B.len PySem.boot_len (oW (pv 4) oY)) pJ) (λ_ _=>rfl)) (λ_ _=>rfl)) (oW (Ip aE ez eE IJ (pv 5)) oY))))) (pE (qU (pv 3))))))))),qH _ (K:=K) (pK (ql (i:=3) (vT (qg (vT qC) qC))) (pK (ql (i:=4) (vT (qg (SR.kSc pN) qC))) (pK (ql (i:=5) (vT qC)) (pK (ql (i:=6) (KM (tY 1))) (pK (xH (pU 0) (UE (Oh (KI 3) (pT AZ (oX 4) (pT Ay (ri sU (pD (oX 4) pR)) pN))) (Oq (IR (qJ (pT Ah (pT uE (oX 7) pN) pN)) (qJ (pT DR (ri sU (pD (oX 4) pR)) pN))) (SX (Oi (FW (i:=4)))) (Oq (IR (qJ (pT Ah (pT uE (oX 7) pN) pN)) (qJ (pT DR (ri sU (pD (oX 5) pR)) pN))) (IW (JZ (SR.kSc (pT Ay (ri sU (pD (oX 5) pR)) pN)) (by decide)) (IW (Ui (DB (oX 2)) (JZ (SR.kSc (pT uE (pT As (oX 7) pN) (ri sU (pD (oX 5) pR)))) (by decide)) (Qi (λ_ _ _ h=>h))) (Ra (HF (i:=5) (oX 9))))) (Oq (qJ (pT DR (ri sU (pD (oX 6) pR)) pN)) (IW (Oo (Vk Dm (HF (i:=6) pN) (pT Ay pN (pT Dm pN (pT uE (pT As (oX 7) pN) pN)))) (by decide)) (T5 (Us (pU 10)) (we (qJ (pT Ah (pT uE (oX 7) pN) pN)) (pK (DI (i:=3) (vT (qg (SR.kSc (EM BH (oX 10))) qC))) (DI (i:=4) (SR.kSc (pT Ay (ri sU (pD (oX 3) pR)) pN)))) (DI (i:=5) (SR.kSc (EM BH (oX 10))))))) (SX tq)))))) (pK (Dy 100000 (qJ (pT DR (ri sU (pD (oX 5) pR)) pN)) (O1 (Oh (KI 3) (pT AZ (oX 4) (pT Ay (ri sU (pD (oX 4) pR)) pN))) (FW (i:=5)))) (rm (GA 3)))))))) h⟩⟩
abbrev wD:Stmt:=Eh 17
theorem Cc:qT ["_law_turn", "_law_at"] ["_law_turn"] (qd wD):=by trivial
theorem HU     (D:CM K mg "_law_turned" wD ["_law_turn"] f fd) (B:Bt mg)     : Fn P w K mg base 1 "_law_turned" wD ["_law_turn"] (rX K Zl.uY) f fd :=
 ⟨D,D.F.ok Cc (λ_ _ _ _=>sE) λvW A outer s H vs Q E hr h=>⟨_,(pB (uJ (qL A0 (pP qO (by rfl) B.len PySem.boot_len (oW (pv 0) oY)) pJ (rQ _)) (pE (qU (uH oY))) sH) (pB (qj (i:=1) Cc.nd rfl (by trivial) (wg aE fP iQ H0 (pv 0) (oW (pP (EI rfl) (by rfl) B.min jb (oW (pv 0) oY)) oY))) (pE (qU (qm yM (vk wx (pv 0) (vK (pv 1)) xG) (vk wx (pv 0) xG (vK (pv 1)))))))),qH _ (K:=K) (pK (we (qJ (pT Ah (ri sU (pD (oX 0) pR)) pN)) (rm (vT qC)) tq) (pK (ql (i:=1) (SR.kSc (SZ (T := "list") GU (oX 0) (pD (ri Nf (pD (oX 0) pR)) pR)))) (rm (zM (SK.lOf (Be (tY 0) (vM (oX 1)) xy)) (SK.lOf (Be (tY 0) xy (vM (oX 1)))))))) h⟩⟩
abbrev zA:Stmt:=Eh 18
theorem LX:qT ["_law_turns_here"] ["_law_turns_here"] (qd zA):=by trivial
theorem KY  (D:CM K mg "_law_good" zA ["_law_turns_here"] f fd) (B:Bt mg)   (ID:Fn P w K mg base 1 "_law_turned" wD ["_law_turn"] (rX K Zl.uY) fL_turned fdL_turned)  : Fn P w K mg base 2 "_law_good" zA ["_law_turns_here"] (rX K Zl.qf) f fd :=
 ⟨D,D.F.ok LX (λ_ _ _ _=>sE) λvW A outer s H vs Q E hr h=>have hu:=hr.units;⟨_,(pE (qU (pP (yA hu) (by rfl) B.sorted dr (oW (tD (cl:=[]) (N:=["_law_turn"]) (fr:=[]) rfl rfl (by decide +kernel) rfl (by decide +kernel) rfl (tM.none (by decide +kernel)) (qR (pv 0)) (λ_ _ _ _=>uC) (λ_ _ _ _=>(sj ID (hr.mono (by decide)) (oW (pv 0) oY)))) oY)))),qH _ (K:=K) (rm (E7 (sS (pU 0) uF (rD (qg (pU 0) qC))))) h⟩⟩
abbrev zC:Stmt:=Eh 19
theorem MC:qT ["_law_m"] ["_law_m"] (qd zC):=by trivial
theorem LV     (D:CM K mg "_law_copy" zC ["_law_m"] f fd) (B:Bt mg)     : Fn P w K mg base 1 "_law_copy" zC ["_law_m"] (rX K K51.ya) f fd :=
 ⟨D,D.F.ok MC (λ_ _ _ _=>sE) λvW A outer s H vs Q E hr h=>⟨_,(pE (qU (tD (cl:=[]) (N:=["_law_turn"]) (fr:=[]) rfl rfl (by decide +kernel) rfl (by decide +kernel) rfl (tM.none (by decide +kernel)) (qR (pv 0)) (λ_ _ _ _=>uC) (λ_ _ _ _=>(BP Bj (by rfl) B.list dY (oW (pv 0) oY)))))),qH _ (K:=K) (rm (sS (pU 0) uF (KM (tY 0)))) h⟩⟩
abbrev wG:Stmt:=Eh 21
theorem Ig:qT ["_law_found"] ["_law_found"] (qd wG):=by trivial
theorem GW     (D:CM K mg "_law_wholes" wG ["_law_found"] f fd) (B:Bt mg)     : Fn P w K mg base 1 "_law_wholes" wG ["_law_found"] (rX K K31.uD) f fd :=
 ⟨D,D.F.ok Ig (λ_ _ _ _=>sE) λvW A outer s H vs Q E hr h=>⟨_,(pB (uJ (IB (Fi (pP Bm (by rfl) B.isi dP (oW (pv 0) (oW (Cw (v:=.ty "list") (by rfl) B.list dY rfl) oY))))) (pE (qU Ds)) sH) (pE (qU (pP (Ia rfl) (by rfl) B.all jc (oW (tD (cl:=[]) (N:=["_law_one"]) (fr:=[]) rfl rfl (by decide +kernel) rfl (by decide +kernel) rfl (tM.none (by decide +kernel)) (qR (pv 0)) (λ_ _ _ _=>uC) (λ_ _ _ _=>(Pi (pP Bm (by rfl) B.isi dP (oW (pv 0) (oW (Cw (v:=.ty "int") (by rfl) B.int kr rfl) oY))) (OX (UI (pP Bm (by rfl) B.isi dP (oW (pv 0) (oW (Cw (v:=.ty "bool") (by rfl) B.bool km rfl) oY)))))))) oY))))),qH _ (K:=K) (pK (we (JD (DB (ri Gp (pD (oX 0) (pD Ka pR))))) (rm (SR.kSc CY)) tq) (rm (SR.kSc (ri N9 (pD (SK.rOf (sS (pU 0) uF (SR.kSc (PK (ri Gp (pD (oX 0) (pD Ka pR))) (Tz (ri Gp (pD (oX 0) (pD Ka pR)))))))) pR))))) h⟩⟩
abbrev wM:Stmt:=Eh 22
theorem xt:qT ["_law_m", "_law_follow_here", "_law_turn", "_law_k"] ["_law_m"] (qd wM):=by trivial
theorem HI     (D:CM K mg "_law_follow" wM ["_law_m"] f fd) (B:Bt mg)     : Fn P w K mg base 1 "_law_follow" wM ["_law_m"] (rX K K15.yi) f fd :=
 ⟨D,D.F.ok xt (λ_ _ _ _=>sE) λvW A outer s H vs Q E hr h=>⟨_,(pB (qj (i:=1) xt.nd rfl (by trivial) zD) (pB (vf PassesOwn.never rfl (qR (pv 0)) (sk (i:=2) xt.nd rfl (by trivial)) (pE (vf PassesOwn.never rfl (BO (by rfl) B.range (oW (pP qO (by rfl) B.len PySem.boot_len (oW (pv 2) oY)) oY)) (sk (i:=3) xt.nd rfl (by trivial)) (pE (Aa (wF hr) (pv 1) (wa sL (pv 2) (pv 3) (λ_ _=>rfl)) (wa sL (pv 2) (qm uG (qm vX (pv 3) pJ) (pP qO (by rfl) B.len PySem.boot_len (oW (pv 2) oY))) (λ_ _=>rfl)) rfl))))) (pE (qU (pv 1))))),qH _ (K:=K) (pK (ql (i:=1) A7) (pK (xH (pU 0) (O7 (pD (ri sU (pD (oX 2) pR)) pR) (zT (i:=1) (SR.kSc (pT AZ (oX 2) (pT uE (pT vZ (oX 3) pN) (ri sU (pD (oX 2) pR))))) (pT AZ (oX 2) (oX 3))))) (rm (GA 1)))) h⟩⟩
abbrev xQ:Stmt:=Eh 23
theorem vw:qT ["_law_m", "_law_follow_here", "_law_number", "_law_end", "_law_at"] ["_law_m"] (qd xQ):=by trivial
theorem Jt  (D:CM K mg "_law_lands" xQ ["_law_m"] f fd) (B:Bt mg)   (Je:Fn P w K mg base 1 "_law_follow" wM ["_law_m"] (rX K K15.yi) fL_follow fdL_follow)  : Fn P w K mg base 2 "_law_lands" xQ ["_law_m"] (rX K K44.xV) f fd :=
 ⟨D,D.F.ok vw (λ_ _ _ _=>sE) λvW A outer s H vs Q E hr h=>⟨_,(pB (qj (i:=1) vw.nd rfl (by trivial) (sj Je (hr.mono (by decide)) (oW (pv 0) oY))) (pB (qj (i:=2) vw.nd rfl (by trivial) zD) (pB (vf PassesOwn.never rfl (Xe.Fz (pv 1)) (sk (i:=3) vw.nd rfl (by trivial)) (pB (qj (i:=4) vw.nd rfl (by trivial) (pv 3)) (pE (C8 PassesOwn.never (Qm (Fb (wF hr) (pv 4) (pv 2))) (pB (Aa (wF hr) (pv 2) (pv 4) (pv 3) rfl) (pE (qj (i:=4) vw.nd rfl (by trivial) (yO (wF hr) (pv 1) (EG BX (pv 4)) (by first|rfl|exact trivial|(intro _ _;rfl)))))))))) (pE (qU (pv 2)))))),qH _ (K:=K) (pK (ql (i:=1) (rD (qg (pU 0) qC))) (pK (ql (i:=2) A7) (pK (Rr (x:=3) (i:=1) (pK (ql (i:=4) (pU 3)) (Dy 100000 (DB (E9 (oX 4) (oX 2))) (pK (zT (i:=2) (pU 3) (oX 4)) (ql (i:=4) (SR.kSc (C1 (oX 1) (EM BH (oX 4))))))))) (rm (GA 2))))) h⟩⟩
abbrev wV:Stmt:=Eh 24
theorem tZ:qT ["_law_m", "_law_mark", "_law_turn", "_law_end", "_law_gone", "_law_road"] ["_law_m"] (qd wV):=by trivial
theorem Ib     (D:CM K mg "_law_pieces" wV ["_law_m"] f fd) (B:Bt mg)    (b_set:mg "set" = none)   : Fn P w K mg base 1 "_law_pieces" wV ["_law_m"] (rX K K47.ud) f fd :=
 ⟨D,D.F.ok tZ (λ_ _ _ _=>sE) λvW A outer s H vs Q E hr h=>have hu65:=wY.units65 hr;⟨_,(pB (qj (i:=1) tZ.nd rfl (by trivial) zD) (pB (vf PassesOwn.never rfl (qR (pv 0)) (sk (i:=2) tZ.nd rfl (by trivial)) (pE (vf PassesOwn.never rfl (qR (pv 2)) (sk (i:=3) tZ.nd rfl (by trivial)) (pE (Aa (wF hr) (pv 1) (pP wO (by rfl) B.abs cH (oW (pv 3) oY)) (pP wO (by rfl) B.abs cH (oW (pv 3) oY)) rfl))))) (pB (vf PassesOwn.never rfl (qR (pv 0)) (sk (i:=2) tZ.nd rfl (by trivial)) (pB (FE (i:=4) (N:=["_law_end", "_law_mark"]) (fr:=[1]) rfl tZ.nd rfl (by trivial) rfl (by decide +kernel) rfl (by decide +kernel) rfl (tM.of (by decide +kernel) rfl rfl (by exact⟨rfl,trivial⟩) (by repeat (first|exact trivial|refine⟨(by first|exact λ_=>⟨_,rfl⟩|exact λh=>(by rcases h with h|h <;> cases h)),?_⟩)) (by exact⟨⟨rfl,rfl,rfl⟩,trivial⟩)) (qR (pv 2)) (λ_ _ _ _=>uC) (λ_ _ _ _=>(yO (wF hr) (pv 1) (pP wO (by rfl) B.abs cH (oW (pv 0) oY)) (by first|rfl|exact trivial|(intro _ _;rfl))))) (pE (vf PassesOwn.never rfl (qR (BP (JF rfl) (by rfl) B.list dY (oW (pv 1) oY))) (sk (i:=5) tZ.nd rfl (by trivial)) (pE (uJ (qL BZ (yO (wF hr) (pv 1) (pv 5) (by first|rfl|exact trivial|(intro _ _;rfl))) (pv 4) rfl) (pE (Aa (wF hr) (pv 1) (pv 5) (wa sL (pv 4) pJ (λ_ _=>rfl)) rfl)) sH)))))) (pE (qU (qm vX (KG rfl (by rfl) B.len (by rfl) b_set (oW (tD (N:=["_law_road", "_law_mark"]) (fr:=[1]) rfl rfl (by decide +kernel) rfl (by decide +kernel) rfl (tM.of (by decide +kernel) rfl rfl (by exact⟨rfl,trivial⟩) (by repeat (first|exact trivial|refine⟨(by first|exact λ_=>⟨_,rfl⟩|exact λh=>(by rcases h with h|h <;> cases h)),?_⟩)) (by exact⟨⟨rfl,rfl,rfl⟩,trivial⟩)) (Xe.Fz (pv 1)) (λ_ _ _ _=>uC) (λ_ _ _ _=>(yO (wF hr) (pv 1) (pv 0) (by first|rfl|exact trivial|(intro _ _;rfl))))) oY)) (wg aE fQ iR (HQ hu65) (pv 0) (oW (uH oY) oY)))))))),qH _ (K:=K) (pK (ql (i:=1) A7) (pK (xH (pU 0) (xH (pU 2) (zT (i:=1) (SR.kSc (ri AI (pD (oX 3) pR))) (ri AI (pD (oX 3) pR))))) (pK (xH (pU 0) (pK (ql (i:=4) (JX (sS (pU 2) uF (SR.kSc (CH (oX 1) (ri AI (pD (oX 0) pR))))))) (xH (OP (oX 1)) (we (qJ (pT (FO false) (CH (oX 1) (oX 5)) (oX 4))) (zT (i:=1) (SR.kSc (pT AZ (oX 4) pN)) (oX 5)) tq)))) (KA (Nl vZ IM (J3 (GG (i:=1) uF (SR.kSc (C1 (oX 1) (oX 0))))) (JT (oX 0))))))) h⟩⟩
abbrev vO:Stmt:=Eh 25
theorem A6:qT ["_law_m", "_law_number"] ["_law_m"] (qd vO):=by trivial
theorem Gh  (D:CM K mg "_law_balance" vO ["_law_m"] f fd) (B:Bt mg)    (b_set:mg "set" = none) (LK:Fn P w K mg base 2 "_law_lands" xQ ["_law_m"] (rX K K44.xV) fL_lands fdL_lands)  : Fn P w K mg base 3 "_law_balance" vO ["_law_m"] (rX K K47.uN) f fd :=
 ⟨D,D.F.ok A6 (λ_ _ _ _=>sE) λvW A outer s H vs Q E hr h=>have hu65:=wY.units65 hr;⟨_,(pB (qj (i:=1) A6.nd rfl (by trivial) (sj LK (hr.mono (by decide)) (oW (pv 0) oY))) (pE (qU (qm vX (qm vX (qm AH (pP qO (by rfl) B.len PySem.boot_len (oW (pv 0) oY)) (qm yQ (pP Lv (by rfl) B.len PySem.boot_len (oW (pv 1) oY)) pJ)) (KG rfl (by rfl) B.len (by rfl) b_set (oW (tD (N:=["_law_end", "_law_number"]) (fr:=[1]) rfl rfl (by decide +kernel) rfl (by decide +kernel) rfl (tM.of (by decide +kernel) rfl rfl (by exact⟨rfl,trivial⟩) (by repeat (first|exact trivial|refine⟨(by first|exact λ_=>⟨_,rfl⟩|exact λh=>(by rcases h with h|h <;> cases h)),?_⟩)) (by exact⟨⟨rfl,rfl,rfl⟩,trivial⟩)) (Xe.Fz (pv 1)) (λ_ _ _ _=>uC) (λ_ _ _ _=>(yO (wF hr) (pv 1) (pv 0) (by first|rfl|exact trivial|(intro _ _;rfl))))) oY))) (wg aE fQ iR (HQ hu65) (pv 0) (oW (uH oY) oY)))))),qH _ (K:=K) (pK (ql (i:=1) (rD (qg (pU 0) qC))) (KA (Nl vZ IM (Uy vZ IM (pT Ay (ri sU (pD (oX 0) pR)) (pT As (ri RM (pD (oX 1) pR)) pN)) (J3 (GG (i:=1) uF (SR.kSc (C1 (oX 1) (oX 0)))))) (JT (oX 0))))) h⟩⟩
abbrev Ai:Stmt:=Eh 26
theorem ur:qT ["_law_script", "_law_one", "_law_two", "_law_pick", "_law_names", "_law_m", "_law_place", "_law_handed", "_law_found", "_law_told", "_law_due", "_law_group", "_law_many", "_law_turn"] ["_law_script"] (qd Ai):=by trivial
theorem Ud  (D:CM K mg "law" Ai ["_law_script"] f fd) (B:Bt mg)   (Dr:Fn P w K mg base 1 "_law_cell" zw ["_law_script", "_law_k"] (rX K Zl.qD) fL_cell fdL_cell) (DF:Fn P w K mg base 2 "_law_good" zA ["_law_turns_here"] (rX K Zl.qf) fL_good fdL_good) (OU:Fn P w K mg base 1 "_law_copy" zC ["_law_m"] (rX K K51.ya) fL_copy fdL_copy) (G_fallen:Fn P w K mg base 4 "fallen" zd ["m", "place"] (rX K K47.ve) ffallen fdfallen) (G_groups:Fn P w K mg base 3 "groups" xP ["m", "place"] (rX K K41.tS) fgroups fdgroups) (Dq:Fn P w K mg base 1 "_law_pieces" wV ["_law_m"] (rX K K47.ud) fL_pieces fdL_pieces) (OQ:Fn P w K mg base 1 "_law_name" zB ["_law_one", "_law_two", "_law_k"] (rX K K31.uw) fL_name fdL_name) (Lz:Fn P w K mg base 1 "_law_turns" yj ["_law_cells", "_law_names", "_law_wild"] (rX K K31.vv) fL_turns fdL_turns) (Hq:Fn P w K mg base 3 "_law_balance" vO ["_law_m"] (rX K K47.uN) fL_balance fdL_balance) (Ir:Fn P w K mg base 1 "_law_wholes" wG ["_law_found"] (rX K K31.uD) fL_wholes fdL_wholes)  : Fn P w K mg base 5 "law" Ai ["_law_script"] (rX K K47.P1) f fd :=
 ⟨D,D.F.ok ur (λ_ _ _ _=>sE) λvW A outer s H vs Q E hr h=>have hu:=hr.units;⟨_,(pB (qj (i:=1) ur.nd rfl (by trivial) (sj Dr (hr.mono (by decide)) (oW (pv 0) (oW pJ oY)))) (pB (qj (i:=2) ur.nd rfl (by trivial) (sj Dr (hr.mono (by decide)) (oW (pv 0) (oW pJ oY)))) (pB (qj (i:=3) ur.nd rfl (by trivial) (sj Dr (hr.mono (by decide)) (oW (pv 0) (oW pJ oY)))) (pB (FE (i:=4) (N:=["_law_k", "_law_one", "_law_two"]) (fr:=[1,2]) rfl ur.nd rfl (by trivial) rfl (by decide +kernel) rfl (by decide +kernel) rfl (tM.of (by decide +kernel) rfl rfl (by exact⟨rfl,rfl,trivial⟩) (by repeat (first|exact trivial|refine⟨(by first|exact λ_=>⟨_,rfl⟩|exact λh=>(by rcases h with h|h <;> cases h)),?_⟩)) (by exact⟨⟨rfl,rfl,rfl⟩,⟨rfl,rfl,rfl⟩,trivial⟩)) (BO (by rfl) B.range (oW pJ oY)) (λ_ _ _ _=>uC) (λ_ _ _ _=>(sj OQ (hr.mono (by decide)) (oW (pv 1) (oW (pv 2) (oW (pv 0) oY)))))) (pB (qj (i:=5) ur.nd rfl (by trivial) (sj DF (hr.mono (by decide)) (oW (qm yM (sj Lz (hr.mono (by decide)) (oW (vk wx (pv 0) (vK pJ) (vK pJ)) (oW (pv 4) (oW (FZ A0 (qm uG (pv 3) pJ) pJ (rQ _)) oY)))) (tD (cl:=[]) (N:=["_law_k"]) (fr:=[]) rfl rfl (by decide +kernel) rfl (by decide +kernel) rfl (tM.none (by decide +kernel)) (BO (by rfl) B.range (oW (qm uG (qm yQ (pv 3) pJ) pJ) oY)) (λ_ _ _ _=>uC) (λ_ _ _ _=>(uH oY)))) oY))) (pB (qj (i:=6) ur.nd rfl (by trivial) (qm uG (qm yQ (pv 3) pJ) (pP qO (by rfl) B.len PySem.boot_len (oW (pv 5) oY)))) (pB (qj (i:=7) ur.nd rfl (by trivial) (sj OU (hr.mono (by decide)) (oW (pv 5) oY))) (pB (qj (i:=8) ur.nd rfl (by trivial) (sj G_fallen (hr.mono (by decide)) (oW (pv 7) (oW (pv 6) oY)))) (pB (qj (i:=9) ur.nd rfl (by trivial) (sj G_groups (hr.mono (by decide)) (oW (pv 7) (oW (pv 6) oY)))) (pB (uJ (PW.pt (S5 (IB (Fi (pP Bm (by rfl) B.isi dP (oW (pv 8) (oW (Cw (v:=.ty "list") (by rfl) B.list dY rfl) oY))))) (S5 (IB (Fi (pP (Ia rfl) (by rfl) B.all jc (oW (tD (cl:=[]) (N:=["_law_turn"]) (fr:=[]) rfl rfl (by decide +kernel) rfl (by decide +kernel) rfl (tM.none (by decide +kernel)) (qR (pv 8)) (λ_ _ _ _=>uC) (λ_ _ _ _=>(sj Ir (hr.mono (by decide)) (oW (pv 0) oY)))) oY)))) (TN (qL (Oj hu) (pv 7) (pv 5) (rQ _)))))) (pE (qU Ds)) sH) (pB (qj (i:=10) ur.nd rfl (by trivial) (qm yM (vk wx (pv 5) xG (vK (pv 6))) (vk wx (pv 5) (vK (qm vX (pv 6) pJ)) xG))) (pB (vf PassesOwn.never rfl (qR (pv 9)) (sk (i:=11) ur.nd rfl (by trivial)) (pE (qj (i:=10) ur.nd rfl (by trivial) (qm yM (pv 10) (uH (oW (tD (N:=["_law_end", "_law_group"]) (fr:=[11]) rfl rfl (by decide +kernel) rfl (by decide +kernel) rfl (tM.of (by decide +kernel) rfl rfl (by exact⟨rfl,trivial⟩) (by repeat (first|exact trivial|refine⟨(by first|exact λ_=>⟨_,rfl⟩|exact λh=>(by rcases h with h|h <;> cases h)),?_⟩)) (by exact⟨⟨rfl,rfl,rfl⟩,trivial⟩)) (qR (wa sL (pv 5) (pv 6) (λ_ _=>rfl))) (λ_ _ _ _=>Jm (qL BZ (pP wO (by rfl) B.abs cH (oW (pv 0) oY)) (pv 1) rfl)) (λ_ _ _ _=>(pv 0))) oY)))))) (pB (uJ (qL A0 (pP qO (by rfl) B.len PySem.boot_len (oW (wa sL (pv 5) (pv 6) (λ_ _=>rfl)) oY)) pJ (rQ _)) (pE (qj (i:=10) ur.nd rfl (by trivial) (pv 5))) sH) (pB (uJ (qL (Oj hu) (pv 8) (sj DF (hr.mono (by decide)) (oW (pv 10) oY)) (rQ _)) (pE (qU Ds)) sH) (pB (qj (i:=12) ur.nd rfl (by trivial) (sj Dq (hr.mono (by decide)) (oW (pv 8) oY))) (pB (uJ (qL M8 (pv 12) (qm vX (sj Dq (hr.mono (by decide)) (oW (pv 5) oY)) (pP (Mh rfl) (by rfl) B.max ku (oW pJ (oW (qm AH (pP qO (by rfl) B.len PySem.boot_len (oW (pv 9) oY)) pJ) oY)))) (rQ _)) (pE (qU Ds)) sH) (pB (uJ (PW.pt (IY (qL A0 (qm uG (pv 3) pJ) pJ (rQ _)) (Fl (qL M8 (sj Hq (hr.mono (by decide)) (oW (pv 8) oY)) (qm Dk pJ (pv 12)) (rQ _))))) (pE (qU Ds)) sH) (pB (vf PassesOwn.never rfl (qR (pv 8)) (sk (i:=13) ur.nd rfl (by trivial)) (pE (uR (wg aE bw bx sQ (pv 13) (oW pJ oY))))) (pE (qU (Pi (FZ (PP hu) (pv 7) (pv 5) (rQ _)) (OX (FZ (PP hu) (sj G_fallen (hr.mono (by decide)) (oW (pv 7) (oW (pv 6) oY))) (sj DF (hr.mono (by decide)) (oW (pv 10) oY)) (rQ _)))))))))))))))))))))))),qH _ (K:=K) (pK (ql (i:=1) (SR.kSc (xr (pD (oX 0) (pD pN pR))))) (pK (ql (i:=2) (SR.kSc (xr (pD (oX 0) (pD pN pR))))) (pK (ql (i:=3) (SR.kSc (xr (pD (oX 0) (pD pN pR))))) (pK (ql (i:=4) (Ep (pD pN pR) uF (SR.kSc (xr (pD (oX 1) (pD (oX 2) (pD (oX 0) pR))))))) (pK (ql (i:=5) (rD (qg (zM (SK.lOf (rD (qg (Be (tY 0) (vM pN) (vM pN)) (qg (pU 4) (qg (SR.kSc (pT Ah (pT uE (oX 3) pN) pN)) qC))))) (SK.lOf (Ep (pD (pT uE (pT As (oX 3) pN) pN) pR) uF (vT qC)))) qC))) (pK (ql (i:=6) (SR.kSc (pT uE (pT As (oX 3) pN) (ri sU (pD (oX 5) pR))))) (pK (ql (i:=7) (rD (qg (pU 5) qC))) (pK (ql (i:=8) (rD (qg (pU 7) (qg (pU 6) qC)))) (pK (ql (i:=9) (rD (qg (pU 7) (qg (pU 6) qC)))) (pK (we (Sz (JD (DB (ri Gp (pD (oX 8) (pD Ka pR))))) (Sz (JD (DB (ri N9 (pD (SK.rOf (JX (sS (pU 8) uF (SR.kSc (xr (pD (oX 0) pR)))))) pR)))) (qJ (pT MR (oX 7) (oX 5))))) (rm (SR.kSc CY)) tq) (pK (ql (i:=10) (zM (SK.lOf (Be (tY 5) xy (vM (oX 6)))) (SK.lOf (Be (tY 5) (vM (pT vZ (oX 6) pN)) xy)))) (pK (xH (pU 9) (ql (i:=10) (zM (Dx 10) (SK.lOf (vT (qg (sS (HX (tY 5) (oX 6)) (qJ (pT (FO false) (ri AI (pD (oX 0) pR)) (oX 1))) (pU 0)) qC)))))) (pK (we (qJ (pT Ah (ri sU (pD (pT AZ (oX 5) (oX 6)) pR)) pN)) (ql (i:=10) (pU 5)) tq) (pK (we (qJ (pT MR (oX 8) (SK.rOf (rD (qg (pU 10) qC))))) (rm (SR.kSc CY)) tq) (pK (ql (i:=12) (SR.kSc (xr (pD (oX 8) pR)))) (pK (we (qJ (pT Ni (oX 12) (pT vZ (xr (pD (oX 5) pR)) (ri RY (pD pN (pD (pT Ay (ri sU (pD (oX 9) pR)) pN) pR)))))) (rm (SR.kSc CY)) tq) (pK (we (IR (qJ (pT Ah (pT uE (oX 3) pN) pN)) (qJ (pT Ni (xr (pD (oX 8) pR)) (pT Dm pN (oX 12))))) (rm (SR.kSc CY)) tq) (pK (NY (i:=8) (x:=13) (d:=.int 0) λ_=>.int) (rm (SR.kSc (PK (pT Pr (oX 7) (oX 5)) (pT Pr (SK.rOf (rD (qg (pU 7) (qg (pU 6) qC)))) (SK.rOf (rD (qg (pU 10) qC))))))))))))))))))))))))) h⟩⟩
end
end K47
namespace K16
open PySem L2 Mr Z
end K16
--ZQ3 --ZQ4 --ZQ5 --ZQ6 --ZQ8 --ZQ9
namespace K51
open PySem L2 Mr Z Xe Zl
end K51
--ZQ3 --ZQ4 --ZQ5 --ZQ6 --ZQ8 --ZQ9
namespace K51
open PySem L2 Mr Z Xe Zl
theorem RB{rs:List (List Int)}(hl:rs.length<=500000):ya [dM rs]=some (.ow (rs.map aI)):=by
 have key:=rP (te:=Cd (vd 0)) (cap:=[]) (λd=>match d with|.list ds=>.ow (ds.map .sh)|_=>.sh .non) (ds:=rs.map dI) (by
  intro d hd;obtain⟨r,_,rfl⟩:=mMq.mp hd;refine⟨[some (.sh (dI r))],?_⟩
  simp_arith [dI])
 have h1:rs.length<=rY:=by show _<=16777216;lia
 have e:(rs.map dI).map (λd=>match d with|D.list ds=>AV.ow (ds.map .sh)|_=>.sh .non)=rs.map aI:=by
  rw[mPq];refine mCq λr _=>?_
  show AV.ow ((r.map D.int).map .sh)=aI r;rw[mPq];rfl
 rw[e]at key
 simp_arith [ya,ER,dM,key,h1]
end K51
--ZQ3 --ZQ4 --ZQ5 --ZQ6 --ZQ8 --ZQ9
namespace K51
open PySem L2 Mr Z Xe Zl
end K51
--ZQ3 --ZQ4 --ZQ5 --ZQ6 --ZQ8 --ZQ9
namespace K51
open PySem L2 Mr Z Xe Zl
def kd(ks:List Nat):List (pQ×D):=ks.map λk:Nat=>((aM (k:Int):pQ),D.bl true)
def wd(ws:List Nat):List AV:=ws.map λk:Nat=>AV.sh (.int (k:Int))
theorem Jl(ks:List Nat) (t:Nat):(kd ks).any (λkv=>decide (kv.1=(aM (t:Int):pQ)))=decide (t∈ks):=by
 induction ks with
 |nil=>simp[kd]
 |cons k ks ih =>
  unfold kd at ih ⊢;rw[ar,cg,ih]
  by_cases h:t=k
  .subst h;simp
  .have h':¬ (aM (k:Int):pQ)=aM (t:Int):=λq=>h (by have:=aM.inj q;lia)
   simp[h',h]
theorem O5(ks:List Nat) (t:Nat):(getD (kd ks) (aM (t:Int))).isSome=decide (t∈ks):=by
 unfold getD;rw[fZ,←Jl,bQ,jK,df]
theorem N3{ks:List Nat}{t:Nat}(h:t∉ks):yC (kd ks) (aM (t:Int)) (.bl true)=kd (ks++[t]):=by
 unfold yC;rw[Jl,decide_eq_false h,pV (by simp)]
 simp[kd]
theorem Jh{kvs:List (pQ×D)}{ks ws:List Nat}{e:Int}{t:Nat}{v0 v1 v5 v7:Option AV}(hg:getD kvs (aM (-e))=some (.int (t:Int))) (hk:ks.length<500000) (hw:ws.length<500000) :
  ui [v0,v1,some (.owd kvs),some (.owd (kd ks)),some (.ow (wd ws)),v5,some (.sh (.int e)),v7]=some (.nx [v0,v1,some (.owd kvs),some (.owd (kd (if t∈ks then ks else ks++[t]))),some (.ow (wd (if t∈ks then ws else ws++[t]))),v5,some (.sh (.int e)),some (.sh (.int (t:Int)))]):=by
 have l1:(kd ks).length<rY:=by unfold kd;rw[lMq];show _<16777216;lia
 have l2:(wd ws).length<rY:=by unfold wd;rw[lMq];show _<16777216;lia
 have hg2:=O5 ks t
 by_cases h:t∈ks
 .rw [decide_eq_true h]at hg2
  simp_arith [ui,hg,hg2,h]
 .rw [decide_eq_false h]at hg2;have hp:=N3 h;have hw2:wd ws++[.sh (.int (t:Int))]=wd (ws++[t]):=by simp[wd]
  simp_arith [ui,hg,hg2,h,hp,l1,l2,hw2]
def CD(pl:Int->Nat) (x:List Nat×List Nat) (e:Int):List Nat×List Nat:=if pl (-e)∈x.1 then x else (x.1++[pl (-e)],x.2++[pl (-e)])
theorem JO(pl:Int->Nat):∀(r:List Int) (x:List Nat×List Nat),(r.foldl (CD pl) x).1.length<=x.1.length+r.length/\(r.foldl (CD pl) x).2.length<=x.2.length+r.length
 | [],x=>⟨aj _,aj _⟩
 |e::r,x=>by
  obtain⟨h1,h2⟩:=JO pl r (CD pl x e);have h3:(CD pl x e).1.length<=x.1.length+1/\(CD pl x e).2.length<=x.2.length+1:=by
   unfold CD;split
   .exact ⟨cU _,cU _⟩
   .simp
  rw[cG,lCq];lia
theorem Lg{kvs:List (pQ×D)}{ks ws:List Nat}{r:List Int}{pl:Int->Nat}{v0 v1 v5 v6 v7:Option AV}(hg:∀e∈r,getD kvs (aM (-e))=some (.int (pl (-e):Int))) (hk:ks.length+r.length<500000) (hw:ws.length+r.length<500000) :
  ∃v6' v7',tF 6 ui (r.map D.int) [v0,v1,some (.owd kvs),some (.owd (kd ks)),some (.ow (wd ws)),v5,v6,v7]=some (.nx [v0,v1,some (.owd kvs),some (.owd (kd (r.foldl (CD pl) (ks,ws)).1)),some (.ow (wd (r.foldl (CD pl) (ks,ws)).2)),v5,v6',v7']):=by
 have key:=xq (x:=6) (body:=ui) (λi S=>∃v6' v7',S=[v0,v1,some (.owd kvs),some (.owd (kd ((r.take i).foldl (CD pl) (ks,ws)).1)),some (.ow (wd ((r.take i).foldl (CD pl) (ks,ws)).2)),v5,v6',v7']) (ds:=r.map D.int) (S:=[v0,v1,some (.owd kvs),some (.owd (kd ks)),some (.ow (wd ws)),v5,v6,v7])
  ⟨v6,v7,rfl⟩ (by
  rintro i d S hd ⟨v6',v7',rfl⟩;rw[gMq]at hd;obtain⟨e,he,rfl⟩:=oMq.mp hd;have hi:i<r.length:=(gSq.mp he).1;have hm:e∈r:=mGq he;obtain⟨n1,n2⟩:=JO pl (r.take i) (ks,ws);rw[lTq]at n1 n2;have n1':((r.take i).foldl (CD pl) (ks,ws)).1.length<=ks.length+min i r.length:=n1;have n2':((r.take i).foldl (CD pl) (ks,ws)).2.length<=ws.length+min i r.length:=n2;have step:=Jh (v0:=v0) (v1:=v1) (v5:=v5) (v7:=v7') (hg e hm) (ks:=((r.take i).foldl (CD pl) (ks,ws)).1) (ws:=((r.take i).foldl (CD pl) (ks,ws)).2) (by lia) (by lia)
  have et:(r.take (i+1)).foldl (CD pl) (ks,ws)=CD pl ((r.take i).foldl (CD pl) (ks,ws)) e:=by
   have:r[i]'hi=e:=by rw[gEg hi]at he;exact aD.inj he
   rw[eN hi,gm,this];rfl
  refine⟨_,step,some (.sh (.int e)),some (.sh (.int (pl (-e):Int))),?_⟩;rw[et];unfold CD;split <;> rfl)
 obtain⟨S',e,v6',v7',rfl⟩:=key;rw[lMq,bo]at e;exact⟨v6',v7',e⟩
end K51
--ZQ3 --ZQ4 --ZQ5 --ZQ6 --ZQ8 --ZQ9
namespace K51
open PySem L2 Mr Z Xe Zl
theorem Vc:∀(N:Nat) (l:List Nat),l.Nodup->(∀x∈l,x<N)->l.length<=N
 |0,l,_,h=>by
  cases l with
  |nil=>exact aj _
  |cons x l=>exact absurd (h x (af ..)) (dA _)
 |N+1,l,hn,h=>by
  have h2:=Vc N (l.erase N) (hn.erase N) (λx hx=>by
   have:=(hn.mem_erase_iff).mp hx;have:=h x this.2;lia)
  rw[List.length_erase]at h2;split at h2 <;> lia
def plc(rs:List (List Int)) (e:Int):Nat:=rs.findIdx λr=>decide (e∈r)
theorem same_place{rs:List (List Int)}(hn:rs.flatten.Nodup) {i j:Nat}{r s:List Int}{e:Int}(hi:rs[i]?=some r) (hj:rs[j]?=some s) (h1:e∈r) (h2:e∈s):i=j:=by
 have a:=yE 0 hn hi h1;have b:=yE 0 hn hj h2;rw[a]at b;have:=D.int.inj (aD.inj b);lia
theorem plc_eq{rs:List (List Int)}(hn:rs.flatten.Nodup) {i:Nat}{r:List Int}{e:Int}(hi:rs[i]?=some r) (h1:e∈r):plc rs e=i:=by
 have hl:rs.findIdx (λr=>decide (e∈r))<rs.length:=eK ⟨r,mGq hi,decide_eq_true h1⟩
 have h2:=gR (xs:=rs) (p:=λr=>decide (e∈r)) (w:=hl)
 exact same_place hn (gEg hl) hi (of_decide_eq_true h2) h1
structure Mp (rs:List (List Int)):Prop where
 hn:rs.flatten.Nodup
 hl:rs.flatten.length<=1000
 hr:rs.length<=1000
 hneg:∀e∈rs.flatten, -e∈rs.flatten
theorem Mp.at{rs:List (List Int)}(h:Mp rs) {e:Int}(he:e∈rs.flatten):∃r,rs[plc rs e]?=some r/\e∈r:=by
 obtain⟨r,h1,h2⟩:=mFq.mp he;obtain⟨i,h3⟩:=aC.mp h1;exact⟨r,by rw[plc_eq h.hn h3 h2];exact h3,h2⟩
theorem Mp.other{rs:List (List Int)}(h:Mp rs) {k:Nat}{r:List Int}{e:Int}(hk:rs[k]?=some r) (he:e∈r):-e∈rs.flatten:=h.hneg e (mFq.mpr ⟨r,mGq hk,he⟩)
theorem Mp.kv{rs:List (List Int)}(h:Mp rs) {e:Int}(he:e∈rs.flatten):getD (rn 0 rs) (aM e)=some (.int (plc rs e:Int)):=by
 obtain⟨r,h1,h2⟩:=h.at he;have:=yE 0 h.hn h1 h2
 rwa [cF]at this
theorem Mp.lt{rs:List (List Int)}(h:Mp rs) {e:Int}(he:e∈rs.flatten):plc rs e<rs.length:=by
 obtain⟨r,h1,_⟩:=h.at he;exact(gSq.mp h1).1
theorem Mp.row{rs:List (List Int)}(h:Mp rs) {k:Nat}{r:List Int}(hk:rs[k]?=some r):r.length<=1000:=by
 have:=iP.length_le (aO (mGq hk));have:=h.hl;lia
inductive sR (rs:List (List Int)) (s:Nat):Nat->Prop
 |base:sR rs s s
 |step {k:Nat}{r:List Int}{e:Int}:sR rs s k->rs[k]?=some r->e∈r->sR rs s (plc rs (-e))
theorem D0(pl:Int->Nat):∀(r:List Int) (ks ws:List Nat),∃a,r.foldl (CD pl) (ks,ws)=(ks++a,ws++a)/\(∀k∈a,∃e∈r,k=pl (-e))/\(∀e∈r,pl (-e)∈ks++a)/\(ks.Nodup->(ks++a).Nodup)
 | [],ks,ws=>⟨[],by simp,by simp,by simp,by simp⟩
 |e::r,ks,ws=>by
  rw[cG]
  by_cases h:pl (-e)∈ks
  .have e1:CD pl (ks,ws) e=(ks,ws):=by unfold CD;rw[qe h]
   rw[e1];obtain⟨a,h1,h2,h3,h4⟩:=D0 pl r ks ws;refine⟨a,h1,λk hk=>?_,λx hx=>?_,h4⟩
   .obtain ⟨x,hx,q⟩:=h2 k hk;exact⟨x,mCo _ hx,q⟩
   .rcases ae.mp hx with rfl|hx
    .exact mAq.mpr (.inl h)
    .exact h3 x hx
  .have e1:CD pl (ks,ws) e=(ks++[pl (-e)],ws++[pl (-e)]):=by unfold CD;rw[pV h]
   rw[e1];obtain⟨a,h1,h2,h3,h4⟩:=D0 pl r (ks++[pl (-e)]) (ws++[pl (-e)]);refine⟨pl (-e)::a,by rw[h1,ai,ai];rfl,λk hk=>?_,λx hx=>?_,λhn=>?_⟩
   .rcases ae.mp hk with rfl|hk
    .exact ⟨e,af ..,rfl⟩
    .obtain ⟨x,hx,q⟩:=h2 k hk;exact⟨x,mCo _ hx,q⟩
   .rcases ae.mp hx with rfl|hx
    .exact mAq.mpr (.inr (af ..))
    .have:=h3 x hx
     rwa [ai]at this
   .have:=h4 (by
     rw[nAq];exact⟨hn,by simp,λx hx y hy q=>h (by rw[mSq.mp hy]at q;rw[←q];exact hx)⟩)
    rwa [ai]at this
structure Inv (rs:List (List Int)) (s:Nat) (ks ws:List Nat):Prop where
 nd:ks.Nodup
 lt:∀k∈ks,k<rs.length
 st:s∈ks
 rc:∀k∈ks,sR rs s k
 sub:∀w∈ws,w∈ks
 cl:∀k∈ks,k∉ws->∀r e,rs[k]?=some r->e∈r->plc rs (-e)∈ks
 few:2*(rs.length-ks.length)+ws.length<=2*rs.length+1
theorem Inv.go{rs:List (List Int)}(hm:Mp rs) {s h:Nat}{ks ws:List Nat}{r:List Int}(hi:Inv rs s ks (ws++[h])) (hr:rs[h]?=some r):∃a,r.foldl (CD (plc rs)) (ks,ws)=(ks++a,ws++a)/\Inv rs s (ks++a) (ws++a)/\2*(rs.length-(ks++a).length)+(ws++a).length<2*(rs.length-ks.length)+(ws++[h]).length:=by
 obtain⟨a,h1,h2,h3,h4⟩:=D0 (plc rs) r ks ws;have hh:h∈ks:=hi.sub h (by simp)
 have nd:=h4 hi.nd;have lt:∀k∈ks++a,k<rs.length:=by
  intro k hk;rcases mAq.mp hk with q|q
  .exact hi.lt k q
  .obtain ⟨e,he,rfl⟩:=h2 k q;exact hm.lt (hm.other hr he)
 have pl:=Vc _ _ nd lt;have p0:=hi.few;rw[lAq]at pl;rw[lAq,lSq]at p0;have key:2*(rs.length-(ks++a).length)+(ws++a).length<2*(rs.length-ks.length)+(ws++[h]).length:=by
  rw[lAq,lAq,lAq,lSq];lia
 refine⟨a,h1,⟨nd,lt,mAq.mpr (.inl hi.st),λk hk=>?_,λw hw=>?_,λk hk hw=>?_,?_⟩,key⟩
 .rcases mAq.mp hk with q|q
  .exact hi.rc k q
  .obtain ⟨e,he,rfl⟩:=h2 k q;exact .step (hi.rc h hh) hr he
 .rcases mAq.mp hw with q|q
  .exact mAq.mpr (.inl (hi.sub w (mAq.mpr (.inl q))))
  .exact mAq.mpr (.inr q)
 .intro r' e hr' he;have k1:k∈ks:=(mAq.mp hk).resolve_right λq=>hw (mAq.mpr (.inr q))
  by_cases q:k=h
  .subst q;rw[hr]at hr';cases hr';exact h3 e he
  .exact mAq.mpr (.inl (hi.cl k k1 (λz=>by
    rcases mAq.mp z with z|z
    .exact hw (mAq.mpr (.inl z))
    .exact q (mSq.mp z)) r' e hr' he))
 .rw [lAq,lAq]at key ⊢;rw[lAq,lSq]at key;lia
def mu(N:Nat):AS->Nat
 | [_,_,_,some (.owd kv),some (.ow w),_,_,_]=>2*(N-kv.length)+w.length
 |_=>0
theorem IX{rs:List (List Int)}(hm:Mp rs) {s:Nat}(hs:s<rs.length):∃S',uq (uS (qG Ij (uO tH (oZ (pd 4) pO)) (rC (.int 0)))) wy 100000 [some (.sh (dM rs)),some (.sh (.int (s:Int))),some (.owd (rn 0 rs)),some (.owd (kd [s])),some (.ow (wd [s])),none,none,none]=some (.nx S') /\
  ∃ks v5 v6 v7,S'=[some (.sh (dM rs)),some (.sh (.int (s:Int))),some (.owd (rn 0 rs)),some (.owd (kd ks)),some (.ow (wd [])),v5,v6,v7]/\Inv rs s ks []:=by
 have h1000:=hm.hr;refine zh (c:=uS (qG Ij (uO tH (oZ (pd 4) pO)) (rC (.int 0)))) (body:=wy) (λS=>∃ks ws v5 v6 v7,S=[some (.sh (dM rs)),some (.sh (.int (s:Int))),some (.owd (rn 0 rs)),some (.owd (kd ks)),some (.ow (wd ws)),v5,v6,v7]/\Inv rs s ks ws) (mu rs.length) (λS'=>∃ks v5 v6 v7,S'=[some (.sh (dM rs)),some (.sh (.int (s:Int))),some (.owd (rn 0 rs)),some (.owd (kd ks)),some (.ow (wd [])),v5,v6,v7]/\Inv rs s ks []) ?_ 100000 _ ⟨[s],[s],none,none,none,rfl,?_⟩ ?_
 .rintro S ⟨ks,ws,v5,v6,v7,rfl,hi⟩;rcases fh ws with rfl|⟨ws,h,rfl⟩
  .refine ⟨false,_,?_,λq=>(nomatch q),λ_=>⟨ks,v5,v6,v7,rfl,hi⟩⟩
   simp_arith [wd]
   rfl
  .rw [fi]at hi ⊢;have hlt:h<rs.length:=hi.lt h (hi.sub h (by simp))
   have hr:rs[h]?=some rs[h]:=gEg hlt;obtain⟨a,e1,hi2,mlt⟩:=hi.go hm hr;have few:=hi.few;have kl:=Vc _ _ hi.nd hi.lt;have rl:=hm.row hr;rw[lAq,lSq]at few;obtain⟨v6',v7',e2⟩:=Lg (kvs:=rn 0 rs) (ks:=ks) (ws:=ws) (r:=rs[h]) (pl:=plc rs) (v0:=some (.sh (dM rs))) (v1:=some (.sh (.int (s:Int)))) (v5:=some (.sh (.int (h:Int)))) (v6:=v6) (v7:=v7) (λe he=>hm.kv (hm.other hr he)) (by lia) (by lia)
   rw[e1]at e2;have hw:wd (ws++[h])=wd ws++[.sh (.int (h:Int))]:=by simp[wd]
   have wl:(wd ws).length=ws.length:=by simp[wd]
   have c1:(0:Int)<((wd ws++[AV.sh (.int (h:Int))]).length:Int):=by
    rw[lAq,lSq];lia
   have p1:(wd ws++[AV.sh (.int (h:Int))])[(wd ws++[AV.sh (.int (h:Int))]).length-1]?=some (.sh (.int (h:Int))):=by
    rw[lAq,lSq,gYq (by lia)]
    simp
   have p2:(wd ws++[AV.sh (.int (h:Int))]).dropLast=wd ws:=dw;have at1:atI (rs.map dI) (h:Int)=some (dI rs[h]):=vL (by rw[gMq,hr];rfl)
   refine⟨true,[some (.sh (dM rs)),some (.sh (.int (s:Int))),some (.owd (rn 0 rs)),some (.owd (kd ks)),some (.ow (wd ws++[.sh (.int (h:Int))])),v5,v6,v7],?_,λ_=>⟨[some (.sh (dM rs)),some (.sh (.int (s:Int))),some (.owd (rn 0 rs)),some (.owd (kd (ks++a))),some (.ow (wd (ws++a))),some (.sh (.int (h:Int))),v6',v7'],?_,⟨_,_,_,_,_,rfl,hi2⟩,?_⟩,λq=>(nomatch q)⟩
   .simp_arith [hw,c1]
   .simp_arith [wy,p1,p2,dM,at1,e2]
   .show 2*(rs.length-(kd (ks++a)).length)+(wd (ws++a)).length<2*(rs.length-(kd ks).length)+(wd (ws++[h])).length;unfold kd wd;rw[lMq,lMq,lMq,lMq];exact mlt
 .refine ⟨by simp,?_,by simp,?_,λw h=>h,?_,?_⟩
  .intro k hk;rw[mSq.mp hk];exact hs
  .intro k hk;rw[mSq.mp hk];exact .base
  .intro k hk hn;exact absurd hk hn
  .simp only [lSq];lia
 .show 2*(rs.length-(kd [s]).length)+(wd [s]).length<100000;simp only[kd,wd,lMq,lSq];lia
theorem Iw{rs:List (List Int)}(hm:Mp rs) {s:Nat}(hs:s<rs.length):∃ks,Inv rs s ks []/\vF [dM rs,.int (s:Int)]=some (aI (rO (ks.map λk:Nat=>(k:Int)))):=by
 obtain⟨S',e,ks,v5,v6,v7,rfl,hi⟩:=IX hm hs;have hl:=hm.hl;have pa:=Bc hm.hn (by lia)
 have e1:[((aM (s:Int):pQ),D.bl true)]=kd [s]:=rfl;have e2:[AV.sh (.int (s:Int))]=wd [s]:=rfl;have e3:Am (kd ks)=some (ks.map λk:Nat=>(k:Int)):=Ez (λk:Nat=>(k:Int)) (λ_=>D.bl true) ks
 have l1:(wd [s]).length<=rY:=by show 1<=16777216;decide
 refine⟨ks,hi,?_⟩
 simp_arith [vF,C6,pa,e1,e2,e,e3,l1]
end K51
--ZQ3 --ZQ4 --ZQ5 --ZQ6 --ZQ8 --ZQ9
namespace K51
open PySem L2 Mr Z Xe Zl
theorem RA(ks:List Nat):∃ps:List Nat,ps.Perm ks/\ps.Pairwise (·<=·)/\rO (ks.map λk:Nat=>(k:Int))=ps.map λk:Nat=>(k:Int):=by
 have hp:=rp (ks.map λk:Nat=>(k:Int))
 have hs:=vQ (ks.map λk:Nat=>(k:Int))
 have hc:(rO (ks.map λk:Nat=>(k:Int)))=((rO (ks.map λk:Nat=>(k:Int))).map jd).map λk:Nat=>(k:Int):=by
  rw[mPq]
  conv=>lhs;rw[←dF (rO (ks.map λk:Nat=>(k:Int)))]
  refine mCq λz hz=>?_
  obtain⟨k,_,rfl⟩:=mMq.mp (hp.mem_iff.mp hz);rfl
 refine⟨(rO (ks.map λk:Nat=>(k:Int))).map jd,?_,?_,hc⟩
 .have:=hp.map jd;rw[mPq]at this;have e:ks.map (jd∘λk:Nat=>(k:Int))=ks:=by
   conv=>rhs;rw[←dF ks]
   refine mCq λk _=>?_
   show jd (k:Int)=k;exact eJ k
  rwa [e]at this
 .rw [bb];refine aZ.imp (λh=>?_) hs
  lia
structure Pc (rs:List (List Int)) (s:Nat) (ps:List Nat):Prop where
 nd:ps.Nodup
 so:ps.Pairwise (·<=·)
 lt:∀k∈ps,k<rs.length
 iff:∀k,k∈ps↔sR rs s k
theorem DS{rs:List (List Int)}(hm:Mp rs) {s:Nat}(hs:s<rs.length):∃ps,Pc rs s ps/\vF [dM rs,.int (s:Int)]=some (aI (ps.map λk:Nat=>(k:Int))):=by
 obtain⟨ks,hi,e⟩:=Iw hm hs;obtain⟨ps,h1,h2,h3⟩:=RA ks;rw[h3]at e;refine⟨ps,⟨h1.symm.nodup hi.nd,h2,λk hk=>hi.lt k (h1.mem_iff.mp hk),λk=>⟨λhk=>hi.rc k (h1.mem_iff.mp hk),λhk=>h1.mem_iff.mpr ?_⟩⟩,e⟩
 induction hk with
 |base=>exact hi.st
 |step _ a b c=>exact hi.cl _ c (iJ) _ _ a b
def addN(kn:List Nat) (t:Nat):List Nat:=if t∈kn then kn else kn++[t]
theorem QG(ks:List Nat) (t:Nat):yC (kd ks) (aM (t:Int)) (.bl true)=kd (addN ks t):=by
 unfold addN
 by_cases h:t∈ks
 .rw [qe h];unfold yC;rw[Jl,decide_eq_true h,qe rfl];unfold kd;rw[mPq];refine mCq λk _=>?_
  show (if _ then _ else _)=_
  split <;> rfl
 .rw [pV h];exact N3 h
theorem Qj(kn:List Nat) (t:Nat):(addN kn t).length<=kn.length+1:=by
 unfold addN;split
 .lia
 .simp
theorem Ht:∀(ps kn:List Nat),(ps.foldl addN kn).length<=kn.length+ps.length
 | [],kn=>aj _
 |p::ps,kn=>by
  have h1:=Ht ps (addN kn p);have h2:=Qj kn p;rw[cG,lCq];lia
theorem PU{kn:List Nat}{t k:Nat}:k∈addN kn t↔k∈kn∨k=t:=by
 unfold addN;split
 .rename_i h;exact⟨.inl,λq=>q.elim id λq=>q ▸ h⟩
 .simp
theorem wN:∀{ps kn:List Nat}{k:Nat},k∈ps.foldl addN kn↔k∈kn∨k∈ps
 | [],kn,k=>by simp
 |p::ps,kn,k=>by
  rw[cG,wN,PU,ae,or_assoc]
theorem Rv{kn:List Nat}{t:Nat}(h:kn.Nodup):(addN kn t).Nodup:=by
 unfold addN;split
 .exact h
 .rename_i q;rw[nAq];exact⟨h,by simp,λx hx y hy z=>q (by rw[mSq.mp hy]at z;rw[←z];exact hx)⟩
theorem JQ:∀{ps kn:List Nat},kn.Nodup->(ps.foldl addN kn).Nodup
 | [],kn,h=>h
 |p::ps,kn,h=>by
  rw[cG];exact JQ (Rv h)
theorem LC{ps kn:List Nat}{v0 v2 v3 v4 v5:Option AV}(hk:kn.length+ps.length<500000):∃v5',tF 5 xo ((ps.map λk:Nat=>(k:Int)).map D.int) [v0,some (.owd (kd kn)),v2,v3,v4,v5]=some (.nx [v0,some (.owd (kd (ps.foldl addN kn))),v2,v3,v4,v5']):=by
 have key:=xq (x:=5) (body:=xo) (λi S=>∃v5',S=[v0,some (.owd (kd ((ps.take i).foldl addN kn))),v2,v3,v4,v5']) (ds:=(ps.map λk:Nat=>(k:Int)).map D.int) (S:=[v0,some (.owd (kd kn)),v2,v3,v4,v5]) ⟨v5,rfl⟩ (by
  rintro i d S hd ⟨v5',rfl⟩;rw[gMq,gMq]at hd;obtain⟨z,hz,rfl⟩:=oMq.mp hd;obtain⟨k,hk',rfl⟩:=oMq.mp hz;have hi:i<ps.length:=(gSq.mp hk').1;have n1:=Ht (ps.take i) kn;rw[lTq]at n1;have l1:(kd ((ps.take i).foldl addN kn)).length<rY:=by unfold kd;rw[lMq];show _<16777216;lia
  have et:(ps.take (i+1)).foldl addN kn=addN ((ps.take i).foldl addN kn) k:=by
   have:ps[i]'hi=k:=by rw[gEg hi]at hk';exact aD.inj hk'
   rw[eN hi,gm,this];rfl
  have hp:=QG ((ps.take i).foldl addN kn) k;rw[←et]at hp;refine⟨_,?_,some (.sh (.int (k:Int))),rfl⟩
  simp_arith [xo,l1,hp])
 obtain⟨S',e,v5',rfl⟩:=key;rw[lMq,lMq,bo]at e;exact⟨v5',e⟩
theorem Jx{rs:List (List Int)}{ps:List Nat}(h:∀k∈ps,k<rs.length):rF rG (Cd (lOf (NT (vd 1) (pd 0)))) [some (.sh (dM rs))] ((ps.map λk:Nat=>(k:Int)).map D.int)=some (ps.map λk=>aI (rs.getD k [])):=by
 have key:=rP (te:=Cd (lOf (NT (vd 1) (pd 0)))) (cap:=[some (.sh (dM rs))]) (λd=>match d with|.int k=>aI (rs.getD k.toNat [])|_=>.sh .non) (ds:=(ps.map λk:Nat=>(k:Int)).map D.int) (by
  intro d hd;rw[mPq]at hd;obtain⟨k,hk,rfl⟩:=mMq.mp hd;have at1:=WI (h k hk);refine⟨[some (.sh (.int (k:Int))),some (.sh (dM rs))],?_⟩
  simp_arith [dM,at1,Function.comp,eJ,dI,aI,mPq]
  rfl)
 rw[key,mPq,mPq];rfl
def pA(rs:List (List Int)) (ps:List Nat):AV:=.ow (ps.map λk=>aI (rs.getD k []))
theorem sR.trans{rs:List (List Int)}{a b c:Nat}(h:sR rs a b) (h2:sR rs b c):sR rs a c:=by
 induction h2 with
 |base=>exact h
 |step _ p q r=>exact .step r p q
theorem sR.symm{rs:List (List Int)}(hm:Mp rs) {a b:Nat}(h:sR rs a b):sR rs b a:=by
 induction h with
 |base=>exact .base
 | @step k r e _ p q ih =>
  obtain⟨r',h1,h2⟩:=hm.at (hm.other p q);have:=sR.step (s:=plc rs (-e)) .base h1 h2;rw[bj,plc_eq hm.hn p q]at this;exact this.trans ih
structure Ps (rs:List (List Int)) (i:Nat) (kn:List Nat) (PS:List (List Nat)):Prop where
 sub:∀ps∈PS,∀k∈ps,k∈kn
 dj:PS.Pairwise λa b=>∀k∈a,k∉b
 pc:∀ps∈PS,∃s,s<rs.length/\Pc rs s ps
 all:∀k,k<i->k∈kn
 mem:∀k,k∈kn->∃ps∈PS,k∈ps
 nd:kn.Nodup
 lt:∀k∈kn,k<rs.length
 len:PS.length<=i
theorem pieces_ok{rs:List (List Int)}(hm:Mp rs):∃kn PS,Ps rs rs.length kn PS/\Hn [dM rs]=some (.ow (PS.map (pA rs))):=by
 have h1000:=hm.hr;have key:=xq (x:=3) (body:=xn) (λi S=>∃kn PS v3 v4 v5,S=[some (.sh (dM rs)),some (.owd (kd kn)),some (.ow (PS.map (pA rs))),v3,v4,v5]/\Ps rs i kn PS) (ds:=rL 0 rs.length) (S:=[some (.sh (dM rs)),some (.owd []),some (.ow []),none,none,none])
  ⟨[],[],none,none,none,rfl,⟨by simp,by simp,by simp,by simp,by simp,by simp,by simp,by simp⟩⟩ (by
  rintro i d S hd ⟨kn,PS,v3,v4,v5,rfl,hp⟩;have hi:i<rs.length:=by
   have:=(gSq.mp hd).1
   rwa [tm]at this
  rw[AB hi,jF]at hd;cases hd;have hg:=O5 kn i
  by_cases c:i∈kn
  .rw [decide_eq_true c]at hg;refine⟨[some (.sh (dM rs)),some (.owd (kd kn)),some (.ow (PS.map (pA rs))),some (.sh (.int (i:Int))),v4,v5],?_,kn,PS,_,_,_,rfl,hp.sub,hp.dj,hp.pc,?_,hp.mem,hp.nd,hp.lt,?_⟩
   .simp_arith [xn,hg]
   .intro k hk;rcases eP.mp hk with q|rfl
    .exact hp.all k q
    .exact c
   .have:=hp.len;lia
  .rw [decide_eq_false c]at hg;obtain⟨ps,h1,e1⟩:=DS hm hi;have p1:=Vc _ _ hp.nd hp.lt;have p2:=Vc _ _ h1.nd h1.lt;have p3:=hp.len;have l2:ps.length<=rY:=by show _<=16777216;lia
   have l3:PS.length<rY:=by show _<16777216;lia
   obtain⟨v5',e2⟩:=LC (ps:=ps) (kn:=kn) (v0:=some (.sh (dM rs))) (v2:=some (.ow (PS.map (pA rs)))) (v3:=some (.sh (.int (i:Int)))) (v4:=some (.sh (dI (ps.map λk:Nat=>(k:Int))))) (v5:=v5) (by lia)
   have e3:=Jx h1.lt;refine⟨[some (.sh (dM rs)),some (.owd (kd (ps.foldl addN kn))),some (.ow ((PS++[ps]).map (pA rs))),some (.sh (.int (i:Int))),some (.sh (dI (ps.map λk:Nat=>(k:Int)))),v5'],?_,ps.foldl addN kn,PS++[ps],_,_,_,rfl,?_,?_,?_,?_,?_,JQ hp.nd,?_,?_⟩
   .simp_arith [xn,hg,e1,e2,e3,l2,l3,mBq,pA]
   .intro qs hq k hk;rcases mAq.mp hq with q|q
    .exact wN.mpr (.inl (hp.sub qs q k hk))
    .rw [mSq.mp q]at hk;exact wN.mpr (.inr hk)
   .rw [aN];refine⟨hp.dj,List.pairwise_singleton ..,λqs hq b hb k hk hk2=>c ?_⟩
    rw[mSq.mp hb]at hk2;obtain⟨s,hs,hc⟩:=hp.pc qs hq;exact hp.sub qs hq i ((hc.iff i).mpr (((hc.iff k).mp hk).trans (((h1.iff k).mp hk2).symm hm)))
   .intro qs hq;rcases mAq.mp hq with q|q
    .exact hp.pc qs q
    .rw [mSq.mp q];exact⟨i,hi,h1⟩
   .intro k hk;rcases eP.mp hk with q|rfl
    .exact wN.mpr (.inl (hp.all k q))
    .exact wN.mpr (.inr ((h1.iff k).mpr .base))
   .intro k hk;rcases wN.mp hk with q|q
    .obtain ⟨qs,a,b⟩:=hp.mem k q;exact⟨qs,mAq.mpr (.inl a),b⟩
    .exact ⟨ps,mAq.mpr (.inr (mSq.mpr rfl)),q⟩
   .intro k hk;rcases wN.mp hk with q|q
    .exact hp.lt k q
    .exact h1.lt k q
   .rw [lAq,lSq];lia)
 obtain⟨S',e,kn,PS,v3,v4,v5,rfl,hp⟩:=key;rw[tm]at hp;have r1:=Cv (n:=rs.length) (by lia)
 refine⟨kn,PS,hp,?_⟩
 simp_arith [Hn,EE,dM,r1,e]
end K51
--ZQ3 --ZQ4 --ZQ5 --ZQ6 --ZQ8 --ZQ9
namespace K51
open PySem L2 Mr Z Xe Zl
def rot(r:List Int):List Int:=r.drop 1++r.take 1
def sJ(r:List Int):List (pQ×Int):=(r.zip (rot r)).map λp=>(.inl p.1,p.2)
def qE(rs:List (List Int)):List (pQ×Int):=(rs.map sJ).flatten
def yl(ps:List (pQ×Int)):List (pQ×D):=ps.map λp=>(p.1,D.int p.2)
theorem Gb(r:List Int):(rot r).length=r.length:=by
 unfold rot;rw[lAq,aJ,lTq];lia
theorem rot_perm(r:List Int):(rot r).Perm r:=by
 unfold rot;refine aF.trans ?_;rw[aY]
theorem zJ(r:List Int):(sJ r).length=r.length:=by
 unfold sJ;rw[lMq,List.length_zip,Gb,jG]
theorem A8(r:List Int):(sJ r).map (·.1)=r.map aM:=by
 unfold sJ;rw[mPq];have:r.map aM=((r.zip (rot r)).map Prod.fst).map (aM:Int->pQ):=by rw[List.map_fst_zip (by rw[Gb];exact aj _)]
 rw[this,mPq];rfl
theorem FL(r:List Int):(sJ r).map (·.2)=rot r:=by
 unfold sJ;rw[mPq];have:rot r=(r.zip (rot r)).map Prod.snd:=by rw[List.map_snd_zip (by rw[Gb];exact aj _)]
 exact this.symm
theorem vD:∀(rs:List (List Int)),(qE rs).map (·.1)=rs.flatten.map aM
 | []=>rfl
 |r::rs=>by
  show (sJ r++qE rs).map (·.1)=_;rw[mBq,A8,vD rs,fCq,mBq]
theorem Aq:∀(rs:List (List Int)),((qE rs).map (·.2)).Perm rs.flatten
 | []=>.nil
 |r::rs=>by
  show ((sJ r++qE rs).map (·.2)).Perm _;rw[mBq,FL,fCq];exact(rot_perm r).append (Aq rs)
theorem Mb(rs:List (List Int)):(qE rs).length=rs.flatten.length:=by
 have:=congrArg bV (vD rs)
 rwa [lMq,lMq]at this
theorem Jk(rs:List (List Int)) (r:List Int):qE (rs++[r])=qE rs++sJ r:=by
 unfold qE;rw[mBq,fAq];simp
theorem QU(ps:List (pQ×Int)):(yl ps).length=ps.length:=lMq _
theorem Sf(a b:List (pQ×Int)):yl (a++b)=yl a++yl b:=mBq
theorem PV(ps:List (pQ×Int)):(yl ps).map (·.1)=ps.map (·.1):=by
 unfold yl;rw[mPq];rfl
theorem DP{r:List Int}{j:Nat}{z y:Int}(h:r[j]?=some z) (h2:(rot r)[j]?=some y):(sJ r)[j]?=some (.inl z,y):=by
 unfold sJ;rw[gMq,iz (z:=(z,y)).mpr ⟨h,h2⟩];rfl
theorem OS{rs:List (List Int)}{i j:Nat}{r:List Int}{z y:Int}(hn:rs.flatten.Nodup) (hr:rs[i]?=some r) (hz:r[j]?=some z) (hy:(rot r)[j]?=some y) :
  yC (yl (qE (rs.take i)++(sJ r).take j)) (.inl z) (.int y)=yl (qE (rs.take i)++(sJ r).take (j+1)):=by
 have hfl:=vn hr;have hnd:((rs.take i).flatten++r).Nodup:=by
  rw[←hfl];have e0:rs.flatten=(rs.take (i+1)).flatten++(rs.drop (i+1)).flatten:=by rw[←fAq,aY]
  rw[e0]at hn;exact(nAq.mp hn).1
 rw[DZ]
 .rw [um (DP hz hy),←ai,Sf (_++_) [_]];rfl
 .rw [PV,mBq,vD,jq,A8,←jq];intro m;rcases mAq.mp m with m|m
  .obtain ⟨x,hx,e2⟩:=mMq.mp m;cases e2;exact(nAq.mp hnd).2.2 _ hx _ (mGq hz) rfl
  .obtain ⟨x,hx,e2⟩:=mMq.mp m;cases e2;have:=aZ.sublist (bG (j+1) r) (nAq.mp hnd).2.1;rw[um hz]at this;exact(nAq.mp this).2.2 _ hx _ (by simp) rfl
theorem LJ{rs:List (List Int)}{i j:Nat}{r:List Int}(hl:rs.flatten.length<=1000) (hr:rs[i]?=some r):(yl (qE (rs.take i)++(sJ r).take j)).length<rY:=by
 refine OB ?_;have h1:=yS rs (i+1);rw[vn hr,lAq]at h1;rw[QU,lAq,Mb,lTq,zJ];lia
end K51
--ZQ3 --ZQ4 --ZQ5 --ZQ6 --ZQ8 --ZQ9 --ZQB --ZQC --ZQD --ZQE --ZQF
namespace K15
open PySem L2 Mr Z Xe Zl
theorem AQ{ps:List (pQ×Int)}{k:pQ}{n:Int}(hn:(ps.map (·.1)).Nodup) (h:(k,n)∈ps):Z.getD (K51.yl ps) k=some (.int n):=by
 induction ps with
 |nil=>cases h
 |cons p ps ih =>
  rw[ar,aq]at hn;unfold Z.getD;show (((p.1,D.int p.2)::K51.yl ps).find? _).map _=_;rcases ae.mp h with e|e
  .rw [←e,ff (by simp)]
   rfl
  .rw [dX (by
    intro z;have z':p.1=k:=by simpa using z
    exact hn.1 (by rw[z'];exact mMq.mpr ⟨_,e,rfl⟩))]
   exact ih hn.2 e
theorem Qd{ps:List (pQ×Int)}{k k':pQ}{n:Int}(hn:(ps.map (·.2)).Nodup) (h:(k,n)∈ps) (h':(k',n)∈ps):k=k':=by
 induction ps with
 |nil=>cases h
 |cons p ps ih =>
  rw[ar,aq]at hn;rcases ae.mp h with e|e
  .rcases ae.mp h' with e'|e'
   .rw [←e]at e';exact(congrArg Prod.fst e').symm
   .exact absurd (mMq.mpr ⟨_,e',by rw[←e]⟩) hn.1
  .rcases ae.mp h' with e'|e'
   .exact absurd (mMq.mpr ⟨_,e,by rw[←e']⟩) hn.1
   .exact ih hn.2 e e'
def nx(rs:List (List Int)) (e:Int):Int:=match Z.getD (K51.yl (K51.qE rs)) (.inl e) with
 |some (.int n)=>n
 |_=>0
def fw(rs:List (List Int)) (e:Int):Int:=nx rs (-e)
section
variable {rs:List (List Int)}
theorem FA(hn:rs.flatten.Nodup):((K51.qE rs).map (·.1)).Nodup:=by
 rw[K51.vD,aQ,bb];exact aZ.imp (λh e=>h (aM.inj e)) (aQ.mp hn)
theorem CI(hn:rs.flatten.Nodup) {e:Int}(he:e∈rs.flatten):(aM e,nx rs e)∈K51.qE rs:=by
 have hk:(aM e:pQ)∈(K51.qE rs).map (·.1):=by rw[K51.vD];exact mMq.mpr ⟨e,he,rfl⟩
 obtain⟨⟨k,n⟩,hp,rfl⟩:=mMq.mp hk;have:=AQ (FA hn) hp;unfold nx;rw[this];exact hp
theorem PQ(hn:rs.flatten.Nodup) {e:Int}(he:e∈rs.flatten):Z.getD (K51.yl (K51.qE rs)) (.inl e)=some (.int (nx rs e)):=AQ (FA hn) (CI hn he)
theorem By(hn:rs.flatten.Nodup) {e:Int}(he:e∈rs.flatten):nx rs e∈rs.flatten:=(K51.Aq rs).mem_iff.mp (mMq.mpr ⟨_,CI hn he,rfl⟩)
theorem Iu(hn:rs.flatten.Nodup) {a b:Int}(ha:a∈rs.flatten) (hb:b∈rs.flatten) (h:nx rs a=nx rs b):a=b:=by
 have h1:=CI hn ha;have h2:=CI hn hb;rw[h]at h1;exact aM.inj (Qd ((K51.Aq rs).symm.nodup hn) h1 h2)
theorem xf(hm:Mp rs):KP (fw rs) rs.flatten:=⟨hm.hn,λe he=>By hm.hn (hm.hneg e he),λa ha b hb h=>by
 have:=Iu hm.hn (hm.hneg a ha) (hm.hneg b hb) h;lia⟩
theorem SE(rs:List (List Int)):(K51.yl (K51.qE rs)).map (λp=>kD p.1)=rs.flatten.map D.int:=by
 have:(K51.yl (K51.qE rs)).map (λp=>kD p.1)=((K51.qE rs).map (·.1)).map kD:=by
  unfold K51.yl;rw[mPq,mPq];rfl
 rw[this,K51.vD,mPq];rfl
def mu(N:Nat):AS->Nat
 | [_,_,some (.ow l),_]=>N+1-l.length
 |_=>0
end
end K15
--ZQ3 --ZQ4 --ZQ5 --ZQ6 --ZQ8 --ZQ9 --ZQB --ZQC --ZQD --ZQE --ZQF
namespace K15
open PySem L2 Mr Z Xe Zl
def kI(ks:List Int):List (pQ×D):=ks.map λk=>((aM k:pQ),D.bl true)
section
variable {rs:List (List Int)}
structure Rd (f:Int->Int) (E:List Int) (kn:List Int) (L:List (List Int)):Prop where
 cy:∀l∈L,∃e,Cy f e l
 fl:L.flatten=kn
 nd:kn.Nodup
 sub:∀x∈kn,x∈E
 cl:∀x∈kn,f x∈kn
theorem Rd.itr{f:Int->Int}{E kn:List Int}{L:List (List Int)}(h:Rd f E kn L) {x:Int}(hx:x∈kn):∀n,itr f n x∈kn
 |0=>hx
 |n+1=>h.cl _ (h.itr hx n)
theorem Rd.out{f:Int->Int}{E kn:List Int}{L:List (List Int)}(h:Rd f E kn L) {e:Int}{l:List Int}(c:Cy f e l) (he:e∉kn):∀x∈l,x∉kn:=by
 intro x hx hk;obtain⟨j,hj⟩:=aC.mp hx;have hlt:=(gSq.mp hj).1;rw[c.at hlt]at hj;have e1:=aD.inj hj;subst e1;have:=h.itr hk (l.length-j);rw[←yz,show l.length-j+j=l.length by lia,c.back]at this
 exact he this
theorem Rd.add{f:Int->Int}{E kn:List Int}{L:List (List Int)}(hf:KP f E) (h:Rd f E kn L) {e:Int}{l:List Int}(c:Cy f e l) (heE:e∈E) (he:e∉kn):Rd f E (kn++l) (L++[l]):=by
 have ho:=h.out c he;refine⟨λm hm=>?_,by rw[fAq,h.fl,bO],?_,λx hx=>?_,λx hx=>?_⟩
 .rcases mAq.mp hm with q|q
  .exact h.cy m q
  .rw [mSq.mp q];exact⟨e,c⟩
 .rw [nAq];exact⟨h.nd,c.nd,λa ha b hb q=>ho b hb (q ▸ ha)⟩
 .rcases mAq.mp hx with q|q
  .exact h.sub x q
  .rw [c.get]at q;obtain⟨n,_,rfl⟩:=mMq.mp q;exact hf.itr_mem heE n
 .rcases mAq.mp hx with q|q
  .exact mAq.mpr (.inl (h.cl x q))
  .refine mAq.mpr (.inr ?_);obtain⟨j,hj⟩:=aC.mp q;have hlt:=(gSq.mp hj).1;rw[c.at hlt]at hj;rw[←aD.inj hj];show Zl.itr f (j+1) e∈l
   by_cases hj2:j+1<l.length
   .exact mGq (c.at hj2)
   .rw [show j+1=l.length by lia,c.back]
    exact c.self
theorem Rd.orb{f:Int->Int}{E kn:List Int}{L:List (List Int)}(h:Rd f E kn L) (hall:∀x∈E,x∈kn):Ee f E L:=⟨h.cy,by rw[h.fl];exact h.nd,λx=>by rw[h.fl];exact⟨h.sub x,hall x⟩⟩
def YI(rs:List (List Int)):List (List Int):=(rs.filter λr=>decide (r=[])).map λ_=>[]
end
end K15
--ZQ3 --ZQ4 --ZQ5 --ZQ8
namespace K13
open PySem L2 Mr Z Xe Zl
end K13
--ZQ3 --ZQ4 --ZQ5 --ZQ6 --ZQ8 --ZQ9 --ZQB --ZQC --ZQD --ZQE --ZQF
namespace K15
open PySem L2 Mr Z Xe Zl
section
variable {rs:List (List Int)}
theorem Oa{r:List Int}{j:Nat}(hj:j<r.length):(K51.rot r)[j]?=r[(j+1) % r.length]?:=by
 unfold K51.rot
 by_cases h:j+1<r.length
 .rw [gL h,gZq (by rw[aJ];lia),cI,fo]
 .have e:j+1=r.length:=by lia
  rw[e,iS,gYq (by rw[aJ];lia),aJ,eO (by lia)]
  congr 1;lia
theorem EB(hm:Mp rs):yi [dM rs]=some (.owd (K51.yl (K51.qE rs))):=by
 have hn:=hm.hn;have hl:=hm.hl;have key:=xq (x:=2) (body:=yB) (λi S=>∃v2 v3,S=[some (.sh (dM rs)),some (.owd (K51.yl (K51.qE (rs.take i)))),v2,v3]) (ds:=rs.map dI) (S:=[some (.sh (dM rs)),some (.owd []),none,none]) ⟨none,none,rfl⟩ (by
  rintro i d S hd ⟨v2,v3,rfl⟩;obtain⟨r,hr,rfl⟩:=Kc hd;have hrl:=hm.row hr;have k2:=xq (x:=3) (body:=yD) (λj S=>∃v3,S=[some (.sh (dM rs)),some (.owd (K51.yl (K51.qE (rs.take i)++(K51.sJ r).take j))),some (.sh (dI r)),v3]) (ds:=rL 0 r.length) (S:=[some (.sh (dM rs)),some (.owd (K51.yl (K51.qE (rs.take i)))),some (.sh (dI r)),v3]) ⟨v3,by simp⟩ (by
   rintro j d S hd ⟨v3,rfl⟩;have hj:j<r.length:=by
    have:=(gSq.mp hd).1
    rwa [tm]at this
   rw[AB hj,jF]at hd;cases hd;have hz:r[j]?=some r[j]:=gEg hj;have hm2:(j+1) % r.length<r.length:=jY _ (by lia)
   have hy:(K51.rot r)[j]?=some r[(j+1) % r.length]:=by rw[Oa hj];exact gEg hm2
   have h3:=K51.LJ (j:=j) hl hr;have hput:=K51.OS hn hr hz hy;have a1:atI (r.map D.int) (j:Int)=some (.int r[j]):=vL (by rw[gMq,hz];rfl)
   have md:=tW (i:=(j:Int)+1) (j:=(r.length:Int)) (by lia)
   have em:((j:Int)+1) % (r.length:Int)=(((j+1) % r.length:Nat):Int):=by push_cast;rfl
   rw[em]at md;have a2:atI (r.map D.int) (((j+1) % r.length:Nat):Int)=some (.int r[(j+1) % r.length]):=vL (by rw[gMq,gEg hm2];rfl)
   refine⟨_,?_,some (.sh (.int (j:Int))),rfl⟩
   simp_arith [yD,dI,a1,md,a2,h3,hput])
  obtain⟨S2,e2,w3,rfl⟩:=k2;rw[tm,←K51.zJ,bo]at e2;have rg:Ej [.int (r.length:Int)]=some (rL 0 r.length):=Cv (by lia)
  rw[K51.zJ]at e2;refine⟨_,?_,some (.sh (dI r)),w3,rfl⟩;rw[um hr,K51.Jk]
  simp_arith [yB,dI,rg,e2])
 obtain⟨S',e,v2,v3,rfl⟩:=key;rw[lMq,bo]at e
 simp_arith [yi,Dn,e]
end
end K15
--ZQ3 --ZQ4 --ZQ5 --ZQ6 --ZQ8 --ZQ9 --ZQB --ZQC --ZQD --ZQE
namespace K12
open PySem L2 Mr Z Xe Zl
abbrev aP(qZ:List (List Int)):AV:=.ow (qZ.map aI)
theorem Nv{α β:Type}(f:α->β) (l:List α) (i:Nat) (a:α):(l.map f).set i (f a)=(l.set i a).map f:=by rw[List.map_set]
structure Wd where
 P0:List (List (List Int))
 last:List (List Int)
 t0:List Nat
 h:Nat
 left:List Int
 used:Nat
abbrev cN(ks:List Nat):List Int:=ks.map λn:Nat=>(n:Int)
def st(v0 v1:Option AV) (w:Wd) (v6 v7 v8 v9:Option AV):AS:=[v0,v1,some (.ow ((w.P0++[w.last]).map aP)),some (aI (cN (w.t0++[w.h]))),some (aI w.left),some (.sh (.int (w.used:Int))),v6,v7,v8,v9]
end K12
--ZQ3 --ZQ4 --ZQ5 --ZQ6 --ZQ8 --ZQ9 --ZQB --ZQC --ZQD --ZQE
namespace K12
open PySem L2 Mr Z Xe Zl
section
variable {nm:List Int}{P0:List (List (List Int))}{last:List (List Int)}{t0:List Nat}{hd:Nat}{left r:List Int}{used:Nat}{c e:Int}{v0 v1 v8:Option AV}
theorem Bv(r:List Int) (e:Int):(r.map λn=>AV.sh (.int n))++[.sh (.int e)]=(r++[e]).map λn=>.sh (.int n):=by rw[mBq];rfl
theorem Kv(l:List (List Int)) (e:Int):l.map aI++[.ow [.sh (.int e)]]=(l++[[e]]).map aI:=by rw[mBq];rfl
theorem P7(ks:List Nat) (n:Nat):(cN ks).map (λn=>AV.sh (.int n))++[.sh (.int (n:Int))]=(cN (ks++[n])).map λn=>.sh (.int n):=by unfold cN;rw[mBq,mBq];rfl
theorem OG{α β:Type}(f:α->β):∀(l:List α) (i:Nat),(l.map f).eraseIdx i=(l.eraseIdx i).map f
 | [],i=>rfl
 |x::l,0=>rfl
 |x::l,i+1=>by rw[ar,cQ,cQ,OG f l i,ar]
end
end K12
--ZQ3 --ZQ4 --ZQ5 --ZQ6 --ZQ8 --ZQ9 --ZQB --ZQC --ZQD --ZQE
namespace K12
open PySem L2 Mr Z Xe Zl
def Wi(nm:List Int) (k:Nat):List Int:=(nm.take k).flatMap λx=>[x, -x]
theorem yI{x r:List Int}(a:Int):∀{l:List (List Int)}{h:Nat},l[h]?=some r->(l.set h (r++x)).flatten.count a=l.flatten.count a+x.count a
 | [],_,h=>by simp at h
 |s::l,0,h=>by
  cases h;rw[cJ,fCq,fCq,cAq,cAq,cAq];lia
 |s::l,h+1,e=>by
  rw[dh,fCq,fCq,cAq,cAq,yI a (by simpa using e)]
  lia
theorem EA(a:Int):∀{l:List Int}{j:Nat},j<l.length->(l.eraseIdx j).count a+[l.getD j 0].count a=l.count a
 | [],_,h=>by simp at h
 |x::l,0,_=>by
  rw[fU,show x::l=[x]++l from rfl,cAq]
  show l.count a+[x].count a=_;lia
 |x::l,j+1,h=>by
  have ih:=EA a (l:=l) (j:=j) (by simpa using h)
  rw[cQ,show x::l.eraseIdx j=[x]++l.eraseIdx j from rfl,show (x::l).getD (j+1) 0=l.getD j 0 from rfl,show x::l=[x]++l from rfl,cAq,cAq]
  lia
theorem FF{l:List (List Int)}{h:Nat}{r:List Int}(e:l[h]?=some r):r.length<=l.flatten.length:=iP.length_le (aO (mGq e))
end K12
--ZQ3 --ZQ4 --ZQ5 --ZQ6 --ZQ8 --ZQ9 --ZQB --ZQC --ZQD --ZQE
namespace K12
open PySem L2 Mr Z Xe Zl
end K12
--ZQ3 --ZQ4 --ZQ5 --ZQ6 --ZQ8 --ZQ9 --ZQB --ZQC --ZQD --ZQE
namespace K12
open PySem L2 Mr Z Xe Zl
def NC(st sh a b k:Int):Int:=st*((a*k+b) % 67+1)+sh
theorem J1{st sh a b:Int}(h1:1<=st) (h2:1<=a) (h3:a<=66) {j k:Nat}(hj:j<67) (hk:k<67) (h:NC st sh a b j=NC st sh a b k):j=k:=by
 unfold NC at h;have e1:st*((a*j+b) % 67+1)=st*((a*k+b) % 67+1):=by lia
 have e2:=Int.eq_of_mul_eq_mul_left (by lia) e1
 have e3:((a*j+b)-(a*k+b)) % 67=0:=Int.emod_eq_emod_iff_emod_sub_eq_zero.mp (by lia)
 have e4:(a*((j:Int)-k)) % 67=0:=by
  rw[←e3];congr 1;rw[Int.mul_sub];lia
 obtain⟨tn,rfl⟩:∃tn:Nat,a=(tn:Int)+1:=⟨(a-1).toNat,by lia⟩
 rcases iw j k with q|q|q
 .exfalso;refine Mr.Kd ⟨tn,by lia⟩ ⟨k-j,by lia⟩ (by show 0<k-j;lia) ?_
  show (tn+1)*(k-j) % 67=0;have e5:(((tn:Int)+1)*((k:Int)-j)) % 67=0:=by
   have:((tn:Int)+1)*((k:Int)-j) = -(((tn:Int)+1)*((j:Int)-k)):=by
    rw[←Int.mul_neg];congr 1;lia
   rw[this];lia
  have e6:(((tn+1)*(k-j) % 67:Nat):Int)=0:=by
   rw[←e5];push_cast [cZ q];rfl
  lia
 .exact q
 .exfalso;refine Mr.Kd ⟨tn,by lia⟩ ⟨j-k,by lia⟩ (by show 0<j-k;lia) ?_
  show (tn+1)*(j-k) % 67=0;have e6:(((tn+1)*(j-k) % 67:Nat):Int)=0:=by
   rw[←e4];push_cast [cZ q];rfl
  lia
structure Nm (nm:List Int):Prop where
 len:nm.length=66
 nd:nm.Nodup
 lo:∀x∈nm,1<=x
 hi:∀x∈nm,x<10 ^ 60
theorem Hv:∀{l:List Int},l.Nodup->(∀x∈l,1<=x)->(l.flatMap λx=>[x, -x]).Nodup
 | [],_,_=>aV
 |x::l,hn,hp=>by
  have hn':=aq.mp hn;have px:=hp x (af ..);rw[iD,nAq];refine⟨?_,Hv hn'.2 λy hy=>hp y (mCo _ hy),λa ha b hb e=>?_⟩
  .rw [aq];refine⟨?_,by simp⟩
   rw[mSq];lia
  .subst e;obtain⟨y,hy,q⟩:=bT.mp hb;have py:=hp y (mCo _ hy);simp at ha q;have:y=x:=by lia
   exact hn'.1 (this ▸ hy)
end K12
--ZQ3 --ZQ4 --ZQ5 --ZQ6 --ZQ8 --ZQ9 --ZQB --ZQC --ZQD --ZQE
namespace K12
open PySem L2 Mr Z Xe Zl
theorem KR:∀{PS:List (List Nat)},(∀ps∈PS,ps.Nodup)->(PS.Pairwise λa b=>∀k∈a,k∉b)->PS.flatten.Nodup
 | [],_,_=>aV
 |p::PS,h1,h2=>by
  obtain⟨h3,h4⟩:=bP.mp h2;rw[fCq,nAq];refine⟨h1 p (af ..),KR (λps hp=>h1 ps (mCo _ hp)) h4,λa ha b hb e=>?_⟩
  obtain⟨q,hq,hb'⟩:=mFq.mp hb;exact h3 q hq a ha (e ▸ hb')
theorem ti{rs:List (List Int)}{kn:List Nat}{PS:List (List Nat)}(hp:K51.Ps rs rs.length kn PS):(PS.map λps=>ps.map λk=>rs.getD k []).flatten.Perm rs:=by
 have e1:(PS.map λps=>ps.map λk=>rs.getD k []).flatten=PS.flatten.map λk=>rs.getD k []:=by rw[←List.map_flatten]
 rw[e1];have nd:PS.flatten.Nodup:=KR (λps h=>by obtain⟨s,_,q⟩:=hp.pc ps h;exact q.nd) hp.dj
 have pm:PS.flatten.Perm (cw rs.length):=(bA nd iM).mpr λk=>by
  rw[dq,mFq];constructor
  .rintro ⟨ps,h1,h2⟩;obtain⟨s,_,q⟩:=hp.pc ps h1;exact q.lt k h2
  .intro hk;exact hp.mem k (hp.all k hk)
 have e2:(cw rs.length).map (λk=>rs.getD k [])=rs:=by
  refine dD λi=>?_
  rw[gMq]
  by_cases hi:i<rs.length
  .rw [dO hi,gEg hi,bR,gDq,gEg hi];rfl
  .rw [bf (by simpa using hi),bf (by lia)]
   rfl
 have:=pm.map (λk=>rs.getD k [])
 rwa [e2]at this
end K12
--ZQ3 --ZQ4 --ZQ5 --ZQ6 --ZQ8 --ZQ9 --ZQB --ZQC --ZQD --ZQE
namespace K12
open PySem L2 Mr Z Xe Zl
end K12
--ZQ3 --ZQ4 --ZQ5 --ZQ6 --ZQ8 --ZQ9 --ZQB --ZQC --ZQD --ZQE --ZQF
namespace K16
open PySem L2 Mr Z Xe Zl
def pm(l:List Int):List Int:=l.flatMap λx=>[x, -x]
def yR(M:List (Int×Int)):List (pQ×D):=M.map λp=>(.inl p.1,.int p.2)
theorem AU(M:List (Int×Int)):(yR M).length=M.length:=lMq _
theorem FJ(M:List (Int×Int)):yR M=K51.yl (M.map λp=>((aM p.1:pQ),p.2)):=by unfold yR K51.yl;rw[mPq];rfl
theorem D8{M:List (Int×Int)}{z x:Int}(h:z∉M.map (·.1)):yC (yR M) (.inl z) (.int x)=yR (M++[(z,x)]):=by
 rw[DZ]
 .unfold yR;rw[mBq];rfl
 .intro m;obtain⟨p,hp,e1⟩:=mMq.mp m;obtain⟨q,hq,rfl⟩:=mMq.mp hp;exact h (mMq.mpr ⟨q,hq,aM.inj e1⟩)
end K16
--ZQ3 --ZQ4 --ZQ5 --ZQ6 --ZQ8 --ZQ9 --ZQB --ZQC --ZQD --ZQE --ZQF
namespace K16
open PySem L2 Mr Z Xe Zl
end K16
namespace K16
open PySem L2 Mr Z Xe Zl K15
section
variable {rs:List (List Int)}
theorem HL(hn:rs.flatten.Nodup) {r:List Int}(hr:r∈rs) {j:Nat}{z y:Int}(hz:r[j]?=some z) (hy:r[(j+1) % r.length]?=some y):nx rs z=y:=by
 have hj:=(gSq.mp hz).1;have h1:=K51.DP hz ((Oa hj).trans hy);have h2:(aM z,y)∈K51.qE rs:=by
  unfold K51.qE;exact mFq.mpr ⟨_,mMq.mpr ⟨r,hr,rfl⟩,mGq h1⟩
 have h3:=AQ (FA hn) h2;unfold nx;rw[h3]
theorem KN(hn:rs.flatten.Nodup) {r:List Int}(hr:r∈rs) {e:Int}(h0:r[0]?=some e):∀n,r[n % r.length]?=some (itr (nx rs) n e)
 |0=>by rw[Nat.zero_mod];exact h0
 |n+1=>by
  have hp:0<r.length:=(gSq.mp h0).1;have ih:=KN hn hr h0 n;have hm:(n+1) % r.length<r.length:=jY _ hp;have hm2:(n % r.length+1) % r.length=(n+1) % r.length:=by rw[Nat.mod_add_mod]
  obtain⟨y,hg⟩:∃y,r[(n+1) % r.length]?=some y:=⟨_,gEg hm⟩;have:=HL hn hr ih (hm2 ▸ hg);rw[hg,←this];rfl
theorem T7(hn:rs.flatten.Nodup) {r:List Int}(hr:r∈rs) {e:Int}(h0:r[0]?=some e):Cy (nx rs) e r:=by
 have hp:0<r.length:=(gSq.mp h0).1;have it:=KN hn hr h0;refine⟨hp,?_,?_,aZ.sublist (aO hr) hn⟩
 .refine dD λi=>?_
  rw[gMq]
  by_cases hi:i<r.length
  .rw [dO hi,bR,←it i,gL hi]
  .rw [bf (by lia),bf (by rw[bC];lia)]
   rfl
 .have:=it r.length;rw[iS,h0]at this;exact(aD.inj this).symm
theorem Td(hn:rs.flatten.Nodup):KP (nx rs) rs.flatten:=⟨hn,λe he=>By hn he,λa ha b hb h=>Iu hn ha hb h⟩
end
end K16
namespace K18
open PySem L2 Mr Z Xe Zl
def pp:List Int->List (Int×Int)
 | []=>[]
 | [_]=>[]
 |x::y::r=>(x,y)::pp (y::r)
def cp:List Int->List (Int×Int)
 | []=>[]
 |x::r=>pp (x::r++[x])
def PC(X:List (List Int)):List (Int×Int):=X.flatMap cp
theorem Oy:∀(l:List Int) (x y:Int) (r:List Int),pp (l++x::y::r)=pp (l++[x])++(x,y)::pp (y::r)
 | [],x,y,r=>rfl
 | [a],x,y,r=>rfl
 |a::b::l,x,y,r=>by
  show (a,b)::pp (b::l++x::y::r)=(a,b)::pp (b::l++[x])++_;rw[Oy (b::l)];rfl
theorem tu{l r:List Int}{a h:Int}{l' r':List Int}(hl:l=l'++[a]) (hr:r=h::r'):pp (l++r)=pp l++(a,h)::pp r:=by
 rw[hl,hr,ai];exact Oy l' a h r'
theorem sX{l:List Int}{a h:Int}{l' l'':List Int}(hl:l=l'++[a]) (hh:l=h::l''):cp l=pp l++[(a,h)]:=by
 rw[hh];show pp (h::l''++[h])=_;rw[←hh,tu hl (r:=[h]) rfl];rfl
theorem sN{l:List Int}(h:l≠[]):∃l' a,l=l'++[a]:=⟨l.dropLast,l.getLast h,(hZ h).symm⟩
theorem sr{l:List Int}(h:l≠[]):∃a l',l=a::l':=by
 cases l with
 |nil=>exact absurd rfl h
 |cons a l=>exact⟨a,l,rfl⟩
theorem vg(a b:List Int) (q:Int×Int):(cp (a++b)).count q=(cp (b++a)).count q:=by
 by_cases ha:a=[]
 .rw [ha,aNq,dC]
 .by_cases hb:b=[]
  .rw [hb,aNq,dC]
  .obtain ⟨la,ka,ea⟩:=sN ha;obtain⟨lb,kb,eb⟩:=sN hb;obtain⟨fa,ra,ga⟩:=sr ha;obtain⟨fb,rb,gb⟩:=sr hb;rw[sX (l:=a++b) (a:=kb) (h:=fa) (l':=a++lb) (l'':=ra++b) (by rw[eb,ai]) (by rw[ga];rfl),sX (l:=b++a) (a:=ka) (h:=fb) (l':=b++la) (l'':=rb++a) (by rw[ea,ai]) (by rw[gb];rfl),tu ea gb,tu eb ga]
   simp only[cAq,bS,bJ];lia
theorem OV:∀(l:List Int) (x:Int),(pp (l++[x])).map (·.1)=l
 | [],x=>rfl
 | [a],x=>rfl
 |a::b::l,x=>by
  show a::(pp (b::l++[x])).map (·.1)=_;rw[OV (b::l)]
theorem O8(l:List Int):(cp l).map (·.1)=l:=by
 cases l with
 |nil=>rfl
 |cons x r=>exact OV (x::r) x
theorem OM:∀(l:List Int) (x:Int),(pp (x::l)).map (·.2)=l
 | [],x=>rfl
 |a::l,x=>by
  show a::(pp (a::l)).map (·.2)=_;rw[OM l]
theorem TU(l:List Int):((cp l).map (·.2)).Perm l:=by
 cases l with
 |nil=>exact .refl _
 |cons x r =>
  show ((pp (x::(r++[x]))).map (·.2)).Perm _;rw[OM];exact aF
theorem DE(X:List (List Int)):(PC X).map (·.1)=X.flatten:=by
 induction X with
 |nil=>rfl
 |cons r X ih =>
  show ((cp r++PC X)).map _=_;rw[mBq,ih,O8];rfl
theorem Bu(X:List (List Int)):((PC X).map (·.2)).Perm X.flatten:=by
 induction X with
 |nil=>exact .refl _
 |cons r X ih =>
  show ((cp r++PC X).map _).Perm (r++X.flatten);rw[mBq];exact(TU r).append ih
theorem pI(r:List Int) (X:List (List Int)) (q:Int×Int):(PC (r::X)).count q=(cp r).count q+(PC X).count q:=by
 show (cp r++PC X).count q=_;rw[cAq]
theorem wW(X Y:List (List Int)) (q:Int×Int):(PC (X++Y)).count q=(PC X).count q+(PC Y).count q:=by
 unfold PC;rw[ju,cAq]
theorem wX{r r':List Int}(q:Int×Int):∀{X:List (List Int)}{i:Nat},X[i]?=some r->(PC (X.set i r')).count q+(cp r).count q=(PC X).count q+(cp r').count q
 | [],_,h=>by simp at h
 |t::X,0,h=>by
  simp only[fT,aD.injEq]at h;subst h;rw[cJ,pI,pI];lia
 |t::X,i+1,h=>by
  rw[dh,pI,pI];have:=wX (r:=r) (r':=r') q (X:=X) (i:=i) (by simpa using h)
  lia
theorem ug{X Y:List (List Int)}(h:X.Perm Y) (q:Int×Int):(PC X).count q=(PC Y).count q:=(h.flatMap_right cp).count_eq q
def ct(u v x y:Int):Nat:=[(u,v)].count (x,y)
theorem vC(u v x y:Int):ct u v (-x) y=ct (-u) v x y:=by
 unfold ct;rw[bS,bS,bJ,bJ];have:((u,v) == (-x,y))=((-u,v) == (x,y)):=by
  rw[bQ,beq_iff_eq,beq_iff_eq,Prod.mk.injEq,Prod.mk.injEq];constructor <;> rintro⟨h1,h2⟩ <;> exact⟨by lia,h2⟩
 rw[this]
theorem V7{u v x y:Int}:[(u,v)].count (x,y)=ct u v x y:=rfl
theorem rR{u v x y:Int}{l:List (Int×Int)}:((u,v)::l).count (x,y)=ct u v x y+l.count (x,y):=by
 rw[show (u,v)::l=[(u,v)]++l from rfl,cAq]
 rfl
theorem tV{X:List (List Int)}{q:Int×Int}:q∈PC X↔0<(PC X).count q:=aX.symm
theorem Jd{c:List Int}{u v:Int}(h:(u,v)∈cp c):∃w w',(∀q,(cp (w++[u])).count q=(cp c).count q)/\w++[u]=v::w':=by
 cases c with
 |nil=>cases h
 |cons x r =>
  have key:∀{l:List Int},(u,v)∈pp l->∃a b,l=a++u::v::b:=by
   intro l
   induction l with
   |nil=>intro h;cases h
   |cons y l ih =>
    cases l with
    |nil=>intro h;cases h
    |cons z l =>
     intro h;rcases ae.mp (show (u,v)∈(y,z)::pp (z::l) from h) with e|h
     .cases e;exact⟨[],l,rfl⟩
     .obtain ⟨a,b,e⟩:=ih h;exact⟨y::a,b,by rw[e];rfl⟩
  obtain⟨a,b,e⟩:=key (show (u,v)∈pp (x::r++[x]) from h)
  by_cases hb:b=[]
  .subst hb;have e2:(x::r)++[x]=(a++[u])++[v]:=by rw[e,ai];rfl
   obtain⟨e3,e4⟩:=jT e2 rfl;cases e4;exact⟨a,r,λq=>by rw[←e3],e3.symm⟩
  .obtain ⟨b',k,rfl⟩:=sN hb;have e2:(x::r)++[x]=(a++u::v::b')++[k]:=by rw[e,ai];rfl
   obtain⟨e3,_⟩:=jT e2 rfl;refine⟨v::b'++a,b'++a++[u],λq=>?_,by simp⟩
   rw[e3];have:=vg (a++[u]) (v::b') q;rw[ai]at this;rw[show a++u::v::b'=a++([u]++v::b') from rfl,this,ai]
theorem Bz{LL:List (List Int)}{u v:Int}(z:Int) (h:(u,v)∈PC LL) (ne:∀c∈LL,c≠[]):∃LL':List (List Int),LL'.length=LL.length/\(∀c∈LL',c≠[])/\∀x y,(PC LL').count (x,y)+ct u v x y=(PC LL).count (x,y)+ct u z x y+ct z v x y:=by
 obtain⟨c,hc,hq⟩:=bT.mp h;obtain⟨i,hi⟩:=aC.mp hc;obtain⟨w,w',e1,e2⟩:=Jd hq;refine⟨LL.set i (w++[u]++[z]),lZq,λd hd=>?_,λx y=>?_⟩
 .rcases de hd with q|q
  .exact ne d q
  .rw [q];simp
 .have s:=wX (r:=c) (r':=w++[u]++[z]) (x,y) hi;have c1:=e1 (x,y);rw[sX (l:=w++[u]) rfl e2]at c1;rw[sX (l:=w++[u]++[z]) (a:=z) (h:=v) (l':=w++[u]) (l'':=w'++[z]) rfl (by rw[e2];rfl),tu (l:=w++[u]) rfl (r:=[z]) rfl]at s
  simp only[cAq,rR,bJ,pp]at s c1;lia
theorem Ws{LL:List (List Int)}{u v z k:Int}{W W' W'':List Int}(hz:W=z::W') (hk:W=W''++[k]) (h:(u,v)∈PC LL) (ne:∀c∈LL,c≠[]):∃LL':List (List Int),LL'.length=LL.length/\(∀c∈LL',c≠[])/\∀x y,(PC LL').count (x,y)+ct u v x y=(PC LL).count (x,y)+ct u z x y+(pp W).count (x,y)+ct k v x y:=by
 obtain⟨c,hc,hq⟩:=bT.mp h;obtain⟨i,hi⟩:=aC.mp hc;obtain⟨w,w',e1,e2⟩:=Jd hq;refine⟨LL.set i (w++[u]++W),lZq,λd hd=>?_,λx y=>?_⟩
 .rcases de hd with q|q
  .exact ne d q
  .rw [q];simp
 .have s:=wX (r:=c) (r':=w++[u]++W) (x,y) hi;have c1:=e1 (x,y);rw[sX (l:=w++[u]) rfl e2]at c1;rw[sX (l:=w++[u]++W) (a:=k) (h:=v) (l':=w++[u]++W'') (l'':=w'++W) (by rw[hk];simp) (by rw[e2];rfl),tu (l:=w++[u]) rfl hz]at s
  simp only[cAq,rR,bJ]at s c1;lia
theorem UJ{LL:List (List Int)}{z v:Int}(h:(z,v)∈PC LL) (hz:v≠z) (ne:∀c∈LL,c≠[]):∃(u:Int) (LL':List (List Int)),(u,z)∈PC LL/\LL'.length=LL.length/\(∀c∈LL',c≠[])/\∀x y,(PC LL').count (x,y)+ct u z x y+ct z v x y=(PC LL).count (x,y)+ct u v x y:=by
 obtain⟨c,hc,hq⟩:=bT.mp h;obtain⟨i,hi⟩:=aC.mp hc;obtain⟨w,w',e1,e2⟩:=Jd hq;have hw:w≠[]:=λq=>by
  rw[q]at e2;cases e2;exact hz rfl
 obtain⟨w0,u,ew⟩:=sN hw;obtain⟨f,w1,fw⟩:=sr hw;have fv:f=v:=by
  rw[fw]at e2;exact(jJ.inj e2).1
 subst fv;have c1:=λx y=>e1 (x,y)
 rw[sX (l:=w++[z]) rfl e2,tu (l:=w) ew (r:=[z]) rfl]at c1;simp only[cAq,rR,bJ,pp]at c1;refine⟨u,LL.set i w,?_,lZq,λd hd=>?_,λx y=>?_⟩
 .refine bT.mpr ⟨c,hc,aX.mp ?_⟩;have:=c1 u z;have one:ct u z u z=1:=by unfold ct;simp
  lia
 .rcases de hd with q|q
  .exact ne d q
  .rw [q];exact hw
 .have s:=wX (r:=c) (r':=w) (x,y) hi;rw[sX (l:=w) ew fw]at s;simp only[cAq,rR,bJ]at s;have:=c1 x y;lia
structure Ln (C LL:List (List Int)):Prop where
 cnt:∀x y,(PC LL).count (x,y)=(PC C).count (-x,y)
 ne:∀c∈LL,c≠[]
section
variable {C LL:List (List Int)}{i:Nat}
theorem Ln.mem(h:Ln C LL) {x y:Int}(q:(x,y)∈PC C):(-x,y)∈PC LL:=by
 rw[tV,h.cnt,bj];exact tV.mp q
theorem vy{r:List Int}(hi:C[i]?=some r) {q:Int×Int}(h:q∈cp r):q∈PC C:=bT.mpr ⟨r,mGq hi,h⟩
theorem xC{r r':List Int}:∀{X:List (List Int)}{i:Nat},X[i]?=some r->(X.set i r').count []+(if r=[] then 1 else 0)=X.count []+(if r'=[] then 1 else 0)
 | [],_,h=>by simp at h
 |t::X,0,h=>by
  simp only[fT,aD.injEq]at h;subst h;rw[cJ,bS,bS];simp only[beq_iff_eq];lia
 |t::X,i+1,h=>by
  rw[dh,bS,bS];have:=xC (r:=r) (r':=r') (X:=X) (i:=i) (by simpa using h)
  lia
def nL(C LL:List (List Int)):Nat:=LL.length+C.count []
theorem N1{r L:List Int}(h:¬ L++r≠[]):r=[]/\L=[]:=by
 have:L++r=[]:=Classical.not_not.mp h;rw[gC]at this;exact⟨this.2,this.1⟩
theorem Ln.open(h:Ln C LL) {r L:List Int}(hi:C[i]?=some (r++L)) (e:Int):∃LL',Ln (C.set i (r++[e]++(-e::L))) LL'/\nL (C.set i (r++[e]++(-e::L))) LL'=nL C LL+1:=by
 have cs:=xC (r':=r++[e]++(-e::L)) hi;have n1:r++[e]++(-e::L)≠[]:=by simp
 rw[pV n1]at cs;have st:=λx y=>wX (r':=r++[e]++(-e::L)) (x,y) hi
 have rot1:=λq=>vg r L q
 have rot2:=λq=>vg (r++[e]++[-e]) L q
 have as:r++[e]++(-e::L)=(r++[e]++[-e])++L:=by simp
 by_cases hY:L++r≠[]
 .obtain ⟨l',a,el⟩:=sN hY;obtain⟨f,l'',ef⟩:=sr hY;have c0:cp (L++r)=pp (L++r)++[(a,f)]:=sX el ef;have c1:cp (L++(r++[e]++[-e]))=pp (L++r)++[(a,e),(e, -e),(-e,f)]:=by
   have e1:L++(r++[e]++[-e])=(L++r)++[e, -e]:=by simp
   rw[e1,sX (l:=(L++r)++[e, -e]) (a:=-e) (h:=f) (l':=(L++r)++[e]) (l'':=l''++[e, -e]) (by simp) (by rw[ef];rfl),tu el (r:=[e, -e]) rfl]
   simp[pp]
  have m:=h.mem (x:=a) (y:=f) (vy hi (aX.mp (by rw[rot1,c0,cAq];simp)))
  obtain⟨LL',l1,n2,k⟩:=Bz e m h.ne;refine⟨[-e]::LL',⟨λx y=>?_,λc hc=>?_⟩,?_⟩
  .have s:=st (-x) y;rw[as,rot2,rot1,c0,c1]at s;have:=k x y;have hc:=h.cnt x y;rw[pI,as];simp only[cAq,rR,bJ,vC,bj]at s;have c2:(cp [-e]).count (x,y)=ct (-e) (-e) x y:=rfl;rw[c2];lia
  .rcases ae.mp hc with rfl|hc
   .simp
   .exact n2 c hc
  .unfold nL;have n3:r++L≠[]:=λq=>hY (by rw[gC]at q ⊢;exact⟨q.2,q.1⟩)
   rw[pV n3]at cs;rw[lCq];lia
 .obtain ⟨hr,hL⟩:=N1 hY;subst hr;subst hL;refine⟨[e]::[-e]::LL,⟨λx y=>?_,λc hc=>?_⟩,?_⟩
  .have s:=st (-x) y;have hc:=h.cnt x y;rw[pI,pI];have c2:∀z,(cp [z]).count (x,y)=ct z z x y:=λ_=>rfl
   have c3:(cp ([]++[e]++(-e::[]))).count (-x,y)=ct e (-e) (-x) y+ct (-e) e (-x) y:=by
    show [(e, -e),(-e,e)].count (-x,y)=_;rw[rR,V7]
   have c4:(cp ([]++[]:List Int)).count (-x,y)=0:=rfl;rw[c3,c4,vC,vC,bj]at s;rw[c2,c2];lia
  .rcases ae.mp hc with rfl|hc
   .simp
   .rcases ae.mp hc with rfl|hc
    .simp
    .exact h.ne c hc
  .unfold nL;rw[aNq,qe rfl]at cs;rw[lCq,lCq];rw[dC]at cs ⊢;lia
theorem Ln.newp(h:Ln C LL) (hn:C.flatten.Nodup) {r L:List Int}(hi:C[i]?=some (r++L)) (e:Int):∃LL',Ln (C.set i (r++[e])++[-e::L]) LL'/\nL (C.set i (r++[e])++[-e::L]) LL'=nL C LL:=by
 have cs:=xC (r':=r++[e]) hi;have n1:r++[e]≠[]:=by simp
 rw[pV n1]at cs;have st:=λx y=>wX (r':=r++[e]) (x,y) hi
 have cnL:∀X,nL (C.set i (r++[e])++[-e::L]) X=X.length+(C.set i (r++[e])).count []:=λX=>by
  unfold nL;rw[cAq];rfl
 have pn:∀x y,(PC (C.set i (r++[e])++[-e::L])).count (x,y)=(PC (C.set i (r++[e]))).count (x,y)+(cp (-e::L)).count (x,y):=λx y=>by
  rw[wW,pI];rfl
 by_cases hr:r=[]
 .subst hr
  by_cases hL:L=[]
  .subst hL;refine⟨[e, -e]::LL,⟨λx y=>?_,λc hc=>?_⟩,?_⟩
   .have s:=st (-x) y;have hc:=h.cnt x y;rw[pI,pn];have c2:(cp [e, -e]).count (x,y)=ct e (-e) x y+ct (-e) e x y:=by
     show [(e, -e),(-e,e)].count (x,y)=_;rw[rR,V7]
    have c3:(cp ([]++[e])).count (-x,y)=ct e e (-x) y:=rfl;have c5:(cp [-e]).count (-x,y)=ct (-e) (-e) (-x) y:=rfl;have c4:(cp ([]++[]:List Int)).count (-x,y)=0:=rfl;rw[c3,c4]at s;rw[c5,c2];simp only[vC,bj]at s ⊢;lia
   .rcases ae.mp hc with rfl|hc
    .simp
    .exact h.ne c hc
   .rw [cnL];unfold nL;rw[aNq,qe rfl]at cs;rw[lCq];lia
  .obtain ⟨l',l,el⟩:=sN hL;obtain⟨f,l'',ef⟩:=sr hL;have c0:cp L=pp L++[(l,f)]:=sX el ef;rw[dC]at hi;have m:=h.mem (x:=l) (y:=f) (vy hi (aX.mp (by rw[c0,cAq];simp)))
   obtain⟨LL',l1,n2,k1⟩:=Ws (W:=[-e,e]) (W'':=[-e]) rfl rfl m h.ne;refine⟨LL',⟨λx y=>?_,n2⟩,?_⟩
   .have s:=st (-x) y;have hc:=h.cnt x y;have k:=k1 x y;rw[pn];have c1:cp (-e::L)=(-e,f)::pp L++[(l, -e)]:=by
     rw[sX (l:=-e::L) (a:=l) (h:=-e) (l':=-e::l') (l'':=L) (by rw[el];rfl) rfl,show -e::L=[-e]++L from rfl,tu (l:=[-e]) (l':=[]) rfl ef]
     rfl
    have s:(PC (C.set i ([]++[e]))).count (-x,y)+(cp L).count (-x,y)=(PC C).count (-x,y)+ct e e (-x) y:=s;rw[c0]at s;rw[c1];simp only[cAq,rR,bJ,vC,bj,pp,cL]at s k ⊢;lia
   .rw [cnL];unfold nL;have cs:(C.set i ([]++[e])).count []+(if L=[] then 1 else 0)=C.count []+0:=cs
    rw[pV hL]at cs;lia
 .obtain ⟨r',a,er⟩:=sN hr;obtain⟨g,r'',eg⟩:=sr hr;have c2:cp (r++[e])=pp r++[(a,e),(e,g)]:=by
   rw[sX (l:=r++[e]) (a:=e) (h:=g) (l':=r) (l'':=r''++[e]) rfl (by rw[eg];rfl),tu er (r:=[e]) rfl]
   simp[pp]
  by_cases hL:L=[]
  .subst hL;have c0:cp r=pp r++[(a,g)]:=sX er eg;rw[aNq]at hi;have m:=h.mem (x:=a) (y:=g) (vy hi (aX.mp (by rw[c0,cAq];simp)))
   obtain⟨LL',l1,n2,k1⟩:=Ws (W:=[e, -e]) (W'':=[e]) rfl rfl m h.ne;refine⟨LL',⟨λx y=>?_,n2⟩,?_⟩
   .have s:=st (-x) y;have hc:=h.cnt x y;have k:=k1 x y;rw[pn];have c5:(cp [-e]).count (-x,y)=ct (-e) (-e) (-x) y:=rfl;rw[aNq,c0,c2]at s;rw[c5];simp only[cAq,rR,bJ,vC,bj,pp]at s k ⊢;lia
   .rw [cnL];unfold nL;rw[aNq,pV hr]at cs;lia
  .obtain ⟨l',l,el⟩:=sN hL;obtain⟨f,l'',ef⟩:=sr hL;have c0:cp (r++L)=pp r++(a,f)::pp L++[(l,g)]:=by
    rw[sX (l:=r++L) (a:=l) (h:=g) (l':=r++l') (l'':=r''++L) (by rw[el,ai]) (by rw[eg];rfl),tu er ef]
   have c1:cp (-e::L)=(-e,f)::pp L++[(l, -e)]:=by
    rw[sX (l:=-e::L) (a:=l) (h:=-e) (l':=-e::l') (l'':=L) (by rw[el];rfl) rfl,show -e::L=[-e]++L from rfl,tu (l:=[-e]) (l':=[]) rfl ef]
    rfl
   have m:=h.mem (x:=a) (y:=f) (vy hi (by rw[c0];simp))
   have m':=h.mem (x:=l) (y:=g) (vy hi (by rw[c0];simp))
   obtain⟨L1,l1,n2,k1⟩:=Bz e m h.ne;have al:a≠l:=λq=>by
    have:=hn.sublist (aO (mGq hi));have:=(nAq.mp this).2.2 a (by rw[er];simp) l (by rw[el];simp)
    exact this q
   have m1:(-l,g)∈PC L1:=tV.mpr (by
    have k:=k1 (-l) g;have z:ct (-a) f (-l) g=0:=by
     unfold ct;rw[ee];intro q;have:=mSq.mp q;rw[Prod.mk.injEq]at this;exact al (by lia)
    have:=tV.mp m';lia)
   obtain⟨L2,l2,n3,k2⟩:=Bz (-e) m1 n2;refine⟨L2,⟨λx y=>?_,n3⟩,?_⟩
   .have s:=st (-x) y;have hc:=h.cnt x y;have k:=k1 x y;have k':=k2 x y;rw[pn];rw[c0,c2]at s;rw[c1];simp only[cAq,rR,bJ,vC,bj,cL]at s k k' ⊢;lia
   .rw [cnL];unfold nL;rw[pV (by simp[hr])]at cs
    lia
end
end K18
--ZQ3 --ZQ4 --ZQ5 --ZQ6 --ZQ8 --ZQ9 --ZQB --ZQC --ZQD --ZQE --ZQF --ZQG
namespace K18
open PySem L2 Mr Z Xe Zl K15 K16
section
variable {C LL:List (List Int)}
theorem yw:∀{l:List (Int×Int)},(l.map (·.2)).Nodup->∀{p q:Int×Int},p∈l->q∈l->p.2=q.2->p=q
 | [],_,_,_,h,_,_=>by cases h
 |w::l,h,x,y,hx,hy,e=>by
  rw[ar]at h;obtain⟨h1,h2⟩:=aq.mp h;rcases ae.mp hx with e1|hx'
  .rcases ae.mp hy with e2|hy'
   .rw [e1,e2]
   .rw [e1]at e;exact absurd (mMq.mpr ⟨y,hy',e.symm⟩) h1
  .rcases ae.mp hy with e2|hy'
   .rw [e2]at e;exact absurd (mMq.mpr ⟨x,hx',e⟩) h1
   .exact yw h2 hx' hy' e
theorem xY(hn:C.flatten.Nodup) {n p:Nat}{s t:List Int}{x:Int}(h1:C[n]?=some s) (h2:C[p]?=some t) (hx:x∈s) (hy:x∈t):n=p:=by
 rw[←plc_eq hn h1 hx,←plc_eq hn h2 hy]
theorem Ln.back(h:Ln C LL) (hn:C.flatten.Nodup) {n p:Nat}(hnp:n≠p) {n0 p0 L:List Int}{e:Int}(h1:C[n]?=some ((-e::n0)++L)) (h2:C[p]?=some (p0++[e])):∃LL',Ln ((C.set n (-e::n0)).set p (p0++[e]++L)) LL'/\nL ((C.set n (-e::n0)).set p (p0++[e]++L)) LL'=nL C LL:=by
 have h2':(C.set n (-e::n0))[p]?=some (p0++[e]):=by rw[aB hnp];exact h2
 have s1:=λx y=>wX (r':=-e::n0) (x,y) h1
 have s2:=λx y=>wX (r':=p0++[e]++L) (x,y) h2'
 have t1:=xC (r':=-e::n0) h1;have t2:=xC (r':=p0++[e]++L) h2';rw[pV (by simp),pV (by simp)]at t1 t2
 by_cases hL:L=[]
 .subst hL;refine⟨LL,⟨λx y=>?_,h.ne⟩,?_⟩
  .have a:=s1 (-x) y;have b:=s2 (-x) y;have c:=h.cnt x y;rw[aNq]at a b ⊢;lia
  .unfold nL;lia
 .obtain ⟨l',l,el⟩:=sN hL;obtain⟨f,l'',ef⟩:=sr hL;obtain⟨m',a,ea⟩:=sN (show -e::n0≠[] by simp)
  obtain⟨g,p',eg⟩:=sr (show p0++[e]≠[] by simp)
  have c1:cp ((-e::n0)++L)=pp (-e::n0)++(a,f)::pp L++[(l, -e)]:=by
   rw[sX (l:=(-e::n0)++L) (a:=l) (h:=-e) (l':=(-e::n0)++l') (l'':=n0++L) (by rw[el,ai]) rfl,tu ea ef]
  have c2:cp (-e::n0)=pp (-e::n0)++[(a, -e)]:=sX ea rfl;have c3:cp (p0++[e])=pp (p0++[e])++[(e,g)]:=sX rfl eg;have c4:cp (p0++[e]++L)=pp (p0++[e])++(e,f)::pp L++[(l,g)]:=by
   rw[sX (l:=p0++[e]++L) (a:=l) (h:=g) (l':=p0++[e]++l') (l'':=p'++L) (by rw[el];simp) (by rw[eg];rfl),tu (l:=p0++[e]) rfl ef]
  have q1:(a,f)∈PC C:=vy h1 (by rw[c1];simp)
  have q2:(l, -e)∈PC C:=vy h1 (by rw[c1];simp)
  have q3:(e,g)∈PC C:=vy h2 (by rw[c3];simp)
  have ine:-e∈(-e::n0)++L:=by simp
  have ing:g∈p0++[e]:=by rw[eg];exact af ..
  have inf:f∈L:=by rw[ef];exact af ..
  have ina:a∈(-e::n0)++L:=ah _ (by rw[ea];simp)
  have gne:g ≠ -e:=λq=>hnp (xY hn h1 h2 ine (q ▸ ing))
  have nr:=hn.sublist (aO (mGq h1));have fne:f ≠ -e:=λq=>(nAq.mp nr).2.2 (-e) (af ..) f inf q.symm
  have ane:a≠e:=λq=>hnp (xY hn h1 h2 (q ▸ ina) (by simp))
  obtain⟨u,L1,mu,l1,n1,k1⟩:=UJ (h.mem q3) gne h.ne;have mu':(-u, -e)∈PC C:=by
   rw[tV,←h.cnt];exact tV.mp mu
  have eu:u = -l:=by
   have nd:((PC C).map (·.2)).Nodup:=(Bu C).nodup_iff.mpr hn;have:=yw nd mu' q2 rfl;rw[Prod.mk.injEq]at this;lia
  subst eu;have zero:∀{u v x y:Int},¬ (u=x/\v=y)->ct u v x y=0:=λ{u v x y} q=>by
   unfold ct;rw[ee];intro z;have:=mSq.mp z;rw[Prod.mk.injEq]at this;exact q ⟨this.1.symm,this.2.symm⟩
  have m1:(-a,f)∈PC L1:=tV.mpr (by
   have k:=k1 (-a) f;have z1:ct (-l) (-e) (-a) f=0:=zero λq=>fne q.2.symm
   have z2:ct (-e) g (-a) f=0:=zero λq=>ane (by lia)
   have:=tV.mp (h.mem q1);lia)
  obtain⟨L2,l2,n2,k2⟩:=Bz (-e) m1 n1;refine⟨L2,⟨λx y=>?_,n2⟩,?_⟩
  .have a1:=s1 (-x) y;have a2:=s2 (-x) y;have hc:=h.cnt x y;have k:=k1 x y;have k':=k2 x y;rw[c1,c2]at a1;rw[c3,c4]at a2;simp only[cAq,rR,bJ,vC,bj,cL]at a1 a2 k k';lia
  .unfold nL;lia
theorem S0{r:List Int}{x y:Int}(h:(x,y)∈cp r):∃j,r[j]?=some x/\r[(j+1) % r.length]?=some y:=by
 cases r with
 |nil=>cases h
 |cons a r =>
  have key:∀{l:List Int},(x,y)∈pp l->∃j,l[j]?=some x/\l[j+1]?=some y:=by
   intro l
   induction l with
   |nil=>intro h;cases h
   |cons b l ih =>
    cases l with
    |nil=>intro h;cases h
    |cons c l =>
     intro h;rcases ae.mp (show (x,y)∈(b,c)::pp (c::l) from h) with e|h
     .cases e;exact⟨0,rfl,rfl⟩
     .obtain ⟨j,j1,j2⟩:=ih h;exact⟨j+1,by simpa using j1,by simpa using j2⟩
  obtain⟨j,j1,j2⟩:=key (show (x,y)∈pp (a::r++[a]) from h)
  have lt:=(gSq.mp j2).1;rw[lAq,lSq]at lt;refine⟨j,?_,?_⟩
  .rw [gZq (by lia)]at j1
   exact j1
  .by_cases c:j+1<(a::r).length
   .rw [gZq c]at j2;rw[gL c];exact j2
   .have e:j+1=(a::r).length:=by lia
    rw[e,gYq (aj _),cR]at j2;rw[e,iS];exact j2
theorem KC{X:List (List Int)}(hn:X.flatten.Nodup) {x y:Int}(h:(x,y)∈PC X):nx X x=y:=by
 obtain⟨r,hr,q⟩:=bT.mp h;obtain⟨j,j1,j2⟩:=S0 q;exact HL hn hr j1 j2
theorem Ln.flat(h:Ln C LL) (hneg:∀e∈C.flatten, -e∈C.flatten) (hn:C.flatten.Nodup):LL.flatten.Perm C.flatten:=by
 have e1:=Bu LL;have e2:=Bu C;refine e1.symm.trans (aU.trans ?_ e2);have:(PC LL).Perm ((PC C).map λq=>(-q.1,q.2)):=by
  refine dQ.mpr λq=>?_
  obtain⟨x,y⟩:=q;rw[h.cnt];generalize PC C=l
  induction l with
  |nil=>rfl
  |cons p l ih =>
   obtain⟨u,v⟩:=p;rw[ar,rR,rR,ih,vC]
 refine(this.map (·.2)).trans ?_;rw[mPq];exact .refl _
theorem Ln.orb(h:Ln C LL) (mp:Mp C):Ee (fw C) C.flatten LL:=by
 have pf:=h.flat mp.hneg mp.hn;have nd:=pf.nodup_iff.mpr mp.hn;have eq:∀x∈LL.flatten,nx LL x=fw C x:=λx hx=>by
  rw[←DE LL]at hx;obtain⟨⟨u,v⟩,hq,rfl⟩:=mMq.mp hx;have q:(-u,v)∈PC C:=by
   rw[tV,←h.cnt];exact tV.mp hq
  show nx LL u=nx C (-u);rw[KC nd hq,KC mp.hn q]
 refine⟨λl hl=>?_,nd,λx=>pf.mem_iff⟩
 obtain⟨a,l',ea⟩:=sr (h.ne l hl);have cy:=T7 nd hl (show l[0]?=some a by rw[ea];rfl)
 have ha:a∈LL.flatten:=mFq.mpr ⟨l,hl,by rw[ea];exact af ..⟩
 have same:∀n,itr (nx LL) n a=itr (fw C) n a:=λn=>by
  induction n with
  |zero=>rfl
  |succ n ih =>
   show nx LL (itr (nx LL) n a)=fw C (itr (fw C) n a);rw[←ih];exact eq _ ((Td nd).itr_mem ha n)
 refine⟨a,cy.len,?_,?_,cy.nd⟩
 .have:=cy.get;rw[mCq λn _=>same n]at this
  exact this
 .rw [←same];exact cy.back
theorem QA(r:List Int) (q:Int×Int):(cp (good r)).count q=(cp r).count q:=by
 unfold good;show (cp (r.drop _++r.take _)).count q=_;rw[vg,aY]
theorem Ln.rows(h:Ln C LL):Ln (tR (C.map good)) LL:=by
 refine⟨λx y=>?_,h.ne⟩
 rw[h.cnt,ug (qW _)];generalize C=X
 induction X with
 |nil=>rfl
 |cons r X ih=>rw[pI,ar,pI,QA,ih]
theorem Gj(C LL:List (List Int)):nL (tR (C.map good)) LL=nL C LL:=by
 unfold nL;rw[(qW _).count_eq];congr 1
 induction C with
 |nil=>rfl
 |cons r X ih =>
  rw[ar,bS,bS,ih];congr 1;have:(good r == [])=(r == []):=by
   rw[bQ,beq_iff_eq,beq_iff_eq];have:=(rJ r).length_eq;rw[←bc,←bc,this]
  rw[this]
end
end K18
--ZQ3 --ZQ4 --ZQ5 --ZQ6 --ZQ8 --ZQ9 --ZQB --ZQC --ZQD --ZQE --ZQF
namespace K23
open PySem L2 Mr Z Xe Zl
def uj(z:Int) (t:List Int):List Int:=t.filter λe=>!decide (e∈[z, -z])
def C(z:Int) (rs:List (List Int)):List (List Int):=rs.map (uj z)
section
variable {rs:List (List Int)}{z:Int}
theorem D9:(C z rs).flatten=uj z rs.flatten:=by
 unfold C uj;rw[jw]
end
end K23
namespace K25
open PySem L2 Mr Z Xe Zl K15 K16
section
variable {rs:List (List Int)}
def Rt(rs:List (List Int)) (x:Int) (w:List Int):Prop:=∃u v,u++x::v∈rs/\w=v++u
def pz(z e:Int):Bool:=!decide (e∈[z, -z])
def Y7(z:Int) (f:Int->Int) (x:Int):Int:=if pz z (f x)=true then f x else if pz z (f (-f x))=true then f (-f x) else f (-f (-f x))
structure YM (rs:List (List Int)) (z:Int) (D:List (List Int)):Prop where
 nd:D.flatten.Nodup
 mem:∀x,x∈D.flatten↔x∈rs.flatten/\pz z x=true
 on:∀x∈D.flatten,nx D x=Y7 z (nx rs) x
 br:bare D=bare rs+((if nx rs (-z)=z then 1 else 0)+(if nx rs z = -z then 1 else 0)+(if nx rs (-z) = -z/\nx rs z=z then 1 else 0))
 len:D.length<=rs.length+2
end
end K25
namespace K43
open PySem L2 Mr Z Xe Zl
open K51 (sR Ps Pc)
section
variable {rs A B:List (List Int)}
theorem xF(h:Mp rs):K51.Mp rs:=⟨h.hn,h.hl,h.hr,h.hneg⟩
theorem Se(e:Int):K51.plc rs e=plc rs e:=rfl
structure Wk (rs:List (List Int)) (l:List Nat):Prop where
 lt:∀k∈l,k<rs.length
 pw:l.Pairwise λa b=>¬ sR rs a b
theorem Wk.nd{l:List Nat}(h:Wk rs l):l.Nodup:=by
 rw[aQ];exact h.pw.imp (λ{a b} n (e:a=b)=>n (e ▸ (.base:sR rs a a)))
theorem M5{PS:List (List Nat)}{k:Nat}(h:∃ps∈PS,k∈ps):∃ps,PS[PS.findIdx λp=>decide (k∈p)]?=some ps/\k∈ps:=by
 obtain⟨ps,h1,h2⟩:=h;have hl:PS.findIdx (λp=>decide (k∈p))<PS.length:=eK ⟨ps,h1,decide_eq_true h2⟩
 have h3:=gR (xs:=PS) (p:=λp=>decide (k∈p)) (w:=hl)
 exact⟨_,gEg hl,of_decide_eq_true h3⟩
theorem zz(hm:Mp rs) {kn:List Nat}{PS:List (List Nat)}(hp:Ps rs rs.length kn PS) {l:List Nat}(h:Wk rs l):l.length<=PS.length:=by
 have hf:∀k∈l,∃ps,PS[PS.findIdx λp=>decide (k∈p)]?=some ps/\k∈ps:=λk hk=>M5 (hp.mem k (hp.all k (h.lt k hk)))
 have:=K51.Vc PS.length (l.map λk=>PS.findIdx λp=>decide (k∈p)) (by
  rw[aQ,bb];refine aZ.imp_of_mem (λ{a b} ha hb n e=>n ?_) h.pw
  obtain⟨p,p1,p2⟩:=hf a ha;obtain⟨q,q1,q2⟩:=hf b hb;rw[e,q1]at p1;have epq:=aD.inj p1;subst epq;obtain⟨s,_,pc⟩:=hp.pc q (mGq q1);exact(K51.sR.symm (xF hm) ((pc.iff a).mp p2)).trans ((pc.iff b).mp q2)) (λx hx=>by
  obtain⟨k,hk,rfl⟩:=mMq.mp hx;obtain⟨p,p1,_⟩:=hf k hk;exact(gSq.mp p1).1)
 rwa [lMq]at this
theorem UV{ps:List Nat}(h:ps≠[]):ps.headD 0∈ps:=by
 cases ps with
 |nil=>exact absurd rfl h
 |cons a ps=>exact af ..
theorem Ga(hm:Mp rs) {kn:List Nat}{PS:List (List Nat)}(hp:Ps rs rs.length kn PS):∃l,Wk rs l/\l.length=PS.length/\∀k,k<rs.length->∃r∈l,sR rs k r:=by
 have hne:∀ps∈PS,ps.headD 0∈ps:=λps h=>UV λe=>by
  obtain⟨s,_,pc⟩:=hp.pc ps h;have:=(pc.iff s).mpr .base;rw[e]at this;cases this
 have cls:∀ps∈PS,∀a∈ps,∀b,sR rs a b->b∈ps:=λps h a ha b hab=>by
  obtain⟨s,_,pc⟩:=hp.pc ps h;exact(pc.iff b).mpr (((pc.iff a).mp ha).trans hab)
 refine⟨PS.map λps=>ps.headD 0,⟨λk hk=>?_,?_⟩,lMq _,λk hk=>?_⟩
 .obtain ⟨ps,h,rfl⟩:=mMq.mp hk;exact hp.lt _ (hp.sub ps h _ (hne ps h))
 .rw [bb];refine aZ.imp_of_mem (λ{a b} ha hb d r=>?_) hp.dj
  exact d _ (cls a ha _ (hne a ha) _ r) (hne b hb)
 .obtain ⟨ps,h1,h2⟩:=hp.mem k (hp.all k hk);refine⟨_,mMq.mpr ⟨ps,h1,rfl⟩,?_⟩;obtain⟨s,_,pc⟩:=hp.pc ps h1;exact(K51.sR.symm (xF hm) ((pc.iff k).mp h2)).trans ((pc.iff _).mp (hne ps h1))
theorem Pu{R:Nat->Nat->Prop}(sy:∀{a b:Nat},R a b->R b a):∀{l:List Nat},l.Pairwise R->∀{a b:Nat},a∈l->b∈l->a≠b->R a b
 | [],_,a,b,ha,_,_=>by cases ha
 |x::l,h,a,b,ha,hb,n=>by
  obtain⟨h1,h2⟩:=bP.mp h;rcases ae.mp ha with e1|ha1
  .rcases ae.mp hb with e2|hb1
   .exact absurd (e1.trans e2.symm) n
   .rw [e1];exact h1 b hb1
  .rcases ae.mp hb with e2|hb1
   .rw [e2];exact sy (h1 a ha1)
   .exact Pu sy h2 ha1 hb1 n
section
variable {M:List (List Int)}{z:Int}
theorem Bi{k:Nat}{r:List Int}(h:M[k]?=some r):(K23.C z M)[k]?=some (K23.uj z r):=by
 unfold K23.C;rw[gMq,h];rfl
theorem uV{r:List Int}{e:Int}:e∈K23.uj z r↔e∈r/\e≠z/\e ≠ -z:=by
 unfold K23.uj;rw[ao];simp
theorem vq{e:Int}:e∈(K23.C z M).flatten↔e∈M.flatten/\e≠z/\e ≠ -z:=by
 rw[K23.D9];exact uV
theorem xN(hm:Mp M):Mp (K23.C z M):=by
 have hs:(K23.C z M).flatten.length<=M.flatten.length:=by rw[K23.D9];exact eF _ _
 refine⟨by rw[K23.D9];exact aZ.sublist dR hm.hn,by have:=hm.hl;lia,by unfold K23.C;rw[lMq];exact hm.hr,λe he=>?_⟩
 have h:=vq.mp he;exact vq.mpr ⟨hm.hneg e h.1,by lia,by lia⟩
theorem G4(hm:Mp M) {e:Int}(h:e∈(K23.C z M).flatten):plc (K23.C z M) e=plc M e:=by
 obtain⟨r,h1,h2⟩:=hm.at (vq.mp h).1;exact plc_eq (xN hm).hn (Bi h1) (uV.mpr ⟨h2,(vq.mp h).2⟩)
theorem wJ:(K23.C z M).length=M.length:=by unfold K23.C;rw[lMq]
theorem JR(hm:Mp M) {i j:Nat}(h:sR (K23.C z M) i j):sR M i j:=by
 induction h with
 |base=>exact .base
 | @step k r e _ h1 h2 ih =>
  have hk:k<M.length:=by rw[←wJ (z:=z)];exact(gSq.mp h1).1
  have hr:M[k]?=some M[k]:=gEg hk;rw[Bi hr]at h1;cases h1;have he:e∈(K23.C z M).flatten:=mFq.mpr ⟨_,mGq (Bi hr),h2⟩;have hn:=(xN hm).hneg e he;have:K51.plc (K23.C z M) (-e)=K51.plc M (-e):=G4 hm hn;rw[this];exact .step ih hr (uV.mp h2).1
theorem Vt(hm:Mp M) (hz:z∈M.flatten) {i j:Nat}(h:sR M i j):sR (K23.C z M) i j∨(sR (K23.C z M) i (plc M z)/\sR (K23.C z M) (plc M (-z)) j)∨(sR (K23.C z M) i (plc M (-z))/\sR (K23.C z M) (plc M z) j):=by
 have hw:=xF (xN (z:=z) hm)
 induction h with
 |base=>exact .inl .base
 | @step k r e _ h1 h2 ih =>
  by_cases e1:e=z
  .subst e1;have hk:plc M e=k:=plc_eq hm.hn h1 h2;show _∨_∨_;rw[Se];rcases ih with q|⟨q1,q2⟩|⟨q1,q2⟩
   .exact .inr (.inl ⟨hk ▸ q,.base⟩)
   .rw [←hk]at q2;exact .inl (q1.trans (q2.symm hw))
   .exact .inl q1
  .by_cases e2:e = -z
   .subst e2;have hk:plc M (-z)=k:=plc_eq hm.hn h1 h2;rw[Se,bj];rcases ih with q|⟨q1,q2⟩|⟨q1,q2⟩
    .exact .inr (.inr ⟨hk ▸ q,.base⟩)
    .exact .inl q1
    .rw [←hk]at q2;exact .inl (q1.trans (q2.symm hw))
   .have he:e∈K23.uj z r:=uV.mpr ⟨h2,e1,e2⟩;have hf:e∈(K23.C z M).flatten:=mFq.mpr ⟨_,mGq (Bi h1),he⟩;have hp:plc (K23.C z M) (-e)=plc M (-e):=G4 hm ((xN hm).hneg e hf);rw[Se,←hp];rcases ih with q|⟨q1,q2⟩|⟨q1,q2⟩
    .exact .inl (.step q (Bi h1) he)
    .exact .inr (.inl ⟨q1,.step q2 (Bi h1) he⟩)
    .exact .inr (.inr ⟨q1,.step q2 (Bi h1) he⟩)
theorem B4(hm:Mp M) (hz:z∈M.flatten) (hb:sR (K23.C z M) (plc M z) (plc M (-z))) {kn kn':List Nat}{PS PS':List (List Nat)}(hp:Ps M M.length kn PS) (hp':Ps (K23.C z M) (K23.C z M).length kn' PS'):PS'.length=PS.length:=by
 have hw:=xF (xN (z:=z) hm);have key:∀{i j},sR M i j->sR (K23.C z M) i j:=λ{i j} h=>by
  rcases Vt hm hz h with q|⟨q1,q2⟩|⟨q1,q2⟩
  .exact q
  .exact (q1.trans hb).trans q2
  .exact (q1.trans (hb.symm hw)).trans q2
 obtain⟨l,i1,l1,_⟩:=Ga hm hp;obtain⟨l',i2,l2,_⟩:=Ga (xN hm) hp';have a:=zz (xN hm) hp' (l:=l) ⟨λk hk=>by rw[wJ];exact i1.lt k hk,i1.pw.imp λn h=>n (JR hm h)⟩
 have b:=zz hm hp (l:=l') ⟨λk hk=>by rw[←wJ (z:=z)];exact i2.lt k hk,i2.pw.imp λn h=>n (key h)⟩
 lia
theorem B1(hm:Mp M) (hz:z∈M.flatten) (hb:¬ sR (K23.C z M) (plc M z) (plc M (-z))) {kn kn':List Nat}{PS PS':List (List Nat)}(hp:Ps M M.length kn PS) (hp':Ps (K23.C z M) (K23.C z M).length kn' PS'):PS'.length=PS.length+1:=by
 have hw:=xF (xN (z:=z) hm);have hkm:=xF hm;have hz':=hm.hneg z hz;have zm:sR M (plc M z) (plc M (-z)):=by
  obtain⟨r,h1,h2⟩:=hm.at hz;exact .step .base h1 h2
 obtain⟨l,i1,l1,c1⟩:=Ga hm hp;obtain⟨l',i2,l2,_⟩:=Ga (xN hm) hp';have b:=zz hm hp (l:=l'.filter λk=>!@decide (sR (K23.C z M) (plc M (-z)) k) (aH _)) ⟨λk hk=>by rw[←wJ (z:=z)];exact i2.lt k (ao.mp hk).1,by
  have hs:=i2.pw.sublist (dR (p:=λk=>!@decide (sR (K23.C z M) (plc M (-z)) k) (aH _)))
  refine aZ.imp_of_mem (λ{x y} hx hy n h=>?_) hs
  have nx:¬ sR (K23.C z M) (plc M (-z)) x:=by simpa using (ao.mp hx).2
  have ny:¬ sR (K23.C z M) (plc M (-z)) y:=by simpa using (ao.mp hy).2
  rcases Vt hm hz h with q|⟨q1,q2⟩|⟨q1,q2⟩
  .exact n q
  .exact ny q2
  .exact nx (q1.symm hw)⟩
 have few:(l'.filter λk=>@decide (sR (K23.C z M) (plc M (-z)) k) (aH _)).length<=1:=by
  have hs:=i2.pw.sublist (dR (p:=λk=>@decide (sR (K23.C z M) (plc M (-z)) k) (aH _)))
  have hm':∀x∈l'.filter λk=>@decide (sR (K23.C z M) (plc M (-z)) k) (aH _),sR (K23.C z M) (plc M (-z)) x:=λx hx=>by simpa using (ao.mp hx).2
  generalize (l'.filter λk=>@decide (sR (K23.C z M) (plc M (-z)) k) (aH _))=L at hs hm'
  match L,hs,hm' with
  | [],_,_=>exact bq _
  | [x],_,_=>exact aj _
  |x::y::L,hs,hm' =>
   exact absurd (((hm' x (by simp)).symm hw).trans (hm' y (by simp))) ((bP.mp hs).1 y (by simp))
 have tot:=cY (p:=λk=>@decide (sR (K23.C z M) (plc M (-z)) k) (aH _)) (l:=l')
 rw[cm,cm]at tot;have e1:(l'.filter λa=>decide ¬ (@decide (sR (K23.C z M) (plc M (-z)) a) (aH _))=true)=l'.filter λk=>!@decide (sR (K23.C z M) (plc M (-z)) k) (aH _):=by
  congr 1;funext k;rw[bQ];simp
 obtain⟨r,hr,ra⟩:=c1 (plc M z) (hm.lt hz);have a:=zz (xN hm) hp' (l:=plc M z::plc M (-z)::l.erase r) ⟨λk hk=>by
   rw[wJ];rcases ae.mp hk with rfl|hk
   .exact hm.lt hz
   .rcases ae.mp hk with rfl|hk
    .exact hm.lt hz'
    .exact i1.lt k (je hk),by
  have out:∀k∈l.erase r,¬ sR M r k:=λk hk h=>by
   have hne:r≠k:=λe=>by
    subst e;exact(List.Nodup.not_mem_erase i1.nd) hk
   have hin:=je hk;exact Pu (R:=λa b=>¬ sR M a b) (λn c=>n (c.symm hkm)) i1.pw hr hin hne h
  refine bP.mpr ⟨λk hk q=>?_,bP.mpr ⟨λk hk q=>?_,(i1.pw.sublist List.erase_sublist).imp λn h=>n (JR hm h)⟩⟩
  .rcases ae.mp hk with rfl|hk
   .exact hb q
   .exact out k hk ((ra.symm hkm).trans (JR hm q))
  .exact out k hk ((ra.symm hkm).trans (zm.trans (JR hm q)))⟩
 have le:=iH hr;have lp:=gu hr;rw[lCq,lCq,le]at a;rw[e1]at tot;lia
end
def emp(B:List (List Int)):List Nat:=(cw B.length).filter λk=>decide (B.getD k []=[])
theorem getD_some{k:Nat}(h:k<B.length):B[k]?=some (B.getD k []):=by rw[gDq,gEg h];rfl
theorem Jv(B:List (List Int)):(cw B.length).map (λk=>B.getD k [])=B:=by
 refine dD λi=>?_
 rw[gMq]
 by_cases h:i<B.length
 .rw [dO h,getD_some h];rfl
 .rw [bf (by rw[bC];lia),bf (by lia)]
  rfl
theorem CJ(B:List (List Int)):(emp B).length=bare B:=by
 unfold emp bare;rw[←cm];have:B.countP (λr=>decide (r=[]))=((cw B.length).map (λk=>B.getD k [])).countP (λr=>decide (r=[])):=by rw[Jv]
 rw[this,iX];rfl
theorem Ba{k:Nat}:k∈emp B↔k<B.length/\B.getD k []=[]:=by
 unfold emp;rw[ao,dq];simp
theorem CP{k j:Nat}(h:sR B k j) (he:B.getD k []=[]):j=k:=by
 induction h with
 |base=>rfl
 | @step k' r e h1 h2 h3 ih =>
  have:=ih;subst this;rw[gDq,h2]at he;rw[show r=[] from he]at h3
  cases h3
end
end K43
namespace K11
open PySem L2 Mr Z
end K11
--ZQ3 --ZQ4 --ZQ5 --ZQ6 --ZQ8 --ZQ9 --ZQB --ZQC --ZQD --ZQE --ZQF
namespace K11
open PySem L2 Mr Z Xe Zl K12
def Cp(p:List (List Int)):Prop:=∀k,0<k->k<p.length->∃j e,j<k/\e∈p.getD j []/\-e∈p.getD k []
structure Cn (p:List (List Int)):Prop where
 ne:p≠[]
 clo:∀z∈p.flatten, -z∈p.flatten
 tr:Cp p
theorem A4{l:List (List Int)}{h:Nat}{r x:List Int}(hr:l[h]?=some r) {k:Nat}{e:Int}(he:e∈l.getD k []):e∈(l.set h (r++x)).getD k []:=by
 rw[gDq]at he ⊢
 by_cases q:h=k
 .subst q;have hlt:=(gSq.mp hr).1;rw[aA hlt];rw[hr]at he;exact ah _ he
 .rw [aB q];exact he
theorem Fy{l:List (List Int)}{h:Nat}{r x:List Int}(hr:l[h]?=some r) {e:Int}(he:e∈x):e∈(l.set h (r++x)).getD h []:=by
 have hlt:=(gSq.mp hr).1;rw[gDq,aA hlt];exact ag _ he
theorem Cp.set{l:List (List Int)}{h:Nat}{r x:List Int}(t:Cp l) (hr:l[h]?=some r):Cp (l.set h (r++x)):=λk h0 hk=>by
 rw[lZq]at hk;obtain⟨j,e,h1,h2,h3⟩:=t k h0 hk;exact⟨j,e,h1,A4 hr h2,A4 hr h3⟩
theorem getD_app{l:List (List Int)}{x:List Int}{k:Nat}(h:k<l.length):(l++[x]).getD k []=l.getD k []:=by
 rw[gDq,gDq,gZq h]
theorem HY{l:List (List Int)}{x:List Int}:(l++[x]).getD l.length []=x:=by
 rw[gDq,gYq (aj _),cR];rfl
theorem Cp.add{l:List (List Int)}{h:Nat}{e:Int}(t:Cp l) (hh:h<l.length) (he:e∈l.getD h []):Cp (l++[[-e]]):=λk h0 hk=>by
 rw[lAq,lSq]at hk
 by_cases q:k<l.length
 .obtain ⟨j,e',h1,h2,h3⟩:=t k h0 q;exact⟨j,e',h1,by rw[getD_app (by lia)];exact h2,by rw[getD_app q];exact h3⟩
 .have ek:k=l.length:=by lia
  subst ek;exact⟨h,e,hh,by rw[getD_app hh];exact he,by rw[HY];simp⟩
theorem GH(r:List Int):Cp [r]:=λk h0 hk=>by
 rw[lSq]at hk;lia
end K11
--ZQ3 --ZQ4 --ZQ5 --ZQ6 --ZQ8 --ZQ9 --ZQB --ZQC --ZQD --ZQE --ZQF --ZQG
namespace K31
open PySem L2 Mr Z Xe Zl K12
theorem CF(one two:Int):∃st sh a b:Int,1<=st/\st<=10 ^ 40/\0<=sh/\sh<10 ^ 40/\1<=a/\a<=66/\∀k:Nat,uw [.int one,.int two,.int (k:Int)]=some (.sh (.int (NC st sh a b k))):=by
 have a1:0<=two % 66:=bN _ (by decide)
 have a2:two % 66<66:=bK _ (by decide)
 have s1:0<=one / 3 % 10 ^ 40:=bN _ (by decide)
 have s2:one / 3 % 10 ^ 40<10 ^ 40:=bK _ (by decide)
 have s3:0<=two / 66 % 10 ^ 40:=bN _ (by decide)
 have s4:two / 66 % 10 ^ 40<10 ^ 40:=bK _ (by decide)
 have m3:=λi:Int=>tW (i:=i) (j:=3) (by decide)
 have m66:=λi:Int=>tW (i:=i) (j:=66) (by decide)
 have m67:=λi:Int=>tW (i:=i) (j:=67) (by decide)
 have m40:=λi:Int=>tW (i:=i) (j:=10 ^ 40) (by decide)
 have d3:=λi:Int=>zI (i:=i) (j:=3) (by decide) (by decide)
 have d66:=λi:Int=>zI (i:=i) (j:=66) (by decide) (by decide)
 have c1:=λk:Nat=>Kw (i:=1+two % 66) (j:=(k:Int)) (by lia) (by lia)
 by_cases h0:0<one % 3
 .refine ⟨1+one / 3 % 10 ^ 40,two / 66 % 10 ^ 40,1+two % 66,one,by lia,by lia,s3,s4,by lia,by lia,λk=>?_⟩
  have b1:0<=((1+two % 66)*(k:Int)+one) % 67:=bN _ (by decide)
  have b2:((1+two % 66)*(k:Int)+one) % 67<67:=bK _ (by decide)
  have c2:=KL (i:=1+one / 3 % 10 ^ 40) (j:=((1+two % 66)*(k:Int)+one) % 67+1) (by lia) (by lia)
  simp_arith [uw,BU,h0,m3,m66,m67,m40,d3,d66,c1,c2,XY,NC]
 .refine ⟨1,0,1+two % 66,one,by decide,by decide,by decide,by decide,by lia,by lia,λk=>?_⟩
  have b1:0<=((1+two % 66)*(k:Int)+one) % 67:=bN _ (by decide)
  have b2:((1+two % 66)*(k:Int)+one) % 67<67:=bK _ (by decide)
  have c2:=KL (i:=1) (j:=((1+two % 66)*(k:Int)+one) % 67+1) (by lia) (by lia)
  simp_arith [uw,BU,h0,m3,m66,m67,c1,c2,NC]
theorem B3{T:List (List Int)}{h:Nat}{r:List Int}(hr:T[h]?=some r):qM (.ow (T.map aI)) [h]=some (r.map λn=>.sh (.int n)):=by
 rw[GY,gMq,hr];rfl
theorem RX{T:List (List Int)}{h:Nat}{r r':List Int}(hr:T[h]?=some r):putAt (.ow (T.map aI)) [h] (r'.map λn=>.sh (.int n)) = .ow ((T.set h r').map aI):=by
 rw[Jp (a:=aI r) (by rw[gMq,hr];rfl)]
 show AV.ow ((T.map aI).set h (aI r'))=_;rw[Nv]
structure Wd where
 T:List (List Int)
 t0:List Nat
 h:Nat
 loose:List Int
 left:List Int
def C5(wild:Bool) (c:Int) (loose:List Int):Nat:=if wild then (c / 8 % loose.length).toNat else loose.length-1
def sg(c x:Int):Int:=x*(1-2*(c / 4 % 2))
def xW(wild:Bool) (w:Wd) (c:Int):Wd :=
 let r:=w.T.getD w.h []
 if c % 4=1/\w.t0≠[] then { w with t0:=w.t0.dropLast,h:=w.t0.getLast?.getD 0 }
 else if c % 4=2/\w.loose≠[] then { w with T:=w.T.set w.h (r++[w.loose.getD (C5 wild c w.loose) 0]),loose:=w.loose.eraseIdx (C5 wild c w.loose) }
 else match w.left with
  | []=>w
  |x::left=>if c % 4=0 then { w with T:=w.T.set w.h (r++[sg c x])++[[-(sg c x)]],t0:=w.t0++[w.h],h:=w.T.length,left:=left }
   else { w with T:=w.T.set w.h (r++[sg c x]),loose:=w.loose++[-(sg c x)],left:=left }
def st(v0 v1:Option AV) (wild:Bool) (w:Wd) (v7 v8 v9 v10:Option AV):AS:=[v0,v1,some (.sh (.bl wild)),some (.ow (w.T.map aI)),some (aI (cN (w.t0++[w.h]))),some (aI w.loose),some (aI w.left),v7,v8,v9,v10]
section
variable {T:List (List Int)}{t0:List Nat}{hd:Nat}{loose left r:List Int}{c:Int}{wild:Bool}{v0 v1 v8 v9 v10:Option AV}
theorem On:atI ((cN (t0++[hd])).map D.int) (((t0++[hd]).length:Int)-1)=some (.int (hd:Int)):=by
 have:((t0++[hd]).length:Int)-1=(t0.length:Int):=by rw[lAq,lSq];lia
 rw[this];refine vL ?_;unfold cN;rw[mBq,mBq,gYq (by simp)]
 simp
theorem D7(l:List Nat):(cN l).length=l.length:=lMq ..
def PZ:List Nat->MS:=(HV 3 (uS (qG Ij (uO tH (oZ (pd 6) pO)) (rC (.int 0)))) (FY 3 (EL 10 (QV Cq (zS 6 (rC (.int 0))) (qG Bd (rC (.int 1)) (qG Cq (rC (.int 2)) (qG vR (qG BN (pd 7) (rC (.int 4))) (rC (.int 2))))))) (λpath=>qi ((Kf 3 (qp 10)) path) (BQ (uS (qG GB (qG vR (pd 7) (rC (.int 4))) (rC (.int 0)))) (qi (Ea 3 (zF (qk (kSc (MM Eb (pd 10))) rS))) (Ea 4 (kSc (qG Bd (uO tH (oZ (pd 3) pO)) (rC (.int 1)))))) (Ea 5 (kSc (MM Eb (pd 10))))))) (λ_=>sY))
def NL:List Nat->MS:=(HV 3 (Cj (uS (qG GB (qG vR (pd 7) (rC (.int 4))) (rC (.int 1)))) (uS (qG Ij (uO tH (oZ (pd 4) pO)) (rC (.int 1))))) (λ_=>(Gq (DA 4))) (HV 3 (Cj (uS (qG GB (qG vR (pd 7) (rC (.int 4))) (rC (.int 2)))) (uS (qG Ij (uO tH (oZ (pd 5) pO)) (rC (.int 0))))) (FY 3 (qK 9 (kSc (qG Bd (uO tH (oZ (pd 5) pO)) (rC (.int 1))))) (FY 3 (BQ (uS (pd 2)) (qK 9 (kSc (qG vR (qG BN (pd 7) (rC (.int 8))) (uO tH (oZ (pd 5) pO))))) sY) (FH 3 (zS 5 (pd 9))))) PZ))
theorem QJ:tj=(Rz 8 3 (WH 3 (Px 3) (qG IU (pd 4) (qG Bd (uO tH (oZ (pd 4) pO)) (rC (.int 1))))) NL):=rfl
theorem OW(hr:T[hd]?=some r):tj (st v0 v1 wild ⟨T,t0,hd,loose,left⟩ (some (.sh (.int c))) v8 v9 v10)=NL [hd] (st v0 v1 wild ⟨T,t0,hd,loose,left⟩ (some (.sh (.int c))) none v9 v10):=by
 have hh:hd<T.length:=(gSq.mp hr).1;have n1:=B3 hr;have iL:Jc T.length (hd:Int)=some hd:=J8 hh;have sl:=qP (cN (t0++[hd]));have at4:=On (t0:=t0) (hd:=hd);have cl:=D7 (t0++[hd]);have q:((8:Nat)≠3/\8<11)=True:=by simp
 rw[QJ]
 simp_arith [st,n1,iL,sl,dI,at4,cl,q]
theorem RW{t:List Nat}{h':Nat}(hr:T[hd]?=some r) (h1:c % 4=1):NL [hd] (st v0 v1 wild ⟨T,t++[h'],hd,loose,left⟩ (some (.sh (.int c))) v8 v9 v10)=some (.nx (st v0 v1 wild ⟨T,t,h',loose,left⟩ (some (.sh (.int c))) v8 v9 v10)):=by
 have m4:=tW (i:=c) (j:=4) (by decide)
 have n1:=B3 hr;have sl:=qP (cN (t++[h']++[hd]));have cl:=D7 (t++[h']++[hd]);have k1:(1:Int)<((t++[h']++[hd]).length:Int):=by simp;lia
 have ec:(cN (t++[h']++[hd])).map (λn=>AV.sh (.int n))=(cN (t++[h'])).map (λn=>AV.sh (.int n))++[.sh (.int (hd:Int))]:=(P7 (t++[h']) hd).symm
 have p1:((cN (t++[h'])).map (λn=>AV.sh (.int n))++[AV.sh (.int (hd:Int))])[((cN (t++[h'])).map (λn=>AV.sh (.int n))++[AV.sh (.int (hd:Int))]).length-1]?=some (.sh (.int (hd:Int))):=by
  rw[lAq,lSq,gYq (by lia)]
  simp
 have p2:((cN (t++[h'])).map (λn=>AV.sh (.int n))++[AV.sh (.int (hd:Int))]).dropLast=(cN (t++[h'])).map (λn=>AV.sh (.int n)):=dw
 simp_arith [NL,st,m4,h1,n1,sl,dI,cl,k1,eq_self,ec,p1,p2]
theorem Qy(hr:T[hd]?=some r) (hrl:r.length<500000) (hll:loose.length<500000) (h1:¬ c % 4=1) (h2:c % 4=2) (hne:loose≠[]):NL [hd] (st v0 v1 wild ⟨T,t0,hd,loose,left⟩ (some (.sh (.int c))) v8 v9 v10)=some (.nx (st v0 v1 wild ⟨T.set hd (r++[loose.getD (C5 wild c loose) 0]),t0,hd,loose.eraseIdx (C5 wild c loose),left⟩ (some (.sh (.int c))) v8 (some (.sh (.int (C5 wild c loose:Nat)))) v10)):=by
 have m4:=tW (i:=c) (j:=4) (by decide)
 have d8:=zI (i:=c) (j:=8) (by decide) (by decide)
 have hpos:0<loose.length:=dJ.mpr hne;have ml:=tW (i:=c / 8) (j:=(loose.length:Int)) (by lia)
 have n1:=B3 hr;have l1:r.length<rY:=by show _<16777216;lia
 have sl:=qP loose;have k0:(0:Int)<(loose.length:Int):=by lia
 have hlt:C5 wild c loose<loose.length:=by
  unfold C5;have b0:0<=c / 8 % (loose.length:Int):=bN _ (by lia)
  have b1:c / 8 % (loose.length:Int)<(loose.length:Int):=bK _ (by lia)
  split <;> lia
 have ll:loose.length<=rY:=by show _<=16777216;lia
 have g1:(loose.map λn=>AV.sh (.int n))[C5 wild c loose]?=some (.sh (.int (loose.getD (C5 wild c loose) 0))):=by
  rw[gMq,gEg hlt,gDq,gEg hlt];rfl
 have g2:(loose.map λn=>AV.sh (.int n)).eraseIdx (C5 wild c loose)=(loose.eraseIdx (C5 wild c loose)).map λn=>.sh (.int n):=OG _ _ _
 have p2:=RX (r':=r++[loose.getD (C5 wild c loose) 0]) hr;have a1:=Bv r (loose.getD (C5 wild c loose) 0);have q:(0<=((C5 wild c loose:Nat):Int)/\((C5 wild c loose:Nat):Int)<(loose.length:Int)/\loose.length<=rY)=True:=by simp[ll,hlt]
 have tn:((C5 wild c loose:Nat):Int).toNat=C5 wild c loose:=eJ _;have h21:¬ (2:Int)=1:=by decide
 cases wild with
 |true =>
  have ea:c / 8 % (loose.length:Int)=((C5 true c loose:Nat):Int):=by
   have b0:0<=c / 8 % (loose.length:Int):=bN _ (by lia)
   show _=(((c / 8 % (loose.length:Int)).toNat:Nat):Int);lia
  simp_arith [NL,st,m4,h2,h21,n1,sl,dI,k0,eq_self,d8,ml,ea,q,tn,g1,g2,l1,a1,p2,true_and]
 |false =>
  have ea:(loose.length:Int)-1=((C5 false c loose:Nat):Int):=by
   show _=((loose.length-1:Nat):Int);lia
  simp_arith [NL,st,m4,h2,h21,n1,sl,dI,k0,eq_self,ea,q,tn,g1,g2,l1,a1,p2,true_and]
theorem OF(hr:T[hd]?=some r) (h1:¬ (c % 4=1/\t0≠[])) (h2:¬ (c % 4=2/\loose≠[])):NL [hd] (st v0 v1 wild ⟨T,t0,hd,loose,left⟩ (some (.sh (.int c))) v8 v9 v10)=PZ [hd] (st v0 v1 wild ⟨T,t0,hd,loose,left⟩ (some (.sh (.int c))) v8 v9 v10):=by
 have m4:=tW (i:=c) (j:=4) (by decide)
 have n1:=B3 hr;have sl:=qP loose;have sw:=qP (cN (t0++[hd]));have cl:=D7 (t0++[hd]);have q1:c % 4=1->decide ((1:Int)<((t0++[hd]).length:Int))=false:=λh=>by
  by_cases hn:t0=[]
  .subst hn;simp
  .exact absurd ⟨h,hn⟩ h1
 have q2:c % 4=2->decide ((0:Int)<(loose.length:Int))=false:=λh=>by
  by_cases hn:loose=[]
  .subst hn;simp
  .exact absurd ⟨h,hn⟩ h2
 have h21:¬ (2:Int)=1:=by decide
 have h12:¬ (1:Int)=2:=by decide
 by_cases e1:c % 4=1
 .have q1':=q1 e1
  simp_arith [NL,PZ,st,m4,e1,h12,n1,sl,sw,cl,dI,q1',eq_self]
 .by_cases e2:c % 4=2
  .have q2':=q2 e2
   simp_arith [NL,PZ,st,m4,e2,h21,n1,sl,sw,cl,dI,q2',eq_self]
  .simp_arith [NL,PZ,st,m4,e1,e2,n1,sl,sw,cl,dI,eq_self]
theorem Ry(hr:T[hd]?=some r):PZ [hd] (st v0 v1 wild ⟨T,t0,hd,loose,[]⟩ (some (.sh (.int c))) v8 v9 v10)=some (.nx (st v0 v1 wild ⟨T,t0,hd,loose,[]⟩ (some (.sh (.int c))) v8 v9 v10)):=by
 have n1:=B3 hr;have k0:decide ((0:Int)<((0:Nat):Int))=false:=by decide
 have sl:=qP []
 simp_arith [PZ,st,n1,sl,dI,k0]
theorem U1{x:Int}(hr:T[hd]?=some r) (hrl:r.length<500000) (hTl:T.length<500000) (htl:t0.length<500000) (hll:left.length<500000) (h0:c % 4=0):PZ [hd] (st v0 v1 wild ⟨T,t0,hd,loose,x::left⟩ (some (.sh (.int c))) v8 v9 v10)=some (.nx (st v0 v1 wild ⟨T.set hd (r++[sg c x])++[[-(sg c x)]],t0++[hd],T.length,loose,left⟩ (some (.sh (.int c))) v8 v9 (some (.sh (.int (sg c x)))))):=by
 have m4:=tW (i:=c) (j:=4) (by decide)
 have d4:=zI (i:=c) (j:=4) (by decide) (by decide)
 have m2:=tW (i:=c / 4) (j:=2) (by decide)
 have b0:0<=c / 4 % 2:=bN _ (by decide)
 have b1:c / 4 % 2<2:=bK _ (by decide)
 have c1:=Kw (i:=2) (j:=c / 4 % 2) (by lia) (by lia)
 have c2:=KL (i:=x) (j:=1-2*(c / 4 % 2)) (by lia) (by lia)
 have n1:=B3 hr;have sl:=qP (x::left);have k0:(0:Int)<((x::left).length:Int):=by rw[lCq];lia
 have k00:(0:Int)<((left.length+1:Nat):Int):=by lia
 have l1:r.length<rY:=by show _<16777216;lia
 have q:(0:Int)<=0:=ip _;have lL:left.length+1<=rY:=by show _<=16777216;lia
 have t0':(0:Int).toNat=0:=rfl;have es:x*(1-2*(c / 4 % 2))=sg c x:=rfl;have a1:=Bv r (sg c x);have p2:=RX (r':=r++[sg c x]) hr;have lT:(T.set hd (r++[sg c x])).length=T.length:=lZq;have l2:T.length<rY:=by show _<16777216;lia
 have a3:=Kv (T.set hd (r++[sg c x])) (-(sg c x));have lenT:((T.set hd (r++[sg c x])++[[-(sg c x)]]).length:Int)-1=(T.length:Int):=by rw[lAq,lT,lSq];lia
 have lw:(t0++[hd]).length<rY:=by rw[lAq,lSq];show t0.length+1<16777216;lia
 have a2:=P7 (t0++[hd]) T.length;have cl:=D7 (t0++[hd])
 simp_arith [PZ,st,m4,h0,d4,m2,c1,c2,n1,sl,dI,k0,k00,q,lL,true_and,t0',es,eq_self,l1,a1,p2,lT,l2,a3,lenT,cl,lw,a2,fU]
theorem Pg{x:Int}(hr:T[hd]?=some r) (hrl:r.length<500000) (hll:loose.length<500000) (hfl:left.length<500000) (h0:¬ c % 4=0):PZ [hd] (st v0 v1 wild ⟨T,t0,hd,loose,x::left⟩ (some (.sh (.int c))) v8 v9 v10)=some (.nx (st v0 v1 wild ⟨T.set hd (r++[sg c x]),t0,hd,loose++[-(sg c x)],left⟩ (some (.sh (.int c))) v8 v9 (some (.sh (.int (sg c x)))))):=by
 have m4:=tW (i:=c) (j:=4) (by decide)
 have d4:=zI (i:=c) (j:=4) (by decide) (by decide)
 have m2:=tW (i:=c / 4) (j:=2) (by decide)
 have b0:0<=c / 4 % 2:=bN _ (by decide)
 have b1:c / 4 % 2<2:=bK _ (by decide)
 have c1:=Kw (i:=2) (j:=c / 4 % 2) (by lia) (by lia)
 have c2:=KL (i:=x) (j:=1-2*(c / 4 % 2)) (by lia) (by lia)
 have n1:=B3 hr;have sl:=qP (x::left);have k0:(0:Int)<((x::left).length:Int):=by rw[lCq];lia
 have k00:(0:Int)<((left.length+1:Nat):Int):=by lia
 have l1:r.length<rY:=by show _<16777216;lia
 have q:(0:Int)<=0:=ip _;have lL:left.length+1<=rY:=by show _<=16777216;lia
 have t0':(0:Int).toNat=0:=rfl;have es:x*(1-2*(c / 4 % 2))=sg c x:=rfl;have a1:=Bv r (sg c x);have p2:=RX (r':=r++[sg c x]) hr;have l2:loose.length<rY:=by show _<16777216;lia
 have a2:=Bv loose (-(sg c x))
 simp_arith [PZ,st,m4,h0,d4,m2,c1,c2,n1,sl,dI,k0,k00,q,lL,true_and,t0',es,eq_self,l1,a1,p2,l2,a2,fU]
end
end K31
--ZQ3 --ZQ4 --ZQ5 --ZQ6 --ZQ8 --ZQ9 --ZQB --ZQC --ZQD --ZQE --ZQF --ZQG
namespace K31
open PySem L2 Mr Z Xe Zl K12
def Az(l:List Int):List Int:=l.flatMap λx=>[x, -x]
theorem Dl(x:Int) (l:List Int) (a:Int):(Az (x::l)).count a=[x, -x].count a+(Az l).count a:=by
 unfold Az;rw[iD,cAq]
theorem AW:∀l:List Int,(Az l).length=2*l.length
 | []=>rfl
 |x::l=>by
  unfold Az;have:=AW l;unfold Az at this;rw[iD,lAq,this];show 2+2*l.length=2*(l.length+1);lia
theorem RI{l:List Int}{z:Int}:z∈Az l↔∃x∈l,z=x∨z = -x:=by
 unfold Az;rw[bT];simp
theorem N5(a c x:Int):[sg c x].count a+[-(sg c x)].count a=[x, -x].count a:=by
 have b0:0<=c / 4 % 2:=bN _ (by decide)
 have b1:c / 4 % 2<2:=bK _ (by decide)
 rw[show [x, -x]=[x]++[-x] from rfl,cAq]
 unfold sg;have h:c / 4 % 2=0∨c / 4 % 2=1:=by lia
 rcases h with h|h
 .rw [h,show (1:Int)-2*0=1 from rfl,jN]
 .rw [h,show (1:Int)-2*1 = -1 from rfl,Int.mul_neg,jN,bj]
  lia
structure La (nm:List Int) (w:Wd) (n:Nat):Prop where
 hh:w.h<w.T.length
 ht:∀k∈w.t0,k<w.T.length
 lw:w.t0.length<=n
 lT:w.T.length<=n+1
 lf:w.left.length<=nm.length
 cnt:∀a,w.T.flatten.count a+w.loose.count a+(Az w.left).count a=(Az nm).count a
 tr:K11.Cp w.T
theorem La.len{nm:List Int}{w:Wd}{n:Nat}(h:La nm w n):w.T.flatten.length+w.loose.length+(Az w.left).length=2*nm.length:=by
 have:(w.T.flatten++w.loose++Az w.left).Perm (Az nm):=by
  rw[dQ];intro a;rw[cAq,cAq];exact h.cnt a
 have:=this.length_eq;rw[lAq,lAq,AW nm]at this;exact this
theorem La.step{nm:List Int}{w:Wd}{n:Nat}{wild:Bool}(h:La nm w n) (c:Int):La nm (xW wild w c) (n+1):=by
 obtain⟨T,t0,hd,loose,left⟩:=w;obtain⟨hh,ht,lw,lT,lf,cnt,tr⟩:=h;simp only at hh ht lw lT lf cnt tr;have hr:T[hd]?=some (T.getD hd []):=by rw[gDq,gEg hh];rfl
 unfold xW;simp only;split
 .rename_i q;rcases fh t0 with z|⟨t,h',z⟩
  .exact absurd z q.2
  .subst z;rw[fi]at ht lw ⊢;rw[dw,gS];simp only[fV,jh,gH];rw[lAq,lSq]at lw;exact⟨ht _ (by simp),λk hk=>ht k (by simp[hk]),(by simp only;lia),(by simp only;lia),lf,cnt,tr⟩
 .split
  .rename_i q;have hpos:0<loose.length:=dJ.mpr q.2;have hlt:C5 wild c loose<loose.length:=by
    unfold C5;have b0:0<=c / 8 % (loose.length:Int):=bN _ (by lia)
    have b1:c / 8 % (loose.length:Int)<(loose.length:Int):=bK _ (by lia)
    split <;> lia
   refine⟨?_,?_,?_,?_,lf,λa=>?_,?_⟩
   .simp only [lZq];exact hh
   .simp only [lZq];exact ht
   .simp only;lia
   .simp only [lZq];lia
   .simp only;rw[yI a hr,←cnt a,←EA a hlt];lia
   .exact tr.set hr
  .cases left with
   |nil=>exact⟨hh,ht,(by simp only;lia),(by simp only;lia),lf,cnt,tr⟩
   |cons x left =>
    simp only;rw[lCq]at lf;have cx:=λa=>Dl x left a
    split
    .refine ⟨?_,?_,?_,?_,(by simp only;lia),λa=>?_,?_⟩
     .simp only [lAq,lZq,lSq];lia
     .intro k hk;simp only[lAq,lZq,lSq]at hk ⊢;rcases mAq.mp hk with hk|hk
      .have:=ht k hk;lia
      .rw [mSq.mp hk];lia
     .simp only [lAq,lSq];lia
     .simp only [lAq,lZq,lSq];lia
     .simp only;rw[fAq,bO,cAq,yI a hr];have:=cnt a;rw[cx a,←N5 a c x]at this;lia
     .exact (tr.set hr).add (by rw[lZq];exact hh) (K11.Fy hr (by simp))
    .refine ⟨?_,?_,?_,?_,(by simp only;lia),λa=>?_,?_⟩
     .simp only [lZq];exact hh
     .simp only [lZq];exact ht
     .simp only;lia
     .simp only [lZq];lia
     .simp only;rw[yI a hr,cAq];have:=cnt a;rw[cx a,←N5 a c x]at this;lia
     .exact tr.set hr
theorem KS{nm:List Int}{w:Wd}{n:Nat}{wild:Bool}{c:Int}{v0 v1 v8 v9 v10:Option AV}(h:La nm w n) (hn:n<1000) (hm:nm.length<=1000):∃v8' v9' v10',tj (st v0 v1 wild w (some (.sh (.int c))) v8 v9 v10)=some (.nx (st v0 v1 wild (xW wild w c) (some (.sh (.int c))) v8' v9' v10')):=by
 have hlen:=h.len;obtain⟨T,t0,hd,loose,left⟩:=w;obtain⟨hh,ht,lw,lT,lf,cnt,tr⟩:=h;simp only at hh ht lw lT lf cnt tr hlen;have hr:T[hd]?=some (T.getD hd []):=by rw[gDq,gEg hh];rfl
 have hrl:=FF hr;rw[OW hr];unfold xW;simp only
 by_cases q1:c % 4=1/\t0≠[]
 .rw [qe q1];rcases fh t0 with z|⟨t,h',z⟩
  .exact absurd z q1.2
  .subst z;rw[fi,dw,gS];simp only[fV,jh,gH];exact⟨_,_,_,RW hr q1.1⟩
 .rw [pV q1]
  by_cases q2:c % 4=2/\loose≠[]
  .rw [qe q2];exact⟨_,_,_,Qy hr (by lia) (by lia) (by have:=q2.1;lia) q2.1 q2.2⟩
  .rw [pV q2,OF hr q1 q2];cases left with
   |nil=>exact⟨_,_,_,Ry hr⟩
   |cons x left =>
    simp only;rw[lCq]at lf
    by_cases q0:c % 4=0
    .rw [qe q0];exact⟨_,_,_,U1 hr (by lia) (by lia) (by lia) (by lia) q0⟩
    .rw [pV q0];exact⟨_,_,_,Pg hr (by lia) (by lia) (by lia) q0⟩
def w0(nm:List Int):Wd:=⟨[[]],[],0,[],nm⟩
theorem Nk(nm:List Int):La nm (w0 nm) 0:=⟨by simp[w0],(λk h=>by cases h),aj _,aj _,aj _,(λa=>by simp[w0]),K11.GH _⟩
theorem DH{nm:List Int}{wild:Bool}:∀(cs:List Int) {w:Wd}{n:Nat},La nm w n->La nm (cs.foldl (xW wild) w) (n+cs.length)
 | [],w,n,h=>h
 |c::cs,w,n,h=>by
  have:=DH (wild:=wild) cs (h.step (wild:=wild) c);rw[cG,lCq,show n+(cs.length+1)=n+1+cs.length by lia]
  exact this
theorem JE{nm cs:List Int}{wild:Bool}{v7 v8 v9 v10:Option AV}(hc:cs.length<=63) (hn:nm.length<=1000):∃v7' v8' v9' v10',tF 7 tj (cs.map D.int) (st (some (.sh (dI cs))) (some (.sh (dI nm))) wild (w0 nm) v7 v8 v9 v10)=some (.nx (st (some (.sh (dI cs))) (some (.sh (dI nm))) wild (cs.foldl (xW wild) (w0 nm)) v7' v8' v9' v10')):=by
 have key:=xq (x:=7) (body:=tj) (λi S=>∃v7 v8 v9 v10,S=st (some (.sh (dI cs))) (some (.sh (dI nm))) wild ((cs.take i).foldl (xW wild) (w0 nm)) v7 v8 v9 v10) (ds:=cs.map D.int) (S:=st (some (.sh (dI cs))) (some (.sh (dI nm))) wild (w0 nm) v7 v8 v9 v10) ⟨v7,v8,v9,v10,rfl⟩ (by
  rintro i d S hd ⟨v7,v8,v9,v10,rfl⟩;rw[gMq]at hd;obtain⟨c,hc',rfl⟩:=oMq.mp hd;have hi:i<cs.length:=(gSq.mp hc').1;have ok:=DH (nm:=nm) (wild:=wild) (cs.take i) (Nk nm);rw[lTq]at ok;obtain⟨v8',v9',v10',e⟩:=KS (wild:=wild) (c:=c) (v0:=some (.sh (dI cs))) (v1:=some (.sh (dI nm))) (v8:=v8) (v9:=v9) (v10:=v10) ok (by lia) hn
  refine⟨_,e,some (.sh (.int c)),v8',v9',v10',?_⟩;rw[Ll hc'])
 obtain⟨S',e,v7',v8',v9',v10',rfl⟩:=key;rw[lMq,bo]at e;exact⟨v7',v8',v9',v10',e⟩
theorem LN{T:List (List Int)}{t0:List Nat}{hd:Nat}{loose left r:List Int}{wild:Bool}{v0 v1 v7 v8 v9 v10:Option AV}(hr:T[hd]?=some r) (hl:r.length+loose.length<=10000) :
  uq (uS (qG Ij (uO tH (oZ (pd 5) pO)) (rC (.int 0)))) wm 100000 (st v0 v1 wild ⟨T,t0,hd,loose,left⟩ v7 v8 v9 v10)=some (.nx (st v0 v1 wild ⟨T.set hd (r++loose.reverse),t0,hd,[],left⟩ v7 v8 v9 v10)):=by
 have hh:hd<T.length:=(gSq.mp hr).1;obtain⟨S',e,l2,rfl,z⟩:=zh (c:=uS (qG Ij (uO tH (oZ (pd 5) pO)) (rC (.int 0)))) (body:=wm)
  (λS=>∃l1 l2,S=st v0 v1 wild ⟨T.set hd (r++l2),t0,hd,l1,left⟩ v7 v8 v9 v10/\loose=l1++l2.reverse)
  (λS=>match S with|[_,_,_,_,_,some (.ow l),_,_,_,_,_]=>l.length|_=>0)
  (λS'=>∃l2,S'=st v0 v1 wild ⟨T.set hd (r++l2),t0,hd,[],left⟩ v7 v8 v9 v10/\loose=l2.reverse) (by
   rintro S ⟨l1,l2,rfl,hz⟩;have hzl:=congrArg bV hz;rw[lAq,List.length_reverse]at hzl;rcases fh l1 with rfl|⟨l,x,rfl⟩
   .refine ⟨false,_,?_,λq=>(nomatch q),λ_=>⟨l2,rfl,by rw[hz];rfl⟩⟩
    have k0:decide ((0:Int)<((0:Nat):Int))=false:=by decide
    have sl:=qP []
    simp_arith [st,sl,dI,k0]
   .rw [fi]at hz hzl ⊢;have hr2:(T.set hd (r++l2))[hd]?=some (r++l2):=aA hh;have n1:=B3 hr2;have iL:Jc T.length (hd:Int)=some hd:=J8 hh;have lT:(T.set hd (r++l2)).length=T.length:=lZq;have sw:=qP (cN (t0++[hd]));have at4:=On (t0:=t0) (hd:=hd);have cl:=D7 (t0++[hd]);have sl:=qP (l++[x]);have k0:(0:Int)<((l++[x]).length:Int):=by rw[lAq,lSq];lia
    have ex:(l++[x]).map (λn=>AV.sh (.int n))=l.map (λn=>AV.sh (.int n))++[.sh (.int x)]:=by rw[mBq];rfl
    have p1:(l.map (λn=>AV.sh (.int n))++[AV.sh (.int x)])[(l.map (λn=>AV.sh (.int n))++[AV.sh (.int x)]).length-1]?=some (.sh (.int x)):=by
     rw[lAq,lSq,gYq (by lia)]
     simp
    have p2:(l.map (λn=>AV.sh (.int n))++[AV.sh (.int x)]).dropLast=l.map (λn=>AV.sh (.int n)):=dw
    have pp:=RX (r':=r++l2++[x]) hr2;have a1:=Bv (r++l2) x;have l1':(r++l2).length<rY:=by
     rw[lAq,lSq]at hzl;rw[lAq];show _<16777216;lia
    have ess:(T.set hd (r++l2)).set hd (r++l2++[x])=T.set hd (r++(l2++[x])):=by rw[dc,ai]
    refine⟨true,st v0 v1 wild ⟨T.set hd (r++l2),t0,hd,l++[x],left⟩ v7 v8 v9 v10,?_,λ_=>⟨st v0 v1 wild ⟨T.set hd (r++(l2++[x])),t0,hd,l,left⟩ v7 v8 v9 v10,?_,⟨l,l2++[x],rfl,by rw[hz];simp⟩,?_⟩,λq=>(nomatch q)⟩
    .simp_arith [st,sl,dI,k0]
    .simp_arith [wm,st,n1,iL,lT,sw,dI,at4,cl,ex,p1,p2,l1',a1,pp,ess,eq_self,true_and]
    .show (l.map _).length<((l++[x]).map _).length;rw[lMq,lMq,lAq,lSq];lia) 100000 (st v0 v1 wild ⟨T,t0,hd,loose,left⟩ v7 v8 v9 v10) ⟨loose,[],by rw[aNq,Z.Av hr],by simp⟩ (by
   show (loose.map _).length<100000;rw[lMq];lia)
 rw[e,z,gQ]
end K31
--ZQ3 --ZQ4 --ZQ5 --ZQ6 --ZQ8 --ZQ9 --ZQB --ZQC --ZQD --ZQE --ZQF --ZQG
namespace K31
open PySem L2 Mr Z Xe Zl
end K31
--ZQ3 --ZQ4 --ZQ5 --ZQ6 --ZQ8 --ZQ9 --ZQB --ZQC --ZQD --ZQE --ZQF --ZQG
namespace K31
open PySem L2 Mr Z Xe Zl
structure Nm (nm:List Int):Prop where
 len:nm.length<=100
 nd:nm.Nodup
 lo:∀x∈nm,1<=x
structure Wm (nm:List Int) (T:List (List Int)):Prop where
 cnt:∃left,∀a,T.flatten.count a+(Az left).count a=(Az nm).count a
 tr:K11.Cp T
 pos:0<T.length
 len:T.length<=64
theorem zV{nm:List Int}(h:Nm nm):(Az nm).Nodup:=K12.Hv h.nd h.lo
theorem Kq(l:List Int) (a:Int):(Az l).count (-a)=(Az l).count a:=by
 induction l with
 |nil=>rfl
 |cons x l ih =>
  rw[Dl,Dl,ih];congr 1;rw[show [x, -x]=[x]++[-x] from rfl,cAq,cAq]
  simp only[List.count_singleton];have e1:(x == -a)=(-x == a):=by rw[bQ];simp <;> lia
  have e2:(-x == -a)=(x == a):=by rw[bQ];simp <;> lia
  rw[e1,e2];lia
theorem Wm.nodup{nm:List Int}{T:List (List Int)}(hn:Nm nm) (h:Wm nm T):T.flatten.Nodup:=by
 obtain⟨left,hc⟩:=h.cnt;rw[cM];intro a;have h1:=cM.mp (zV hn) a;have:=hc a;lia
theorem Wm.sub{nm:List Int}{T:List (List Int)}(h:Wm nm T) {z:Int}(hz:z∈T.flatten):z∈Az nm:=by
 obtain⟨left,hc⟩:=h.cnt;have h1:=aX.mpr hz;have:=hc z;exact aX.mp (by lia)
theorem Wm.neg{nm:List Int}{T:List (List Int)}(hn:Nm nm) (h:Wm nm T) {z:Int}(hz:z∈T.flatten):-z∈T.flatten:=by
 obtain⟨left,hc⟩:=h.cnt;have h1:=aX.mpr hz;have h2:=cM.mp (zV hn) z;have e1:=hc z;have e2:=hc (-z);rw[Kq,Kq]at e2;exact aX.mp (by lia)
theorem Wm.le{nm:List Int}{T:List (List Int)}(h:Wm nm T):T.flatten.length<=2*nm.length:=by
 obtain⟨left,hc⟩:=h.cnt;have:(T.flatten++Az left).Perm (Az nm):=by
  rw[dQ];intro a;rw[cAq];exact hc a
 have:=this.length_eq;rw[lAq,AW nm]at this;lia
end K31
--ZQ3 --ZQ4 --ZQ5 --ZQ6 --ZQ8 --ZQ9 --ZQB --ZQC --ZQD --ZQE --ZQF --ZQG
namespace K31
open PySem L2 Mr Z Xe Zl
open K12 (NC J1)
def N4(st sh a b:Int) (n:Nat):List Int:=(cw n).map λk:Nat=>NC st sh a b k
theorem Qv{st sh a b:Int}(h1:1<=st) (h2:0<=sh) (k:Nat):1<=NC st sh a b k:=by
 have b1:0<=(a*(k:Int)+b) % 67:=bN _ (by decide)
 have l1:1*1<=st*((a*(k:Int)+b) % 67+1):=Int.mul_le_mul h1 (by lia) (by decide) (by lia)
 show 1<=st*((a*(k:Int)+b) % 67+1)+sh;lia
theorem FR{st sh a b:Int}{n:Nat}(hn:n<=67) (h1:1<=st) (h2:0<=sh) (h3:1<=a) (h4:a<=66):Nm (N4 st sh a b n):=by
 refine⟨by unfold N4;rw[lMq,bC];lia,?_,λx h=>?_⟩
 .unfold N4;rw[aQ,bb];refine aZ.imp_of_mem (λ{x y} hx hy hne e=>hne (J1 h1 h3 h4 (by have:=dq.mp hx;lia) (by have:=dq.mp hy;lia) e)) (aQ.mp iM)
 .obtain ⟨k,_,rfl⟩:=mMq.mp h;exact Qv h1 h2 k
theorem yt{one two st sh a b:Int}{n:Nat}(h:∀k:Nat,uw [.int one,.int two,.int (k:Int)]=some (.sh (.int (NC st sh a b k)))):rF rG (kSc (uu K31.uw (oZ (pd 1) (oZ (pd 2) (oZ (pd 0) pO))))) [some (.sh (.int one)),some (.sh (.int two))] (rL 0 n)=some ((N4 st sh a b n).map λz=>.sh (.int z)):=by
 have key:=rP (te:=kSc (uu K31.uw (oZ (pd 1) (oZ (pd 2) (oZ (pd 0) pO))))) (cap:=[some (.sh (.int one)),some (.sh (.int two))])
  (λd=>match d with|.int k=>.sh (.int (NC st sh a b k))|_=>.sh .non) (ds:=rL 0 n) (by
  intro d hd;rw[Ce]at hd;obtain⟨k,_,rfl⟩:=mMq.mp hd;have hk:=h k;refine⟨[some (.sh (.int (k:Int))),some (.sh (.int one)),some (.sh (.int two))],?_⟩
  simp_arith [hk])
 rw[key,Ce,mPq];unfold N4;rw[mPq];rfl
theorem zO{l:List Int}(hl:l.length<=500000):uD [dI l]=some (.sh (.bl true)):=by
 have key:rF rG (kSc (Lu (uO Ar (oZ (pd 0) (oZ (rC (.ty "int")) pO))) (R5 (uO Ar (oZ (pd 0) (oZ (rC (.ty "bool")) pO)))))) [] (l.map D.int)=some (l.map λ_=>.sh (.bl true)):=by
  rw[Z.rP λ_=>.sh (.bl true)]
  .rw [mPq];rfl
  .intro d hd;obtain⟨s,hs,rfl⟩:=mMq.mp hd;refine⟨[some (.sh (.int s))],?_⟩
   simp_arith []
 have e:(l.map λ_=>AV.sh (.bl true)).map pH=(l.map λ_=>true).map D.bl:=by
  rw[mPq,mPq];exact mCq λc _=>by simp
 have fa:G0 [.list ((l.map λ_=>true).map D.bl)]=some (.bl true):=by
  rw[S4,Hj];have:(l.map λ_=>true).all id=true:=by rw[gI];intro b hb;obtain⟨_,_,rfl⟩:=mMq.mp hb;rfl
  rw[bR,this]
 have lk:l.length<=rY:=by show _<=16777216;lia
 simp_arith [uD,Ci,dI,key,lk,e,fa]
end K31
--ZQ3 --ZQ4 --ZQ5 --ZQ6 --ZQ8 --ZQ9 --ZQB --ZQC --ZQD --ZQE --ZQF --ZQG
namespace K43
open PySem L2 Mr Z Xe Zl
open K51 (sR Ps Pc)
section
variable {M:List (List Int)}{z:Int}
def G3(M:List (List Int)) (z:Int):Bool:=@decide (¬ sR (K23.C z M) (plc M z) (plc M (-z))) (aH _)
def Xm(M:List (List Int)):List Int:=(rO M.flatten).filter λz=>decide (0<z)
end
end K43
--ZQ3 --ZQ4 --ZQ5 --ZQ6 --ZQ8 --ZQ9 --ZQB --ZQC --ZQD --ZQE --ZQF --ZQG
namespace K46
open PySem L2 Mr Z Xe Zl
open K18 (pp cp PC tu sX sN sr vg Bu pI wW wX ct vC V7 rR tV Ln nL vy xC yw)
theorem O0{c:List Int}{x y:Int}(hx:x∈c) (hy:y∈c) (ne:x≠y):∃X Y:List Int,(∀q,(cp (x::X++y::Y)).count q=(cp c).count q):=by
 obtain⟨a,b,rfl⟩:=bW hx;have r1:∀q,(cp (a++x::b)).count q=(cp (x::b++a)).count q:=λq=>vg a (x::b) q
 have hy2:y∈b++a:=by
  rcases mAq.mp hy with h|h
  .exact ag _ h
  .rcases ae.mp h with h|h
   .exact absurd h.symm ne
   .exact ah _ h
 obtain⟨X,Y,e⟩:=bW hy2;refine⟨X,Y,λq=>?_⟩
 rw[r1 q];show (cp (x::X++y::Y)).count q=(cp (x::(b++a))).count q;rw[e];rfl
theorem AC(A B:List Int) (x y:Int):∃s t:Int,(∀u v,(cp (x::A++y::B)).count (u,v)=(pp (x::A)).count (u,v)+(pp (y::B)).count (u,v)+ct s y u v+ct t x u v)/\(∀u v,(cp (x::A)).count (u,v)=(pp (x::A)).count (u,v)+ct s x u v)/\∀u v,(cp (y::B)).count (u,v)=(pp (y::B)).count (u,v)+ct t y u v:=by
 obtain⟨A',s,eA⟩:=sN (show x::A≠[] by simp)
 obtain⟨B',t,eB⟩:=sN (show y::B≠[] by simp)
 refine⟨s,t,λu v=>?_,λu v=>?_,λu v=>?_⟩
 .rw [sX (l:=x::A++y::B) (a:=t) (h:=x) (l':=x::A++B') (l'':=A++y::B) (by rw[eB,ai]) rfl,tu eA rfl]
  simp only[cAq,rR,bJ];lia
 .rw [sX eA rfl];simp only[cAq,rR,bJ];lia
 .rw [sX eB rfl];simp only[cAq,rR,bJ];lia
section
variable {C LL:List (List Int)}{i:Nat}
theorem uT(u v:Int):ct u v u v=1:=by unfold ct;simp
theorem Ln.split(h:Ln C LL) (hn:C.flatten.Nodup) (hneg:∀e∈C.flatten, -e∈C.flatten) {r A B:List Int}{x y:Int}(hi:C[i]?=some r) (hr:∀q,(cp (x::A++y::B)).count q=(cp r).count q) (ne:x≠y) {c:List Int}(hc:c∈LL) (hx:x∈c) (hy:y∈c):∃LL',Ln (C.set i (x::A)++[y::B]) LL'/\nL (C.set i (x::A)++[y::B]) LL'=nL C LL+1:=by
 obtain⟨s,t,k1,k2,k3⟩:=AC A B x y;obtain⟨X,Y,eX⟩:=O0 hx hy ne;obtain⟨s',t',m1,m2,m3⟩:=AC X Y x y;obtain⟨j,hj⟩:=aC.mp hc;have nd:((PC C).map (·.2)).Nodup:=(Bu C).nodup_iff.mpr hn;have inC:∀{u v:Int},0<(cp r).count (u,v)->(u,v)∈PC C:=λq=>vy hi (aX.mp q)
 have q1:(s,y)∈PC C:=inC (by rw[←hr,k1];have:=uT s y;lia)
 have q2:(t,x)∈PC C:=inC (by rw[←hr,k1];have:=uT t x;lia)
 have inL:∀{u v:Int},0<(cp c).count (u,v)->(-u,v)∈PC C:=λ{u v} q=>by
  have:(u,v)∈PC LL:=bT.mpr ⟨c,hc,aX.mp q⟩;rw[tV,←h.cnt];exact tV.mp this
 have q3:(-s',y)∈PC C:=inL (by rw[←eX,m1];have:=uT s' y;lia)
 have q4:(-t',x)∈PC C:=inL (by rw[←eX,m1];have:=uT t' x;lia)
 have es:s = -s':=congrArg (·.1) (yw nd q1 q3 rfl);have et:t = -t':=congrArg (·.1) (yw nd q2 q4 rfl);subst es;subst et;have rne:r≠[]:=λq=>by
  subst q;have:=hr (-s',y);rw[k1]at this;have:=uT (-s') y;have e0:(cp ([]:List Int)).count (-s',y)=0:=rfl;lia
 have cs:=xC (r':=x::A) hi;rw[pV rne,pV (by simp)]at cs
 refine⟨LL.set j (x::X)++[y::Y],⟨λu v=>?_,λd hd=>?_⟩,?_⟩
 .have a1:=wX (r':=x::X) (u,v) hj;have a2:=wX (r':=x::A) (-u,v) hi;have a3:=h.cnt u v;rw[wW,wW,pI,pI];have z1:(PC ([]:List (List Int))).count (u,v)=0:=rfl;have z2:(PC ([]:List (List Int))).count (-u,v)=0:=rfl;rw[z1,z2];rw[←eX,m1,m2]at a1;rw[←hr,k1,k2]at a2;rw[m3,k3];simp only[vC,bj]at a2 ⊢;lia
 .rcases mAq.mp hd with hd|hd
  .rcases de hd with q|q
   .exact h.ne d q
   .rw [q];simp
  .rw [mSq.mp hd];simp
 .unfold nL;rw[cAq,lAq,lZq];have:([y::B]:List (List Int)).count []=0:=by simp
  rw[this];show _+1+_=_;lia
end
end K46
namespace K18
open PySem L2 Mr Z Xe Zl
open K15 (nx fw xf Rd By)
open K43 (xF Bi uV vq xN G4 wJ G3 zz emp CJ Ba CP)
open K46 (O0 AC uT)
open K51 (sR Ps)
theorem QC{f:Int->Int}{E:List Int}(one:KP f E):∃L,Ee f E L:=by
 have key:∀n,∃kn L,Rd f E kn L/\∀x∈E.take n,x∈kn:=by
  intro n
  induction n with
  |zero=>exact⟨[],[],⟨by simp,rfl,aV,by simp,by simp⟩,by simp⟩
  |succ n ih =>
   obtain⟨kn,L,rd,h⟩:=ih;cases he:E[n]? with
   |none =>
    rw[bH,he];exact⟨kn,L,rd,by simpa using h⟩
   |some e =>
    have heE:=mGq he;rw[um he]
    by_cases c:e∈kn
    .refine ⟨kn,L,rd,λx hx=>?_⟩
     rcases mAq.mp hx with q|q
     .exact h x q
     .rw [mSq.mp q];exact c
    .obtain ⟨l,cy,_⟩:=one.cy heE;refine⟨kn++l,L++[l],rd.add one cy heE c,λx hx=>?_⟩
     rcases mAq.mp hx with q|q
     .exact ah _ (h x q)
     .rw [mSq.mp q];exact ag _ cy.self
 obtain⟨kn,L,rd,h⟩:=key E.length;rw[bo]at h;exact⟨L,rd.orb h⟩
section
variable {C LL:List (List Int)}{z:Int}
theorem TZ(hn:C.flatten.Nodup) {u y:Int}:(u,y)∈PC C↔u∈C.flatten/\y=nx C u:=by
 constructor
 .intro h;refine⟨?_,(KC hn h).symm⟩;rw[←DE C];exact mMq.mpr ⟨_,h,rfl⟩
 .rintro ⟨h,rfl⟩;rw[←DE C]at h;obtain⟨⟨a,b⟩,hq,rfl⟩:=mMq.mp h;rw[KC hn hq];exact hq
theorem Uh{f:Int->Int}{E:List Int}{L:List (List Int)}(o:Ee f E L) {x y:Int}:(x,y)∈PC L↔x∈E/\y=f x:=by
 have to:∀{x y:Int},(x,y)∈PC L->x∈E/\y=f x:=λ{x y} h=>by
  obtain⟨l,hl,q⟩:=bT.mp h;obtain⟨e,c⟩:=o.cy l hl;obtain⟨j,h1,h2⟩:=S0 q;have hlt:=(gSq.mp h1).1;refine⟨(o.all x).mp (mFq.mpr ⟨l,hl,mGq h1⟩),?_⟩;rw[c.at hlt]at h1;have ex:=aD.inj h1
  by_cases s:j+1<l.length
  .rw [gL s,c.at s]at h2;rw[←ex];exact(aD.inj h2).symm
  .have en:j+1=l.length:=by lia
   rw[en,iS,c.at (by lia)]at h2
   have:=c.back;rw[←en]at this;rw[←ex,←aD.inj h2];exact this.symm
 constructor
 .exact to
 .rintro ⟨h,rfl⟩;have:x∈(PC L).map (·.1):=by rw[DE];exact(o.all x).mpr h
  obtain⟨⟨a,b⟩,hq,rfl⟩:=mMq.mp this;rw[← (to hq).2];exact hq
theorem UH{A B:List (Int×Int)}(hA:A.Nodup) (hB:B.Nodup) {p q:Int×Int}(h:p∈A↔q∈B):A.count p=B.count q:=by
 by_cases c:p∈A
 .have a1:=cM.mp hA p;have a2:=cM.mp hB q;have b1:=aX.mpr c;have b2:=aX.mpr (h.mp c);lia
 .rw [ee.mpr c,ee.mpr λz=>c (h.mpr z)]
theorem So(hn:C.flatten.Nodup):(PC C).Nodup:=by
 have:((PC C).map (·.1)).Nodup:=by rw[DE];exact hn
 exact aZ.of_map (·.1) (λa b h q=>h (by rw[q])) this
theorem T6(mp:Mp C) {L:List (List Int)}(o:Ee (fw C) C.flatten L):Ln C L:=by
 refine⟨λx y=>UH (So o.dj) (So mp.hn) ?_,λc hc q=>?_⟩
 .rw [Uh o,TZ mp.hn];constructor
  .exact λh=>⟨mp.hneg x h.1,h.2⟩
  .rintro ⟨h1,h2⟩;have:=mp.hneg _ h1;rw[bj]at this;exact⟨this,h2⟩
 .obtain ⟨e,cy⟩:=o.cy c hc;have:=cy.len;rw[q]at this;simp at this
theorem FI(mp:Mp C):∃LL,Ln C LL:=by
 obtain⟨L,o⟩:=QC (xf mp);exact⟨L,T6 mp o⟩
theorem Ln.one{LL':List (List Int)}(mp:Mp C) (h:Ln C LL) (h':Ln C LL'):nL C LL=nL C LL':=by
 have p:=(Ee.perm (xf mp) (h.orb mp) (h'.orb mp)).length_eq;rw[lMq,lMq]at p;unfold nL;rw[p]
theorem Ln.congr{C':List (List Int)}(h:Ln C LL) (e:∀q,(PC C').count q=(PC C).count q):Ln C' LL:=⟨λx y=>by rw[e];exact h.cnt x y,h.ne⟩
theorem Ln.join{A B c c':List Int}{x y:Int}{R:List (List Int)}(h:Ln ((x::A++y::B)::R) LL) (hn:((x::A++y::B)::R).flatten.Nodup) (hc:c∈LL) (hc':c'∈LL) (ne:c≠c') (hx:x∈c) (hy:y∈c'):∃LL',Ln ((x::A)::(y::B)::R) LL'/\nL ((x::A)::(y::B)::R) LL'+1=nL ((x::A++y::B)::R) LL/\∃d∈LL',x∈d/\y∈d:=by
 obtain⟨s,t,k1,k2,k3⟩:=AC A B x y;have rot:∀{c:List Int}{x:Int},x∈c->∃X:List Int,∀q,(cp (x::X)).count q=(cp c).count q:=λ{c x} hx=>by
  obtain⟨a,b,rfl⟩:=bW hx;exact⟨b++a,λq=>(vg a (x::b) q).symm⟩
 obtain⟨X,eX⟩:=rot hx;obtain⟨Y,eY⟩:=rot hy;obtain⟨s',t',m1,m2,m3⟩:=AC X Y x y;have nd:((PC ((x::A++y::B)::R)).map (·.2)).Nodup:=(Bu _).nodup_iff.mpr hn;have inC:∀{u v:Int},0<(cp (x::A++y::B)).count (u,v)->(u,v)∈PC ((x::A++y::B)::R):=λq=>vy (i:=0) rfl (aX.mp q)
 have q1:=inC (u:=s) (v:=y) (by rw[k1];have:=uT s y;lia)
 have q2:=inC (u:=t) (v:=x) (by rw[k1];have:=uT t x;lia)
 have inL:∀{c:List Int}{u v:Int},c∈LL->0<(cp c).count (u,v)->(-u,v)∈PC ((x::A++y::B)::R):=λ{c u v} hc q=>by
  have:(u,v)∈PC LL:=bT.mpr ⟨c,hc,aX.mp q⟩;rw[tV,←h.cnt];exact tV.mp this
 have q3:=inL hc (u:=s') (v:=x) (by rw[←eX,m2];have:=uT s' x;lia)
 have q4:=inL hc' (u:=t') (v:=y) (by rw[←eY,m3];have:=uT t' y;lia)
 have es:t = -s':=congrArg (·.1) (yw nd q2 q3 rfl);have et:s = -t':=congrArg (·.1) (yw nd q1 q4 rfl);subst es;subst et;obtain⟨l1,l2,e1⟩:=bW hc;have hc2:c'∈l1++l2:=by
  rw[e1]at hc';rcases mAq.mp hc' with q|q
  .exact ah _ q
  .rcases ae.mp q with q|q
   .exact absurd q.symm ne
   .exact ag _ q
 obtain⟨m4,m5,e2⟩:=bW hc2;have pL:LL.Perm (c::c'::(m4++m5)):=by
  rw[e1];refine dg.trans (aU.cons _ ?_);rw[e2];exact dg
 refine⟨(x::X++y::Y)::(m4++m5),⟨λu v=>?_,λd hd=>?_⟩,?_,_,af ..,by simp,by simp⟩
 .have a1:=ug pL (u,v);have a3:=h.cnt u v;rw[pI,pI]at a1;rw[pI]at a3 ⊢;rw[pI,pI];rw[←eX,←eY,m2,m3]at a1;rw[k1]at a3;rw[m1,k2,k3];simp only[vC,bj]at a3 ⊢;lia
 .rcases ae.mp hd with rfl|hd
  .simp
  .exact h.ne d (pL.mem_iff.mpr (by simp only[ae];exact .inr (.inr hd)))
 .unfold nL;have l:=pL.length_eq;simp only[lCq,bS]at l ⊢;have n1:(x::A == ([]:List Int))=false:=rfl;have n2:(y::B == ([]:List Int))=false:=rfl;have n3:(x::A++y::B == ([]:List Int))=false:=rfl;rw[n1,n2,n3];simp only[eV,if_false];lia
theorem Ln.loop{A B:List Int}{x y:Int}{R:List (List Int)}(h:Ln ((x::A)::(y::B)::R) LL) (ne:x≠y) (z:Int):∃LL',Ln ((z::x::A ++ -z::y::B)::R) LL'/\nL ((z::x::A ++ -z::y::B)::R) LL'=nL ((x::A)::(y::B)::R) LL:=by
 obtain⟨s,t,k1,k2,k3⟩:=AC A B x y;obtain⟨s2,t2,j1,j2,j3⟩:=AC (x::A) (y::B) z (-z);have p1:∀u v,(pp (z::x::A)).count (u,v)=ct z x u v+(pp (x::A)).count (u,v):=λu v=>by
  show ((z,x)::pp (x::A)).count (u,v)=_;rw[rR]
 have p2:∀u v,(pp (-z::y::B)).count (u,v)=ct (-z) y u v+(pp (y::B)).count (u,v):=λu v=>by
  show ((-z,y)::pp (y::B)).count (u,v)=_;rw[rR]
 have lst:∀{w:Int}{l:List Int}{a b c:Int},(∀u v,(cp (a::l)).count (u,v)=(pp (a::l)).count (u,v)+ct b a u v)->(∀u v,(cp (w::a::l)).count (u,v)=(pp (w::a::l)).count (u,v)+ct c w u v)->b=c:=λ{w l a b c} h1 h2=>by
  obtain⟨l',k,el⟩:=sN (show a::l≠[] by simp)
  have e1:=sX el rfl;have e2:=sX (l:=w::a::l) (a:=k) (h:=w) (l':=w::l') (l'':=a::l) (by rw[el];rfl) rfl
  have f1:=h1 k a;have f2:=h2 k w;rw[e1,cAq,V7]at f1;rw[e2,cAq,V7]at f2;have o1:=uT k a;have o2:=uT k w;have g:∀{p q r s:Int},0<ct p q r s->p=r:=λ{p q r s} hp=>by
   unfold ct at hp;have:=mSq.mp (aX.mp hp);exact(congrArg (·.1) this).symm
  rw[g (p:=b) (q:=a) (r:=k) (s:=a) (by lia),g (p:=c) (q:=w) (r:=k) (s:=w) (by lia)]
 have es:s=s2:=lst k2 j2;have et:t=t2:=lst k3 j3;subst es;subst et;have m1:(-s,x)∈PC LL:=h.mem (vy (i:=0) rfl (aX.mp (by rw[k2];have:=uT s x;lia)))
 have m2:(-t,y)∈PC LL:=h.mem (vy (i:=1) rfl (aX.mp (by rw[k3];have:=uT t y;lia)))
 obtain⟨L1,l1,n1,i1⟩:=Bz (-z) m1 h.ne;have m3:(-t,y)∈PC L1:=tV.mpr (by
  have:=i1 (-t) y;have z0:ct (-s) x (-t) y=0:=by
   unfold ct;rw[ee];intro q;have:=mSq.mp q;rw[Prod.mk.injEq]at this;exact ne this.2.symm
  have:=tV.mp m2;lia)
 obtain⟨L2,l2,n2,i2⟩:=Bz z m3 n1;refine⟨L2,⟨λu v=>?_,n2⟩,?_⟩
 .have a1:=i1 u v;have a2:=i2 u v;have a3:=h.cnt u v;rw[pI,pI,k2,k3]at a3;rw[pI,j1,p1,p2];simp only[vC,bj]at a3 ⊢;lia
 .unfold nL;simp only[lCq,bS];have n1:(x::A == ([]:List Int))=false:=rfl;have n2:(y::B == ([]:List Int))=false:=rfl;have n3:(z::x::A ++ -z::y::B == ([]:List Int))=false:=rfl;rw[n1,n2,n3];simp only[eV,if_false];lia
end
end K18
namespace K18
open PySem L2 Mr Z Xe Zl
open K15 (nx fw xf By)
open K16 (HL)
open K43 (xF Bi uV vq xN G4 wJ G3 zz emp CJ Ba CP)
open K46 (Ln.split)
open K51 (sR Ps)
section
variable {M LL:List (List Int)}{z:Int}{p:Nat}{r:List Int}
theorem N2(hm:Mp M) (hr:M[p]?=some r) {e:Int}(he:e∈r):nx M e∈r:=by
 obtain⟨j,hj⟩:=aC.mp he;have hlt:=(gSq.mp hj).1;have lt:(j+1) % r.length<r.length:=jY _ (by lia)
 rw[HL hm.hn (mGq hr) hj (gEg lt)];exact gRq _
theorem BE{e:Int}(he:e∈M.flatten):∃(k:Nat) (s:List Int),M[k]?=some s/\e∈s:=by
 obtain⟨s,hs,h⟩:=mFq.mp he;obtain⟨k,hk⟩:=aC.mp hs;exact⟨k,s,hk,h⟩
theorem Pf(hm:Mp M) (h:Ln M LL) {d:List Int}(hd:d∈LL) {x y:Int}(hx:x∈d) (hy:y∈d):sR M (plc M x) (plc M y):=by
 have o:=h.orb hm;obtain⟨e,c⟩:=o.cy d hd;obtain⟨i,hi⟩:=aC.mp hx;have hlt:=(gSq.mp hi).1;rw[c.at hlt]at hi;have c2:=c.rot hlt;rw[aD.inj hi]at c2;have hy2:y∈d.drop i++d.take i:=by
  rw[←aY i d]at hy;rcases mAq.mp hy with q|q
  .exact ag _ q
  .exact ah _ q
 obtain⟨n,hn⟩:=aC.mp hy2;rw[c2.at (gSq.mp hn).1]at hn;rw[←aD.inj hn];have hxM:x∈M.flatten:=(o.all x).mp (mFq.mpr ⟨d,hd,hx⟩);have go:∀n,sR M (plc M x) (plc M (itr (fw M) n x)):=by
  intro n
  induction n with
  |zero=>exact .base
  |succ n ih =>
   have hu:=(xf hm).itr_mem hxM n;obtain⟨k,s,hk,hs⟩:=BE hu;obtain⟨k',s',hk',hs'⟩:=BE (hm.hneg _ hu);rw[plc_eq hm.hn hk hs]at ih;have st:=sR.step ih hk hs;have e1:K51.plc M (-(itr (fw M) n x))=k':=plc_eq hm.hn hk' hs';have e2:plc M (itr (fw M) (n+1) x)=k':=plc_eq hm.hn hk' (N2 hm hk' hs');rw[e2,←e1];exact st
 exact go n
theorem FD:∀{M:List (List Int)}{i:Nat},M[i]?=some r->M.Perm (r::M.eraseIdx i)
 | [],_,h=>by simp at h
 |t::M,0,h=>by
  have:t=r:=by simpa using h
  rw[this];exact .refl _
 |t::M,i+1,h=>by
  rw[cQ];exact((FD (M:=M) (i:=i) (by simpa using h)).cons t).trans (aU.swap ..)
theorem DJ{s t:List Int}(h:s.length=t.length):(if s=[] then 1 else 0)=(if t=[] then 1 else (0:Nat)):=by
 cases s <;> cases t <;> simp at h ⊢
theorem vP{s:List Int}(h1:z∉s) (h2:-z∉s):K23.uj z s=s:=eS.mpr λe he=>by
 simp only[ae,iJ,or_false,gk,decide_eq_false_iff_not];rintro(q|q)
 .exact h1 (q ▸ he)
 .exact h2 (q ▸ he)
theorem uA(a b:List Int):K23.uj z (a++b)=K23.uj z a++K23.uj z b:=eW ..
theorem Ab(a:List Int):K23.uj z (z::a)=K23.uj z a:=eT (by simp)
theorem CQ(a:List Int):K23.uj z (-z::a)=K23.uj z a:=eT (by simp)
theorem CL{R:List (List Int)}(h:∀s∈R,z∉s/\-z∉s):R.map (K23.uj z)=R:=by
 exact(mCq (f:=K23.uj z) (g:=id) λs hs=>vP (h s hs).1 (h s hs).2).trans (dF _)
theorem pZ(s:List Int) (R:List (List Int)):(s::R).count []=R.count []+(if s=[] then 1 else 0):=by
 rw[bS];simp only[beq_iff_eq]
theorem CB(hm:Mp M) (h:Ln M LL) {x:Int}(hx:x∈M.flatten):∃c∈LL,x∈c:=mFq.mp (((h.orb hm).all x).mpr hx)
theorem Nb{A B:List Int}{x y:Int}{R:List (List Int)}{c:List Int}(h:Ln ((x::A++y::B)::R) LL) (hm:Mp ((x::A++y::B)::R)) (ne:x≠y) (hc:c∈LL) (hx:x∈c) (hy:y∈c):∃LL',Ln ((x::A)::(y::B)::R) LL'/\nL ((x::A)::(y::B)::R) LL'=nL ((x::A++y::B)::R) LL+1:=by
 obtain⟨LL',l1,l2⟩:=Ln.split h hm.hn hm.hneg (i:=0) rfl (λ_=>rfl) ne hc hx hy
 have pm:((x::A)::(y::B)::R).Perm (((x::A++y::B)::R).set 0 (x::A)++[y::B]):=aU.cons _ (aF (l₁:=[y::B]));refine⟨LL',l1.congr λq=>ug pm q,?_⟩
 rw[←l2];unfold nL;rw[pm.count_eq]
theorem FS(hm:Mp M) (hV:M.length<=900) (hz:z∈M.flatten) (hne:z ≠ -z):∃LL LL',Ln M LL/\Ln (K23.C z M) LL'/\(nL (K23.C z M) LL'=nL M LL+1∨(nL (K23.C z M) LL'+1=nL M LL/\G3 M z=false)):=by
 have hw:=xN (z:=z) hm;have hW1:=wJ (M:=M) (z:=z);obtain⟨i,r,hi,hzr⟩:=BE hz;obtain⟨j,r',hj,hzr'⟩:=BE (hm.hneg z hz);have plz:plc M z=i:=plc_eq hm.hn hi hzr;have plz':plc M (-z)=j:=plc_eq hm.hn hj hzr';have nr:r.Nodup:=hm.hn.sublist (aO (mGq hi));have nr':r'.Nodup:=hm.hn.sublist (aO (mGq hj));have p1:=FD hi;have W1:(K23.C z M).Perm (K23.uj z r::(M.eraseIdx i).map (K23.uj z)):=p1.map _;have loopB:i=j->G3 M z=false:=λq=>by
  unfold K43.G3;rw[plz,plz',←q];exact @decide_eq_false _ (aH _) λn=>n .base
 have mpOf:∀{X:List (List Int)},X.flatten.Perm (K23.C z M).flatten->X.length<=M.length+1->Mp X:=λ{X} pf hX=>⟨pf.nodup_iff.mpr hw.hn,by rw[pf.length_eq];exact hw.hl,by lia,λe he=>pf.mem_iff.mpr (hw.hneg e (pf.mem_iff.mp he))⟩
 by_cases ij:i=j
 .-- a V5 from a place to itself
  subst ij;rw[hi]at hj;cases hj;have hR:∀s∈M.eraseIdx i,z∉s/\-z∉s:=λs hs=>by
   obtain⟨k,hk,hks⟩:=eU.mp hs;exact⟨λq=>hk (xY hm.hn hks hi q hzr),λq=>hk (xY hm.hn hks hi q hzr')⟩
  rw[CL hR]at W1;generalize M.eraseIdx i=R at p1 W1;obtain⟨a,b,rfl⟩:=bW hzr;have h2:-z∈b++a:=by
   rcases mAq.mp hzr' with h|h
   .exact ag _ h
   .rcases ae.mp h with h|h
    .exact absurd h.symm hne
    .exact ah _ h
  obtain⟨P,Q,e⟩:=bW h2;have rotM:∀q,(cp (z::P ++ -z::Q)).count q=(cp (a++z::b)).count q:=λq=>by
   rw[vg a (z::b) q];show (cp (z::(P ++ -z::Q))).count q=(cp (z::(b++a))).count q;rw[e]
  have ndR:(z::(P ++ -z::Q)).Nodup:=by
   rw[←e];exact(aF (l₁:=z::b)).nodup_iff.mpr nr
  have zP:z∉P ++ -z::Q:=(aq.mp ndR).1;have nP:=(aq.mp ndR).2;have zPQ:z∉P/\z∉Q:=⟨λq=>zP (ah _ q),λq=>zP (ag _ (mCo _ q))⟩
  have zPQ':-z∉P/\-z∉Q:=⟨λq=>(nAq.mp nP).2.2 _ q _ (af ..) rfl,λq=>(aq.mp (nAq.mp nP).2.1).1 q⟩
  have cPQ:K23.uj z (b++a)=P++Q:=by rw[e,uA,CQ,vP zPQ.1 zPQ'.1,vP zPQ.2 zPQ'.2]
  have rotW:∀q,(cp (P++Q)).count q=(cp (K23.uj z (a++z::b))).count q:=λq=>by
   rw[←cPQ,uA,uA,Ab,vg]
  have lenW:(K23.uj z (a++z::b)).length=(P++Q).length:=by rw[←cPQ,uA,uA,Ab,lAq,lAq,fo]
  have pcM:∀q,(PC M).count q=(PC ((z::P ++ -z::Q)::R)).count q:=λq=>by rw[ug p1,pI,pI,rotM]
  have pcW:∀q,(PC (K23.C z M)).count q=(PC ((P++Q)::R)).count q:=λq=>by rw[ug W1,pI,pI,rotW]
  have nM:M.count []=R.count []:=by rw[p1.count_eq,pZ,pV (by simp)];lia
  have nW:(K23.C z M).count []=((P++Q)::R).count []:=by
   rw[W1.count_eq,pZ,pZ,DJ lenW]
  have fW:((P++Q)::R).flatten.Perm (K23.C z M).flatten:=by
   refine aU.trans ?_ (qb W1).symm;rw[fCq,fCq];refine aU.append_right _ ?_;rw[←cPQ,uA,uA,Ab];exact aF
  have lR:R.length+1=M.length:=by rw[p1.length_eq];rfl
  have mpW:=mpOf fW (by rw[lCq];lia)
  obtain⟨LW,lnW⟩:=FI mpW;have nLW:∀X,nL (K23.C z M) X=nL ((P++Q)::R) X:=λX=>by unfold nL;rw[nW]
  cases P with
  |nil =>
   obtain⟨LM,l1,l2⟩:=lnW.open (i:=0) (r:=[]) (L:=Q) rfl z
   refine⟨LM,LW,l1.congr pcM,lnW.congr pcW,.inr ⟨?_,loopB rfl⟩⟩;rw[nLW];have e1:nL M LM=nL (((([]:List Int)++Q)::R).set 0 ([]++[z]++(-z::Q))) LM:=by
    show _=nL ((z :: -z::Q)::R) LM;unfold nL;rw[nM,pZ,pV (by simp)]
    lia
   rw[e1,l2]
  |cons x A =>
   cases Q with
   |nil =>
    obtain⟨LM,l1,l2⟩:=lnW.open (i:=0) (r:=[]) (L:=x::A) (by rw[aNq];rfl) (-z)
    have pc2:∀q,(PC M).count q=(PC ((-z::z::x::A)::R)).count q:=λq=>by
     rw[pcM,pI,pI,vg (z::x::A) [-z]];rfl
    have e0:(((x::A)++[])::R).set 0 ([]++[-z]++(- -z::x::A))=(-z::z::x::A)::R:=by rw[bj];rfl
    rw[e0]at l1 l2;refine⟨LM,LW,l1.congr pc2,lnW.congr pcW,.inr ⟨?_,loopB rfl⟩⟩;rw[nLW,←l2];unfold nL;rw[nM,pZ,pV (by simp)]
    lia
   |cons y B =>
    have neq:x≠y:=λq=>by
     have:=(nAq.mp nP).2.2 x (af ..) y (by simp)
     exact this q
    have fD:((x::A)::(y::B)::R).flatten.Perm (K23.C z M).flatten:=by
     refine aU.trans ?_ fW;rw[fCq,fCq,fCq,ai]
    have mpD:=mpOf fD (by rw[lCq,lCq];lia)
    obtain⟨LD,lnD⟩:=FI mpD;obtain⟨LM,l1,l2⟩:=lnD.loop neq z;have nLM:∀X,nL M X=nL ((z::x::A ++ -z::y::B)::R) X:=λX=>by
     unfold nL;rw[nM,pZ,pV (by simp)]
     lia
    obtain⟨c,hc,hx⟩:=CB mpW lnW (x:=x) (by simp)
    obtain⟨c',hc',hy⟩:=CB mpW lnW (x:=y) (by simp)
    refine⟨LM,LW,l1.congr pcM,lnW.congr pcW,?_⟩;rw[nLM,nLW,l2]
    by_cases cc:c=c'
    .subst cc;obtain⟨L3,s1,s2⟩:=Nb lnW mpW neq hc hx hy;have:=Ln.one mpD lnD s1;exact .inr ⟨by lia,loopB rfl⟩
    .obtain ⟨L3,s1,s2,_⟩:=lnW.join mpW.hn hc hc' cc hx hy;have:=Ln.one mpD lnD s1;exact .inl (by lia)
 .-- a V5 between two places
  have hr'R:r'∈M.eraseIdx i:=eU.mpr ⟨j,λq=>ij q.symm,hj⟩
  obtain⟨l1,l2,eR⟩:=bW hr'R;have p2:M.Perm (r::r'::(l1++l2)):=p1.trans (aU.cons _ (by rw[eR];exact dg))
  have hR:∀s∈l1++l2,z∉s/\-z∉s:=λs hs=>by
   have nf:(r::r'::(l1++l2)).flatten.Nodup:=(qb p2).nodup_iff.mp hm.hn;rw[fCq,fCq]at nf;have hs':∀e∈s,e∈(l1++l2).flatten:=λe he=>mFq.mpr ⟨s,hs,he⟩
   exact⟨λq=>(nAq.mp nf).2.2 z hzr z (ag _ (hs' z q)) rfl,λq=>(nAq.mp (nAq.mp nf).2.1).2.2 (-z) hzr' (-z) (hs' _ q) rfl⟩
  have W2:(K23.C z M).Perm (K23.uj z r::K23.uj z r'::(l1++l2)):=by
   have:=p2.map (K23.uj z);rw[ar,ar,CL hR]at this;exact this
  have zr':z∉r':=λq=>ij (xY hm.hn hi hj hzr q)
  have zr:-z∉r:=λq=>ij (xY hm.hn hi hj q hzr')
  have lR:(l1++l2).length+2=M.length:=by rw[p2.length_eq];rfl
  have rW:∀e∈r,e≠z->plc (K23.C z M) e=i:=λe he q=>plc_eq hw.hn (Bi hi) (uV.mpr ⟨he,q,λh=>zr (h ▸ he)⟩)
  have rW':∀e∈r',e ≠ -z->plc (K23.C z M) e=j:=λe he q=>plc_eq hw.hn (Bi hj) (uV.mpr ⟨he,λh=>zr' (h ▸ he),q⟩)
  generalize l1++l2=R at p2 W2 lR;obtain⟨a,b,rfl⟩:=bW hzr;obtain⟨c,d,rfl⟩:=bW hzr';have zab:z∉a/\z∉b:=⟨λq=>(nAq.mp nr).2.2 z q z (af ..) rfl,(aq.mp (nAq.mp nr).2.1).1⟩
  have zab':-z∉a/\-z∉b:=⟨λq=>zr (ah _ q),λq=>zr (ag _ (mCo _ q))⟩
  have zcd:-z∉c/\-z∉d:=⟨λq=>(nAq.mp nr').2.2 (-z) q (-z) (af ..) rfl,(aq.mp (nAq.mp nr').2.1).1⟩
  have zcd':z∉c/\z∉d:=⟨λq=>zr' (ah _ q),λq=>zr' (ag _ (mCo _ q))⟩
  have c1:K23.uj z (a++z::b)=a++b:=by rw[uA,Ab,vP zab.1 zab'.1,vP zab.2 zab'.2]
  have c2:K23.uj z (c ++ -z::d)=c++d:=by rw[uA,CQ,vP zcd'.1 zcd.1,vP zcd'.2 zcd.2]
  rw[c1,c2]at W2;have inP:∀e∈b++a,plc (K23.C z M) e=i:=λe he=>rW e (by
   rcases mAq.mp he with q|q
   .exact ag _ (mCo _ q)
   .exact ah _ q) λq=>by
    subst q;rcases mAq.mp he with q|q
    .exact zab.2 q
    .exact zab.1 q
  have inQ:∀e∈d++c,plc (K23.C z M) e=j:=λe he=>rW' e (by
   rcases mAq.mp he with q|q
   .exact ag _ (mCo _ q)
   .exact ah _ q) λq=>by
    subst q;rcases mAq.mp he with q|q
    .exact zcd.2 q
    .exact zcd.1 q
  have rotM:∀q,(cp (b++a++[z])).count q=(cp (a++z::b)).count q:=λq=>by
   have:=vg (a++[z]) b q;rw[ai]at this;rw[ai];exact this.symm
  have rotM':∀q,(cp (-z::(d++c))).count q=(cp (c ++ -z::d)).count q:=λq=>(vg c (-z::d) q).symm
  have fW0:((b++a)::(d++c)::R).flatten.Perm (K23.C z M).flatten:=by
   refine aU.trans ?_ (qb W2).symm;rw[fCq,fCq,fCq,fCq];exact aF.append (aF.append (.refl _))
  have pcM:∀q,(PC M).count q=(PC ((b++a++[z])::(-z::(d++c))::R)).count q:=λq=>by rw[ug p2,pI,pI,pI,pI,rotM,rotM']
  have pcW:∀q,(PC (K23.C z M)).count q=(PC ((b++a)::(d++c)::R)).count q:=λq=>by rw[ug W2,pI,pI,pI,pI,vg a b,vg c d]
  have nM:M.count []=R.count []:=by rw[p2.count_eq,pZ,pZ,pV (by simp),pV (by simp)];lia
  have nW:(K23.C z M).count []=((b++a)::(d++c)::R).count []:=by
   rw[W2.count_eq,pZ,pZ,pZ,pZ,DJ (s:=a++b) (t:=b++a) (by simp[fo]),DJ (s:=c++d) (t:=d++c) (by simp[fo])]
  have nLW:∀X,nL (K23.C z M) X=nL ((b++a)::(d++c)::R) X:=λX=>by unfold nL;rw[nW]
  generalize b++a=P at rotM fW0 pcM pcW nW nLW inP;generalize d++c=Q at rotM' fW0 pcM pcW nW nLW inQ;have f2:((P++Q)::R).flatten.Perm (K23.C z M).flatten:=by
   refine aU.trans ?_ fW0;rw[fCq,fCq,fCq,ai]
  have mp2:=mpOf f2 (by rw[lCq];lia)
  obtain⟨L2,ln2⟩:=FI mp2;obtain⟨LM,m1,m2⟩:=ln2.newp mp2.hn (i:=0) (r:=P) (L:=Q) rfl z;have pmM:((P++[z])::(-z::Q)::R).Perm (((P++Q)::R).set 0 (P++[z])++[-z::Q]):=aU.cons _ (aF (l₁:=[-z::Q]));have lnM:Ln M LM:=m1.congr λq=>by rw[pcM,ug pmM]
  have nLM:nL M LM=nL ((P++Q)::R) L2:=by
   rw[←m2];unfold nL;rw[←pmM.count_eq,pZ,pZ,pV (by simp),pV (by simp),nM]
   lia
  cases P with
  |nil =>
   refine⟨LM,L2,lnM,ln2.congr λq=>by rw[pcW,pI];show 0+_=_;rw[cF];rfl,.inl ?_⟩
   rw[nLM,nLW];show nL ([]::Q::R) L2=nL (Q::R) L2+1;unfold nL;rw[pZ,qe rfl];lia
  |cons x A =>
   cases Q with
   |nil =>
    refine⟨LM,L2,lnM,ln2.congr λq=>by rw[pcW,pI,pI,pI,aNq];show _+(0+_)=_;lia,.inl ?_⟩
    rw[nLM,nLW];unfold nL;have e1:(if x::A=[] then 1 else (0:Nat))=0:=pV (by simp)
    have e2:(if x::A++[]=[] then 1 else (0:Nat))=0:=pV (by simp)
    have e3:(if ([]:List Int)=[] then 1 else (0:Nat))=1:=qe rfl
    rw[pZ,pZ,pZ,e1,e2,e3];lia
   |cons y B =>
    have neq:x≠y:=λq=>by
     have h1:=inP x (af ..);have h2:=inQ y (af ..);rw[q]at h1;exact ij (h1.symm.trans h2)
    obtain⟨c,hc,hx⟩:=CB mp2 ln2 (x:=x) (by simp)
    obtain⟨c',hc',hy⟩:=CB mp2 ln2 (x:=y) (by simp)
    by_cases cc:c=c'
    .subst cc;obtain⟨L3,s1,s2⟩:=Nb ln2 mp2 neq hc hx hy;refine⟨LM,L3,lnM,s1.congr pcW,.inl ?_⟩;rw[nLM,nLW,s2]
    .obtain ⟨L3,s1,s2,dd,hd,hxd,hyd⟩:=ln2.join mp2.hn hc hc' cc hx hy;have lnW:=s1.congr pcW;refine⟨LM,L3,lnM,lnW,.inr ⟨?_,?_⟩⟩
     .rw [nLM,nLW];exact s2
     .have rc:=Pf hw lnW hd hxd hyd;rw[inP x (af ..),inQ y (af ..)]at rc;unfold K43.G3;rw[plz,plz'];exact @decide_eq_false _ (aH _) λn=>n rc
theorem J0:∀(n:Nat) {M:List (List Int)},M.flatten.length=n->Mp M->(∀e∈M.flatten,e≠0)->M.length<=900->∀{kn:List Nat}{PS:List (List Nat)},Ps M M.length kn PS->∀{LL:List (List Int)},Ln M LL->∃g:Nat,4*PS.length+n=2*M.length+2*nL M LL+4*g:=by
 intro n
 induction n using fI with
 |_ n ih =>
  intro M hn hm nz hl kn PS hp LL ln;cases hfl:M.flatten with
  |nil =>
   rw[hfl]at hn;have allE:M.count []=M.length:=List.count_eq_length.mpr λr hr=>(iT.mp hfl r hr).symm
   have eL:LL=[]:=by
    cases LL with
    |nil=>rfl
    |cons c LL =>
     obtain⟨a,l,e⟩:=sr (ln.ne c (af ..));have:=(ln.flat hm.hneg hm.hn).mem_iff (a:=a);rw[hfl]at this;exact absurd (this.mp (by rw[e];simp)) (by simp)
   have i1:=zz hm hp (l:=emp M) ⟨λk hk=>(Ba.mp hk).1,by
    have nd:(emp M).Nodup:=aZ.sublist dR iM;refine aZ.imp_of_mem (λ{x y} hx hy n h=>n ?_) (aQ.mp nd)
    exact(CP h (Ba.mp hx).2).symm⟩
   rw[CJ]at i1;have bM:bare M=M.length:=by
    unfold bare;rw[List.countP_eq_length];intro r hr;have:=iT.mp hfl r hr;simp[this]
   have i2:=hp.len;refine⟨0,?_⟩;rw[eZ]at hn;unfold nL;rw[eL,eZ];lia
  |cons z rest =>
   have hz:z∈M.flatten:=by rw[hfl];exact af ..
   have z0:=nz z hz;have hne:z ≠ -z:=by lia
   have hw:=xN (z:=z) hm;obtain⟨L1,L2,a1,a2,hc⟩:=FS hm hl hz hne;rw[←Ln.one hm ln a1]at hc;obtain⟨kW,PW,hW,_⟩:=K51.pieces_ok (xF hw);have cz:(K23.C z M).flatten.length+2=n:=by
    have pm:M.flatten.Perm (z :: -z::(K23.C z M).flatten):=by
     rw[bA hm.hn (by
      refine aq.mpr ⟨?_,aq.mpr ⟨λh=>(vq.mp h).2.2 rfl,hw.hn⟩⟩
      intro h;rcases ae.mp h with q|q
      .exact hne q
      .exact (vq.mp q).2.1 rfl)]
     intro x;rw[ae,ae,vq];constructor
     .intro h
      by_cases q1:x=z
      .exact .inl q1
      .by_cases q2:x = -z
       .exact .inr (.inl q2)
       .exact .inr (.inr ⟨h,q1,q2⟩)
     .rintro (q|q|q)
      .rw [q];exact hz
      .rw [q];exact hm.hneg z hz
      .exact q.1
    have:=pm.length_eq;rw[lCq,lCq]at this;lia
   have x3:PW.length=PS.length+(if G3 M z=true then 1 else 0):=by
    unfold K43.G3
    by_cases q:sR (K23.C z M) (plc M z) (plc M (-z))
    .rw [K43.B4 hm hz q hp hW,pV (by simp[q])]
     rfl
    .rw [K43.B1 hm hz q hp hW,qe (by simp[q])]
   obtain⟨g,eq⟩:=ih (K23.C z M).flatten.length (by lia) rfl hw (λe he=>nz e (vq.mp he).1) (by rw[wJ];exact hl) hW a2
   rw[wJ]at eq;rcases hc with c1|⟨c1,c2⟩
   .by_cases q:G3 M z=true
    .rw [qe q]at x3;exact⟨g,by lia⟩
    .rw [pV q]at x3;exact⟨g+1,by lia⟩
   .rw [c2,pV (by simp)]at x3
    exact⟨g,by lia⟩
end
end K18
namespace K17
open PySem L2 Mr Z Xe Zl
open K15 (nx fw By YI)
open K25 (Rt YM pz)
open K43 (xF Se Bi uV vq xN G4 wJ G3 Wk zz emp CJ Ba CP)
open K51 (sR Ps Pc)
end K17
namespace K19
open PySem L2 Mr Z
end K19
namespace K17
open PySem L2 Mr Z
end K17
--ZQ3 --ZQ4 --ZQ5 --ZQ6 --ZQ8 --ZQ9 --ZQB --ZQC --ZQD --ZQE --ZQF
namespace K51
open PySem L2 Mr Z Xe Zl
end K51
namespace K11
open PySem L2 Mr Z Xe Zl K12
theorem Mx{p:List (List Int)}(h:Cn p) (hb:[]∈p) (hn:p.flatten.Nodup):p=[[]]:=by
 obtain⟨k,hk⟩:=aC.mp hb;have hlt:=(gSq.mp hk).1;have hkD:p.getD k []=[]:=by rw[gDq,hk];rfl
 have h0:k=0:=by
  by_cases q:0<k
  .obtain ⟨j,e,_,_,h3⟩:=h.tr k q hlt;rw[hkD]at h3;cases h3
  .lia
 subst h0
 by_cases q:1<p.length
 .obtain ⟨j,e,h1,h2,_⟩:=h.tr 1 (by lia) q
  have:j=0:=by lia
  rw[this,hkD]at h2;cases h2
 .cases p with
  |nil=>cases hb
  |cons a p =>
   cases p with
   |nil =>
    have:a=[]:=aD.inj hk;rw[this]
   |cons b p=>exact absurd (show 1<(a::b::p).length by simp) q
section
variable {P:List (List (List Int))}
theorem HE:∀{P:List (List (List Int))},P.flatten.flatten.Nodup->∀{p q:List (List Int)}{e:Int},p∈P->q∈P->e∈p.flatten->e∈q.flatten->p=q
 | [],_,p,q,e,hp,_,_,_=>by cases hp
 |a::P,h,p,q,e,hp,hq,h1,h2=>by
  rw[fCq,fAq,nAq]at h;have inP:∀{r:List (List Int)},r∈P->e∈r.flatten->e∈P.flatten.flatten:=λ{r} hr hr'=>by
   obtain⟨l,hl,hel⟩:=mFq.mp hr';exact mFq.mpr ⟨l,mFq.mpr ⟨r,hr,hl⟩,hel⟩
  rcases ae.mp hp with e1|e1
  .rcases ae.mp hq with e2|e2
   .rw [e1,e2]
   .rw [e1]at h1;exact absurd rfl (h.2.2 e h1 e (inP e2 h2))
  .rcases ae.mp hq with e2|e2
   .rw [e2]at h2;exact absurd rfl (h.2.2 e h2 e (inP e1 h1))
   .exact HE h.2.1 e1 e2 h1 h2
theorem getD_mem{p:List (List Int)}{k:Nat}{e:Int}(h:e∈p.getD k []):p.getD k []∈p:=by
 rw[gDq]at h ⊢;cases q:p[k]? with
 |none=>rw[q]at h;cases h
 |some r=>exact mGq q
end
end K11
--ZQ3 --ZQ4 --ZQ5 --ZQ6 --ZQ8 --ZQ9 --ZQB --ZQC --ZQD --ZQE --ZQF --ZQG
namespace K17
open PySem L2 Mr Z Xe Zl
theorem R8{L:List (List Int)}(hn:L.flatten.Nodup) {i j:Nat}{r s:List Int}{e:Int}(hi:L[i]?=some r) (hj:L[j]?=some s) (h1:e∈r) (h2:e∈s):i=j:=same_place hn hi hj h1 h2
end K17
--ZQ3 --ZQ4 --ZQ5 --ZQ6 --ZQ8 --ZQ9 --ZQB --ZQC --ZQD --ZQE --ZQF --ZQG
namespace K17
open PySem L2 Mr Z Xe Zl
theorem uk{L M:List (List Int)}(h:L.Perm M):L.flatten.Perm M.flatten:=by
 induction h with
 |nil=>exact .refl _
 |cons a _ ih=>rw[fCq,fCq];exact ih.append_left a
 |swap a b l =>
  rw[fCq,fCq,fCq,fCq,←ai,←ai];exact aF.append_right _
 |trans _ _ h1 h2=>exact h1.trans h2
end K17
--ZQ3 --ZQ4 --ZQ5 --ZQ6 --ZQ8 --ZQ9 --ZQB --ZQC --ZQD --ZQE --ZQF --ZQG
namespace K17
open PySem L2 Mr Z Xe Zl
section
variable {v0 v1:Option AV}
end
end K17
namespace K17
open PySem L2 Mr Z Xe Zl
open K51 (sR Ps Pc)
theorem zp:∀{A:List (List (List Int))},(∀p∈A,([]:List Int)∈p->p=[[]])->A.flatten.count []=A.countP λp=>decide (p=[[]])
 | [],_=>rfl
 |p::A,h=>by
  rw[fCq,cAq,zp λq hq=>h q (mCo _ hq),List.countP_cons]
  by_cases c:([]:List Int)∈p
  .rw [h p (af ..) c];simp;lia
  .rw [ee.mpr c,pV (by
    simp only[decide_eq_true_eq];intro e;exact c (by rw[e];simp))]
   lia
theorem DY{a b:List Int}(h:∀y,y∈a↔y∈b) (ha:a≠[]):∃m,a.min?=some m/\b.min?=some m/\m∈a:=by
 cases e:a.min? with
 |none=>exact absurd (List.min?_eq_none_iff.mp e) ha
 |some m =>
  have q:=(gM (xs:=a)).mp e;exact⟨m,rfl,(gM (xs:=b)).mpr ⟨(h m).mp q.1,λx hx=>q.2 x ((h x).mpr hx)⟩,q.1⟩
theorem C9:∀{A:List (List (List Int))},A.flatten.flatten.Nodup->(∀p∈A,p.flatten≠[])->(A.map λp=>p.flatten.min?).Nodup
 | [],_,_=>aV
 |p::A,h,hne=>by
  rw[fCq,fAq,nAq]at h;rw[ar];refine aq.mpr ⟨λm=>?_,C9 h.2.1 λq hq=>hne q (mCo _ hq)⟩
  obtain⟨q,hq,e⟩:=mMq.mp m;obtain⟨a,h1,_,h3⟩:=DY (λ_=>Iff.rfl) (hne p (af ..))
  rw[h1]at e;have:=((gM (xs:=q.flatten)).mp e).1;obtain⟨r,hr,har⟩:=mFq.mp this;exact h.2.2 a h3 a (mFq.mpr ⟨r,mFq.mpr ⟨q,hq,hr⟩,har⟩) rfl
structure Bp (A:List (List (List Int))):Prop where
 nd:A.flatten.flatten.Nodup
 ne:∀p∈A,p≠[]
 ba:∀p∈A,([]:List Int)∈p->p=[[]]
theorem OC{l m:List (List Int)}(h:l.Sublist m):l.flatten.Sublist m.flatten:=by
 induction h with
 |slnil=>exact .refl _
 |cons a _ ih=>rw[fCq];exact ih.trans (List.sublist_append_right ..)
 |cons_cons a _ ih=>rw[fCq,fCq];exact(iP.refl a).append ih
theorem CK{A:List (List (List Int))}(h:A.flatten.flatten.Nodup) (f:List (List Int)->Bool):(A.filter f).flatten.flatten.Nodup:=by
 rw[jk]at h ⊢;exact h.sublist (OC (dR.map _))
theorem Bp.fne{A:List (List (List Int))}(h:Bp A) {p:List (List Int)}(hp:p∈A) (hb:p≠[[]]):p.flatten≠[]:=λz=>by
 cases p with
 |nil=>exact h.ne _ hp rfl
 |cons a p =>
  rw[fCq]at z;have:a=[]:=(gC.mp z).1;subst this;exact hb (h.ba _ hp (af ..))
theorem Wv{A B:List (List (List Int))}(hA:Bp A) (hB:Bp B) (hs:∀x,x∈A.flatten.flatten->x∈B.flatten.flatten) (sh:∀p∈A,∀q∈B,∀x,x∈p.flatten->x∈q.flatten->∀y,y∈p.flatten↔y∈q.flatten) {k:Option Int}(hk:k∈(A.filter λp=>!decide (p=[[]])).map λp=>p.flatten.min?):k∈(B.filter λp=>!decide (p=[[]])).map λp=>p.flatten.min?:=by
 obtain⟨p,hp,e⟩:=mMq.mp hk;obtain⟨hp,hb⟩:=ao.mp hp;have hb':p≠[[]]:=by simpa using hb
 obtain⟨m,e1,_,hm⟩:=DY (λ_=>Iff.rfl) (hA.fne hp hb')
 obtain⟨r,hr,hmr⟩:=mFq.mp hm;obtain⟨r',hr',hmr'⟩:=mFq.mp (hs m (mFq.mpr ⟨r,mFq.mpr ⟨p,hp,hr⟩,hmr⟩));obtain⟨q,hq,hrq⟩:=mFq.mp hr';have hmq:m∈q.flatten:=mFq.mpr ⟨r',hrq,hmr'⟩;obtain⟨m',e2,e3,_⟩:=DY (sh p hp q hq m hm hmq) (hA.fne hp hb');rw[←e];refine mMq.mpr ⟨q,ao.mpr ⟨hq,?_⟩,by rw[e2,e3]⟩
 have:q≠[[]]:=λz=>by rw[z]at hmq;simp at hmq
 simpa using this
theorem zW{A B:List (List (List Int))}(hA:Bp A) (hB:Bp B) (hs:∀x,x∈A.flatten.flatten↔x∈B.flatten.flatten) (sh:∀p∈A,∀q∈B,∀x,x∈p.flatten->x∈q.flatten->∀y,y∈p.flatten↔y∈q.flatten) (hc:A.flatten.count []=B.flatten.count []):A.length=B.length:=by
 have k1:=C9 (CK hA.nd λp=>!decide (p=[[]])) λp hp=>hA.fne (ao.mp hp).1 (by simpa using (ao.mp hp).2)
 have k2:=C9 (CK hB.nd λp=>!decide (p=[[]])) λp hp=>hB.fne (ao.mp hp).1 (by simpa using (ao.mp hp).2)
 have pm:=((bA k1 k2).mpr λk=>⟨Wv hA hB (λx=>(hs x).mp) sh,Wv hB hA (λx=>(hs x).mpr) λp hp q hq x h1 h2 y=>(sh q hq p hp x h2 h1 y).symm⟩).length_eq
 rw[lMq,lMq,←cm,←cm]at pm;rw[zp hA.ba,zp hB.ba]at hc;have l1:=cY (l:=A) λp=>decide (p=[[]])
 have l2:=cY (l:=B) λp=>decide (p=[[]])
 have f:(λp:List (List Int)=>!decide (p=[[]]))=λp=>decide ¬ (decide (p=[[]])=true):=by
  funext p
  by_cases c:p=[[]] <;> simp[c]
 rw[f]at pm;lia
abbrev cls(M:List (List Int)) (PS:List (List Nat)):List (List (List Int)):=PS.map λps=>ps.map λk=>M.getD k []
section
variable {M:List (List Int)}{kn:List Nat}{PS:List (List Nat)}
theorem VZ{S:Int->Prop}(hm:K51.Mp M) (hneg:∀x,S x->S (-x)) (hrow:∀r∈M,∀x∈r,∀y∈r,S x->S y) {a b:Nat}(h:sR M a b) (ha:∀x∈M.getD a [],S x):∀y∈M.getD b [],S y:=by
 induction h with
 |base=>exact ha
 | @step k r e _ h1 h2 ih =>
  intro y hy;have hD:M.getD k []=r:=by rw[gDq,h1];rfl
  have s1:=hneg e (ih e (by rw[hD];exact h2))
  have he:e∈M.flatten:=mFq.mpr ⟨r,mGq h1,h2⟩;obtain⟨r',hr',her'⟩:=hm.at (hm.hneg e he);have hD':M.getD (K51.plc M (-e)) []=r':=by rw[gDq,hr'];rfl
  rw[hD']at hy;exact hrow r' (mGq hr') _ her' y hy s1
theorem Cs{ps:List Nat}{s:Nat}(hm:K51.Mp M) (pc:Pc M s ps) {x:Int}:x∈(ps.map λk=>M.getD k []).flatten↔∃k,sR M s k/\x∈M.getD k []:=by
 rw[mFq];constructor
 .rintro ⟨r,hr,hx⟩;obtain⟨k,hk,rfl⟩:=mMq.mp hr;exact⟨k,(pc.iff k).mp hk,hx⟩
 .rintro ⟨k,hk,hx⟩;exact⟨_,mMq.mpr ⟨k,(pc.iff k).mpr hk,rfl⟩,hx⟩
theorem Al{S:Int->Prop}{ps:List Nat}{s:Nat}(hm:K51.Mp M) (pc:Pc M s ps) (hneg:∀x,S x->S (-x)) (hrow:∀r∈M,∀x∈r,∀y∈r,S x->S y) {x:Int}(hx:x∈(ps.map λk=>M.getD k []).flatten) (h:S x):∀y∈(ps.map λk=>M.getD k []).flatten,S y:=by
 intro y hy;obtain⟨a,ha,hxa⟩:=(Cs hm pc).mp hx;obtain⟨b,hb,hyb⟩:=(Cs hm pc).mp hy;exact VZ hm hneg hrow ((ha.symm hm).trans hb) (λz hz=>hrow _ (K11.getD_mem hxa) x hxa z hz h) y hyb
theorem uz{ps:List Nat}{s:Nat}(hm:K51.Mp M) (pc:Pc M s ps) {x:Int}(hx:x∈(ps.map λk=>M.getD k []).flatten):-x∈(ps.map λk=>M.getD k []).flatten:=by
 obtain⟨k,hk,hxk⟩:=(Cs hm pc).mp hx;have hr:M[k]?=some (M.getD k []):=by
  rw[gDq]at hxk ⊢;cases q:M[k]? with
  |none=>rw[q]at hxk;cases hxk
  |some r=>rfl
 obtain⟨r',hr',her'⟩:=hm.at (hm.hneg x (mFq.mpr ⟨_,mGq hr,hxk⟩));refine(Cs hm pc).mpr ⟨_,.step hk hr hxk,?_⟩;rw[gDq,hr'];exact her'
theorem vH{ps:List Nat}{s:Nat}(hm:K51.Mp M) (pc:Pc M s ps) {r:List Int}(hr:r∈M) {x y:Int}(hx:x∈r) (hy:y∈r) (h:x∈(ps.map λk=>M.getD k []).flatten):y∈(ps.map λk=>M.getD k []).flatten:=by
 obtain⟨t,ht,hxt⟩:=mFq.mp h;obtain⟨k,hk,rfl⟩:=mMq.mp ht;have h2:=K11.getD_mem hxt;obtain⟨i,hi⟩:=aC.mp hr;obtain⟨j,hj⟩:=aC.mp h2;have:=R8 hm.hn hi hj hx hxt;subst this;rw[hi]at hj;refine mFq.mpr ⟨_,ht,?_⟩;rw[←aD.inj hj];exact hy
theorem yN(hm:K51.Mp M) (hp:Ps M M.length kn PS):Bp (cls M PS):=by
 have pm:=K12.ti hp;refine⟨(uk pm).nodup_iff.mpr hm.hn,λp h=>?_,λp h hb=>?_⟩
 .obtain ⟨ps,hps,rfl⟩:=mMq.mp h;obtain⟨s,hs,pc⟩:=hp.pc ps hps;intro z;have m:s∈ps:=(pc.iff s).mpr .base;rw[List.map_eq_nil_iff.mp z]at m;cases m
 .obtain ⟨ps,hps,rfl⟩:=mMq.mp h;obtain⟨s,hs,pc⟩:=hp.pc ps hps;obtain⟨k,hk,ek⟩:=mMq.mp hb;have hk1:=pc.lt k hk;have hk2:M[k]?=some []:=by
   rw[gDq,gEg hk1]at ek;rw[gEg hk1];exact congrArg some ek
  have only:∀j,sR M k j->j=k:=λj hj=>by
   induction hj with
   |base=>rfl
   |step _ a b ih =>
    rw[ih,hk2]at a;cases a;cases b
  have all:∀j∈ps,j=k:=λj hj=>only j ((((pc.iff k).mp hk).symm hm).trans ((pc.iff j).mp hj))
  have nd:=pc.nd;have e:ps=[k]:=by
   match ps,hk,all,nd with
   | [a],_,all,_=>rw[all a (by simp)]
   |a::b::l,_,all,nd=>exact absurd ((all a (by simp)).trans (all b (by simp)).symm) (λz=>(aq.mp nd).1 (by rw[z];simp))
  rw[e];show [M.getD k []]=[[]];rw[ek]
theorem AE{N:List (List Int)}{kn':List Nat}{PS':List (List Nat)}(hm:K51.Mp M) (hn:K51.Mp N) (hp:Ps M M.length kn PS) (hp':Ps N N.length kn' PS') (hs:∀x,x∈M.flatten↔x∈N.flatten) (hb:M.count []=N.count []) (h1:∀S:Int->Prop,(∀x,S x->S (-x))->(∀r∈N,∀x∈r,∀y∈r,S x->S y)->∀r∈M,∀x∈r,∀y∈r,S x->S y) (h2:∀S:Int->Prop,(∀x,S x->S (-x))->(∀r∈M,∀x∈r,∀y∈r,S x->S y)->∀r∈N,∀x∈r,∀y∈r,S x->S y):PS.length=PS'.length:=by
 have pm:=K12.ti hp;have pm':=K12.ti hp';have:=zW (yN hm hp) (yN hn hp') (λx=>((uk pm).mem_iff.trans (hs x)).trans (uk pm').mem_iff.symm) (λp h q h' x hx hx' y=>by
  obtain⟨ps,hps,rfl⟩:=mMq.mp h;obtain⟨s,_,pc⟩:=hp.pc ps hps;obtain⟨qs,hqs,rfl⟩:=mMq.mp h';obtain⟨t,_,qc⟩:=hp'.pc qs hqs;exact⟨Al hm pc (λz hz=>uz hn qc hz) (h1 (· ∈ (qs.map λk=>N.getD k []).flatten) (λz hz=>uz hn qc hz) λr hr a ha b hb h=>vH hn qc hr ha hb h) hx hx' y,Al hn qc (λz hz=>uz hm pc hz) (h2 (· ∈ (ps.map λk=>M.getD k []).flatten) (λz hz=>uz hm pc hz) λr hr a ha b hb h=>vH hm pc hr ha hb h) hx' hx y⟩) (by rw[pm.count_eq,pm'.count_eq,hb])
 rwa [lMq,lMq]at this
end
end K17
namespace K47
open PySem L2 Mr Z Xe Zl
open K18 (PC wW pI ug cp Ln nL pZ DJ FS J0)
open K43 (xF uV vq xN wJ Bi G3)
open K17 (cls yN Al uz vH zW AE uk Bp)
open K51 (sR Ps Pc)
def pn(M:List (List Int)):Nat:=@dite _ (∃kn PS,Ps M M.length kn PS) (aH _) (λh=>(Classical.choose (gN h)).length) λ_=>0
section
variable {M N X Y:List (List Int)}{z:Int}
theorem Vr(hm:Mp M) {kn:List Nat}{PS:List (List Nat)}(hp:Ps M M.length kn PS):PS.length=pn M:=by
 have h:∃kn PS,Ps M M.length kn PS:=⟨kn,PS,hp⟩;unfold pn;rw[dif_pos h];exact AE (xF hm) (xF hm) hp (gN (gN h)) (λ_=>Iff.rfl) rfl (λS _ hr=>hr) λS _ hr=>hr
theorem vA(hm:Mp M):∃kn PS,Ps M M.length kn PS/\PS.length=pn M:=by
 obtain⟨kn,PS,hp,_⟩:=K51.pieces_ok (xF hm);exact⟨kn,PS,hp,Vr hm hp⟩
theorem FP(hm:Mp M) (hn:Mp N) (hs:∀x,x∈M.flatten↔x∈N.flatten) (hb:M.count []=N.count []) (h1:∀S:Int->Prop,(∀x,S x->S (-x))->(∀r∈N,∀x∈r,∀y∈r,S x->S y)->∀r∈M,∀x∈r,∀y∈r,S x->S y) (h2:∀S:Int->Prop,(∀x,S x->S (-x))->(∀r∈M,∀x∈r,∀y∈r,S x->S y)->∀r∈N,∀x∈r,∀y∈r,S x->S y):pn M=pn N:=by
 obtain⟨_,PS,hp,e⟩:=vA hm;obtain⟨_,PS',hp',e'⟩:=vA hn;rw[←e,←e'];exact AE (xF hm) (xF hn) hp hp' hs hb h1 h2
theorem Kx(hm:Mp M) (h:M.Perm N):Mp N:=⟨(qb h).nodup_iff.mp hm.hn,by rw[← (qb h).length_eq];exact hm.hl,by rw[←h.length_eq];exact hm.hr,λe he=>(qb h).mem_iff.mp (hm.hneg e ((qb h).mem_iff.mpr he))⟩
theorem Bf(hm:Mp M) (h:M.Perm N):pn M=pn N:=FP hm (Kx hm h) (λx=>(qb h).mem_iff) (h.count_eq _) (λS _ hr r hr'=>hr r (h.mem_iff.mp hr')) λS _ hr r hr'=>hr r (h.mem_iff.mpr hr')
theorem KJ(hm:Mp M) (hz:z∈M.flatten) (hb:sR (K23.C z M) (plc M z) (plc M (-z))):pn (K23.C z M)=pn M:=by
 obtain⟨_,PS,hp,e⟩:=vA hm;obtain⟨_,PS',hp',e'⟩:=vA (xN (z:=z) hm);rw[←e,←e'];exact K43.B4 hm hz hb hp hp'
theorem Ke(hm:Mp M) (hz:z∈M.flatten) (hb:¬ sR (K23.C z M) (plc M z) (plc M (-z))):pn (K23.C z M)=pn M+1:=by
 obtain⟨_,PS,hp,e⟩:=vA hm;obtain⟨_,PS',hp',e'⟩:=vA (xN (z:=z) hm);rw[←e,←e'];exact K43.B1 hm hz hb hp hp'
theorem NP(hm:Mp (X++Y)) (hX:∀e∈X.flatten, -e∈X.flatten) (hY:∀e∈Y.flatten, -e∈Y.flatten):pn (X++Y)=pn X+pn Y:=by
 have hn:=hm.hn;rw[fAq]at hn;obtain⟨n1,n2,n3⟩:=nAq.mp hn;have l1:=hm.hl;have l2:=hm.hr;rw[fAq,lAq]at l1;rw[lAq]at l2;have mX:Mp X:=⟨n1,by lia,by lia,hX⟩
 have mY:Mp Y:=⟨n2,by lia,by lia,hY⟩
 obtain⟨_,PX,pX,eX⟩:=vA mX;obtain⟨_,PY,pY,eY⟩:=vA mY;obtain⟨_,PA,pA,eA⟩:=vA hm;rw[←eX,←eY,←eA];have bX:=yN (xF mX) pX;have bY:=yN (xF mY) pY;have qX:=K12.ti pX;have qY:=K12.ti pY;have qA:=K12.ti pA;have fX:=uk qX;have fY:=uk qY;have bXY:Bp (cls X PX++cls Y PY):=⟨by
   rw[fAq,fAq];exact(fX.append fY).nodup_iff.mpr hn,λp hp=>by
   rcases mAq.mp hp with h|h
   .exact bX.ne p h
   .exact bY.ne p h,λp hp hb=>by
   rcases mAq.mp hp with h|h
   .exact bX.ba p h hb
   .exact bY.ba p h hb⟩
 have:=zW (yN (xF hm) pA) bXY (λx=>by
  rw[(uk qA).mem_iff,fAq,fAq,fAq,mAq,mAq,fX.mem_iff,fY.mem_iff]) (λp hp q hq x hx hx' y=>by
  obtain⟨ps,hps,rfl⟩:=mMq.mp hp;obtain⟨s,_,pc⟩:=pA.pc ps hps;rcases mAq.mp hq with h|h
  .obtain ⟨qs,hqs,rfl⟩:=mMq.mp h;obtain⟨t,_,qc⟩:=pX.pc qs hqs;have sub:∀a,a∈(qs.map λk=>X.getD k []).flatten->a∈X.flatten:=λa ha=>fX.mem_iff.mp (mFq.mpr (by
    obtain⟨r,hr,har⟩:=mFq.mp ha;exact⟨r,mFq.mpr ⟨_,mMq.mpr ⟨qs,hqs,rfl⟩,hr⟩,har⟩))
   refine⟨Al (S:=(· ∈ (qs.map λk=>X.getD k []).flatten)) (xF hm) pc (λz hz=>uz (xF mX) qc hz) (λr hr a ha b hb h=>?_) hx hx' y,Al (S:=(· ∈ (ps.map λk=>(X++Y).getD k []).flatten)) (xF mX) qc (λz hz=>uz (xF hm) pc hz) (λr hr a ha b hb h=>vH (xF hm) pc (ah _ hr) ha hb h) hx' hx y⟩
   rcases mAq.mp hr with hr|hr
   .exact vH (xF mX) qc hr ha hb h
   .exact absurd rfl (n3 a (sub a h) a (mFq.mpr ⟨r,hr,ha⟩))
  .obtain ⟨qs,hqs,rfl⟩:=mMq.mp h;obtain⟨t,_,qc⟩:=pY.pc qs hqs;have sub:∀a,a∈(qs.map λk=>Y.getD k []).flatten->a∈Y.flatten:=λa ha=>fY.mem_iff.mp (mFq.mpr (by
    obtain⟨r,hr,har⟩:=mFq.mp ha;exact⟨r,mFq.mpr ⟨_,mMq.mpr ⟨qs,hqs,rfl⟩,hr⟩,har⟩))
   refine⟨Al (S:=(· ∈ (qs.map λk=>Y.getD k []).flatten)) (xF hm) pc (λz hz=>uz (xF mY) qc hz) (λr hr a ha b hb h=>?_) hx hx' y,Al (S:=(· ∈ (ps.map λk=>(X++Y).getD k []).flatten)) (xF mY) qc (λz hz=>uz (xF hm) pc hz) (λr hr a ha b hb h=>vH (xF hm) pc (ag _ hr) ha hb h) hx' hx y⟩
   rcases mAq.mp hr with hr|hr
   .exact absurd rfl (n3 a (mFq.mpr ⟨r,hr,ha⟩) a (sub a h))
   .exact vH (xF mY) qc hr ha hb h) (by
  rw[fAq,cAq,qA.count_eq,qX.count_eq,qY.count_eq,cAq])
 rw[lAq]at this;unfold K17.cls at this
 rwa [lMq,lMq,lMq]at this
theorem RH{k:Nat}(hk:k<=900):pn (ax k ([]:List Int))=k:=by
 have fl:(ax k ([]:List Int)).flatten=[]:=by simp
 have mp:Mp (ax k ([]:List Int)):=⟨by rw[fl];exact aV,by rw[fl];exact bq _,by rw[bD];lia,λe he=>by rw[fl]at he;cases he⟩
 obtain⟨_,PS,hp,e⟩:=vA mp;have ln:Ln (ax k ([]:List Int)) []:=⟨λx y=>by
  have:PC (ax k ([]:List Int))=[]:=by
   unfold K18.PC;rw[iU];intro r hr;rw[(fM.mp hr).2];rfl
  rw[this];rfl,λc hc=>by cases hc⟩
 obtain⟨g,eq⟩:=J0 _ rfl mp (λe he=>by rw[fl]at he;cases he) (by rw[bD];exact hk) hp ln
 have le:=hp.len;unfold K18.nL at eq;rw[fl,bD,fG,e]at eq;rw[bD,e]at le;simp only[eZ]at eq;lia
end
end K47
namespace K47
open PySem L2 Mr Z Xe Zl
open K18 (PC wW pI ug cp Ln nL pZ DJ FS J0 FI)
open K43 (xF uV vq xN wJ Bi G3)
open K51 (sR Ps Pc)
structure Mv (M:List (List Int)):Prop where
 mp:Mp M
 nz:∀e∈M.flatten,e≠0
 lv:M.length<=450
 le:M.flatten.length<=450
def Bl(M:List (List Int)):Prop:=∃LL,Ln M LL/\4*pn M+M.flatten.length=2*M.length+2*nL M LL
section
variable {M N:List (List Int)}{z:Int}
theorem Tq(h:Mv M) {LL:List (List Int)}(ln:Ln M LL):∃g:Nat,4*pn M+M.flatten.length=2*M.length+2*nL M LL+4*g:=by
 obtain⟨_,PS,hp,e⟩:=vA h.mp;rw[←e];exact J0 _ rfl h.mp h.nz (by have:=h.lv;lia) hp ln
theorem Bl.any(h:Mv M) (b:Bl M) {LL:List (List Int)}(ln:Ln M LL):4*pn M+M.flatten.length=2*M.length+2*nL M LL:=by
 obtain⟨L1,l1,e⟩:=b;rw[e,Ln.one h.mp l1 ln]
theorem Mv.cut(h:Mv M):Mv (K23.C z M):=⟨xN h.mp,λe he=>h.nz e (vq.mp he).1,by rw[wJ];exact h.lv,by
 have:=h.le;have:(K23.C z M).flatten.length<=M.flatten.length:=by rw[K23.D9];exact eF _ _
 lia⟩
theorem QS(hm:Mp M) (hz:z∈M.flatten) (hne:z ≠ -z):(K23.C z M).flatten.length+2=M.flatten.length:=by
 have hw:=xN (z:=z) hm;have pm:M.flatten.Perm (z :: -z::(K23.C z M).flatten):=by
  rw[bA hm.hn (by
   refine aq.mpr ⟨?_,aq.mpr ⟨λh=>(vq.mp h).2.2 rfl,hw.hn⟩⟩
   intro h;rcases ae.mp h with q|q
   .exact hne q
   .exact (vq.mp q).2.1 rfl)]
  intro x;rw[ae,ae,vq];constructor
  .intro h
   by_cases q1:x=z
   .exact .inl q1
   .by_cases q2:x = -z
    .exact .inr (.inl q2)
    .exact .inr (.inr ⟨h,q1,q2⟩)
  .rintro (q|q|q)
   .rw [q];exact hz
   .rw [q];exact hm.hneg z hz
   .exact q.1
 have:=pm.length_eq;rw[lCq,lCq]at this;lia
theorem Bl.cut(h:Mv M) (b:Bl M) (hz:z∈M.flatten):Bl (K23.C z M):=by
 have z0:=h.nz z hz;have hne:z ≠ -z:=by lia
 obtain⟨L1,L2,a1,a2,hc⟩:=FS h.mp (by have:=h.lv;lia) hz hne
 have e1:=b.any h a1;obtain⟨g,e2⟩:=Tq (h.cut (z:=z)) a2;have l:=QS h.mp hz hne;have x3:pn (K23.C z M)=pn M+(if G3 M z=true then 1 else 0):=by
  unfold K43.G3
  by_cases q:sR (K23.C z M) (plc M z) (plc M (-z))
  .rw [KJ h.mp hz q,pV (by simp[q])]
   rfl
  .rw [Ke h.mp hz q,qe (by simp[q])]
 refine⟨L2,a2,?_⟩;rw[wJ]at e2 ⊢;rcases hc with c1|⟨c1,c2⟩
 .by_cases q:G3 M z=true
  .rw [qe q]at x3;lia
  .rw [pV q]at x3;lia
 .rw [c2,pV (by simp)]at x3
  lia
def kp(S:Int->Bool) (M:List (List Int)):List (List Int):=M.map λr=>r.filter S
theorem CN(S:Int->Bool) (M:List (List Int)):(kp S M).flatten=M.flatten.filter S:=by
 unfold kp;rw[jw]
theorem Bl.filter:∀(n:Nat) {M:List (List Int)}{S:Int->Bool},(M.flatten.filter λe=>!S e).length=n->Mv M->(∀e∈M.flatten,S (-e)=S e)->Bl M->Bl (kp S M):=by
 intro n
 induction n using fI with
 |_ n ih =>
  intro M S hn h hs b;cases hf:M.flatten.filter λe=>!S e with
  |nil =>
   have all:∀e∈M.flatten,S e=true:=λe he=>by
    cases q:S e with
    |true=>rfl
    |false =>
     have:e∈M.flatten.filter λe=>!S e:=ao.mpr ⟨he,by rw[q];rfl⟩
     rw[hf]at this;cases this
   have:kp S M=M:=(mCq (g:=id) λr hr=>eS.mpr λe he=>all e (mFq.mpr ⟨r,hr,he⟩)).trans (dF _)
   rw[this];exact b
  |cons z rest =>
   have hz:z∈M.flatten.filter λe=>!S e:=by rw[hf];exact af ..
   obtain⟨z1,z2⟩:=ao.mp hz;have sz:S z=false:=by simpa using z2
   have sz':S (-z)=false:=by rw[hs z z1];exact sz
   have same:kp S (K23.C z M)=kp S M:=by
    unfold kp K23.C;rw[mPq];refine mCq λr _=>?_
    show (K23.uj z r).filter S=r.filter S;unfold K23.uj;rw[dk];refine cD λe _=>?_
    cases q:S e with
    |false=>simp
    |true =>
     have:e≠z/\e ≠ -z:=⟨λw=>(by rw[w,sz]at q;cases q),λw=>(by rw[w,sz']at q;cases q)⟩
     simp[this.1,this.2]
   rw[←same];refine ih _ ?_ rfl (h.cut (z:=z)) (λe he=>hs e (vq.mp he).1) (b.cut h z1)
   rw[←hn,K23.D9];unfold K23.uj;rw[dk];have lt:(M.flatten.filter λe=>(!S e) && !decide (e∈[z, -z])).length<(M.flatten.filter λe=>!S e).length:=by
    have e1:(M.flatten.filter λe=>(!S e) && !decide (e∈[z, -z]))=(M.flatten.filter λe=>!S e).filter λe=>!decide (e∈[z, -z]):=by
     rw[dk];exact cD λe _=>Bool.and_comm ..
    rw[e1];refine List.length_filter_lt_length_iff_exists.mpr ⟨z,hz,by simp⟩
   exact lt
end
theorem Sy(l:List Int):∃B:Nat,∀e∈l,e.natAbs<B:=by
 induction l with
 |nil=>exact⟨0,λe he=>by cases he⟩
 |cons a l ih =>
  obtain⟨B,h⟩:=ih;refine⟨B+a.natAbs+1,λe he=>?_⟩
  rcases ae.mp he with rfl|he
  .lia
  .have:=h e he;lia
section
variable {R:List (List Int)}{s:List Int}{S:Int->Bool}
structure Sp (S:Int->Bool) (s:List Int) (R:List (List Int)):Prop where
 neg:∀e∈(s::R).flatten,S (-e)=S e
 row:∀t∈R,∀x∈t,∀y∈t,S x=S y
 yes:s.filter S≠[]
 no:(s.filter λe=>!S e)≠[]
def tw(S:Int->Bool) (s:List Int) (R:List (List Int)):List (List Int):=s.filter S::(s.filter λe=>!S e)::R
theorem zY(S:Int->Bool) (s:List Int):(s.filter S++s.filter λe=>!S e).Perm s:=List.filter_append_perm S s
theorem Gk(S:Int->Bool) (s:List Int) (R:List (List Int)):(tw S s R).flatten.Perm (s::R).flatten:=by
 unfold tw;rw[fCq,fCq,fCq,←ai];exact(zY S s).append_right _
theorem NB(h:Mv (s::R)) (hl:(s::R).length+1<=450):Mv (tw S s R):=by
 have pf:=Gk S s R;have lt:(tw S s R).length=(s::R).length+1:=rfl;exact⟨⟨pf.nodup_iff.mpr h.mp.hn,by rw[pf.length_eq];exact h.mp.hl,by rw[lt];lia,λe he=>pf.mem_iff.mpr (h.mp.hneg e (pf.mem_iff.mp he))⟩,λe he=>h.nz e (pf.mem_iff.mp he),by rw[lt];exact hl,by rw[pf.length_eq];exact h.le⟩
theorem OT(h:Mv (s::R)) (hl:(s::R).length+1<=450) (sp:Sp S s R):pn (tw S s R)=pn (s::R)+1:=by
 obtain⟨B,hB⟩:=Sy (s::R).flatten;have hz:((B:Int)+1)∉(s::R).flatten/\-((B:Int)+1)∉(s::R).flatten:=⟨λq=>by have:=hB _ q;lia,λq=>by have:=hB _ q;lia⟩
 generalize hze:(B:Int)+1=z at hz;have z0:z ≠ -z:=by lia
 have mv:=NB (S:=S) h hl;have pf:=Gk S s R;have hle:=h.le;have hlv:=h.lv;rw[lCq]at hlv hl;have fC:((s++[z, -z])::R).flatten.Perm (z :: -z::(s::R).flatten):=by
  rw[fCq,fCq,ai];exact ie ..
 have fN:((s.filter S++[z])::((s.filter λe=>!S e)++[-z])::R).flatten.Perm (z :: -z::(s::R).flatten):=by
  refine dQ.mpr λa=>?_
  have h1:=dQ.mp (zY S s) a;simp only[fCq,cAq,bS,bJ]at h1 ⊢;lia
 have ndz:(z :: -z::(s::R).flatten).Nodup:=aq.mpr ⟨λq=>by
  rcases ae.mp q with q|q
  .exact z0 q
  .exact hz.1 q,aq.mpr ⟨hz.2,h.mp.hn⟩⟩
 have ngz:∀e∈z :: -z::(s::R).flatten, -e∈z :: -z::(s::R).flatten:=λe he=>by
  rcases ae.mp he with q|q
  .rw [q];simp
  .rcases ae.mp q with q|q
   .rw [q,bj];simp
   .exact mCo _ (mCo _ (h.mp.hneg e q))
 have mpOf:∀{X:List (List Int)},X.flatten.Perm (z :: -z::(s::R).flatten)->X.length<=600->Mp X:=λ{X} p hX=>⟨p.nodup_iff.mpr ndz,by rw[p.length_eq,lCq,lCq];lia,by lia,λe he=>p.mem_iff.mpr (ngz e (p.mem_iff.mp he))⟩
 have mC:=mpOf fC (by rw[lCq];lia)
 have mN:=mpOf fN (by rw[lCq,lCq];lia)
 have inR:∀t∈R,z∉t/\-z∉t:=λt ht=>⟨λq=>hz.1 (by rw[fCq];exact ag _ (mFq.mpr ⟨t,ht,q⟩)),λq=>hz.2 (by rw[fCq];exact ag _ (mFq.mpr ⟨t,ht,q⟩))⟩
 have inS:z∉s/\-z∉s:=⟨λq=>hz.1 (by rw[fCq];exact ah _ q),λq=>hz.2 (by rw[fCq];exact ah _ q)⟩
 have cS:∀{t:List Int},(∀e∈t,e∈s)->K23.uj z t=t:=λ{t} ht=>K18.vP (λq=>inS.1 (ht _ q)) λq=>inS.2 (ht _ q)
 have c0:K23.uj z [z, -z]=[]:=by rw[K18.Ab,K18.CQ];rfl
 have c1:K23.uj z [z]=[]:=by rw[K18.Ab];rfl
 have c2:K23.uj z [-z]=[]:=by rw[K18.CQ];rfl
 have cutC:K23.C z ((s++[z, -z])::R)=s::R:=by
  unfold K23.C;rw[ar,K18.CL inR,K18.uA,cS (λe h=>h),c0,aNq]
 have cutN:K23.C z ((s.filter S++[z])::((s.filter λe=>!S e)++[-z])::R)=tw S s R:=by
  unfold K23.C;rw[ar,ar,K18.CL inR,K18.uA,K18.uA,c1,c2,cS (λe h=>(ao.mp h).1),cS (λe h=>(ao.mp h).1),aNq,aNq]
  rfl
 have p1:pn (s::R)=pn ((s++[z, -z])::R):=by
  have pz:plc ((s++[z, -z])::R) z=0:=plc_eq mC.hn (i:=0) rfl (by simp)
  have pz':plc ((s++[z, -z])::R) (-z)=0:=plc_eq mC.hn (i:=0) rfl (by simp)
  have:=KJ (z:=z) mC (by simp) (by rw[pz,pz'];exact .base)
  rw[cutC]at this;exact this
 have sep:∀k,sR (tw S s R) 0 k->∀row,(tw S s R)[k]?=some row->∀e∈row,S e=true:=λk rc=>by
  induction rc with
  |base =>
   intro row hr e he;have:row=s.filter S:=(aD.inj hr).symm;rw[this]at he;exact(ao.mp he).2
  | @step k row e rc hk he ih =>
   intro row' hr' e' he';have se:=ih row hk e he;have eM:e∈(tw S s R).flatten:=mFq.mpr ⟨row,mGq hk,he⟩;obtain⟨k2,s2,hk2,hs2⟩:=K18.BE (mv.mp.hneg e eM);have e3:K51.plc (tw S s R) (-e)=k2:=plc_eq mv.mp.hn hk2 hs2;rw[e3,hk2]at hr';cases hr';have sn:S (-e)=true:=by rw[sp.neg e (pf.mem_iff.mp eM)];exact se
   rcases ae.mp (mGq hk2) with q|q
   .rw [q]at he';exact(ao.mp he').2
   .rcases ae.mp q with q|q
    .rw [q]at hs2;have:=(ao.mp hs2).2;rw[sn]at this;cases this
    .rw [←sp.row _ q (-e) hs2 e' he'];exact sn
 have p2:pn (tw S s R)=pn ((s.filter S++[z])::((s.filter λe=>!S e)++[-z])::R)+1:=by
  have pz:plc ((s.filter S++[z])::((s.filter λe=>!S e)++[-z])::R) z=0:=plc_eq mN.hn (i:=0) rfl (by simp)
  have pz':plc ((s.filter S++[z])::((s.filter λe=>!S e)++[-z])::R) (-z)=1:=plc_eq mN.hn (i:=1) rfl (by simp)
  have:=Ke (z:=z) mN (by simp) (by
   rw[pz,pz',cutN];intro rc;obtain⟨a,l,e⟩:=K18.sr sp.no;have ha:a∈s.filter λe=>!S e:=by rw[e];exact af ..
   have t:=sep 1 rc _ rfl a ha;have:=(ao.mp ha).2;rw[t]at this;cases this)
  rw[cutN]at this;exact this
 have p3:pn ((s++[z, -z])::R)=pn ((s.filter S++[z])::((s.filter λe=>!S e)++[-z])::R):=by
  have cnt:((s++[z, -z])::R).count []=((s.filter S++[z])::((s.filter λe=>!S e)++[-z])::R).count []:=by
   rw[pZ,pZ,pZ,pV (by simp),pV (by simp),pV (by simp)]
  refine FP mC mN (λx=>fC.mem_iff.trans fN.mem_iff.symm) cnt (λT neg rowT t ht u hu v hv su=>?_) λT neg rowT t ht u hu v hv su=>?_
  .rcases ae.mp ht with q|q
   .subst q;have rA:=rowT (s.filter S++[z]) (af ..);have rB:=rowT ((s.filter λe=>!S e)++[-z]) (mCo _ (af ..))
    have toZ:∀w∈s++[z, -z],(T w->T z)/\(T z->T w):=λw hw=>by
     rcases mAq.mp hw with q|q
     .cases sw:S w with
      |true =>
       have m:w∈s.filter S++[z]:=ah _ (ao.mpr ⟨q,sw⟩);exact⟨rA w m z (by simp),rA z (by simp) w m⟩
      |false =>
       have m:w∈(s.filter λe=>!S e)++[-z]:=ah _ (ao.mpr ⟨q,by rw[sw];rfl⟩)
       refine⟨λtw=>?_,λtz=>rB (-z) (by simp) w m (neg z tz)⟩
       have:=neg _ (rB w m (-z) (by simp) tw)
       rwa [bj]at this
     .rcases ae.mp q with q|q
      .rw [q];exact⟨id,id⟩
      .rw [mSq.mp q];refine⟨λt=>?_,λt=>neg z t⟩
       have:=neg _ t
       rwa [bj]at this
    exact(toZ v hv).2 ((toZ u hu).1 su)
   .exact rowT t (mCo _ (mCo _ q)) u hu v hv su
  .have rs:=rowT (s++[z, -z]) (af ..);rcases ae.mp ht with q|q
   .subst q;have sub:∀w∈s.filter S++[z],w∈s++[z, -z]:=λw hw=>by
     rcases mAq.mp hw with q|q
     .exact ah _ (ao.mp q).1
     .rw [mSq.mp q];simp
    exact rs u (sub u hu) v (sub v hv) su
   .rcases ae.mp q with q|q
    .subst q;have sub:∀w∈(s.filter λe=>!S e)++[-z],w∈s++[z, -z]:=λw hw=>by
      rcases mAq.mp hw with q|q
      .exact ah _ (ao.mp q).1
      .rw [mSq.mp q];simp
     exact rs u (sub u hu) v (sub v hv) su
    .exact rowT t (mCo _ q) u hu v hv su
 lia
end
end K47
--ZQ3 --ZQ4 --ZQ5 --ZQ6 --ZQ8 --ZQ9 --ZQB --ZQC --ZQD --ZQE --ZQF --ZQG
namespace K41
open PySem L2 Mr Z Xe Zl
def thn(g t:List Int):List Int:=t.filter λe=>!decide (e∈g)
theorem QX(g t:List Int) (ht:t.length<=1000):K23.wz [dI t,.list (g.map D.int)]=some (aI (thn g t)):=by
 have h:rF (uS (qG (G2 true) (pd 0) (pd 1))) (qp 0) [some (.sh (.list (g.map D.int)))] (t.map D.int)=some ((thn g t).map λn=>.sh (.int n)):=by
  rw[Z.zl (λd=>match d with|.int e=>!decide (e∈g)|_=>false) (λd=>.sh d)]
  .rw [jW,mPq];rfl
  .intro d hd;obtain⟨e,_,rfl⟩:=mMq.mp hd;have h:=IQ true e g;rw[qe rfl]at h;refine⟨[some (.sh (.int e)),some (.sh (.list (g.map D.int)))],?_,λ_=>⟨[some (.sh (.int e)),some (.sh (.list (g.map D.int)))],?_⟩⟩
   .simp_arith [h]
   .simp_arith []
 have hl2:t.length<=rY:=rN (by lia)
 simp_arith [K23.wz,K23.Dw,dI,h,hl2]
def pst(g:List Int) (M:List (List Int)):List (List Int):=M.map (thn g)
theorem QB(g:List Int) {rs:List (List Int)}(hr:∀r∈rs,r.length<=1000):rF rG (rH K23.wz (qk (qp 0) (qk (qp 1) rS))) [some (.sh (.list (g.map D.int)))] (rs.map dI)=some ((pst g rs).map aI):=by
 rw[Z.rP λd=>aI (thn g (C4 d))]
 .rw [GL λr=>aI (thn g r)]
  unfold pst;rw[mPq];rfl
 .intro d hd;obtain⟨r,hr',rfl⟩:=IS hd;refine⟨[some (.sh (dI r)),some (.sh (.list (g.map D.int)))],?_⟩
  simp_arith [QX g r (hr r hr'),xE]
theorem Nd(R:List Int):rF rG (kSc (MM Eb (pd 0))) [] (R.map D.int)=some ((R.map λz=>-z).map λn=>.sh (.int n)):=by
 rw[Z.rP (λd=>match d with|.int i=>AV.sh (.int (-i))|_=>.sh .non)]
 .rw [mPq,mPq];rfl
 .intro d hd;obtain⟨e,_,rfl⟩:=mMq.mp hd;refine⟨[some (.sh (.int e))],?_⟩
  simp_arith []
variable {M:List (List Int)}
theorem Jb(hm:Mp M) (R:List Int) (hR:R.length<=1000):K43.tG [dM M,.list (R.map D.int)]=some (.ow ((pst (R++R.map λz=>-z) M).map aI)):=by
 have nc:=Nd R;have wc:=QB (R++R.map λz=>-z) (rs:=M) λr hr=>by have:=zi hr;have:=hm.hl;lia
 have l1:M.length<=rY:=rN (by have:=hm.hr;lia)
 have l2:R.length<=rY:=rN (by lia)
 have l3:R.length+R.length<=rY:=rN (by lia)
 have q:R.map D.int++(R.map λz=>-z).map D.int=(R++R.map λz=>-z).map D.int:=by rw[mBq]
 simp_arith [K43.tG,K43.xT,nc,q,wc,l1,l2,l3]
theorem Ow(g:List Int) (M:List (List Int)):(pst g M).flatten=thn g M.flatten:=by
 unfold pst thn
 induction M with
 |nil=>rfl
 |cons r M ih=>rw[ar,fCq,fCq,ih,eW]
theorem JB(hm:Mp M) {g:List Int}(hg:∀e, -e∈g->e∈g):Mp (pst g M):=by
 have e:=Ow g M;refine⟨?_,?_,by unfold pst;rw[lMq];exact hm.hr,λz hz=>?_⟩
 .rw [e];exact hm.hn.filter _
 .rw [e];exact cE (eF _ _) hm.hl
 .rw [e]at hz ⊢;obtain⟨h1,h2⟩:=ao.mp hz;refine ao.mpr ⟨hm.hneg z h1,?_⟩;simp only[gk,decide_eq_false_iff_not]at h2 ⊢;exact λh=>h2 (hg z h)
def JM:AV->Option (List (pQ×List Int))
 | .owl k=>some k
 | .owd []=>some []
 |_=>none
theorem P3(S:AS) (i:Nat):vt S i=S[i]?.join.bind JM:=by
 unfold vt;cases S[i]?.join with
 |none=>rfl
 |some a =>
  cases a with
  |owd k=>cases k <;> rfl
  |_=>rfl
theorem GQ(k:List (pQ×List Int)):JM (.owl k)=some k:=rfl
def yY(kvs:List (pQ×List Int)):List (List Int):=kvs.map λx=>x.2
theorem HS{k:pQ}{m:Int}:∀{kvs:List (pQ×List Int)},(∃x∈kvs,x.1=k)->(yY (vV kvs k m)).flatten.Perm (m::(yY kvs).flatten)/\∀x∈vV kvs k m,x∈kvs∨∃l,x.2=l++[m]
 | [],h=>by obtain⟨x,hx,_⟩:=h;cases hx
 |y::r,h=>by
  by_cases c:y.1=k
  .rw [vV,qe c];refine⟨?_,λx hx=>?_⟩
   .show ((y.2++[m])++(yY r).flatten).Perm (m::(y.2++(yY r).flatten));rw[ai];exact dg
   .rcases ae.mp hx with rfl|hx
    .exact .inr ⟨_,rfl⟩
    .exact .inl (mCo _ hx)
  .rw [vV,pV c];obtain⟨x,hx,e⟩:=h;have hx':x∈r:=by
    rcases ae.mp hx with rfl|hx
    .exact absurd e c
    .exact hx
   obtain⟨i1,i2⟩:=HS (k:=k) (m:=m) ⟨x,hx',e⟩;refine⟨?_,λx hx=>?_⟩
   .show (y.2++(yY (vV r k m)).flatten).Perm (m::(y.2++(yY r).flatten));exact(aU.append_left _ i1).trans dg
   .rcases ae.mp hx with rfl|hx
    .exact .inl (af ..)
    .exact (i2 x hx).imp (mCo _) id
theorem FN{k:pQ}{m:Int}{l:List Int}:∀{kvs:List (pQ×List Int)},(∀x∈kvs,x.1≠k)->vV (kvs++[(k,l)]) k m=kvs++[(k,l++[m])]
 | [],_=>by simp[vV]
 |y::r,h=>by
  rw[cL,vV,pV (h y (af ..)),FN λx hx=>h x (mCo _ hx)]
  rfl
theorem Om{kvs:List (pQ×List Int)}(k:pQ) (m:Int) (ne:∀x∈kvs,x.2≠[]):(yY (vV (FT kvs k) k m)).flatten.Perm (m::(yY kvs).flatten)/\(∀x∈vV (FT kvs k) k m,x.2≠[])/\∀x∈FT kvs k,x∈kvs∨x.2=[]:=by
 unfold FT
 by_cases c:(kvs.any λx=>decide (x.1=k))=true
 .rw [qe c];obtain⟨x,hx,e⟩:=df.mp c;obtain⟨i1,i2⟩:=HS (m:=m) ⟨x,hx,of_decide_eq_true e⟩;refine⟨i1,λx hx=>?_,λx hx=>.inl hx⟩
  rcases i2 x hx with z|⟨l,z⟩
  .exact ne x z
  .rw [z];simp
 .rw [pV c];have nk:∀x∈kvs,x.1≠k:=λx hx e=>c (df.mpr ⟨x,hx,decide_eq_true e⟩)
  rw[FN nk];refine⟨?_,λx hx=>?_,λx hx=>?_⟩
  .unfold yY;rw[mBq,fAq];show ((yY kvs).flatten++([]++[m])).Perm (m::(yY kvs).flatten);exact aF
  .rcases mAq.mp hx with z|z
   .exact ne x z
   .rw [mSq.mp z];simp
  .rcases mAq.mp hx with z|z
   .exact .inl z
   .rw [mSq.mp z];exact .inr rfl
theorem AY:∀{kvs:List (pQ×List Int)},(∀x∈kvs,x.2≠[])->kvs.length<=(yY kvs).flatten.length
 | [],_=>aj _
 |y::r,h=>by
  have i:=AY λx hx=>h x (mCo _ hx)
  have:0<y.2.length:=dJ.mpr (h y (af ..));show r.length+1<=(y.2++(yY r).flatten).length;rw[lAq];lia
theorem PH{kvs:List (pQ×List Int)}{x:pQ×List Int}(h:x∈kvs):x.2.length<=(yY kvs).flatten.length:=zi (mMq.mpr ⟨x,h,rfl⟩)
end K41
--ZQ3 --ZQ4 --ZQ5 --ZQ6 --ZQ8 --ZQ9 --ZQB --ZQC --ZQD --ZQE --ZQF --ZQG
namespace K41
open PySem L2 Mr Z Xe Zl
open K51 (sR Pc)
def ab(i:Int):Int:=if i<0 then -i else i
theorem U4(i:Int):(if i<0 then -i else i)=ab i:=rfl
def kp(M:List (List Int)) (p:Nat) (e:Int):Bool:=decide (plc M (-e)≠p) || decide (0<e)
theorem Kr{k:pQ}{m:Int}:∀{kvs:List (pQ×List Int)},(vV kvs k m).map (·.1)=kvs.map (·.1)/\∀x∈vV kvs k m,x∈kvs∨(x.1=k/\∃l,x.2=l++[m]/\(k,l)∈kvs)
 | []=>⟨rfl,λx h=>.inl h⟩
 |y::r=>by
  by_cases c:y.1=k
  .rw [vV,qe c];refine⟨rfl,λx hx=>?_⟩
   rcases ae.mp hx with rfl|hx
   .refine .inr ⟨c,y.2,rfl,?_⟩;rw[←c];exact af ..
   .exact .inl (mCo _ hx)
  .rw [vV,pV c];obtain⟨i1,i2⟩:=Kr (k:=k) (m:=m) (kvs:=r);refine⟨by rw[ar,i1];rfl,λx hx=>?_⟩
   rcases ae.mp hx with rfl|hx
   .exact .inl (af ..)
   .rcases i2 x hx with z|⟨z,l,z1,z2⟩
    .exact .inl (mCo _ z)
    .exact .inr ⟨z,l,z1,mCo _ z2⟩
theorem Qw{kvs:List (pQ×List Int)}(k:pQ) (m:Int) (nk:(kvs.map (·.1)).Nodup):((vV (FT kvs k) k m).map (·.1)).Nodup/\∀x∈vV (FT kvs k) k m,x∈kvs∨(x.1=k/\∃l,x.2=l++[m]/\(l=[]∨(k,l)∈kvs)):=by
 obtain⟨i1,i2⟩:=Kr (k:=k) (m:=m) (kvs:=FT kvs k);rw[i1];unfold FT at i2 ⊢
 by_cases c:(kvs.any λx=>decide (x.1=k))=true
 .rw [qe c]at i2 ⊢;exact⟨nk,λx hx=>(i2 x hx).imp id λ⟨a,l,b,d⟩=>⟨a,l,b,.inr d⟩⟩
 .rw [pV c]at i2 ⊢;have nk2:∀x∈kvs,x.1≠k:=λx hx e=>c (df.mpr ⟨x,hx,decide_eq_true e⟩)
  refine⟨?_,λx hx=>?_⟩
  .rw [mBq];refine nAq.mpr ⟨nk,by simp,λa ha b hb q=>?_⟩
   obtain⟨x,hx,rfl⟩:=mMq.mp ha;rw[ar,fm]at hb;exact nk2 x hx (q.trans (mSq.mp hb))
  .rw [FN nk2]at hx;rcases mAq.mp hx with z|z
   .exact .inl z
   .rw [mSq.mp z];exact .inr ⟨rfl,[],rfl,.inl rfl⟩
structure Hd (P:List (List Int)) (s h:Nat):Prop where
 rc:sR P s h
 le:∀k,sR P s k->h<=k
structure Gi (M P:List (List Int)) (p:Nat) (r:List Int) (L:List Int) (kvs:List (pQ×List Int)):Prop where
 per:(L++(yY kvs).flatten).Perm ((r.filter (kp M p)).map ab)
 ne:∀x∈kvs,x.2≠[]
 lo:∀e∈L,e∈r/\0<e/\plc M (-e)=p
 nk:(kvs.map (·.1)).Nodup
 ky:∀x∈kvs,∃h:Nat,x.1 = .inl (h:Int)/\∀z∈x.2,∃e∈r,ab e=z/\plc M (-e)≠p/\Hd P (plc M (-e)) h
section
variable {M P:List (List Int)}{p:Nat}{r r' L:List Int}{kvs:List (pQ×List Int)}
theorem Gi.len(h:Gi M P p r L kvs):L.length+(yY kvs).flatten.length<=r.length:=by
 have:=h.per.length_eq;rw[lAq,lMq]at this;have:=eF (kp M p) r;lia
theorem Gi.hang(h:Gi M P p r L kvs) {e:Int}(hk:plc M (-e)≠p) {k:Nat}(hd:Hd P (plc M (-e)) k):Gi M P p (r++[e]) L (vV (FT kvs (.inl (k:Int))) (.inl (k:Int)) (ab e)):=by
 obtain⟨q1,q2,_⟩:=Om (.inl (k:Int)) (ab e) h.ne;obtain⟨q3,q4⟩:=Qw (.inl (k:Int)) (ab e) h.nk;refine⟨?_,q2,λe he=>⟨ah _ (h.lo e he).1,(h.lo e he).2⟩,q3,λx hx=>?_⟩
 rotate_left
 .rcases q4 x hx with z|⟨z,l,z1,z2⟩
  .obtain ⟨g,g1,g2⟩:=h.ky x z;exact⟨g,g1,λy hy=>(g2 y hy).imp λa b=>⟨ah _ b.1,b.2⟩⟩
  .refine ⟨k,z,λy hy=>?_⟩
   rw[z1]at hy;rcases mAq.mp hy with w|w
   .rcases z2 with z2|z2
    .rw [z2]at w;cases w
    .obtain ⟨g,g1,g2⟩:=h.ky _ z2;have:k=g:=by have:=aM.inj g1;lia
     subst this;exact(g2 y w).imp λa b=>⟨ah _ b.1,b.2⟩
   .rw [mSq.mp w];exact⟨e,ag _ (mSq.mpr rfl),rfl,hk,hd⟩
 have:kp M p e=true:=by unfold kp;rw[decide_eq_true hk];rfl
 rw[eW,fS this,iY,mBq];refine(aU.append_left L q1).trans ?_;refine dg.trans ?_;refine((aU.cons _ h.per)).trans ?_;exact(aF (l₁:=[ab e]))
theorem Gi.loop(h:Gi M P p r L kvs) {e:Int}(hk:plc M (-e)=p) (hp:0<e):Gi M P p (r++[e]) (L++[e]) kvs:=by
 refine⟨?_,h.ne,λy hy=>?_,h.nk,λx hx=>?_⟩
 rotate_left
 .rcases mAq.mp hy with w|w
  .exact ⟨ah _ (h.lo y w).1,(h.lo y w).2⟩
  .rw [mSq.mp w];exact⟨ag _ (mSq.mpr rfl),hp,hk⟩
 .obtain ⟨g,g1,g2⟩:=h.ky x hx;exact⟨g,g1,λy hy=>(g2 y hy).imp λa b=>⟨ah _ b.1,b.2⟩⟩
 have:kp M p e=true:=by unfold kp;rw[decide_eq_true hp,jH]
 rw[eW,fS this,iY,mBq];have ea:ab e=e:=pV (by lia)
 rw[ai];refine dg.trans ?_;refine((aU.cons _ h.per)).trans ?_;show (e::_).Perm (_++[ab e]);rw[ea];exact(aF (l₁:=[e]))
theorem Gi.none(h:Gi M P p r L kvs) {e:Int}(hk:plc M (-e)=p) (hp:¬ 0<e):Gi M P p (r++[e]) L kvs:=by
 refine⟨?_,h.ne,λy hy=>⟨ah _ (h.lo y hy).1,(h.lo y hy).2⟩,h.nk,λx hx=>?_⟩
 rotate_left
 .obtain ⟨g,g1,g2⟩:=h.ky x hx;exact⟨g,g1,λy hy=>(g2 y hy).imp λa b=>⟨ah _ b.1,b.2⟩⟩
 have:¬ kp M p e=true:=by unfold kp;rw[decide_eq_false hp,Bool.or_false];simp[hk]
 rw[eW,eT this,iY,aNq];exact h.per
end
variable {M:List (List Int)}{p:Nat}{r:List Int}
def Qr(M:List (List Int)) (p:Nat) (a3:AV) (L:List Int) (b:AV) (v6 v7:Option AV):AS:=[some (.sh (dM M)),some (.sh (.int (p:Int))),some (.owd (rn 0 M)),some a3,some (.ow ((L.map λe=>[e]).map aI)),some b,v6,v7]
theorem Q6(a b:Nat):SC (.int (a:Int)) (.int (b:Int))=some (.bl (!decide (a=b))):=by
 rw[Ku];congr 3;exact decide_eq_decide.mpr Int.ofNat_inj
theorem TX(hm:Mp M) (hr:M[p]?=some r) {P:List (List Int)}(hp:Mp P) (hP:P.length=M.length) {i:Nat}{e:Int}(he:r[i]?=some e) {a3 b:AV}{L:List Int}{kvs:List (pQ×List Int)}{v6 v7:Option AV}(h3:pH a3=dM P) (hb:JM b=some kvs) (hi:Gi M P p (r.take i) L kvs) :
  ∃a3' b' L' kvs' v6' v7',uc (Qr M p a3 L b (some (.sh (.int e))) v7)=some (.nx (Qr M p a3' L' b' v6' v7'))/\pH a3'=dM P/\JM b'=some kvs'/\Gi M P p (r.take (i+1)) L' kvs':=by
 have her:e∈r:=mGq he;have heM:e∈M.flatten:=mFq.mpr ⟨r,mGq hr,her⟩;have g:=hm.kv (hm.hneg e heM);have et:r.take (i+1)=r.take i++[e]:=by rw[bH,he];rfl
 rw[et];have rl:=hm.row hr;have gl:=hi.len;have tl:(r.take i).length<=r.length:=by rw[lTq];lia
 have dn:=Q6 (plc M (-e)) p
 by_cases c:plc M (-e)=p
 .rw [decide_eq_true c]at dn
  by_cases c2:0<e
  .refine ⟨a3,b,L++[e],kvs,some (.sh (.int e)),some (.sh (.int (plc M (-e):Int))),?_,h3,hb,hi.loop c c2⟩;have l1:L.length<rY:=aG (show L.length<2000 by lia) (by decide)
   have q:(L.map λe=>[e]).map aI++[.ow [.sh (.int e)]]=((L++[e]).map λe=>[e]).map aI:=by rw[mBq,mBq];rfl
   simp_arith [uc,Qr,g,dn,c2,l1,q]
  .refine ⟨a3,b,L,kvs,some (.sh (.int e)),some (.sh (.int (plc M (-e):Int))),?_,h3,hb,hi.none c c2⟩
   simp_arith [uc,Qr,g,dn,c2]
 .rw [decide_eq_false c]at dn;have hlt:=hm.lt (hm.hneg e heM);obtain⟨ps,pc,re⟩:=K51.DS (rs:=P) ⟨hp.hn,hp.hl,hp.hr,hp.hneg⟩ (s:=plc M (-e)) (by rw[hP];exact hlt)
  have hne:ps≠[]:=λz=>by
   have:=(pc.iff (plc M (-e))).mpr .base;rw[z]at this;cases this
  obtain⟨h,ps',rfl⟩:∃h ps',ps=h::ps':=by
   cases ps with
   |nil=>exact absurd rfl hne
   |cons h ps'=>exact⟨h,ps',rfl⟩
  have hd:Hd P (plc M (-e)) h:=⟨(pc.iff h).mp (af ..),λk hk=>by
   rcases ae.mp ((pc.iff k).mpr hk) with z|z
   .lia
   .exact (bP.mp pc.so).1 k z⟩
  have ix:∀l:List D,atI (D.int (h:Int)::l) 0=some (.int (h:Int)):=λl=>vL (j:=0) rfl
  obtain⟨_,_,q3⟩:=Om (kvs:=kvs) (aM (h:Int)) (ab e) hi.ne;refine⟨.sh (dM P),.owl (vV (FT kvs (.inl (h:Int))) (.inl (h:Int)) (ab e)),L,_,some (.sh (.int e)),some (.sh (.int (plc M (-e):Int))),?_,sm _,GQ _,hi.hang c hd⟩;have l1:kvs.length<rY:=aG (show kvs.length<2000 by have:=AY hi.ne;lia) (by decide)
  have l2:∀l∈FT kvs (.inl (h:Int)),l.2.length<rY:=λl hl=>aG (show l.2.length<2000 by
   rcases q3 l hl with z|z
   .have:=PH z;lia
   .rw [z];decide) (by decide)
  simp_arith [uc,Qr,g,dn,WD,P3,hb,h3,re,ix,l1,GQ,U4]
  rw[wk l2]
theorem Uu(hm:Mp M) (hr:M[p]?=some r) {P:List (List Int)}(hp:Mp P) (hP:P.length=M.length) {a3 b:AV}(h3:pH a3=dM P) (hb:JM b=some []) :
  ∃a3' b' L kvs v6 v7,tF 6 uc (r.map D.int) (Qr M p a3 [] b none none)=some (.nx (Qr M p a3' L b' v6 v7))/\JM b'=some kvs/\Gi M P p r L kvs:=by
 have key:=xq (x:=6) (body:=uc) (λi S=>∃a3 b L kvs v6 v7,S=Qr M p a3 L b v6 v7/\pH a3=dM P/\JM b=some kvs/\Gi M P p (r.take i) L kvs) (ds:=r.map D.int) (S:=Qr M p a3 [] b none none) ⟨a3,b,[],[],none,none,rfl,h3,hb,by rw[ed];exact⟨.refl _,λx h=>(by cases h),λx h=>(by cases h),aV,λx h=>(by cases h)⟩⟩ (by
  rintro i d S hd ⟨a3,b,L,kvs,v6,v7,rfl,h3,hb,hi⟩;rw[gMq]at hd;obtain⟨e,he,rfl⟩:=oMq.mp hd;obtain⟨a3',b',L',kvs',v6',v7',e1,e2,e3,e4⟩:=TX hm hr hp hP he (v6:=v6) (v7:=v7) h3 hb hi;exact⟨_,e1,a3',b',L',kvs',v6',v7',rfl,e2,e3,e4⟩)
 obtain⟨S',e,a3',b',L,kvs,v6,v7,rfl,_,e3,e4⟩:=key;rw[lMq,bo]at e4;exact⟨a3',b',L,kvs,v6,v7,e,e3,e4⟩
theorem OI(l:List Int):rF rG (kSc (uO BC (oZ (pd 0) pO))) [] (l.map D.int)=some ((l.map ab).map λn=>.sh (.int n)):=by
 rw[Z.rP (λd=>match d with|.int i=>AV.sh (.int (ab i))|_=>.sh .non)]
 .rw [mPq,mPq];rfl
 .intro d hd;obtain⟨e,_,rfl⟩:=mMq.mp hd;refine⟨[some (.sh (.int e))],?_⟩
  simp_arith [U4]
theorem M0(kvs:List (pQ×List Int)):rF rG (CU (vd 0)) [] (kvs.map λx=>D.list (x.2.map D.int))=some ((kvs.map λx=>rO x.2).map aI):=by
 have h:=Z.rP (te:=CU (vd 0)) (cap:=[]) (λd=>aI (rO (C4 d))) (ds:=(kvs.map λx=>dI x.2)) (by
  intro d hd;obtain⟨x,_,rfl⟩:=mMq.mp hd;refine⟨[some (.sh (dI x.2))],?_⟩
  simp_arith [xE,dI])
 rw[mPq]at h ⊢;refine h.trans (congrArg some (mCq λx _=>?_))
 show aI (rO (C4 (dI x.2)))=aI (rO x.2);rw[xE]
theorem D1(hm:Mp M) (hr:M[p]?=some r):∃L kvs,tS [dM M,.int (p:Int)]=some (.ow ((tR ((L.map λe=>[e])++kvs.map λx=>rO x.2)).map aI))/\Gi M (pst ((r.map ab)++(r.map ab).map λz=>-z) M) p r L kvs:=by
 have hl:=hm.hl;have rl:=hm.row hr;have pa:=Bc (rs:=M) hm.hn (by lia)
 have ac:=OI r;have wo:=Jb hm (r.map ab) (by rw[lMq];exact rl)
 have hP:=JB hm (g:=(r.map ab)++(r.map ab).map λz=>-z) (λe h=>by
  rcases mAq.mp h with z|z
  .exact ag _ (mMq.mpr ⟨-e,z,by lia⟩)
  .obtain ⟨y,hy,hz⟩:=mMq.mp z;have:y=e:=by lia
   exact ah _ (this ▸ hy))
 have lP:(pst ((r.map ab)++(r.map ab).map λz=>-z) M).length=M.length:=lMq ..
 generalize pst ((r.map ab)++(r.map ab).map λz=>-z) M=P at wo hP lP
 have sP:(P.map aI).map pH=P.map dI:=by rw[mPq];exact mCq λr _=>qP r
 obtain⟨a3,b,L,kvs,v6,v7,e1,hb,gi⟩:=Uu hm hr hP lP (a3:=.ow (P.map aI)) (b:=.owd []) (by rw[sV,sP]) rfl
 refine⟨L,kvs,?_,gi⟩;have gl:=gi.len;have kl:=AY gi.ne;have at1:atI (M.map dI) (p:Int)=some (dI r):=vL (by rw[gMq,hr];rfl)
 have sc:=M0 kvs;have l1:r.length<=rY:=rN (by lia)
 have l2:kvs.length<=rY:=rN (by lia)
 have l3:L.length+kvs.length<=rY:=rN (by lia)
 have q:(L.map λe=>[e]).map aI++(kvs.map λx=>rO x.2).map aI=((L.map λe=>[e])++kvs.map λx=>rO x.2).map aI:=by rw[mBq]
 unfold Qr at e1;simp only[fm]at e1
 simp_arith [tS,E8,pa,dM,dI,at1,ac,l1,wo,e1,Uq,VL,P3,hb,sc,l2,l3,q,true_and]
end K41
--ZQ3 --ZQ4 --ZQ5 --ZQ6 --ZQ8 --ZQ9 --ZQB --ZQC --ZQD --ZQE --ZQF --ZQG
namespace K41
open PySem L2 Mr Z Xe Zl K31
theorem RJ{a b:List Int}(h:a.Perm b):rO a=rO b:=Bg ((rp a).trans h) (vQ a)
structure Gd (r:List Int) (G:List (List Int)):Prop where
 so:tR (G.map rO)=G
 ne:[]∉G
 fl:rO G.flatten=rO (Ms.dd (r.map ab))
 le:G.length<=1000
 lf:G.flatten.length<=1000
theorem GN{x y:Int}(h:ab x=ab y):x=y∨x = -y:=by
 unfold ab at h;split at h <;> split at h <;> lia
theorem zL(x:Int):ab (-x)=ab x:=by
 unfold ab;split <;> split <;> lia
theorem P2(L:List Int):(L.map λe=>[e]).flatten=L:=by
 induction L with
 |nil=>rfl
 |cons x L ih=>rw[ar,fCq,ih];rfl
theorem PD(kvs:List (pQ×List Int)):(kvs.map λx=>rO x.2).flatten.Perm (yY kvs).flatten:=by
 induction kvs with
 |nil=>exact .refl _
 |cons x r ih =>
  show (rO x.2++(r.map λx=>rO x.2).flatten).Perm (x.2++(yY r).flatten)
  exact(rp x.2).append ih
variable {M:List (List Int)}{p:Nat}{r:List Int}
theorem KU(hm:Mp M) (h0:∀e∈M.flatten,e≠0) (hr:M[p]?=some r):∃G,tS [dM M,.int (p:Int)]=some (.ow (G.map aI))/\Gd r G:=by
 obtain⟨L,kvs,e,gi⟩:=D1 hm hr;refine⟨_,e,?_⟩;have rl:=hm.row hr;have gl:=gi.len;have kl:=AY gi.ne;have hX:∀x∈(L.map λe=>[e])++kvs.map λx=>rO x.2,rO x=x/\x≠[]:=λx hx=>by
  rcases mAq.mp hx with z|z
  .obtain ⟨y,_,rfl⟩:=mMq.mp z;exact⟨jx.mp (rp [y]),by simp⟩
  .obtain ⟨y,hy,rfl⟩:=mMq.mp z;refine⟨(Bg (.refl _) (vQ _)).symm,λz=>gi.ne y hy ?_⟩
   have:=(rp y.2).length_eq;rw[z]at this;exact bc.mp this.symm
 have hf:((L.map λe=>[e])++kvs.map λx=>rO x.2).flatten.Perm ((r.filter (kp M p)).map ab):=by
  rw[fAq,P2];exact(aU.append_left L (PD kvs)).trans gi.per
 have lX:((L.map λe=>[e])++kvs.map λx=>rO x.2).length=L.length+kvs.length:=by rw[lAq,lMq,lMq]
 generalize (L.map λe=>[e])++kvs.map (λx=>rO x.2)=X at hX hf lX
 have hp:=qW X;have hf2:=(qb hp).trans hf;have hin:∀{e:Int},e∈r->plc M e=p:=λh=>plc_eq hm.hn hr h
 have hM:∀{e:Int},e∈r->e∈M.flatten:=λh=>mFq.mpr ⟨r,mGq hr,h⟩
 refine⟨?_,λh=>(hX [] (hp.mem_iff.mp h)).2 rfl,?_,by rw[hp.length_eq,lX];lia,?_⟩
 .have:(tR X).map rO=tR X:=by
   conv=>rhs;rw[←dF (tR X)]
   exact mCq λx hx=>(hX x (hp.mem_iff.mp hx)).1
  rw[this];exact Eu hp
 .refine RJ (hf2.trans ?_);refine(bA ?_ (Ms.EZ _)).mpr λx=>?_
  .rw [aQ,bb];have nd:(r.filter (kp M p)).Nodup:=(hm.hn.sublist (aO (mGq hr))).filter _;refine aZ.imp_of_mem (λ{a b} ha hb hab h=>?_) nd
   obtain⟨a1,a2⟩:=ao.mp ha;obtain⟨b1,b2⟩:=ao.mp hb;rcases GN h with z|z
   .exact hab z
   .have e1:plc M (-a)=p:=by rw[show -a=b by lia];exact hin b1
    have e2:plc M (-b)=p:=by rw[show -b=a by lia];exact hin a1
    unfold kp at a2 b2;simp only[e1,e2,ne_eq,not_true,decide_false,kj,decide_eq_true_eq]at a2 b2;lia
  .rw [Ms.yL];constructor
   .intro h;obtain⟨e,he,rfl⟩:=mMq.mp h;exact mMq.mpr ⟨e,(ao.mp he).1,rfl⟩
   .intro h;obtain⟨e,he,rfl⟩:=mMq.mp h
    by_cases c:kp M p e=true
    .exact mMq.mpr ⟨e,ao.mpr ⟨he,c⟩,rfl⟩
    .unfold kp at c;simp only[jV,decide_eq_true_eq,not_or,ne_eq,Decidable.not_not]at c;have hz:=h0 e (hM he);obtain⟨r',h1,h2⟩:=hm.at (hm.hneg e (hM he));rw[c.1,hr]at h1;cases h1;refine mMq.mpr ⟨-e,ao.mpr ⟨h2,?_⟩,zL e⟩;unfold kp;rw[decide_eq_true (show 0 < -e by lia),jH]
 .rw [hf2.length_eq,lMq];have:=eF (kp M p) r;lia
def YO(n:Nat) (g:Nat->List (List Int)):List Int:=((cw n).filter λk=>decide (2<=(g k).length)).map λk:Nat=>(k:Int)
end K41
--ZQ3 --ZQ4 --ZQ5 --ZQ6 --ZQ8 --ZQ9 --ZQB --ZQC --ZQD --ZQE --ZQF --ZQG
namespace K41
open PySem L2 Mr Z Xe Zl K31
theorem K6(k:Nat):rF rG (zF rS) [] (rL 0 k)=some ((ax k ([]:List Int)).map aI):=by
 rw[Z.rP λ_=>AV.ow []]
 .rw [List.map_replicate,List.map_const',tm];rfl
 .intro d hd;refine⟨[some (.sh d)],?_⟩
  simp_arith []
theorem Kl{G:List (List Int)}(hG:∀r∈G,r.length<=1000):rF rG (kSc (uu K31.uD (oZ (pd 0) pO))) [] (G.map dI)=some ((G.map λ_=>D.bl true).map .sh):=by
 rw[Z.rP λ_=>AV.sh (.bl true)]
 .rw [mPq,mPq];rfl
 .intro d hd;obtain⟨r,hr,rfl⟩:=IS hd;have w:=zO (l:=r) (by have:=hG r hr;lia)
  refine⟨[some (.sh (dI r))],?_⟩
  simp_arith [w]
theorem Qb{α:Type}(R:List α):G0 [.list (R.map λ_=>D.bl true)]=some (.bl true):=by
 rw[S4]
 induction R with
 |nil=>rfl
 |cons x R ih =>
  show (uP (D.bl true::R.map λ_=>D.bl true)).map _=_
  cases e:uP (R.map λ_=>D.bl true) with
  |none=>rw[e]at ih;cases ih
  |some bs =>
   rw[e]at ih;have:uP (D.bl true::R.map λ_=>D.bl true)=some (true::bs):=by
    show (uP (R.map λ_=>D.bl true)).map (true :: ·)=_
    rw[e];rfl
   rw[this];exact ih
end K41
--ZQ3 --ZQ4 --ZQ5 --ZQ6 --ZQ8 --ZQ9 --ZQB --ZQC --ZQD --ZQE --ZQF --ZQG
namespace K45
open PySem L2 Mr Z Xe Zl K31
end K45
--ZQ3 --ZQ4 --ZQ5 --ZQ6 --ZQ8 --ZQ9 --ZQB --ZQC --ZQD --ZQE --ZQF --ZQG
namespace K45
open PySem L2 Mr Z Xe Zl K31 K41
end K45
--ZQ3 --ZQ4 --ZQ5 --ZQ6 --ZQ8 --ZQ9 --ZQB --ZQC --ZQD --ZQE --ZQF --ZQG
namespace K45
open PySem L2 Mr Z Xe Zl K31 K41
end K45
--ZQ3 --ZQ4 --ZQ5 --ZQ6 --ZQ8 --ZQ9 --ZQB --ZQC --ZQD --ZQE --ZQF --ZQG
namespace K45
open PySem L2 Mr Z Xe Zl K31 K41
open K51 (sR Pc)
def md(U:List Int) (f:Int->Int):List (pQ×D):=U.map λz=>(.inl z,.int (f z))
theorem ym{U:List Int}{f g:Int->Int}(h:∀z∈U,f z=g z):md U f=md U g:=mCq λz hz=>by rw[h z hz]
theorem Il(U:List Int) (f:Int->Int) (z:Int):(md U f).any (λkv=>decide (kv.1=(aM z:pQ)))=decide (z∈U):=by
 unfold md;rw[jE,bQ,df,decide_eq_true_iff];constructor
 .rintro ⟨x,hx,h⟩;have:(aM x:pQ) = .inl z:=of_decide_eq_true h;cases this;exact hx
 .exact λh=>⟨z,h,decide_eq_true rfl⟩
theorem FU{U:List Int}{f:Int->Int}{z:Int}(h:z∈U):Z.getD (md U f) (.inl z)=some (.int (f z)):=by
 unfold Z.getD md
 induction U with
 |nil=>cases h
 |cons x U ih =>
  rw[ar,cW]
  by_cases c:x=z
  .subst c;rw[decide_eq_true rfl];rfl
  .have:¬ (aM x:pQ) = .inl z:=λq=>c (aM.inj q)
   rw[decide_eq_false this];exact ih ((ae.mp h).resolve_left λq=>c q.symm)
theorem Iy{U:List Int}{f:Int->Int}{z v:Int}(h:z∈U):yC (md U f) (.inl z) (.int v)=md U λy=>if y=z then v else f y:=by
 unfold yC;rw[Il,decide_eq_true h,qe rfl];unfold md;rw[mPq];refine mCq λy _=>?_
 show (if (aM y:pQ) = .inl z then ((aM y:pQ),D.int v) else (aM y,D.int (f y)))=(aM y,D.int (if y=z then v else f y))
 by_cases c:y=z
 .rw [qe (by rw[c]),qe c]
 .rw [pV λq=>c (aM.inj q),pV c]
theorem SD(U:List Int) (z:Int):yC (md U λy=>y) (.inl z) (.int z)=md (Ms.yg U z) λy=>y:=by
 unfold Ms.yg
 by_cases h:z∈U
 .rw [qe h,Iy h];refine ym λy _=>?_
  show (if y=z then z else y)=y
  split
  .rename_i c;exact c.symm
  .rfl
 .rw [pV h];unfold yC;rw[Il,decide_eq_false h,pV (by simp)]
  unfold md;rw[mBq];rfl
def xk(f:Int->Int) (gone:List Int) (g0:Int) (z:Int):Int:=if f z∈gone then g0 else f z
end K45
--ZQ3 --ZQ4 --ZQ5 --ZQ6 --ZQ8 --ZQ9 --ZQB --ZQC --ZQD --ZQE --ZQF --ZQG
namespace K45
open PySem L2 Mr Z Xe Zl K31 K41
open K51 (sR Pc)
def gr(r:List Int):List Int:=(r.map ab)++(r.map ab).map λz=>-z
theorem EW(e:Int):ab e=e∨ab e = -e:=by unfold ab;split;exact .inr rfl;exact .inl rfl
theorem Bx{r:List Int}{e:Int}:e∈gr r↔e∈r∨-e∈r:=by
 unfold gr;constructor
 .intro h;rcases mAq.mp h with z|z
  .obtain ⟨x,hx,rfl⟩:=mMq.mp z;rcases EW x with q|q <;> rw[q]
   .exact .inl hx
   .rw [bj];exact .inr hx
  .obtain ⟨y,hy,rfl⟩:=mMq.mp z;obtain⟨x,hx,rfl⟩:=mMq.mp hy;rcases EW x with q|q <;> rw[q]
   .rw [bj];exact .inr hx
   .rw [bj];exact .inl hx
 .intro h;have key:∀{x:Int},x∈r->x∈(r.map ab)++(r.map ab).map λz=>-z:=λ{x} hx=>by
   rcases EW x with q|q
   .exact ah _ (mMq.mpr ⟨x,hx,q⟩)
   .exact ag _ (mMq.mpr ⟨-x,mMq.mpr ⟨x,hx,q⟩,bj x⟩)
  have key2:∀{x:Int},x∈r->-x∈(r.map ab)++(r.map ab).map λz=>-z:=λ{x} hx=>by
   rcases EW x with q|q
   .exact ag _ (mMq.mpr ⟨x,mMq.mpr ⟨x,hx,q⟩,rfl⟩)
   .exact ah _ (mMq.mpr ⟨x,hx,q⟩)
  rcases h with h|h
  .exact key h
  .have:=key2 h
   rwa [bj]at this
theorem CW{r:List Int}{e:Int}(h:-e∈gr r):e∈gr r:=by
 rcases Bx.mp h with z|z
 .exact Bx.mpr (.inr z)
 .rw [bj]at z;exact Bx.mpr (.inl z)
def Qk(M:List (List Int)) (z:Int) (a:Nat):Prop:=∃e row,M[a]?=some row/\e∈row/\ab e=z
variable {M:List (List Int)}{p:Nat}{r:List Int}
theorem wB(hm:Mp M) {a b:Nat}{s t:List Int}{e:Int}(h1:M[a]?=some s) (h2:M[b]?=some t) (h3:e∈s) (h4:e∈t):a=b:=by
 rw[←plc_eq hm.hn h1 h3,←plc_eq hm.hn h2 h4]
theorem IC{g:List Int}{k:Nat}{row:List Int}(h:M[k]?=some row):(pst g M)[k]?=some (thn g row):=by
 unfold pst;rw[gMq,h];rfl
theorem Gy{g t:List Int}{e:Int}:e∈thn g t↔e∈t/\e∉g:=by
 unfold K41.thn;rw[ao,gk,decide_eq_false_iff_not]
theorem Qk.two(hm:Mp M) (hr:M[p]?=some r) {z:Int}{a b:Nat}(h1:Qk M z a) (h2:Qk M z b) (ha:a≠p) (hb:b≠p):sR (pst (gr r) M) a b:=by
 have mp:=JB hm (g:=gr r) λe h=>CW h
 obtain⟨e,s,hs,he,q⟩:=h1;obtain⟨e',s',hs',he',q'⟩:=h2;rcases GN (q.trans q'.symm) with z|z
 .subst z;rw[wB hm hs hs' he he'];exact .base
 .have eq:e' = -e:=by lia
  subst eq;have ng:e∉gr r:=λh=>by
   rcases Bx.mp h with z|z
   .exact ha (wB hm hs hr he z)
   .exact hb (wB hm hs' hr he' z)
  have ng':-e∉gr r:=λh=>ng (CW h)
  have st:=sR.step (rs:=pst (gr r) M) (s:=a) .base (IC hs) (Gy.mpr ⟨he,ng⟩);have:K51.plc (pst (gr r) M) (-e)=b:=plc_eq mp.hn (IC hs') (Gy.mpr ⟨he',ng'⟩);rw[this]at st;exact st
def Lk(M:List (List Int)) (r:List Int) (p:Nat) (z z':Int):Prop:=∃a b,a≠p/\b≠p/\Qk M z a/\Qk M z' b/\sR (pst (gr r) M) a b
theorem X1(h:Mp M):K51.Mp M:=⟨h.hn,h.hl,h.hr,h.hneg⟩
theorem Gr{k:Nat}{row:List Int}{e:Int}(h:M[k]?=some row) (he:e∈row):ab e∈M.flatten.map ab:=mMq.mpr ⟨e,mFq.mpr ⟨row,mGq h,he⟩,rfl⟩
theorem Lj{U:List Int}{f:Int->Int}{row:List Int}(h:∀e∈row,ab e∈U):rF rG (kSc (DW (pd 1) (uO BC (oZ (pd 0) pO)))) [some (.sh (.dict (md U f)))] (row.map D.int)=some ((row.map λe=>f (ab e)).map λn=>.sh (.int n)):=by
 rw[Z.rP (λd=>match d with|.int i=>AV.sh (.int (f (ab i)))|_=>.sh .non)]
 .rw [mPq,mPq];rfl
 .intro d hd;obtain⟨e,he,rfl⟩:=mMq.mp hd;have g:=FU (f:=f) (h e he);refine⟨[some (.sh (.int e)),some (.sh (.dict (md U f)))],?_⟩
  simp_arith [U4,g]
end K45
--ZQ3 --ZQ4 --ZQ5 --ZQ6 --ZQ8 --ZQ9 --ZQB --ZQC --ZQD --ZQE --ZQF --ZQG
namespace K45
open PySem L2 Mr Z Xe Zl K31 K41
open K51 (sR Pc)
structure Vb (E:Int->Int->Prop) (U:List Int) (X:List (List Int)):Prop where
 so:∀x∈X,rO x=x
 ne:∀x∈X,x≠[]
 fl:X.flatten.Perm U
 eq:∀x∈X,∀z∈x,∀z'∈x,E z z'
 on:∀x∈X,∀y∈X,∀z∈x,∀z'∈y,E z z'->x=y
theorem E5:∀{X:List (List Int)},X.flatten.Nodup->(∀x∈X,x≠[])->X.Nodup
 | [],_,_=>aV
 |x::X,h,ne=>by
  rw[fCq]at h;obtain⟨_,h2,h3⟩:=nAq.mp h;refine aq.mpr ⟨λq=>?_,E5 h2 λy hy=>ne y (mCo _ hy)⟩
  cases x with
  |nil=>exact ne [] (af ..) rfl
  |cons z x=>exact h3 z (af ..) z (mFq.mpr ⟨_,q,af ..⟩) rfl
theorem flat_one{z:Int}:∀{X:List (List Int)},X.flatten.Nodup->∀{x y:List Int},x∈X->y∈X->z∈x->z∈y->x=y
 | [],_,_,_,h,_,_,_=>by cases h
 |w::X,h,x,y,hx,hy,zx,zy=>by
  rw[fCq]at h;obtain⟨_,h2,h3⟩:=nAq.mp h;rcases ae.mp hx with e1|hx'
  .rcases ae.mp hy with e2|hy'
   .rw [e1,e2]
   .rw [e1]at zx;exact absurd rfl (h3 z zx z (mFq.mpr ⟨y,hy',zy⟩))
  .rcases ae.mp hy with e2|hy'
   .rw [e2]at zy;exact absurd rfl (h3 z zy z (mFq.mpr ⟨x,hx',zx⟩))
   .exact flat_one h2 hx' hy' zx zy
theorem JV:∀{kvs:List (pQ×List Int)},(kvs.map (·.1)).Nodup->∀{x y:pQ×List Int},x∈kvs->y∈kvs->x.1=y.1->x=y
 | [],_,_,_,h,_,_=>by cases h
 |w::kvs,h,x,y,hx,hy,e=>by
  rw[ar]at h;obtain⟨h1,h2⟩:=aq.mp h;rcases ae.mp hx with e1|hx'
  .rcases ae.mp hy with e2|hy'
   .rw [e1,e2]
   .rw [e1]at e;exact absurd (mMq.mpr ⟨y,hy',e.symm⟩) h1
  .rcases ae.mp hy with e2|hy'
   .rw [e2]at e;exact absurd (mMq.mpr ⟨x,hx',e⟩) h1
   .exact JV h2 hx' hy' e
theorem GD{G H:List (List Int)}(h:AV.ow (G.map aI) = .ow (H.map aI)):G=H:=by
 have h2:=congrArg pH h;rw[sV,sV]at h2;have s:∀X:List (List Int),(X.map aI).map pH=X.map dI:=λX=>by rw[mPq];exact mCq λr _=>qP r
 rw[s,s]at h2;have h3:G.map dI=H.map dI:=D.list.inj h2;have h4:=congrArg (List.map C4) h3;rw[mPq,mPq]at h4;have u:∀X:List (List Int),X.map (C4∘dI)=X:=λX=>by
  conv=>rhs;rw[←dF X]
  exact mCq λr _=>xE r
 rwa [u,u]at h4
variable {M:List (List Int)}{p:Nat}{r:List Int}
theorem Ap(hm:Mp M) (h0:∀e∈M.flatten,e≠0) (hr:M[p]?=some r):∃X,tS [dM M,.int (p:Int)]=some (.ow ((tR X).map aI))/\Vb (λz z'=>z=z'∨Lk M r p z z') (Ms.dd (r.map ab)) X:=by
 obtain⟨L,kvs,e,gi⟩:=D1 hm hr;refine⟨_,e,?_⟩;have flp:((L.map λe=>[e])++kvs.map λx=>rO x.2).flatten.Perm (Ms.dd (r.map ab)):=by
  obtain⟨G,eG,gd⟩:=KU hm h0 hr;have:=GD (aD.inj (e.symm.trans eG));have fl:=gd.fl;rw[←this]at fl;refine(qb (qW _)).symm.trans ?_;refine(rp _).symm.trans ?_;rw[fl];exact rp _
 have mp:=JB hm (g:=gr r) λe h=>CW h
 have gi':Gi M (pst (gr r) M) p r L kvs:=gi
 clear gi
 have hin:∀{e:Int},e∈r->plc M e=p:=λh=>plc_eq hm.hn hr h
 have hM:∀{e:Int},e∈r->e∈M.flatten:=λh=>mFq.mpr ⟨r,mGq hr,h⟩
 have far:∀{e:Int},e∈r->Qk M (ab e) (plc M (-e)):=λ{e} he=>by
  obtain⟨s,hs,h2⟩:=hm.at (hm.hneg e (hM he));exact⟨-e,s,hs,h2,zL e⟩
 have only:∀{e:Int}{a:Nat},e∈r->Qk M (ab e) a->a≠p->a=plc M (-e):=λ{e a} he ⟨e',s,hs,he',q⟩ ha=>by
  rcases GN q with z|z
  .subst z;exact absurd (wB hm hs hr he' he) ha
  .subst z;exact(plc_eq hm.hn hs he').symm
 refine⟨λx hx=>?_,λx hx=>?_,?_,λx hx z hz z' hz'=>?_,λx hx y hy z hz z' hz' q=>?_⟩
 .rcases mAq.mp hx with z|z
  .obtain ⟨y,_,rfl⟩:=mMq.mp z;exact jx.mp (rp [y])
  .obtain ⟨y,hy,rfl⟩:=mMq.mp z;exact(Bg (.refl _) (vQ _)).symm
 .rcases mAq.mp hx with z|z
  .obtain ⟨y,_,rfl⟩:=mMq.mp z;simp
  .obtain ⟨y,hy,rfl⟩:=mMq.mp z;intro q;have:=(rp y.2).length_eq;rw[q]at this;exact gi'.ne y hy (bc.mp this.symm)
 .exact flp
 .rcases mAq.mp hx with w|w
  .obtain ⟨y,_,rfl⟩:=mMq.mp w;rw[mSq.mp hz,mSq.mp hz'];exact .inl rfl
  .obtain ⟨y,hy,rfl⟩:=mMq.mp w;obtain⟨h,_,hk⟩:=gi'.ky y hy;obtain⟨e1,r1,rfl,p1,d1⟩:=hk z ((rp y.2).mem_iff.mp hz);obtain⟨e2,r2,rfl,p2,d2⟩:=hk z' ((rp y.2).mem_iff.mp hz');exact .inr ⟨_,_,p1,p2,far r1,far r2,d1.rc.trans (d2.rc.symm (X1 mp))⟩
 .-- one key
  have place:∀{x:List Int}{z:Int}{a:Nat},x∈(L.map λe=>[e])++kvs.map (λx=>rO x.2)->z∈x->Qk M z a->a≠p->∃y∈kvs,x=rO y.2/\∃h:Nat,y.1 = .inl (h:Int)/\Hd (pst (gr r) M) a h:=λ{x z a} hx hz ta ha=>by
   rcases mAq.mp hx with w|w
   .obtain ⟨y,hy,rfl⟩:=mMq.mp w;obtain⟨l1,l2,l3⟩:=gi'.lo y hy;rw[mSq.mp hz,←show ab y=y from pV (by lia)]at ta
    rw[only l1 ta ha]at ha;exact absurd l3 ha
   .obtain ⟨y,hy,rfl⟩:=mMq.mp w;obtain⟨h,hk1,hk⟩:=gi'.ky y hy;obtain⟨e1,r1,rfl,p1,d1⟩:=hk z ((rp y.2).mem_iff.mp hz);refine⟨y,hy,rfl,h,hk1,?_⟩;rw[only r1 ta ha];exact d1
  rcases q with q|⟨a,b,ha,hb,ta,tb,rc⟩
  .subst q;exact flat_one (flp.nodup_iff.mpr (Ms.EZ _)) hx hy hz hz'
  .obtain ⟨y1,i1,rfl,h1,k1,d1⟩:=place hx hz ta ha;obtain⟨y2,i2,rfl,h2,k2,d2⟩:=place hy hz' tb hb;have hh:h1=h2:=Nat.le_antisymm (d1.le _ (rc.trans d2.rc)) (d2.le _ ((rc.symm (X1 mp)).trans d1.rc));rw[JV gi'.nk i1 i2 (by rw[k1,k2,hh])]
end K45
namespace K47
open PySem L2 Mr Z Xe Zl
open K18 (PC wW pI ug cp Ln nL pZ)
open K41 (ab GN zL pst thn)
open K45 (gr Bx CW Qk Lk Vb wB)
open K51 (sR Ps)
section
variable {M N R:List (List Int)}{s:List Int}{S:Int->Bool}
theorem Mv.perm(h:Mv M) (p:M.Perm N):Mv N:=⟨Kx h.mp p,λe he=>h.nz e ((qb p).mem_iff.mpr he),by rw[←p.length_eq];exact h.lv,by rw[← (qb p).length_eq];exact h.le⟩
theorem Bl.perm(h:Mp M) (p:M.Perm N) (b:Bl M):Bl N:=by
 obtain⟨LL,ln,e⟩:=b;refine⟨LL,ln.congr λq=>(ug p q).symm,?_⟩
 rw[←Bf h p,← (qb p).length_eq,←p.length_eq,e];unfold K18.nL;rw[p.count_eq]
theorem JP(hr:∀t∈R,∀x∈t,∀y∈t,S x=S y) {t:List Int}(ht:t∈R):(t.filter S=t/\(t.filter λe=>!S e)=[])∨(t.filter S=[]/\(t.filter λe=>!S e)=t):=by
 cases t with
 |nil=>exact .inl ⟨rfl,rfl⟩
 |cons a l =>
  cases q:S a with
  |true =>
   have all:∀e∈a::l,S e=true:=λe he=>by rw[hr _ ht e he a (af ..)];exact q
   exact .inl ⟨eS.mpr all,gD.mpr λe he=>by simp[all e he]⟩
  |false =>
   have all:∀e∈a::l,S e=false:=λe he=>by rw[hr _ ht e he a (af ..)];exact q
   exact .inr ⟨gD.mpr λe he=>by simp[all e he],eS.mpr λe he=>by simp[all e he]⟩
theorem Sw:∀{R:List (List Int)},(∀t∈R,∀x∈t,∀y∈t,S x=S y)->(∀q,(PC (kp S R)).count q+(PC (kp (λe=>!S e) R)).count q=(PC R).count q)/\(kp S R).count []+(kp (λe=>!S e) R).count []=R.count []+R.length
 | [],_=>⟨λq=>rfl,rfl⟩
 |t::R,hr=>by
  obtain⟨i1,i2⟩:=Sw (R:=R) λt ht=>hr t (mCo _ ht)
  have e1:kp S (t::R)=t.filter S::kp S R:=rfl;have e2:kp (λe=>!S e) (t::R)=(t.filter λe=>!S e)::kp (λe=>!S e) R:=rfl
  have e0:∀q,(cp ([]:List Int)).count q=0:=λq=>rfl
  rw[e1,e2];rcases JP (S:=S) hr (af ..) with ⟨h1,h2⟩|⟨h1,h2⟩
  .rw [h1,h2];refine⟨λq=>?_,?_⟩
   .have:=i1 q;rw[pI,pI,pI,e0];lia
   .rw [pZ,pZ,pZ,lCq,qe rfl];lia
  .rw [h1,h2];refine⟨λq=>?_,?_⟩
   .have:=i1 q;rw[pI,pI,pI,e0];lia
   .rw [pZ,pZ,pZ,lCq,qe rfl];lia
theorem SJ(h:Mv M) (hs:∀e∈M.flatten,S (-e)=S e):Mv (kp S M):=by
 have sub:(kp S M).flatten.Sublist M.flatten:=by rw[CN];exact dR
 have le:=sub.length_le;have l2:(kp S M).length=M.length:=lMq _;refine⟨⟨h.mp.hn.sublist sub,by have:=h.mp.hl;lia,by rw[l2];exact h.mp.hr,λe he=>?_⟩,λe he=>h.nz e (sub.subset he),by rw[l2];exact h.lv,by have:=h.le;lia⟩
 rw[CN]at he ⊢;obtain⟨h1,h2⟩:=ao.mp he;exact ao.mpr ⟨h.mp.hneg e h1,by rw[hs e h1];exact h2⟩
theorem Nn(h:Mv (s::R)) (hl:(s::R).length+1<=450) (sp:Sp S s R) (b:Bl (s::R)):Bl (tw S s R):=by
 have hs':∀e∈(s::R).flatten,(!S (-e)) = !S e:=λe he=>by rw[sp.neg e he]
 obtain⟨LA,lnA,eA⟩:=Bl.filter _ rfl h sp.neg b;obtain⟨LB,lnB,eB⟩:=Bl.filter (S:=λe=>!S e) _ rfl h hs' b
 have mA:=SJ h sp.neg;have mB:=SJ (S:=λe=>!S e) h hs'
 have mv:=NB (S:=S) h hl;have pf:=Gk S s R;obtain⟨pc,cn⟩:=Sw (S:=S) sp.row;have kA:kp S (s::R)=s.filter S::kp S R:=rfl;have kB:kp (λe=>!S e) (s::R)=(s.filter λe=>!S e)::kp (λe=>!S e) R:=rfl
 have lA:(kp S R).length=R.length:=lMq _;have lB:(kp (λe=>!S e) R).length=R.length:=lMq _
 rw[lCq]at hl;have fAB:(kp S (s::R)++kp (λe=>!S e) (s::R)).flatten.Perm (s::R).flatten:=by
  rw[fAq,CN,CN];exact zY S _
 have mAB:Mp (kp S (s::R)++kp (λe=>!S e) (s::R)):=⟨fAB.nodup_iff.mpr h.mp.hn,by rw[fAB.length_eq];exact h.mp.hl,by rw[lAq,kA,kB,lCq,lCq,lA,lB];lia,λe he=>fAB.mem_iff.mpr (h.mp.hneg e (fAB.mem_iff.mp he))⟩
 have frep:(ax R.length ([]:List Int)).flatten=[]:=by simp
 have fNR:(tw S s R++ax R.length []).flatten=(tw S s R).flatten:=by rw[fAq,frep,aNq]
 have ltw:(tw S s R).length=R.length+2:=rfl;have mNR:Mp (tw S s R++ax R.length []):=⟨by rw[fNR];exact mv.mp.hn,by rw[fNR];exact mv.mp.hl,by rw[lAq,bD,ltw];lia,by rw[fNR];exact mv.mp.hneg⟩
 have p1:=NP mAB mA.mp.hneg mB.mp.hneg;have p2:pn (tw S s R++ax R.length [])=pn (tw S s R)+R.length:=by
  rw[NP mNR mv.mp.hneg (λe he=>by rw[frep]at he;cases he),RH (by lia)]
 have cA:(kp S (s::R)).count []=(kp S R).count []:=by rw[kA,pZ,pV sp.yes];lia
 have cB:(kp (λe=>!S e) (s::R)).count []=(kp (λe=>!S e) R).count []:=by rw[kB,pZ,pV sp.no];lia
 have cT:(tw S s R).count []=R.count []:=by
  unfold tw;rw[pZ,pZ,pV sp.yes,pV sp.no];lia
 have p3:pn (kp S (s::R)++kp (λe=>!S e) (s::R))=pn (tw S s R++ax R.length []):=by
  refine FP mAB mNR (λx=>by rw[fNR];exact fAB.mem_iff.trans pf.mem_iff.symm) (by
   rw[cAq,cAq,fG,cA,cB,cT];exact cn) (λT neg rowT t ht u hu v hv su=>?_) λT neg rowT t ht u hu v hv su=>?_
  .have sub:∀(S':Int->Bool),t∈kp S' R->T v:=λS' ht'=>by
    obtain⟨t',h1,h2⟩:=mMq.mp ht';rw[←h2]at hu hv;exact rowT t' (ah _ (mCo _ (mCo _ h1))) u (ao.mp hu).1 v (ao.mp hv).1 su
   rcases mAq.mp ht with q|q
   .rw [kA]at q;rcases ae.mp q with q|q
    .rw [q]at hu hv;exact rowT _ (ah _ (af ..)) u hu v hv su
    .exact sub _ q
   .rw [kB]at q;rcases ae.mp q with q|q
    .rw [q]at hu hv;exact rowT _ (ah _ (mCo _ (af ..))) u hu v hv su
    .exact sub _ q
  .rcases mAq.mp ht with q|q
   .rcases ae.mp q with q|q
    .rw [q]at hu hv;exact rowT _ (ah _ (by rw[kA];exact af ..)) u hu v hv su
    .rcases ae.mp q with q|q
     .rw [q]at hu hv;exact rowT _ (ag _ (by rw[kB];exact af ..)) u hu v hv su
     .rcases JP (S:=S) sp.row q with ⟨h1,_⟩|⟨_,h1⟩
      .exact rowT t (ah _ (by rw[kA];exact mCo _ (mMq.mpr ⟨t,q,h1⟩))) u hu v hv su
      .exact rowT t (ag _ (by rw[kB];exact mCo _ (mMq.mpr ⟨t,q,h1⟩))) u hu v hv su
   .rw [(fM.mp q).2]at hu;cases hu
 refine⟨LA++LB,⟨λx y=>?_,λc hc=>?_⟩,?_⟩
 .have a1:=lnA.cnt x y;have a2:=lnB.cnt x y;have a3:=pc (-x,y);rw[kA,pI]at a1;rw[kB,pI]at a2;unfold tw;rw[wW,pI,pI,a1,a2];lia
 .rcases mAq.mp hc with q|q
  .exact lnA.ne c q
  .exact lnB.ne c q
 .have nl:(kp S (s::R)).flatten.length+(kp (λe=>!S e) (s::R)).flatten.length=(tw S s R).flatten.length:=by
   rw[←lAq,←fAq,fAB.length_eq,pf.length_eq]
  unfold K18.nL at eA eB ⊢;rw[cA]at eA;rw[cB]at eB;rw[cT,ltw,lAq];rw[kA,lCq,lA,←kA]at eA;rw[kB,lCq,lB,←kB]at eB;lia
end
def qZ(r y:List Int):List Int:=r.filter λe=>decide (ab e∈y)
def rest(Y:List (List Int)) (r:List Int):List Int:=r.filter λe=>Y.any λy=>decide (ab e∈y)
structure Gs (Y:List (List Int)) (r:List Int) (R:List (List Int)):Prop where
 sp:∀y∈Y,∃S:Int->Bool,(∀e∈(rest Y r::R).flatten,S (-e)=S e)/\(∀t∈R,∀a∈t,∀b∈t,S a=S b)/\∀e∈rest Y r,S e=decide (ab e∈y)
 dj:Y.Pairwise λa b=>∀x∈a,x∉b
 ne:∀y∈Y,qZ r y≠[]
theorem DQ{r:List Int}:∀Z:List (List Int),(Z.Pairwise λa b=>∀x∈a,x∉b)->(Z.map (qZ r)).flatten.Perm (rest Z r):=by
 intro Z
 induction Z with
 |nil =>
  intro _;have:rest [] r=[]:=gD.mpr λe _=>by simp
  rw[this];exact .refl _
 |cons w Z ih =>
  intro dz;obtain⟨d1,d2⟩:=bP.mp dz;rw[ar,fCq];refine((ih d2).append_left _).trans ?_;have hp:=zY (λe=>decide (ab e∈w)) (rest (w::Z) r)
  have e1:((rest (w::Z) r).filter λe=>decide (ab e∈w))=qZ r w:=by
   unfold rest qZ;rw[dk];refine cD λe _=>?_
   rw[cg];cases decide (ab e∈w) <;> simp
  have e2:((rest (w::Z) r).filter λe=>!decide (ab e∈w))=rest Z r:=by
   unfold rest;rw[dk];refine cD λe _=>?_
   rw[cg];cases q:decide (ab e∈w) with
   |false=>simp
   |true =>
    have:(Z.any λy=>decide (ab e∈y))=false:=by
     rw[jL];intro y' hy';have:=d1 y' hy' (ab e) (of_decide_eq_true q);simpa using this
    rw[this];rfl
  rw[e1,e2]at hp;exact hp
theorem apart:∀{Y:List (List Int)}{r:List Int}{R:List (List Int)},Y≠[]->Gs Y r R->Mv (rest Y r::R)->R.length+Y.length<=440->pn (Y.map (qZ r)++R)+1=pn (rest Y r::R)+Y.length/\(Bl (rest Y r::R)->Bl (Y.map (qZ r)++R))
 | [],_,_,h,_,_,_=>absurd rfl h
 | [y],r,R,_,g,h,_=>by
  have:rest [y] r=qZ r y:=cD λe _=>by simp
  rw[this];exact⟨rfl,id⟩
 |y::y2::Y,r,R,_,g,h,hl=>by
  obtain⟨S,s1,s2,s3⟩:=g.sp y (af ..);have dj:=bP.mp g.dj;have sub2:∀e∈rest (y2::Y) r,e∈rest (y::y2::Y) r:=λe he=>by
   obtain⟨h1,h2⟩:=ao.mp he;exact ao.mpr ⟨h1,by rw[cg,h2,jH]⟩
  have sub1:∀e∈qZ r y,e∈rest (y::y2::Y) r:=λe he=>by
   obtain⟨h1,h2⟩:=ao.mp he;exact ao.mpr ⟨h1,by rw[cg,h2,jC]⟩
  have eA:(rest (y::y2::Y) r).filter S=qZ r y:=by
   rw[cD s3];unfold rest qZ;rw[dk];refine cD λe _=>?_
   rw[cg];cases decide (ab e∈y) <;> simp
  have eB:((rest (y::y2::Y) r).filter λe=>!S e)=rest (y2::Y) r:=by
   rw[cD (q:=λe=>!decide (ab e∈y)) λe he=>by rw[s3 e he]]
   unfold rest;rw[dk];refine cD λe _=>?_
   rw[cg];cases q:decide (ab e∈y) with
   |false=>simp
   |true =>
    have:((y2::Y).any λy=>decide (ab e∈y))=false:=by
     rw[jL];intro y' hy';have:=dj.1 y' hy' (ab e) (of_decide_eq_true q);simpa using this
    rw[this];rfl
  have nB:rest (y2::Y) r≠[]:=λq=>by
   obtain⟨a,l,e⟩:=K18.sr (g.ne y2 (by simp))
   have ha:a∈qZ r y2:=by rw[e];exact af ..
   obtain⟨h1,h2⟩:=ao.mp ha;have:a∈rest (y2::Y) r:=ao.mpr ⟨h1,by rw[cg,h2,jC]⟩
   rw[q]at this;cases this
  have sp:Sp S (rest (y::y2::Y) r) R:=⟨s1,s2,by rw[eA];exact g.ne y (af ..),by rw[eB];exact nB⟩
  simp only[lCq]at hl;have hl2:(rest (y::y2::Y) r::R).length+1<=450:=by rw[lCq];lia
  have t1:=OT h hl2 sp;have t2:=Nn h hl2 sp;have mv:=NB (S:=S) h hl2;have et:tw S (rest (y::y2::Y) r) R=qZ r y::rest (y2::Y) r::R:=by unfold tw;rw[eA,eB]
  rw[et]at t1 t2 mv;have sw:(qZ r y::rest (y2::Y) r::R).Perm (rest (y2::Y) r::qZ r y::R):=aU.swap ..;have mem2:∀e∈(rest (y2::Y) r::qZ r y::R).flatten,e∈(rest (y::y2::Y) r::R).flatten:=λe he=>by
   rw[fCq,fCq]at he;rw[fCq];rcases mAq.mp he with q|q
   .exact ah _ (sub2 e q)
   .rcases mAq.mp q with q|q
    .exact ah _ (sub1 e q)
    .exact ag _ q
  have g2:Gs (y2::Y) r (qZ r y::R):=by
   refine⟨λy' hy'=>?_,dj.2,λy' hy'=>g.ne y' (mCo _ hy')⟩
   obtain⟨S',q1,q2,q3⟩:=g.sp y' (mCo _ hy');refine⟨S',λe he=>q1 e (mem2 e he),λt ht a ha b hb=>?_,λe he=>q3 e (sub2 e he)⟩
   rcases ae.mp ht with q|q
   .have no:∀e∈t,S' e=false:=λe he=>by
     rw[q]at he;rw[q3 e (sub1 e he)];exact decide_eq_false (dj.1 y' hy' _ (of_decide_eq_true (ao.mp he).2))
    rw[no a ha,no b hb]
   .exact q2 t q a ha b hb
  obtain⟨i1,i2⟩:=apart (by simp) g2 (mv.perm sw) (by simp only[lCq];lia)
  have pm:((y2::Y).map (qZ r)++qZ r y::R).Perm ((y::y2::Y).map (qZ r)++R):=dg;have fl:((y2::Y).map (qZ r)++qZ r y::R).flatten.Perm (rest (y2::Y) r::qZ r y::R).flatten:=by
   rw[fAq,fCq];refine aU.append_right _ ?_;exact DQ _ dj.2
  have mE:Mp ((y2::Y).map (qZ r)++qZ r y::R):=by
   have m:=(mv.perm sw).mp;refine⟨fl.nodup_iff.mpr m.hn,by rw[fl.length_eq];exact m.hl,?_,λe he=>fl.mem_iff.mpr (m.hneg e (fl.mem_iff.mp he))⟩
   rw[lAq,lMq];simp only[lCq];lia
  refine⟨?_,λb=>?_⟩
  .rw [←Bf mE pm];rw[Bf mv.mp sw]at t1;simp only[lCq]at i1 ⊢;lia
  .exact (i2 ((t2 b).perm mv.mp sw)).perm mE pm
end K47
namespace K46
open PySem L2 Mr Z
end K46
namespace K46
open PySem L2 Mr Z Xe Zl
open K15 (nx fw xf By Iu)
open K16 (HL)
open K18 (cp PC O8 Ln nL xC N2 BE)
open K41 (ab GN zL pst thn)
open K45 (gr Bx CW Qk Lk Vb wB IC Gy)
open K51 (sR Ps)
variable {M:List (List Int)}{p:Nat}{r:List Int}
end K46
namespace K18
open PySem L2 Mr Z
end K18
--ZQ3 --ZQ4 --ZQ5 --ZQ6 --ZQ8 --ZQ9 --ZQB --ZQC --ZQD --ZQE --ZQF --ZQG
namespace K18
open PySem L2 Mr Z Xe Zl
open K12 (cN aP Bv Kv P7)
end K18
--ZQ3 --ZQ4 --ZQ5 --ZQ6 --ZQ8 --ZQ9 --ZQB --ZQC --ZQD --ZQE --ZQF --ZQG
namespace K18
open PySem L2 Mr Z Xe Zl
open K12 (cN aP Wi yI Nm)
open K11 (Cp Cn)
def Wl(last:List (List Int)):Nat->List Nat->Prop
 |_,[]=>True
 |h,p::rest=>(p<h/\∃e p0 n0,last[p]?=some (p0++[e])/\last[h]?=some (-e::n0))/\Wl last p rest
theorem Wl.keep{last last':List (List Int)}:∀{t:List Nat}{h:Nat},Wl last h t->(∀k,k<h->last'[k]?=last[k]?)->(∀s,last[h]?=some s->∃x,last'[h]?=some (s++x))->Wl last' h t
 | [],_,_,_,_=>trivial
 |p::rest,h,⟨⟨lt,e,p0,n0,h1,h2⟩,w⟩,hk,hs=>by
  obtain⟨x,hx⟩:=hs _ h2;exact⟨⟨lt,e,p0,n0++x,by rw[hk p lt];exact h1,hx⟩,w.keep (λk hk'=>hk k (by lia)) λs hs'=>⟨[],by rw[hk p lt,hs',aNq]⟩⟩
section
variable {nm:List Int}{n:Nat}{P0:List (List (List Int))}{last:List (List Int)}{t0:List Nat}{h:Nat}{left:List Int}{used kn:Nat}
theorem Sd(A:List (List Int)) (l:List (List Int)) (h:Nat) (y:List Int):(A++l).set (A.length+h) y=A++l.set h y:=by
 rw[gG _ _ (by lia),fO]
theorem Ju(hh:h<last.length):last[h]?=some (last.getD h []):=by rw[gDq,gEg hh];rfl
end
end K18
--ZQ3 --ZQ4 --ZQ5 --ZQ6 --ZQ8 --ZQ9 --ZQB --ZQC --ZQD --ZQE --ZQF --ZQG
namespace K44
open PySem L2 Mr Z Xe Zl
open K18 (Wl Ln nL sN)
open K31 (Wd La xW sg C5 Az w0)
def Cm(w:Wd):List (List Int):=w.T.set w.h (w.T.getD w.h []++w.loose.reverse)
structure Pl (nm:List Int) (w:Wd):Prop where
 wl:Wl w.T w.h w.t0.reverse
 ln:∃LL,Ln (Cm w) LL/\nL (Cm w) LL+w.T.length+w.left.length=nm.length+2
theorem Wz{nm:List Int}{w:Wd}{n:Nat}(ok:La nm w n) (hn:(Az nm).Nodup):(Cm w).flatten.Nodup:=by
 refine cM.mpr λa=>?_
 have hr:=K18.Ju ok.hh;unfold Cm;rw[K12.yI a hr,jB];have:=ok.cnt a;have:=cM.mp hn a;lia
theorem Pl.step{nm:List Int}{w:Wd}{n:Nat}(ok:La nm w n) (hn:(Az nm).Nodup) (k:Pl nm w) (c:Int):Pl nm (xW false w c):=by
 have nd:=Wz ok hn;obtain⟨T,t0,h,loose,left⟩:=w;have hlt:h<T.length:=ok.hh;have hr:T[h]?=some (T.getD h []):=K18.Ju hlt;obtain⟨wl,LL,ln,eu⟩:=k;simp only at wl eu;have ca:(Cm ⟨T,t0,h,loose,left⟩)[h]?=some (T.getD h []++loose.reverse):=aA hlt;have same:∀y,(Cm ⟨T,t0,h,loose,left⟩).set h y=T.set h y:=λy=>dc ..
 unfold xW;simp only;have cmE:Cm ⟨T,t0,h,loose,left⟩=T.set h (T.getD h []++loose.reverse):=rfl;generalize T.getD h []=r at hr ca cmE;have keepW:∀x,Wl (T.set h (r++x)) h t0.reverse:=λx=>wl.keep (λj hj=>aB (by lia)) λs hs=>⟨x,by
  rw[aA hlt];rw[hr]at hs;cases hs;rfl⟩
 split
 .rename_i q;obtain⟨t,p,et⟩:∃t p,t0=t++[p]:=⟨t0.dropLast,t0.getLast q.2,(hZ q.2).symm⟩;subst et;rw[dw,gS];simp only[fV,jh,gH];rw[dN]at wl;obtain⟨⟨lt,e,p0,n0,h1,h2⟩,w'⟩:=wl;rw[hr]at h2;have er:r = -e::n0:=aD.inj h2;rw[er]at ca;have cp:(Cm ⟨T,t++[p],h,loose,left⟩)[p]?=some (p0++[e]):=by
   rw[cmE,aB (by lia)]
   exact h1
  obtain⟨LL',l1,l2⟩:=ln.back nd (show h≠p by lia) ca cp
  have own:T.set h r=T:=Z.Av hr;have eC:((Cm ⟨T,t++[p],h,loose,left⟩).set h (-e::n0)).set p (p0++[e]++loose.reverse)=Cm ⟨T,t,p,loose,left⟩:=by
   rw[same,←er,own];show _=T.set p (T.getD p []++loose.reverse);rw[gDq,h1];rfl
  rw[eC]at l1 l2;exact⟨w',LL',l1,by simp only;lia⟩
 .split
  .rename_i q;obtain⟨l',x,el⟩:=sN q.2;subst el;have e1:C5 false c (l'++[x])=l'.length:=by
    show (l'++[x]).length-1=_;rw[lAq,lSq,Nat.add_sub_cancel]
   have e2:(l'++[x]).getD l'.length 0=x:=by
    rw[gDq,cV];rfl
   have e3:(l'++[x]).eraseIdx l'.length=l':=by
    rw[gg (aj _),cR];simp
   rw[e1,e2,e3];have cm':Cm ⟨T.set h (r++[x]),t0,h,l',left⟩=Cm ⟨T,t0,h,l'++[x],left⟩:=by
    rw[cmE];show (T.set h (r++[x])).set h ((T.set h (r++[x])).getD h []++l'.reverse)=_;rw[gDq,aA hlt,dc,dN];show T.set h ((r++[x])++l'.reverse)=T.set h (r++([x]++l'.reverse));rw[ai]
   exact⟨keepW _,LL,by rw[cm'];exact ln,by rw[cm'];simp only[lZq];exact eu⟩
  .cases left with
   |nil=>exact⟨wl,LL,ln,eu⟩
   |cons x left =>
    simp only;rw[lCq]at eu;generalize sg c x=e;split
    .obtain ⟨LL',l1,l2⟩:=ln.newp nd ca e;have ll:(T.set h (r++[e])).length=T.length:=lZq;have cm':Cm ⟨T.set h (r++[e])++[[-e]],t0++[h],T.length,loose,left⟩=T.set h (r++[e])++[-e::loose.reverse]:=by
      show (T.set h (r++[e])++[[-e]]).set T.length ((T.set h (r++[e])++[[-e]]).getD T.length []++loose.reverse)=_;have g:(T.set h (r++[e])++[[-e]]).getD T.length []=[-e]:=by
       rw[←ll];exact K11.HY
      rw[g];have:=K18.Sd (T.set h (r++[e])) [[-e]] 0 ([-e]++loose.reverse);rw[ll,gV]at this;exact this
     rw[same,←cm']at l1 l2;refine⟨?_,LL',l1,?_⟩
     .show Wl (T.set h (r++[e])++[[-e]]) T.length (t0++[h]).reverse;rw[dN];have gh:(T.set h (r++[e])++[[-e]])[h]?=some (r++[e]):=by
       rw[gZq (by lia),aA hlt]
      have gn:(T.set h (r++[e])++[[-e]])[T.length]?=some (-e::[]):=by
       rw[←ll,cV]
      refine⟨⟨hlt,e,r,[],gh,gn⟩,(keepW [e]).keep (λj hj=>gZq (by lia)) λs hs=>⟨[],?_⟩⟩
      rw[aNq,gZq (by lia)]
      exact hs
     .simp only [lAq,ll,lSq];lia
    .obtain ⟨LL',l1,l2⟩:=ln.open ca e
     have cm':Cm ⟨T.set h (r++[e]),t0,h,loose++[-e],left⟩=T.set h (r++[e]++(-e::loose.reverse)):=by
      show (T.set h (r++[e])).set h ((T.set h (r++[e])).getD h []++(loose++[-e]).reverse)=_;rw[gDq,aA hlt,dc,dN];rfl
     rw[same,←cm']at l1 l2;exact⟨keepW _,LL',l1,by simp only[lZq];lia⟩
theorem Y8(nm:List Int):Pl nm (w0 nm):=⟨trivial,[],⟨λx y=>rfl,λc hc=>(by cases hc)⟩,by show 0+1+1+nm.length=nm.length+2;lia⟩
theorem HA{nm:List Int}(hn:(Az nm).Nodup):∀(cs:List Int) {w:Wd}{n:Nat},La nm w n->Pl nm w->Pl nm (cs.foldl (xW false) w)
 | [],w,n,_,h=>h
 |c::cs,w,n,ok,h=>HA hn cs (ok.step (wild:=false) c) (h.step ok hn c)
theorem HG{nm cs:List Int}{wild:Bool}(hc:cs.length<=63) (hn:nm.length<=100) (hb:(Az nm).Nodup):∃(T:List (List Int)) (left:List Int),K31.vv [dI cs,dI nm,.bl wild]=some (.ow (T.map aI))/\(∀a,T.flatten.count a+(Az left).count a=(Az nm).count a)/\K11.Cp T/\0<T.length/\T.length<=64/\(wild=false->∃LL,Ln T LL/\nL T LL+T.length+left.length=nm.length+2):=by
 obtain⟨v7,v8,v9,v10,e⟩:=K31.JE (nm:=nm) (wild:=wild) (v7:=none) (v8:=none) (v9:=none) (v10:=none) hc (by lia)
 have ok:=K31.DH (nm:=nm) (wild:=wild) cs (K31.Nk nm);have pl:wild=false->Pl nm (cs.foldl (xW wild) (w0 nm)):=λh=>by
  subst h;exact HA hb cs (K31.Nk nm) (Y8 nm)
 rw[cF]at ok;generalize cs.foldl (xW wild) (w0 nm)=w at e ok pl;have hlen:=ok.len;obtain⟨T,t0,hd,loose,left⟩:=w;obtain⟨hh,ht,lw,lT,lf,cnt,tr⟩:=ok;simp only at hh ht lw lT lf cnt tr hlen;have hr:T[hd]?=some (T.getD hd []):=K18.Ju hh;have cmE:Cm ⟨T,t0,hd,loose,left⟩=T.set hd (T.getD hd []++loose.reverse):=rfl;have hrl:=K12.FF hr;generalize T.getD hd []=r at hr hrl cmE;have e2:=K31.LN (t0:=t0) (loose:=loose) (left:=left) (wild:=wild) (v0:=some (.sh (dI cs))) (v1:=some (.sh (dI nm))) (v7:=v7) (v8:=v8) (v9:=v9) (v10:=v10) hr (by lia)
 have e':tF 7 K31.tj (cs.map D.int) [some (.sh (dI cs)),some (.sh (dI nm)),some (.sh (.bl wild)),some (.ow [.ow []]),some (.ow [.sh (.int 0)]),some (.ow []),some (aI nm),none,none,none,none]=some (.nx (K31.st (some (.sh (dI cs))) (some (.sh (dI nm))) wild ⟨T,t0,hd,loose,left⟩ v7 v8 v9 v10)):=e;refine⟨T.set hd (r++loose.reverse),left,?_,λa=>?_,tr.set hr,by rw[lZq];lia,by rw[lZq];lia,λhw=>?_⟩
 .have e3:((nm.map D.int).map AV.sh)=nm.map λn=>AV.sh (.int n):=by rw[mPq];rfl
  simp_arith [K31.vv,K31.DG,dI,e3]
  simp -implicitDefEqProofs only [Z.WL,iA,iB,gJ,gK,ft,↓reduceIte,reduceCtorEq,dI]at e';rw[e']
  simp_arith [e2]
  simp_arith [K31.st]
 .rw [K12.yI a hr,jB,cnt a]
 .obtain ⟨_,LL,l1,l2⟩:=pl hw;rw[cmE]at l1 l2;exact⟨LL,l1,by rw[lZq];exact l2⟩
end K44
--ZQ3 --ZQ4 --ZQ5 --ZQ6 --ZQ8 --ZQ9 --ZQB --ZQC --ZQD --ZQE --ZQF
namespace K19
open PySem L2 Mr Z Xe Zl K15 K16
end K19
--ZQ3 --ZQ4 --ZQ5 --ZQ6 --ZQ8 --ZQ9 --ZQB --ZQC --ZQD --ZQE --ZQF
namespace K19
open PySem L2 Mr Z Xe Zl K15 K16
end K19
--ZQ3 --ZQ4 --ZQ5 --ZQ6 --ZQ8 --ZQ9 --ZQB --ZQC --ZQD --ZQE --ZQF --ZQG
namespace K17
open PySem L2 Mr Z Xe Zl
open K15 (nx fw)
open K25 (Rt)
open K43 (xF Xm)
open K51 (sR Ps Pc)
section
variable {M N:List (List Int)}{S:Int->Prop}
theorem Te{q:List (List Int)}(cn:K11.Cn q) (hneg:∀x,S x->S (-x)) (hrow:∀r∈q,∀x∈r,∀y∈r,S x->S y) {x:Int}(hx:x∈q.flatten) (h:S x):∀y∈q.flatten,S y:=by
 have up:∀k,k<q.length->∀x∈q.getD k [],S x->∀y∈q.getD 0 [],S y:=by
  intro k
  induction k using fI with
  |_ k ih =>
   intro hk x hx h y hy
   by_cases c:0<k
   .obtain ⟨j,e,h1,h2,h3⟩:=cn.tr k c hk;have s:=hneg _ (hrow _ (K11.getD_mem hx) x hx _ h3 h);rw[bj]at s;exact ih j h1 (by lia) e h2 s y hy
   .have:k=0:=by lia
    subst this;exact hrow _ (K11.getD_mem hx) x hx y hy h
 obtain⟨r,hr,hxr⟩:=mFq.mp hx;obtain⟨i,hi⟩:=aC.mp hr;have hD:∀{i:Nat}{r:List Int},q[i]?=some r->q.getD i []=r:=λh=>by rw[gDq,h];rfl
 have h0:=up i (gSq.mp hi).1 x (by rw[hD hi];exact hxr) h
 have down:∀k,k<q.length->∀y∈q.getD k [],S y:=by
  intro k
  induction k using fI with
  |_ k ih =>
   intro hk y hy
   by_cases c:0<k
   .obtain ⟨j,e,h1,h2,h3⟩:=cn.tr k c hk;exact hrow _ (K11.getD_mem hy) _ h3 y hy (hneg e (ih j h1 (by lia) e h2))
   .have:k=0:=by lia
    subst this;exact h0 y hy
 intro y hy;obtain⟨t,ht,hyt⟩:=mFq.mp hy;obtain⟨j,hj⟩:=aC.mp ht;exact down j (gSq.mp hj).1 y (by rw[hD hj];exact hyt)
theorem Jo:∀rs:List (List Int),(rs.map good).count []=rs.count []
 | []=>rfl
 | []::rs=>by rw[ar,N7,jl,jl,Jo rs]
 | (x::r)::rs=>by
  have hg:good (x::r)≠[]:=λq=>by
   have:=congrArg bV q;rw[Hy]at this;cases this
  rw[ar,jf hg,jf (by simp),Jo rs]
theorem Fm{P:List (List (List Int))}(hn:P.flatten.flatten.Nodup) (cn:∀p∈P,K11.Cn p) (hm:Mp (tR (P.flatten.map good))) {kn:List Nat}{PS:List (List Nat)}(hp:Ps (tR (P.flatten.map good)) (tR (P.flatten.map good)).length kn PS):PS.length=P.length:=by
 have pm:=K12.ti hp;have fl:(tR (P.flatten.map good)).flatten.Perm P.flatten.flatten:=(qb (qW _)).trans (rq rJ _);have pnd:∀p∈P,p.flatten.Nodup:=λp h=>by
  rw[jk]at hn;exact hn.sublist (aO (mMq.mpr ⟨p,h,rfl⟩))
 have bB:Bp P:=⟨hn,λp h=>(cn p h).ne,λp h hb=>K11.Mx (cn p h) hb (pnd p h)⟩
 have rowM:∀r∈tR (P.flatten.map good),∃p∈P,∃t∈p,∀x,x∈r↔x∈t:=λr hr=>by
  obtain⟨t,ht,rfl⟩:=mMq.mp ((qW _).mem_iff.mp hr);obtain⟨p,h1,h2⟩:=mFq.mp ht;exact⟨p,h1,t,h2,λx=>(rJ t).mem_iff⟩
 have:=zW (yN (xF hm) hp) bB (λx=>(uk pm).mem_iff.trans fl.mem_iff) (λp h q hq x hx hx' y=>by
  obtain⟨ps,hps,rfl⟩:=mMq.mp h;obtain⟨s,_,pc⟩:=hp.pc ps hps;refine⟨Al (S:=(· ∈ q.flatten)) (xF hm) pc (λz hz=>(cn q hq).clo z hz) (λr hr a ha b hb h=>?_) hx hx' y,Te (S:=(· ∈ (ps.map λk=>(tR (P.flatten.map good)).getD k []).flatten)) (cn q hq) (λz hz=>uz (xF hm) pc hz) (λr hr a ha b hb h=>?_) hx' hx y⟩
  .obtain ⟨p',hp',t,ht,qq⟩:=rowM r hr;have:=K11.HE hn hp' hq (mFq.mpr ⟨t,ht,(qq a).mp ha⟩) h;subst this;exact mFq.mpr ⟨t,ht,(qq b).mp hb⟩
  .exact vH (xF hm) pc (r:=good r) ((qW _).mem_iff.mpr (mMq.mpr ⟨r,mFq.mpr ⟨q,hq,hr⟩,rfl⟩)) ((rJ r).mem_iff.mpr ha) ((rJ r).mem_iff.mpr hb) h) (by rw[pm.count_eq,(qW _).count_eq,Jo])
 rwa [lMq]at this
end
end K17
--ZQ3 --ZQ4 --ZQ5 --ZQ6 --ZQ8 --ZQ9 --ZQB --ZQC --ZQD --ZQE --ZQF --ZQG
namespace K17
open PySem L2 Mr Z Xe Zl
open K43 (xF Xm)
open K51 (sR Ps Pc)
end K17
--ZQ3 --ZQ4 --ZQ5 --ZQ6 --ZQ8 --ZQ9 --ZQB --ZQC --ZQD --ZQE --ZQF --ZQG
namespace K44
open PySem L2 Mr Z Xe Zl
open K15 (nx fw xf PQ Rd SE EB)
open K16 (yR AU D8 FJ)
open K18 (Ln nL)
open K43 (G3)
open K51 (sR Ps Pc)
theorem Nh(P:List (Int×Int)) (t:Int):(Z.getD (yR P) (.inl t)).isSome=decide (t∈P.map (·.1)):=by
 unfold Z.getD yR;rw[fZ,bQ,jK,decide_eq_true_iff];constructor
 .rintro ⟨x,hx,q⟩;obtain⟨p,hp,rfl⟩:=mMq.mp hx;have:=aM.inj (of_decide_eq_true q);exact mMq.mpr ⟨p,hp,this⟩
 .intro h;obtain⟨p,hp,rfl⟩:=mMq.mp h;exact⟨_,mMq.mpr ⟨p,hp,rfl⟩,decide_eq_true rfl⟩
def ux(L:List (List Int)):List (Int×Int):=L.flatMap λl=>l.map λx=>(x,l.headD 0)
theorem ye(L:List (List Int)):(ux L).map (·.1)=L.flatten:=by
 induction L with
 |nil=>rfl
 |cons l L ih =>
  show (l.map (λx=>(x,l.headD 0))++ux L).map (·.1)=l++L.flatten
  rw[mBq,ih,mPq];congr 1;exact dF _
theorem L7(L:List (List Int)) (l:List Int):ux (L++[l])=ux L++l.map λx=>(x,l.headD 0):=by
 unfold ux;rw[ju];simp
theorem CO{f:Int->Int}{e:Int}{l:List Int}(c:Cy f e l):l.headD 0=e:=by
 have h0:=c.at (i:=0) (by have:=c.len;lia)
 cases l with
 |nil=>have:=c.len;simp at this
 |cons a l=>exact aD.inj h0
def YA(N:Nat):AS->Nat
 | [_,_,some (.owd kvs),_,_]=>N+1-kvs.length
 |_=>0
section
variable {rs:List (List Int)}
theorem PB(hm:Mp rs) {P:List (Int×Int)}{L0:List (List Int)}(hr:Rd (fw rs) rs.flatten (P.map (·.1)) L0) {e:Int}(heE:e∈rs.flatten) (he:e∉P.map (·.1)) {v0:Option AV}:∃l v4,Cy (fw rs) e l/\uq (uS (wj (pd 4) (pd 2))) uh 100000 [v0,some (.sh (.fd (K51.yl (K51.qE rs)))),some (.owd (yR P)),some (.sh (.int e)),some (.sh (.int e))]=some (.nx [v0,some (.sh (.fd (K51.yl (K51.qE rs)))),some (.owd (yR (P++l.map λx=>(x,e)))),some (.sh (.int e)),v4]):=by
 have one:=xf hm;obtain⟨l,cy,hle,hmin⟩:=one.cy heE;have hl:=hm.hl;have hvl:=UT _ _ hr.nd hr.sub;rw[lMq]at hvl;have ho:=hr.out cy he;have hst:∀n,Z.getD (K51.yl (K51.qE rs)) (.inl (-(itr (fw rs) n e)))=some (.int (itr (fw rs) (n+1) e)):=λn=>PQ hm.hn (hm.hneg _ (one.itr_mem heE n))
 have ks:∀n,(P++(l.take n).map λx=>(x,e)).map (·.1)=P.map (·.1)++l.take n:=λn=>by
  rw[mBq,mPq];congr 1;exact dF _
 have key:=zh (c:=uS (wj (pd 4) (pd 2))) (body:=uh) (λS=>∃n,n<=l.length/\S=[v0,some (.sh (.fd (K51.yl (K51.qE rs)))),some (.owd (yR (P++(l.take n).map λx=>(x,e)))),some (.sh (.int e)),some (.sh (.int (itr (fw rs) n e)))]) (YA (P.length+l.length)) (λS=>∃v4,S=[v0,some (.sh (.fd (K51.yl (K51.qE rs)))),some (.owd (yR (P++l.map λx=>(x,e)))),some (.sh (.int e)),v4]) (by
  rintro S ⟨n,h2,rfl⟩;have hg:=Nh (P++(l.take n).map λx=>(x,e)) (itr (fw rs) n e)
  rw[ks]at hg
  by_cases hn:n<l.length
  .have hat:=cy.at hn;have hnew:itr (fw rs) n e∉P.map (·.1)++l.take n:=λm=>by
    rcases mAq.mp m with q|q
    .exact ho _ (mGq hat) q
    .have:=aZ.sublist (bG (n+1) l) cy.nd;rw[um hat]at this;exact(nAq.mp this).2.2 _ q _ (by simp) rfl
   rw[decide_eq_false hnew]at hg;have hp:=D8 (M:=P++(l.take n).map λx=>(x,e)) (z:=itr (fw rs) n e) (x:=e) (by rw[ks];exact hnew)
   have e1:P++(l.take n).map (λx=>(x,e))++[(itr (fw rs) n e,e)]=P++(l.take (n+1)).map λx=>(x,e):=by rw[um hat,mBq,ai];rfl
   rw[e1]at hp;have hs:=hst n;have l1:(yR (P++(l.take n).map λx=>(x,e))).length<rY:=by rw[AU,lAq,lMq,lTq];show _<16777216;lia
   refine⟨true,[v0,some (.sh (.fd (K51.yl (K51.qE rs)))),some (.owd (yR (P++(l.take n).map λx=>(x,e)))),some (.sh (.int e)),some (.sh (.int (itr (fw rs) n e)))],?_,λ_=>⟨[v0,some (.sh (.fd (K51.yl (K51.qE rs)))),some (.owd (yR (P++(l.take (n+1)).map λx=>(x,e)))),some (.sh (.int e)),some (.sh (.int (itr (fw rs) (n+1) e)))],?_,⟨n+1,by lia,rfl⟩,?_⟩,λq=>(nomatch q)⟩
   .simp_arith [hg]
   .simp_arith [uh,l1,hp,hs]
   .show P.length+l.length+1-_<P.length+l.length+1-_;simp only[AU,lAq,lMq,lTq];lia
  .have en:n=l.length:=by lia
   subst en;have hb:=cy.back;rw[hb,bo]at hg ⊢;rw[decide_eq_true (mAq.mpr (.inr cy.self))]at hg;refine⟨false,[v0,some (.sh (.fd (K51.yl (K51.qE rs)))),some (.owd (yR (P++l.map λx=>(x,e)))),some (.sh (.int e)),some (.sh (.int e))],?_,λq=>(nomatch q),λ_=>⟨_,rfl⟩⟩
   simp_arith [hg])
 obtain⟨S',ew,v4,rfl⟩:=key 100000 [v0,some (.sh (.fd (K51.yl (K51.qE rs)))),some (.owd (yR P)),some (.sh (.int e)),some (.sh (.int e))] ⟨0,bq _,by simp[itr]⟩ (by
  show P.length+l.length+1-_<100000;lia)
 exact⟨l,v4,cy,ew⟩
theorem JG(hm:Mp rs):∃v3 v4 L,tF 3 uX (rs.flatten.map D.int) [some (.sh (dM rs)),some (.sh (.fd (K51.yl (K51.qE rs)))),some (.owd []),none,none]=some (.nx [some (.sh (dM rs)),some (.sh (.fd (K51.yl (K51.qE rs)))),some (.owd (yR (ux L))),v3,v4])/\Ee (fw rs) rs.flatten L:=by
 have one:=xf hm;have key:=xq (x:=3) (body:=uX) (λi S=>∃L v3 v4,S=[some (.sh (dM rs)),some (.sh (.fd (K51.yl (K51.qE rs)))),some (.owd (yR (ux L))),v3,v4]/\Rd (fw rs) rs.flatten L.flatten L/\∀j x,j<i->rs.flatten[j]?=some x->x∈L.flatten) (ds:=rs.flatten.map D.int) (S:=[some (.sh (dM rs)),some (.sh (.fd (K51.yl (K51.qE rs)))),some (.owd []),none,none]) ⟨[],none,none,rfl,⟨by simp,rfl,aV,by simp,by simp⟩,λj x h=>absurd h (dA _)⟩ (by
  rintro i d S hd ⟨L,v3,v4,rfl,hr,hall⟩;rw[gMq]at hd;obtain⟨e,he,rfl⟩:=oMq.mp hd;have heE:e∈rs.flatten:=mGq he;have hg:=Nh (ux L) e;rw[ye]at hg
  by_cases c:e∈L.flatten
  .rw [decide_eq_true c]at hg;refine⟨[some (.sh (dM rs)),some (.sh (.fd (K51.yl (K51.qE rs)))),some (.owd (yR (ux L))),some (.sh (.int e)),some (.sh (.int e))],?_,L,_,_,rfl,hr,λj x hj hx=>?_⟩
   .have ew:uq (uS (wj (pd 4) (pd 2))) uh 100000 [some (.sh (dM rs)),some (.sh (.fd (K51.yl (K51.qE rs)))),some (.owd (yR (ux L))),some (.sh (.int e)),some (.sh (.int e))]=some (.nx [some (.sh (dM rs)),some (.sh (.fd (K51.yl (K51.qE rs)))),some (.owd (yR (ux L))),some (.sh (.int e)),some (.sh (.int e))]):=by
     obtain⟨S',e1,e2⟩:=zh (c:=uS (wj (pd 4) (pd 2))) (body:=uh) (λS=>S=[some (.sh (dM rs)),some (.sh (.fd (K51.yl (K51.qE rs)))),some (.owd (yR (ux L))),some (.sh (.int e)),some (.sh (.int e))]) (λ_=>0) (λS=>S=[some (.sh (dM rs)),some (.sh (.fd (K51.yl (K51.qE rs)))),some (.owd (yR (ux L))),some (.sh (.int e)),some (.sh (.int e))]) (by
      rintro S rfl;refine⟨false,_,?_,λq=>(nomatch q),λ_=>rfl⟩
      simp_arith [hg]) 100000 _ rfl (by decide)
     rw[e1,e2]
    simp_arith [uX,ew]
   .rcases eP.mp hj with q|rfl
    .exact hall j x q hx
    .rw [he]at hx;cases hx;exact c
  .have hr':Rd (fw rs) rs.flatten ((ux L).map (·.1)) L:=by rw[ye];exact hr
   obtain⟨l,v4',cy,ew⟩:=PB hm hr' heE (by rw[ye];exact c) (v0:=some (.sh (dM rs)))
   have hr2:=hr.add one cy heE c;have ef:L.flatten++l=(L++[l]).flatten:=by rw[fAq,bO]
   rw[ef]at hr2;have en:ux L++l.map (λx=>(x,e))=ux (L++[l]):=by rw[L7,CO cy]
   rw[en]at ew;refine⟨[some (.sh (dM rs)),some (.sh (.fd (K51.yl (K51.qE rs)))),some (.owd (yR (ux (L++[l])))),some (.sh (.int e)),v4'],?_,L++[l],_,_,rfl,hr2,λj x hj hx=>?_⟩
   .simp_arith [uX,ew]
   .rw [←ef];rcases eP.mp hj with q|rfl
    .exact mAq.mpr (.inl (hall j x q hx))
    .rw [he]at hx;cases hx;exact mAq.mpr (.inr cy.self))
 obtain⟨S',e,L,v3,v4,rfl,hr,hall⟩:=key;refine⟨_,_,L,e,hr.orb λx hx=>?_⟩
 obtain⟨j,hj⟩:=aC.mp hx;exact hall j x (by rw[lMq];exact(gSq.mp hj).1) hj
theorem Hi(hm:Mp rs):∃L,Ee (fw rs) rs.flatten L/\xV [dM rs]=some (.owd (yR (ux L))):=by
 obtain⟨v3,v4,L,e,ho⟩:=JG hm;have nk:=EB hm;have kk:=SE rs;refine⟨L,ho,?_⟩;have q31:((3:Nat)≠1)=True:=by simp
 simp_arith [xV,DC,nk,dM,q31,kk,e]
theorem Gc{f:Int->Int}{E:List Int}{L:List (List Int)}(o:Ee f E L) {l:List Int}(hl:l∈L) {x:Int}(hx:x∈l):Z.getD (yR (ux L)) (.inl x)=some (.int (l.headD 0)):=by
 rw[FJ];refine K15.AQ ?_ (mMq.mpr ⟨(x,l.headD 0),bT.mpr ⟨l,hl,mMq.mpr ⟨x,hx,rfl⟩⟩,rfl⟩);rw[mPq];have h1:(ux L).map (((·.1):pQ×Int->pQ)∘λp:Int×Int=>((aM p.1:pQ),p.2))=((ux L).map (·.1)).map aM:=by rw[mPq];rfl
 rw[h1,ye,aQ,bb];exact(aQ.mp o.dj).imp λh q=>h (aM.inj q)
theorem G6{f:Int->Int}{E:List Int}{L:List (List Int)}(o:Ee f E L) {l l':List Int}(hl:l∈L) (hl':l'∈L) (h:l.headD 0=l'.headD 0):l=l':=by
 obtain⟨e,c⟩:=o.cy l hl;obtain⟨e',c'⟩:=o.cy l' hl';rw[CO c,CO c']at h;subst h;exact c.one c'
end
end K44
--ZQ3 --ZQ4 --ZQ5 --ZQ6 --ZQ8 --ZQ9 --ZQB --ZQC --ZQD --ZQE --ZQF --ZQG
namespace K44
open PySem L2 Mr Z Xe Zl
open K15 (Rd kI)
open K16 (yR AU D8 FJ pm)
open K18 (Ln nL)
def fl(P:List (Int×Int)) (x:Int):Int:=match Z.getD (yR P) (.inl x) with
 |some (.int y)=>y
 |_=>0
structure Mt (T:List (List Int)):Prop where
 nd:T.flatten.Nodup
 ng:∀z∈T.flatten, -z∈T.flatten
 nz:∀z∈T.flatten,z≠0
 le:T.flatten.length<=60
 lt:T.length<=64
def Pn(T:List (List Int)):Prop:=K11.Cn T/\∃LL u,Ln T LL/\nL T LL+T.length=u+2/\T.flatten.length=2*u
end K44
--ZQ3 --ZQ4 --ZQ5 --ZQ6 --ZQ8 --ZQ9 --ZQB --ZQC --ZQD --ZQE --ZQF --ZQG
namespace K43
open PySem L2 Mr Z Xe Zl K31
open K51 (sR Ps Pc)
end K43
--ZQ3 --ZQ4 --ZQ5 --ZQ6 --ZQ8 --ZQ9 --ZQB --ZQC --ZQD --ZQE --ZQF --ZQG
namespace K44
open PySem L2 Mr Z Xe Zl
open K15 (fw)
open K16 (yR AU)
open K18 (Ln nL)
open K31 (Az Nm Wm CF N4 FR yt zO)
open K43 (G3 Xm)
open K51 (Ps)
theorem C0{nm cs:List Int}{wild:Bool}(hc:cs.length<=63) (hn:Nm nm) (h30:nm.length<=30):∃T,K31.vv [dI cs,dI nm,.bl wild]=some (.ow (T.map aI))/\Mt T/\(wild=false->Pn T):=by
 obtain⟨T,left,e,cnt,tr,tp,tlt,pl⟩:=HG (nm:=nm) (cs:=cs) (wild:=wild) hc (by lia) (K31.zV hn)
 have hw:Wm nm T:=⟨⟨left,cnt⟩,tr,tp,tlt⟩;have ng:∀z∈T.flatten, -z∈T.flatten:=λz h=>hw.neg hn h
 refine⟨T,e,⟨hw.nodup hn,ng,λz h=>?_,by have:=hw.le;lia,tlt⟩,λh=>⟨⟨λq=>(by rw[q]at tp;cases tp),ng,tr⟩,?_⟩⟩
 .obtain ⟨y,hy,q⟩:=K31.RI.mp (hw.sub h);have:=hn.lo y hy;lia
 .obtain ⟨LL,l1,l2⟩:=pl h;have pm:(T.flatten++Az left).Perm (Az nm):=dQ.mpr λa=>by rw[cAq];exact cnt a
  have:=pm.length_eq;rw[lAq,K31.AW,K31.AW]at this;exact⟨LL,nm.length-left.length,l1,by lia,by lia⟩
end K44
--ZQ3 --ZQ4 --ZQ5 --ZQ6 --ZQ8 --ZQ9 --ZQB --ZQC --ZQD --ZQE --ZQF --ZQG
namespace K46
open PySem L2 Mr Z Xe Zl
open K15 (nx fw xf)
open K16 (yR)
open K18 (Ln nL PC wW)
open K31 (Nm CF N4 FR yt zO)
open K41 (ab YO)
open K44 (ux Gc G6 CO fl Mt Pn Hi C0)
open K45 (Lk Vb Ap)
open K51 (sR Ps)
section
variable {M L:List (List Int)}{p:Nat}{r:List Int}
theorem IK{f:Int->Int}{E:List Int}(o:Ee f E L) {l:List Int}(hl:l∈L) {x:Int}(hx:x∈l):fl (ux L) x=l.headD 0:=by
 unfold K44.fl;rw[Gc o hl hx]
def Yk(M:List (List Int)):Prop:=∃LL,Ln M LL/\∀{kn:List Nat}{PS:List (List Nat)},Ps M M.length kn PS->4*PS.length+M.flatten.length=2*M.length+2*nL M LL
end
section
variable {M L:List (List Int)}
theorem Ny{x:AV}{ds:List D}(h:pH x = .list ds):Vn x=some ds:=by
 cases x with
 |sh d =>
  rw[sm]at h;subst h;rfl
 |ow avs =>
  rw[sV]at h;rw[TF];exact congrArg some (D.list.inj h)
 |owd kvs=>rw[zQ]at h;cases h
 |owl kvs=>cases h
theorem E4(x:AV):pH (Vd x)=pH x:=by
 cases x with
 |ow avs =>
  rw[Pe,sV,sV,mPq];exact congrArg D.list (List.map_id' (avs.map pH))
 |_=>rfl
end
theorem Hw:∀k:Nat,(ax k [([]:List Int)]).flatten=ax k []
 |0=>rfl
 |k+1=>by rw[gY,fCq,Hw k,gY];rfl
theorem Ho{T:List (List Int)}(mt:Mt T) (pn:Pn T) (k:Nat) (hk:k<=10):Yk (tR ((T++ax k []).map good)):=by
 obtain⟨cn,LL,u,ln,bal,hu⟩:=pn;have fR:(T++ax k ([]:List Int)).flatten=T.flatten:=by simp
 have pc:∀q,(PC (T++ax k ([]:List Int))).count q=(PC T).count q:=λq=>by
  rw[wW];have:PC (ax k ([]:List Int))=[]:=by
   unfold K18.PC;rw[iU];intro r hr;rw[(fM.mp hr).2];rfl
  rw[this];rfl
 have ln2:Ln (T++ax k ([]:List Int)) LL:=⟨λx y=>by rw[pc];exact ln.cnt x y,ln.ne⟩
 have n2:nL (T++ax k ([]:List Int)) LL=nL T LL+k:=by
  unfold K18.nL;rw[cAq,fG];lia
 have lT:(T++ax k ([]:List Int)).length=T.length+k:=by rw[lAq,bD]
 have ef:([T]++ax k [([]:List Int)]).flatten=T++ax k []:=by
  rw[fAq,bO,Hw]
 have hle:=mt.le;have hlt:=mt.lt;generalize hW:T++ax k ([]:List Int)=W at ln2 n2 lT ef fR;have pG:(tR (W.map good)).flatten.Perm W.flatten:=(qb (qW _)).trans (rq rJ _);have lG:(tR (W.map good)).length=W.length:=by rw[sC,lMq]
 have mp:Mp (tR (W.map good)):=⟨pG.nodup_iff.mpr (by rw[fR];exact mt.nd),by rw[pG.length_eq,fR];lia,by lia,λe he=>pG.mem_iff.mpr (by rw[fR];exact mt.ng e (by rw[←fR];exact pG.mem_iff.mp he))⟩
 refine⟨LL,ln2.rows,λ{kn PS} hp=>?_⟩
 have pl:=K17.Fm (P:=[T]++ax k [([]:List Int)]) (by rw[ef,fR];exact mt.nd) (λp hp=>by
  rcases mAq.mp hp with h|h
  .rw [mSq.mp h];exact cn
  .rw [(fM.mp h).2];exact⟨by simp,λz hz=>(by simp at hz),K11.GH []⟩) (by rw[ef];exact mp) (kn:=kn) (PS:=PS) (by rw[ef];exact hp)
 rw[lAq,bD]at pl;have l1:[T].length=1:=rfl;rw[K18.Gj,lG,pG.length_eq,fR,n2,lT,pl,hu];lia
end K46
--ZQ3 --ZQ4 --ZQ5 --ZQ6 --ZQ8 --ZQ9 --ZQB --ZQC --ZQD --ZQE --ZQF --ZQG
namespace K47
open PySem L2 Mr Z Xe Zl
open K41 (ab U4 zL)
open K45 (md ym Il FU Iy SD xk EW Gr)
open K17 (cls yN Al uz vH C9 DY zp CK Bp)
open K43 (xF)
def pst(M:List (List Int)) (U:List Int) (f:Int->Int) (v2 v3 v4 v5:Option AV):AS:=[some (.sh (dM M)),some (.owd (md U f)),v2,v3,v4,v5]
theorem Mc{M:List (List Int)}{pre r:List Int}{v2 v3:Option AV}(hl:(pre++r).length<=1000):∃v3',tF 3 vJ (r.map D.int) (pst M (Ms.dd (pre.map ab)) (λy=>y) v2 v3 none none)=some (.nx (pst M (Ms.dd ((pre++r).map ab)) (λy=>y) v2 v3' none none)):=by
 rw[lAq]at hl;have key:=xq (x:=3) (body:=vJ) (λi S=>∃v3,S=pst M (Ms.dd ((pre++r.take i).map ab)) (λy=>y) v2 v3 none none) (ds:=r.map D.int) (S:=pst M (Ms.dd (pre.map ab)) (λy=>y) v2 v3 none none) ⟨v3,by rw[ed,aNq]⟩ (by
  rintro i d S hd ⟨v3,rfl⟩;rw[gMq]at hd;obtain⟨e,he,rfl⟩:=oMq.mp hd;have et:r.take (i+1)=r.take i++[e]:=by rw[bH,he];rfl
  refine⟨pst M (Ms.dd ((pre++r.take (i+1)).map ab)) (λy=>y) v2 (some (.sh (.int e))) none none,?_,_,rfl⟩
  have e2:Ms.dd ((pre++r.take (i+1)).map ab)=Ms.yg (Ms.dd ((pre++r.take i).map ab)) (ab e):=by
   rw[et,←ai,mBq,List.map_singleton,Ms.Kp]
  rw[e2];have ll:=Ms.Fk ((pre++r.take i).map ab);rw[lMq,lAq,lTq]at ll;generalize Ms.dd ((pre++r.take i).map ab)=U at ll;have lU:(md U λy=>y).length<rY:=aG (show (md U λy=>y).length<2000 by unfold K45.md;rw[lMq];lia) (by decide)
  have mi:=SD U (ab e)
  simp_arith [vJ,pst,U4,lU,mi])
 obtain⟨S',e,v3',rfl⟩:=key;rw[lMq,bo]at e;exact⟨v3',e⟩
theorem NV{M:List (List Int)}(hl:M.flatten.length<=1000):∃v2 v3,tF 2 vI (M.map dI) (pst M [] (λy=>y) none none none none)=some (.nx (pst M (Ms.dd (M.flatten.map ab)) (λy=>y) v2 v3 none none)):=by
 have key:=xq (x:=2) (body:=vI) (λi S=>∃v2 v3,S=pst M (Ms.dd ((M.take i).flatten.map ab)) (λy=>y) v2 v3 none none) (ds:=M.map dI) (S:=pst M [] (λy=>y) none none none none) ⟨none,none,by rw[ed];rfl⟩ (by
  rintro i d S hd ⟨v2,v3,rfl⟩;rw[gMq]at hd;obtain⟨r,hr,rfl⟩:=oMq.mp hd;have et:(M.take (i+1)).flatten=(M.take i).flatten++r:=by rw[bH,hr,fAq];show _++(r++[])=_;rw[aNq]
  have hl2:((M.take i).flatten++r).length<=1000:=by
   rw[←et];have:((M.take (i+1)).flatten++(M.drop (i+1)).flatten).length=M.flatten.length:=by rw[←fAq,aY]
   rw[lAq]at this;lia
  obtain⟨v3',e1⟩:=Mc (M:=M) (v2:=some (.sh (dI r))) (v3:=v3) hl2;refine⟨pst M (Ms.dd ((M.take (i+1)).flatten.map ab)) (λy=>y) (some (.sh (dI r))) v3' none none,?_,_,_,rfl⟩
  rw[et];unfold pst at e1 ⊢
  simp_arith [vI,e1,dI])
 obtain⟨S',e,v2,v3,rfl⟩:=key;rw[lMq,bo]at e;exact⟨v2,v3,e⟩
theorem U9{M:List (List Int)}{U:List Int}{f:Int->Int}{gone:List Int}{g0:Int}{v2 v3 v5:Option AV}(hU:U.Nodup) (lU:U.length<=1000) (hg:gone[0]?=some g0∨gone=[]) :
  ∃v5',tF 5 uy (U.map D.int) (pst M U f v2 v3 (some (.ow (gone.map λn=>.sh (.int n)))) v5)=some (.nx (pst M U (xk f gone g0) v2 v3 (some (.ow (gone.map λn=>.sh (.int n)))) v5')):=by
 have key:=xq (x:=5) (body:=uy) (λi S=>∃v5,S=pst M U (λz=>if z∈U.take i then xk f gone g0 z else f z) v2 v3 (some (.ow (gone.map λn=>.sh (.int n)))) v5) (ds:=U.map D.int) (S:=pst M U f v2 v3 (some (.ow (gone.map λn=>.sh (.int n)))) v5) ⟨v5,by
  unfold pst;rw[ym (f:=f) (g:=λz=>if z∈U.take 0 then xk f gone g0 z else f z) λz _=>by rw[ed,pV (by simp)]]⟩ (by
  rintro i d S hd ⟨v5,rfl⟩;rw[gMq]at hd;obtain⟨z,hz,rfl⟩:=oMq.mp hd;have et:U.take (i+1)=U.take i++[z]:=by rw[bH,hz];rfl
  have zU:z∈U:=mGq hz;have zn:z∉U.take i:=by
   have h2:=hU.sublist (bG (i+1) U);rw[et]at h2;exact λh=>(nAq.mp h2).2.2 z h z (mSq.mpr rfl) rfl
  refine⟨pst M U (λz=>if z∈U.take (i+1) then xk f gone g0 z else f z) v2 v3 (some (.ow (gone.map λn=>.sh (.int n)))) (some (.sh (.int z))),?_,_,rfl⟩
  have gz:Z.getD (md U λz=>if z∈U.take i then xk f gone g0 z else f z) (.inl z)=some (.int (f z)):=by
   rw[FU zU,pV zn]
  have hin:=IQ false (f z) gone;rw[pV (by simp)]at hin
  have lm:(md U λz=>if z∈U.take i then xk f gone g0 z else f z).length<rY:=aG (show (md U _).length<2000 by unfold K45.md;rw[lMq];lia) (by decide)
  by_cases c:f z∈gone
  .rw [decide_eq_true c]at hin;have hg:gone[0]?=some g0:=hg.resolve_right λq=>by rw[q]at c;cases c
   have a0:atI (gone.map D.int) 0=some (.int g0):=vL (j:=0) (by rw[gMq,hg];rfl)
   have mp:=Iy (f:=λz=>if z∈U.take i then xk f gone g0 z else f z) (v:=g0) zU
   have e2:(md U λy=>if y=z then g0 else if y∈U.take i then xk f gone g0 y else f y)=md U λy=>if y∈U.take (i+1) then xk f gone g0 y else f y:=ym λy _=>by
    rw[et]
    by_cases d:y=z
    .subst d;rw[qe rfl,qe (ag _ (mSq.mpr rfl))];unfold K45.xk;rw[qe c]
    .rw [pV d];refine ite_congr (propext ⟨λh=>ah _ h,λh=>?_⟩) (λ_=>rfl) λ_=>rfl
     exact(mAq.mp h).resolve_right λq=>d (mSq.mp q)
   rw[e2]at mp;unfold pst
   simp_arith [uy,gz,hin,a0,lm,mp]
  .rw [decide_eq_false c]at hin;have e2:(md U λy=>if y∈U.take i then xk f gone g0 y else f y)=md U λy=>if y∈U.take (i+1) then xk f gone g0 y else f y:=ym λy _=>by
    rw[et]
    by_cases d:y=z
    .subst d;rw[pV zn,qe (ag _ (mSq.mpr rfl))];unfold K45.xk;rw[pV c]
    .refine ite_congr (propext ⟨λh=>ah _ h,λh=>?_⟩) (λ_=>rfl) λ_=>rfl
     exact(mAq.mp h).resolve_right λq=>d (mSq.mp q)
   unfold pst;rw[←e2]
   simp_arith [uy,gz,hin])
 obtain⟨S',e,v5',rfl⟩:=key;refine⟨v5',e.trans ?_⟩;unfold pst;rw[ym (f:=λz=>if z∈U.take (U.map D.int).length then xk f gone g0 z else f z) (g:=xk f gone g0) λz hz=>by rw[lMq,bo,qe hz]]
section
variable {M:List (List Int)}
structure Pj (M:List (List Int)) (k:Nat) (f:Int->Int):Prop where
 snd:∀z z',z∈M.flatten.map ab->z'∈M.flatten.map ab->f z=f z'->∀T:Int->Prop,(∀x,T x->T (-x))->(∀r∈M,∀x∈r,∀y∈r,T x->T y)->T z->T z'
 cmp:∀j,j<k->∀row,M[j]?=some row->∀e e',e∈row->e'∈row->f (ab e)=f (ab e')
theorem RL{T:Int->Prop}(neg:∀x,T x->T (-x)) {e:Int}:T (ab e)↔T e:=by
 rcases EW e with q|q <;> rw[q]
 exact⟨λh=>by have:=neg _ h;rwa [bj]at this,neg e⟩
theorem Pj.step{k:Nat}{f:Int->Int}(h:Pj M k f) {row:List Int}{g0:Int}(hk:M[k]?=some row) (hx:(row.map λe=>f (ab e))[0]?=some g0∨(row.map λe=>f (ab e))=[]):Pj M (k+1) (xk f (row.map λe=>f (ab e)) g0):=by
 have x0:∀z,f z∈(row.map λe=>f (ab e))->g0∈row.map λe=>f (ab e):=λz hz=>hx.elim (λq=>mGq q) λq=>by rw[q]at hz;cases hz
 refine⟨λz z' hz hz' q T neg rw'=>?_,λj hj s hs e e' he he'=>?_⟩
 .unfold K45.xk at q
  by_cases c:f z∈row.map λe=>f (ab e)
  .by_cases c':f z'∈row.map λe=>f (ab e)
   .intro t;obtain⟨e,he,q1⟩:=mMq.mp c;obtain⟨e',he',q2⟩:=mMq.mp c';have t1:=h.snd z (ab e) hz (Gr hk he) q1.symm T neg rw' t;have t2:=rw' row (mGq hk) e he e' he' ((RL neg).mp t1);exact h.snd (ab e') z' (Gr hk he') hz' q2 T neg rw' ((RL neg).mpr t2)
   .rw [qe c,pV c']at q;exact absurd (q ▸ x0 z c) c'
  .by_cases c':f z'∈row.map λe=>f (ab e)
   .rw [pV c,qe c']at q;exact absurd (q ▸ x0 z' c') c
   .rw [pV c,pV c']at q;exact h.snd z z' hz hz' q T neg rw'
 .by_cases c:j=k
  .subst c;rw[hk]at hs;cases hs;unfold K45.xk;rw[qe (mMq.mpr ⟨e,he,rfl⟩),qe (mMq.mpr ⟨e',he',rfl⟩)]
  .unfold K45.xk;rw[h.cmp j (by lia) s hs e e' he he']
theorem Pj.count(hm:Mp M) {f:Int->Int}(h:Pj M M.length f):(Ms.dd ((Ms.dd (M.flatten.map ab)).map f)).length+M.count []=pn M:=by
 obtain⟨kn,PS,hp,e⟩:=vA hm;have bp:=yN (xF hm) hp;have pm:(cls M PS).flatten.Perm M:=K12.ti hp;have cb:=zp bp.ba;have lA:(cls M PS).length=pn M:=by rw[←e];exact lMq _
 have sp:=cY (λp=>decide (p=[[]])) (l:=cls M PS)
 have cl:∀p∈cls M PS,(∀x,x∈p.flatten->-x∈p.flatten)/\(∀r∈M,∀x∈r,∀y∈r,x∈p.flatten->y∈p.flatten)/\∀S:Int->Prop,(∀x,S x->S (-x))->(∀r∈M,∀x∈r,∀y∈r,S x->S y)->∀x∈p.flatten,S x->∀y∈p.flatten,S y:=λp hp'=>by
  obtain⟨ps,hps,rfl⟩:=mMq.mp hp';obtain⟨s,_,pc⟩:=hp.pc ps hps;exact⟨λx hx=>uz (xF hm) pc hx,λr hr x hx y hy h=>vH (xF hm) pc hr hx hy h,λS h1 h2 x hx hs=>Al (xF hm) pc h1 h2 hx hs⟩
 have fp:=K17.uk pm;rw[pm.count_eq]at cb;generalize cls M PS=A at bp pm cb lA sp cl fp;have hd:∀p∈A,p≠[[]]->p.flatten.headD 0∈p.flatten:=λp h1 h2=>by
  have:=bp.fne h1 h2;cases q:p.flatten with
  |nil=>exact absurd q this
  |cons a l=>exact af ..
 have inM:∀p∈A,∀x∈p.flatten,x∈M.flatten:=λp h1 x hx=>fp.mem_iff.mp (by
  obtain⟨r,hr,hxr⟩:=mFq.mp hx;exact mFq.mpr ⟨r,mFq.mpr ⟨p,h1,hr⟩,hxr⟩)
 have mab:∀x∈M.flatten,ab x∈M.flatten.map ab:=λx hx=>mMq.mpr ⟨x,hx,rfl⟩
 have nd:((A.filter λp=>!decide (p=[[]])).map λp=>f (ab (p.flatten.headD 0))).Nodup:=by
  have k:=C9 (CK bp.nd λp=>!decide (p=[[]])) λp hp'=>by
   obtain⟨h1,h2⟩:=ao.mp hp';exact bp.fne h1 (by simpa using h2)
  have k:(A.filter λp=>!decide (p=[[]])).Pairwise λa b=>a.flatten.min? ≠ b.flatten.min?:=bb.mp k
  refine bb.mpr (k.imp_of_mem λ{a b} ha hb ne q=>ne ?_)
  obtain⟨a1,a2⟩:=ao.mp ha;obtain⟨b1,b2⟩:=ao.mp hb;have a3:=hd a a1 (by simpa using a2)
  have b3:=hd b b1 (by simpa using b2)
  obtain⟨ca1,ca2,ca3⟩:=cl a a1;obtain⟨cb1,cb2,cb3⟩:=cl b b1;have t1:=(RL (T:=(· ∈ a.flatten)) ca1).mp (h.snd _ _ (mab _ (inM a a1 _ a3)) (mab _ (inM b b1 _ b3)) q (· ∈ a.flatten) ca1 ca2 ((RL (T:=(· ∈ a.flatten)) ca1).mpr a3));obtain⟨m,m1,m2,_⟩:=DY (a:=a.flatten) (b:=b.flatten) (λy=>⟨ca3 (· ∈ b.flatten) cb1 cb2 _ t1 b3 y,cb3 (· ∈ a.flatten) ca1 ca2 _ b3 t1 y⟩) λq=>by rw[q]at a3;cases a3
  rw[m1,m2]
 have pe:(Ms.dd ((Ms.dd (M.flatten.map ab)).map f)).Perm ((A.filter λp=>!decide (p=[[]])).map λp=>f (ab (p.flatten.headD 0))):=by
  refine(bA (Ms.EZ _) nd).mpr λy=>?_
  rw[Ms.yL];constructor
  .intro hy;obtain⟨z,hz,rfl⟩:=mMq.mp hy;obtain⟨x,hx,rfl⟩:=mMq.mp (Ms.yL.mp hz);obtain⟨r,hr,hxr⟩:=mFq.mp (fp.mem_iff.mpr hx);obtain⟨p,hp',hrp⟩:=mFq.mp hr;have xp:x∈p.flatten:=mFq.mpr ⟨r,hrp,hxr⟩;have nb:p≠[[]]:=λq=>by rw[q]at xp;simp at xp
   refine mMq.mpr ⟨p,ao.mpr ⟨hp',by simpa using nb⟩,?_⟩
   exact(cl p hp').2.2 (λy=>f (ab y)=f (ab x)) (λy hy=>by rw[zL];exact hy) (λr hr a ha b hb q=>by
    obtain⟨i,hi⟩:=aC.mp hr;rw[←h.cmp i (gSq.mp hi).1 r hi a b ha hb];exact q) x xp rfl _ (hd p hp' nb)
  .intro hy;obtain⟨p,hp',rfl⟩:=mMq.mp hy;obtain⟨h1,h2⟩:=ao.mp hp';exact mMq.mpr ⟨_,Ms.yL.mpr (mab _ (inM p h1 _ (hd p h1 (by simpa using h2)))),rfl⟩
 have lf:=pe.length_eq;rw[lMq,←cm]at lf;have cc:A.countP (λp=>!decide (p=[[]]))=A.countP λa=>decide ¬ (decide (a=[[]])=true):=iE λp _=>by simp
 lia
theorem NS{U:List Int}{f:Int->Int}:rF rG (kSc (AK (pd 1) (pd 0))) [some (.sh (.fd (md U f)))] (U.map D.int)=some ((U.map f).map λn=>.sh (.int n)):=by
 rw[Z.rP (λd=>match d with|.int i=>AV.sh (.int (f i))|_=>.sh .non)]
 .rw [mPq,mPq];rfl
 .intro d hd;obtain⟨e,he,rfl⟩:=mMq.mp hd;have g:=FU (f:=f) he;refine⟨[some (.sh (.int e)),some (.sh (.fd (md U f)))],?_⟩
  simp_arith [Gw,Gx,g]
theorem pieces_ok(hm:Mp M):ud [dM M]=some (.sh (.int (pn M:Nat))):=by
 obtain⟨v2,v3,e1⟩:=NV (M:=M) hm.hl;have hU:=Ms.EZ (M.flatten.map ab);have lU:=Ms.Fk (M.flatten.map ab);have mU:∀{z:Int},z∈Ms.dd (M.flatten.map ab)↔z∈M.flatten.map ab:=Ms.yL;have cn:∀{f:Int->Int},Pj M M.length f->(Ms.dd ((Ms.dd (M.flatten.map ab)).map f)).length+M.count []=pn M:=λh=>h.count hm
 rw[lMq]at lU;have hl:=hm.hl;generalize Ms.dd (M.flatten.map ab)=U at e1 hU lU mU cn;have key:=xq (x:=2) (body:=xM) (λi S=>∃f v2 v4 v5,S=pst M U f v2 v3 v4 v5/\Pj M i f) (ds:=M.map dI) (S:=pst M U (λy=>y) v2 v3 none none) ⟨λy=>y,v2,none,none,rfl,λz z' _ _ q T _ _ t=>q ▸ t,λj h=>absurd h (by lia)⟩ (by
  rintro i d S hd ⟨f,v2,v4,v5,rfl,hi⟩;rw[gMq]at hd;obtain⟨row,hk,rfl⟩:=oMq.mp hd;have rl:=hm.row hk;have gc:=K45.Lj (U:=U) (f:=f) (row:=row) λe he=>mU.mpr (Gr hk he)
  have l1:row.length<=rY:=rN (by lia)
  obtain⟨g0,hg⟩:∃g0,(row.map λe=>f (ab e))[0]?=some g0∨(row.map λe=>f (ab e))=[]:=by
   cases row with
   |nil=>exact⟨0,.inr rfl⟩
   |cons x row=>exact⟨f (ab x),.inl rfl⟩
  obtain⟨v5',e2⟩:=U9 (M:=M) (f:=f) (gone:=row.map λe=>f (ab e)) (g0:=g0) (v2:=some (.sh (dI row))) (v3:=v3) (v5:=v5) hU (by lia) hg
  refine⟨pst M U (xk f (row.map λe=>f (ab e)) g0) (some (.sh (dI row))) v3 (some (.ow ((row.map λe=>f (ab e)).map λn=>.sh (.int n)))) v5',?_,xk f (row.map λe=>f (ab e)) g0,_,_,v5',rfl,hi.step hk hg⟩
  have cl:∀l:List Int,xJ (.ow (l.map λn=>.sh (.int n)))=true:=λl=>by
   induction l with
   |nil=>rfl
   |cons x l ih=>exact ih
  have kU:(md U f).map (λp=>AV.sh (kD p.1))=(U.map λz=>AV.sh (.int z)):=by unfold K45.md;rw[mPq];rfl
  generalize hG:(row.map λe=>f (ab e))=G at gc e2
  unfold pst at e2 ⊢
  simp_arith [xM,dM,dI,Oe,EV,Hb,gc,l1,cl,Kz,kU,e2])
 obtain⟨S',e,f,v2',v4,v5,rfl,hi⟩:=key;rw[lMq]at hi;have c:=cn hi;have vc:=NS (U:=U) (f:=f);have kU:(md U f).map (λp=>kD p.1)=U.map D.int:=by unfold K45.md;rw[mPq];rfl
 have lm:(md U f).length<=rY:=rN (by unfold K45.md;rw[lMq];lia)
 have lu:U.length<=rY:=rN (by lia)
 have l4:U.length<=4000:=by lia
 have l5:(U.map f).length<=4000:=by rw[lMq];lia
 have cq:M.countP (·=([]:List Int))=M.count []:=iE λx _=>by simp
 have fin:(((Ms.dd (U.map f)).length:Nat):Int)+((M.count []:Nat):Int)=((pn M:Nat):Int):=by lia
 unfold pst at e e1;have m0:md [] (λy=>y)=[]:=rfl
 rw[m0]at e1
 simp_arith [ud,Cf,dM,e1,e,Sx,vp,kU,vc,lm,lu,P8,l4,l5,cq,fin]
end
section
variable {M L:List (List Int)}
theorem Wa{f:Int->Int}{E:List Int}(o:Ee f E L):(Ms.dd (L.flatten.map (K44.fl (K44.ux L)))).length=L.length:=by
 have ne:∀l∈L,l≠[]:=λl hl q=>by
  obtain⟨e,c⟩:=o.cy l hl;have:=c.self;rw[q]at this;cases this
 have nd:(L.map λl=>l.headD 0).Nodup:=bb.mpr (aZ.imp_of_mem (λ{a b} ha hb n q=>n (K44.G6 o ha hb q)) (K45.E5 o.dj ne))
 have pe:(Ms.dd (L.flatten.map (K44.fl (K44.ux L)))).Perm (L.map λl=>l.headD 0):=(bA (Ms.EZ _) nd).mpr λy=>by
  rw[Ms.yL];constructor
  .intro hy;obtain⟨x,hx,rfl⟩:=mMq.mp hy;obtain⟨l,hl,hxl⟩:=mFq.mp hx;exact mMq.mpr ⟨l,hl,(K46.IK o hl hxl).symm⟩
  .intro hy;obtain⟨l,hl,rfl⟩:=mMq.mp hy;obtain⟨a,t,e⟩:=K18.sr (ne l hl);have ha:a∈l:=by rw[e];exact af ..
   exact mMq.mpr ⟨a,mFq.mpr ⟨l,hl,ha⟩,K46.IK o hl ha⟩
 rw[pe.length_eq,lMq]
theorem OA{f:Int->Int}{E:List Int}(o:Ee f E L):rF rG (kSc (AK (pd 1) (pd 0))) [some (.sh (.fd (K16.yR (K44.ux L))))] (L.flatten.map D.int)=some ((L.flatten.map (K44.fl (K44.ux L))).map λn=>.sh (.int n)):=by
 rw[Z.rP λd=>match d with|.int x=>.sh (.int (K44.fl (K44.ux L) x))|_=>.sh .non]
 .rw [mPq,mPq];rfl
 .intro d hd;obtain⟨x,hx,rfl⟩:=mMq.mp hd;obtain⟨l,hl,hxl⟩:=mFq.mp hx;have g:=K44.Gc o hl hxl;have e:=K46.IK o hl hxl;refine⟨[some (.sh (.int x)),some (.sh (.fd (K16.yR (K44.ux L))))],?_⟩
  simp_arith [Gw,Gx,g,e]
theorem Io(h:Mv M):∃z:Int,uN [dM M]=some (.sh (.int z))/\(Bl M->z=2*((pn M:Nat):Int)):=by
 obtain⟨L,o,el⟩:=K44.Hi h.mp;have hle:=h.le;have hlv:=h.lv;have vc:=OA o;have fd:=Wa o;have lf:L.flatten.length=M.flatten.length:=((bA o.dj h.mp.hn).mpr o.all).length_eq;have ln:(K16.yR (K44.ux L)).length=M.flatten.length:=by
  unfold K16.yR;rw[lMq,←lf,←K44.ye,lMq]
 have kU:(K16.yR (K44.ux L)).map (λp=>kD p.1)=L.flatten.map D.int:=by
  unfold K16.yR;rw[mPq,←K44.ye,mPq];rfl
 have lu:L.flatten.length<=rY:=rN (by lia)
 have l4:L.flatten.length<=4000:=by lia
 have l5:(L.flatten.map (K44.fl (K44.ux L))).length<=4000:=by rw[lMq];lia
 have cq:M.countP (·=([]:List Int))=M.count []:=iE λx _=>by simp
 have d2:=zI (i:=((M.flatten.length:Nat):Int)) (j:=2) (by decide) (by decide)
 refine⟨((M.length:Nat):Int)-((M.flatten.length:Nat):Int) / 2+((L.length:Nat):Int)+((M.count []:Nat):Int),?_,λb=>?_⟩
 .simp_arith [uN,Bb,dM,el,ln,d2,Sx,vp,kU,vc,lu,P8,l4,l5,fd,cq]
 .have ⟨LL,lq,e⟩:=b;have pm:=(Ee.perm (K15.xf h.mp) o (lq.orb h.mp)).length_eq;rw[lMq,lMq]at pm;unfold K18.nL at e;lia
end
end K47
--ZQ3 --ZQ4 --ZQ5 --ZQ6 --ZQ8 --ZQ9 --ZQB --ZQC --ZQD --ZQE --ZQF --ZQG
namespace K47
open PySem L2 Mr Z Xe Zl
open K18 (PC wW pI ug cp Ln nL)
open K41 (ab U4 zL)
open K45 (Lk Vb Ap Qk)
open K43 (xF)
section
variable {M W X:List (List Int)}{p:Nat}{r:List Int}
theorem KF(hm:Mp W):pn (tR (W.map good))=pn W:=by
 have pG:(tR (W.map good)).flatten.Perm W.flatten:=(qb (qW _)).trans (rq rJ _);have ro:∀t∈tR (W.map good),∃w∈W,∀x,x∈t↔x∈w:=λt ht=>by
  obtain⟨w,hw,e⟩:=mMq.mp ((qW _).mem_iff.mp ht);exact⟨w,hw,λx=>by rw[←e];exact(rJ w).mem_iff⟩
 have wo:∀w∈W,∃t∈tR (W.map good),∀x,x∈t↔x∈w:=λw hw=>⟨good w,(qW _).mem_iff.mpr (mMq.mpr ⟨w,hw,rfl⟩),λx=>(rJ w).mem_iff⟩
 have cn:=K18.Gj W [];unfold K18.nL at cn;have mp:Mp (tR (W.map good)):=⟨pG.nodup_iff.mpr hm.hn,by rw[pG.length_eq];exact hm.hl,by rw[sC,lMq];exact hm.hr,λe he=>pG.mem_iff.mpr (hm.hneg e (pG.mem_iff.mp he))⟩
 refine FP mp hm (λx=>pG.mem_iff) (by lia) (λS _ h t ht x hx y hy=>?_) λS _ h t ht x hx y hy=>?_
 .obtain ⟨w,hw,i⟩:=ro t ht;exact h w hw x ((i x).mp hx) y ((i y).mp hy)
 .obtain ⟨w,hw,i⟩:=wo t ht;exact h w hw x ((i x).mpr hx) y ((i y).mpr hy)
theorem KQ(h:Mv W):Mv (tR (W.map good)):=by
 have pG:(tR (W.map good)).flatten.Perm W.flatten:=(qb (qW _)).trans (rq rJ _);have lG:(tR (W.map good)).length=W.length:=by rw[sC,lMq]
 have mp:Mp (tR (W.map good)):=⟨pG.nodup_iff.mpr h.mp.hn,by rw[pG.length_eq];exact h.mp.hl,by rw[lG];exact h.mp.hr,λe he=>pG.mem_iff.mpr (h.mp.hneg e (pG.mem_iff.mp he))⟩
 exact⟨mp,λe he=>h.nz e (pG.mem_iff.mp he),by rw[lG];exact h.lv,by rw[pG.length_eq];exact h.le⟩
theorem Rf(h:Mv W) (b:Bl W):Bl (tR (W.map good)):=by
 have pG:(tR (W.map good)).flatten.Perm W.flatten:=(qb (qW _)).trans (rq rJ _);obtain⟨LL,ln,e⟩:=b;refine⟨LL,ln.rows,?_⟩;rw[KF h.mp,K18.Gj,pG.length_eq,sC,lMq];exact e
theorem Mf(hm:Mp M) (hr:M[p]?=some r) (fam:Vb (λz z'=>z=z'∨Lk M r p z z') (Ms.dd (r.map ab)) X):rest X r=r/\Gs X r (M.eraseIdx p):=by
 have inX:∀e∈r,∃x∈X,ab e∈x:=λe he=>mFq.mp (fam.fl.mem_iff.mpr (Ms.yL.mpr (mMq.mpr ⟨e,he,rfl⟩)))
 have er:rest X r=r:=eS.mpr λe he=>by
  obtain⟨x,hx,h⟩:=inX e he;exact df.mpr ⟨x,hx,decide_eq_true h⟩
 have Xq:X.flatten.Nodup:=fam.fl.nodup_iff.mpr (Ms.EZ _);refine⟨er,λy hy=>?_,(FK Xq).imp λ{a b} h x hx hx'=>h x hx x hx' rfl,λy hy q=>?_⟩
 .rw [er];refine⟨λe=>@decide (ab e∈y∨∃z∈y,Lk M r p z (ab e)) (aH _),λe _=>?_,λt ht a ha b hb=>?_,λe he=>?_⟩
  .exact congrArg (λw=>@decide (w∈y∨∃z∈y,Lk M r p z w) (aH _)) (zL e)
  .obtain ⟨i,hi,ht'⟩:=eU.mp ht;have one:∀{a b:Int},a∈t->b∈t->(ab a∈y∨∃z∈y,Lk M r p z (ab a))->ab b∈y∨∃z∈y,Lk M r p z (ab b):=λ{a b} ha hb h=>by
    refine .inr ?_;rcases h with h|⟨z,hz,a',b',h1,h2,h3,h4,h5⟩
    .exact ⟨_,h,i,i,hi,hi,⟨a,t,ht',ha,rfl⟩,⟨b,t,ht',hb,rfl⟩,.base⟩
    .exact ⟨z,hz,a',i,h1,hi,h3,⟨b,t,ht',hb,rfl⟩,h5.trans (h4.two hm hr ⟨a,t,ht',ha,rfl⟩ h2 hi)⟩
   exact decide_eq_decide.mpr ⟨one ha hb,one hb ha⟩
  .refine decide_eq_decide.mpr ⟨λh=>?_,.inl⟩
   rcases h with h|⟨z,hz,lk⟩
   .exact h
   .obtain ⟨x,hx,h⟩:=inX e he;rw[fam.on y hy x hx z hz _ h (.inr lk)];exact h
 .obtain ⟨z,l,e⟩:=K18.sr (fam.ne y hy);have hz:z∈y:=by rw[e];exact af ..
  obtain⟨a,ha,rfl⟩:=mMq.mp (Ms.yL.mp (fam.fl.mem_iff.mp (mFq.mpr ⟨y,hy,hz⟩)));have:a∈qZ r y:=ao.mpr ⟨ha,decide_eq_true hz⟩;rw[q]at this;cases this
theorem Hm:∀{X:List (List Int)},(∀x∈X,x≠[])->X.length<=X.flatten.length
 | [],_=>aj _
 |x::X,h=>by
  have i:=Hm λy hy=>h y (mCo _ hy)
  have:=dJ.mpr (h x (af ..));rw[fCq,lAq,lCq];lia
def GC(M:List (List Int)) (p:Nat) (r:List Int) (G:List (List Int)):List (List Int):=if r=[] then M else (M.take p++G.map (qZ r))++M.drop (p+1)
theorem E3(t y:List Int):rF (uS (qG (G2 false) (uO BC (oZ (pd 0) pO)) (pd 1))) (qp 0) [some (.sh (.list (y.map D.int)))] (t.map D.int)=some ((qZ t y).map λn=>.sh (.int n)):=by
 rw[Z.zl (λd=>match d with|.int e=>decide (ab e∈y)|_=>false) (λd=>.sh d)]
 .rw [jW,mPq];rfl
 .intro d hd;obtain⟨e,he,rfl⟩:=mMq.mp hd;have hin:=IQ false (ab e) y;rw[pV (by simp)]at hin
  refine⟨[some (.sh (.int e)),some (.sh (.list (y.map D.int)))],?_,λ_=>⟨_,rfl⟩⟩
  simp_arith [U4,hin]
theorem QW{t y:List Int}(hl:t.length<=1000):ue [dI t,dI y]=some (aI (qZ t y)):=by
 have cf:=E3 t y;have l1:t.length<=rY:=rN (by lia)
 simp_arith [ue,Af,dI,cf,l1]
theorem Mz(h:Mv M) (h1:M.length<=100) (h2:M.flatten.length<=100) (hr:M[p]?=some r):∃G:List (List Int),K41.tS [dM M,.int (p:Int)]=some (.ow (G.map aI))/\G.length<=100/\ve [dM M,.int (p:Int)]=some (.ow ((tR ((GC M p r G).map good)).map aI))/\Mv (GC M p r G)/\pn (GC M p r G)=pn M+(G.length-1)/\(Bl M->Bl (GC M p r G))/\(∀t∈GC M p r G,t.length<=100):=by
 obtain⟨X,e,fam⟩:=Ap h.mp h.nz hr;have rl:r.length<=M.flatten.length:=K12.FF hr;have lX:(tR X).length<=r.length:=by
  rw[sC];have a1:=Hm fam.ne;have a2:=fam.fl.length_eq;have a3:=Ms.Fk (r.map ab);rw[lMq]at a3;lia
 have at1:atI (M.map dI) (p:Int)=some (dI r):=vL (by rw[gMq,hr];rfl)
 refine⟨tR X,e,by lia,?_⟩
 by_cases c:r=[]
 .subst c;have e0:tR X=[]:=bc.mp (by simpa using lX)
  have ig:=uf (rs:=M) (λt ht=>by have:=zi ht;lia) (rN (by lia))
  have ef:GC M p [] (tR X)=M:=qe rfl;have d0:decide (((0:Nat):Int)=0)=true:=rfl;rw[ef,e0];refine⟨?_,h,rfl,id,λt ht=>by have:=zi ht;lia⟩
  have a2:atI (M.map dI) (p:Int)=some (.list []):=at1
  simp_arith [ve,BV,dM,a2,ig,d0]
 .have ef:GC M p r (tR X)=(M.take p++(tR X).map (qZ r))++M.drop (p+1):=pV c;obtain⟨er,gs⟩:=Mf h.mp hr fam;have neX:X≠[]:=λq=>by
   have:=fam.fl.length_eq;rw[q]at this;obtain⟨a,l,ea⟩:=K18.sr c;have hin:ab a∈Ms.dd (r.map ab):=Ms.yL.mpr (mMq.mpr ⟨a,by rw[ea];exact af ..,rfl⟩)
   rw[bc.mp this.symm]at hin;cases hin
  have pM:=K18.FD hr;have mvR:Mv (rest X r::M.eraseIdx p):=by rw[er];exact h.perm pM
  have lR:(M.eraseIdx p).length<=M.length:=by have:=pM.length_eq;rw[lCq]at this;lia
  rw[sC]at lX;obtain⟨a1,a2⟩:=apart neX gs mvR (by lia)
  rw[er]at a1 a2;have pW:(X.map (qZ r)++M.eraseIdx p).Perm (GC M p r (tR X)):=by
   rw[ef,List.eraseIdx_eq_take_drop_succ];refine(aU.append_right _ ((qW X).symm.map (qZ r))).trans ?_;rw[←ai];exact aU.append_right _ aF
  have fl:(X.map (qZ r)++M.eraseIdx p).flatten.Perm M.flatten:=by
   rw[fAq];have q:=DQ (r:=r) X gs.dj;rw[er]at q;refine(aU.append_right _ q).trans ?_;rw[←fCq];exact(qb pM).symm
  have mv0:Mv (X.map (qZ r)++M.eraseIdx p):=by
   have lw:(X.map (qZ r)++M.eraseIdx p).length<=300:=by rw[lAq,lMq];lia
   exact⟨⟨fl.nodup_iff.mpr h.mp.hn,by rw[fl.length_eq];lia,by lia,λe he=>fl.mem_iff.mpr (h.mp.hneg e (fl.mem_iff.mp he))⟩,λe he=>h.nz e (fl.mem_iff.mp he),by lia,by rw[fl.length_eq];lia⟩
  have rows:∀t∈GC M p r (tR X),t.length<=100:=λt ht=>by
   have:=zi (pW.mem_iff.mpr ht);rw[fl.length_eq]at this;lia
  have lW:(GC M p r (tR X)).length<=300:=by
   rw[←pW.length_eq,lAq,lMq];lia
  refine⟨?_,mv0.perm pW,?_,λb=>(a2 (b.perm h.mp pM)).perm mv0.mp pW,rows⟩
  .have ig:=uf (rs:=GC M p r (tR X)) (λt ht=>by have:=rows t ht;lia) (rN (by lia))
   have lG:(tR X).length<=rY:=rN (by rw[sC];lia)
   have sG:((tR X).map aI).map pH=(tR X).map dI:=by rw[mPq];exact mCq λr _=>qP r
   have gc:rF rG (rH K47.ue (qk (NT (vd 1) (pd 2)) (qk (qp 0) rS))) [some (.sh (dM M)),some (.sh (.int (p:Int)))] ((tR X).map dI)=some (((tR X).map (qZ r)).map aI):=by
    rw[Z.rP λd=>aI (qZ r (C4 d))]
    .rw [mPq,mPq];exact congrArg some (mCq λy _=>by show aI (qZ r (C4 (dI y)))=_;rw[xE];rfl)
    .intro d hd;obtain⟨y,hy,rfl⟩:=mMq.mp hd;have oo:=QW (t:=r) (y:=y) (by lia)
     refine⟨[some (.sh (dI y)),some (.sh (dM M)),some (.sh (.int (p:Int)))],?_⟩;rw[xE]
     simp_arith [dM,at1,oo]
   have r0:decide (((r.length:Nat):Int)=0)=false:=decide_eq_false λq=>c (bc.mp (by lia))
   have sP:(((tR X).map (qZ r)).map aI).map pH=((tR X).map (qZ r)).map dI:=by rw[mPq];exact mCq λr _=>qP r
   rw[ef]at ig;have hp:=(gSq.mp hr).1;have c1:yX (M.map dI) none (some (p:Int))=(M.take p).map dI:=by rw[yn,Fg _ _ (by lia)]
   have c2:yX (M.map dI) (some ((p:Int)+1)) none=(M.drop (p+1)).map dI:=by
    have:((p:Int)+1)=((p+1:Nat):Int):=by lia
    rw[this,yn,BL _ _ (by lia)]
   rw[ef];have lt:=ic p M;have ld:=aJ (i:=p+1) (l:=M);have lx:=sC X;have lc:(M.take p).length+(tR X).length<=rY:=rN (by lia)
   have lc2:((M.take p).map dI++((tR X).map (qZ r)).map dI).length+(M.drop (p+1)).length<=rY:=rN (by rw[lAq,lMq,lMq,lMq];lia)
   have ap:(M.take p).map dI++((tR X).map (qZ r)).map dI++(M.drop (p+1)).map dI=((M.take p++(tR X).map (qZ r))++M.drop (p+1)).map dI:=by rw[mBq,mBq]
   simp_arith [ve,BV,dM,at1,dI,r0,e,sG,gc,lG,c1,c2,sP,lc,lc2,ap,ig]
  .rw [←Bf mv0.mp pW,sC,Bf h.mp pM];have:0<X.length:=dJ.mpr neX;lia
end
end K47
--ZQ3 --ZQ4 --ZQ5 --ZQ6 --ZQ8 --ZQ9 --ZQB --ZQC --ZQD --ZQE --ZQF --ZQG
namespace K47
open PySem L2 Mr Z Xe Zl
open K31 (Nm CF N4 FR yt zO)
open K41 (Kl Qb)
open K44 (Mt Pn C0)
open K46 (Ny E4 Ho)
theorem Rq{rs:List (List Int)}(h:∀r∈rs,r.length<=1000):∃bs,yK (.int 0) (rs.map aI)=some bs:=by
 induction rs with
 |nil=>exact⟨[],rfl⟩
 |cons r rs ih =>
  obtain⟨bs,e⟩:=ih λr hr=>h r (mCo _ hr)
  have h1:(r.map λn=>AV.sh (.int n)).length<rY:=aG (show _<2000 by rw[lMq];have:=h r (af ..);lia) (by decide)
  refine⟨.ow ((r.map λn=>AV.sh (.int n))++[.sh (.int 0)])::bs,?_⟩
  show vY ((r.map λn=>AV.sh (.int n)).length<rY) ((yK (.int 0) (rs.map aI)).map _)=_
  rw[wk h1,e];rfl
theorem NZ{M B G:List (List Int)}{r:List Int}{p:Nat}(hr:M[p]?=some r) (rl:r.length<=1000) (hB:B.length+G.length<=1000) {x:AV}(hx:pH x=dM M) {v0 v1 v2 v3 v4 v7 v8 v9 v12 v13:Option AV}:∃x' v11,tF 11 zE (G.map dI) [v0,v1,v2,v3,v4,some x,some (.sh (.int (p:Int))),v7,v8,v9,some (.ow (B.map λr=>.sh (.list (r.map D.int)))),none,v12,v13]=some (.nx [v0,v1,v2,v3,v4,some x',some (.sh (.int (p:Int))),v7,v8,v9,some (.ow ((B++G.map (qZ r)).map λr=>.sh (.list (r.map D.int)))),v11,v12,v13])/\pH x'=dM M:=by
 have key:=xq (x:=11) (body:=zE) (λi S=>∃x v11,S=[v0,v1,v2,v3,v4,some x,some (.sh (.int (p:Int))),v7,v8,v9,some (.ow ((B++(G.take i).map (qZ r)).map λr=>.sh (.list (r.map D.int)))),v11,v12,v13]/\pH x=dM M) (ds:=G.map dI) (S:=[v0,v1,v2,v3,v4,some x,some (.sh (.int (p:Int))),v7,v8,v9,some (.ow (B.map λr=>.sh (.list (r.map D.int)))),none,v12,v13]) ⟨x,none,by rw[ed,fm,aNq],hx⟩ (by
  rintro i d S hd ⟨x,v11,rfl,hx⟩;rw[gMq]at hd;obtain⟨y,hy,rfl⟩:=oMq.mp hd;have et:G.take (i+1)=G.take i++[y]:=by rw[bH,hy];rfl
  have lq:=Ny hx;have sh:=(E4 x).trans hx;refine⟨[v0,v1,v2,v3,v4,some (Vd x),some (.sh (.int (p:Int))),v7,v8,v9,some (.ow ((B++(G.take (i+1)).map (qZ r)).map λr=>.sh (.list (r.map D.int)))),some (.sh (dI y)),v12,v13],?_,_,_,rfl,sh⟩
  have at1:atI (M.map dI) (p:Int)=some (dI r):=vL (by rw[gMq,hr];rfl)
  have pc:=E3 r y;have l1:r.length<=rY:=rN (by lia)
  have lt:=ic i G;have ig:=(gSq.mp hy).1;have eD:B++(G.take (i+1)).map (qZ r)=(B++(G.take i).map (qZ r))++[qZ r y]:=by rw[et,mBq,ai];rfl
  rw[eD];have lD:(B++(G.take i).map (qZ r)).length<=1000:=by rw[lAq,lMq];have:=List.length_take_le' i G;lia
  generalize B++(G.take i).map (qZ r)=W at lD;have l2:W.length+1<=rY:=rN (by lia)
  have sW:(W.map λr=>AV.sh (.list (r.map D.int))).map pH=W.map dI:=by rw[mPq];exact mCq λr _=>sm _
  have aW:W.map dI++[D.list ((qZ r y).map D.int)]=(W++[qZ r y]).map dI:=by rw[mBq];rfl
  simp_arith [zE,hx,lq,sh,at1,dI,pc,l1,l2,sW,aW])
 obtain⟨S',e,x',v11,rfl,h⟩:=key;rw[lMq,bo]at e;exact⟨x',v11,e,h⟩
def U7:MS:=(qi (qK 6 (kSc (qG vR (qG BN (pd 3) (rC (.int 6))) (uO tH (oZ (pd 5) pO)))))
 (qi (qK 7 (rH K51.ya (qk (qp 5) rS)))
 (qi (qK 8 (rH K47.ve (qk (qp 7) (qk (qp 6) rS))))
 (qi (qK 9 (rH K41.tS (qk (qp 7) (qk (qp 6) rS))))
 (qi (BQ (Le (Dj (uS (uO Ar (oZ (pd 8) (oZ (rC (.ty "list")) pO))))) (Le (Dj (uS (uO G0 (oZ (rOf (HC (sZ (Ac (qp 8)) [] rG (kSc (uu K31.uD (oZ (pd 0) pO)))))) pO)))) (uS (qG GS (pd 7) (pd 5))))) (tP (kSc (rC (.bl false)))) sY)
 (qi (qK 10 (Da (lOf (MJ (vd 5) An (xD (pd 6)))) (lOf (MJ (vd 5) (xD (qG zu (pd 6) (rC (.int 1)))) An))))
 (qi (Bh 11 (qp 9) zE)
 (qi (BQ (uS (qG GB (uO tH (oZ (qG IU (pd 5) (pd 6)) pO)) (rC (.int 0)))) (qK 10 (qp 5)) sY)
 (qi (BQ (uS (qG GS (pd 8) (rOf (rH Zl.qf (qk (qp 10) rS))))) (tP (kSc (rC (.bl false)))) sY)
 (qi (qK 12 (kSc (uu K47.ud (oZ (pd 8) pO))))
 (qi (BQ (uS (qG SC (pd 12) (qG zu (uu K47.ud (oZ (pd 5) pO)) (uO G5 (oZ (rC (.int 0)) (oZ (qG Bd (uO tH (oZ (pd 9) pO)) (rC (.int 1))) pO)))))) (tP (kSc (rC (.bl false)))) sY)
 (qi (BQ (Cj (uS (qG GB (qG vR (pd 3) (rC (.int 2))) (rC (.int 0)))) (uS (qG SC (uu K47.uN (oZ (pd 8) pO)) (qG Cq (rC (.int 2)) (pd 12))))) (tP (kSc (rC (.bl false)))) sY)
 (qi (Bw 8 13 (.int 0))
 (tP (kSc (Lu (qG DV (pd 7) (pd 5)) (qG DV (rOf (rH K47.ve (qk (qp 7) (qk (qp 6) rS)))) (rOf (rH Zl.qf (qk (qp 10) rS))))))))))))))))))))
theorem RV{M:List (List Int)}(h:Mv M) (h0:0<M.length) (h1:M.length<=100) (h2:M.flatten.length<=100) {q:Int}(hb:q % 2=0->Bl M) {v0 v1 v2 v4:Option AV}:U7 [v0,v1,v2,some (.sh (.int q)),v4,some (.ow (M.map aI)),none,none,none,none,none,none,none,none]=some (.rt (.sh (.bl true))):=by
 have d6:=zI (i:=q) (j:=6) (by decide) (by decide)
 have ml:=tW (i:=q / 6) (j:=(M.length:Int)) (by lia)
 have p0:0<=q / 6 % (M.length:Int):=bN _ (by lia)
 have p1:q / 6 % (M.length:Int)<(M.length:Int):=bK _ (by lia)
 obtain⟨p,hp⟩:∃p:Nat,q / 6 % (M.length:Int)=(p:Int):=⟨(q / 6 % (M.length:Int)).toNat,by lia⟩
 rw[hp]at ml p1;have hpl:p<M.length:=by lia
 have hr:M[p]?=some M[p]:=gEg hpl;generalize M[p]=r at hr;have rl:=h.mp.row hr;obtain⟨G,ge,lG,fe,mvF,pnF,blF,rows⟩:=Mz h h1 h2 hr;have cp:=K51.RB (rs:=M) (by lia)
 have sM:(M.map aI).map pH=M.map dI:=by rw[mPq];exact mCq λr _=>qP r
 have at1:atI (M.map dI) (p:Int)=some (dI r):=vL (by rw[gMq,hr];rfl)
 have c1:yX (M.map dI) none (some (p:Int))=(M.take p).map dI:=by rw[yn,Fg _ _ (by lia)]
 have c2:yX (M.map dI) (some ((p:Int)+1)) none=(M.drop (p+1)).map dI:=by
  have:((p:Int)+1)=((p+1:Nat):Int):=by lia
  rw[this,yn,BL _ _ (by lia)]
 have lt:=ic p M;have ld:=aJ (i:=p+1) (l:=M);have lc:(M.take p).length+(M.drop (p+1)).length<=rY:=rN (by lia)
 have ap:(M.take p).map dI++(M.drop (p+1)).map dI=(M.take p++M.drop (p+1)).map dI:=by rw[mBq]
 have due:tR ((if r=[] then M else (M.take p++M.drop (p+1))++G.map (qZ r)).map good)=tR ((GC M p r G).map good):=by
  unfold GC
  by_cases c:r=[]
  .rw [qe c,qe c]
  .rw [pV c,pV c];refine Eu (aU.map _ ?_);rw[ai,ai];exact aU.append_left _ aF
 have duR:∀t∈(if r=[] then M else (M.take p++M.drop (p+1))++G.map (qZ r)),t.length<=1000:=λt ht=>by
  by_cases c:r=[]
  .rw [qe c]at ht;have:=zi ht;lia
  .rw [pV c]at ht;have:t∈GC M p r G:=by
    unfold GC;rw[pV c];rcases mAq.mp ht with z|z
    .rcases mAq.mp z with z|z
     .exact ah _ (ah _ z)
     .exact ag _ z
    .exact ah _ (ag _ z)
   have:=rows t this;lia
 have duL:(if r=[] then M else (M.take p++M.drop (p+1))++G.map (qZ r)).length<=1000:=by
  by_cases c:r=[]
  .rw [qe c];lia
  .rw [pV c,lAq,lAq,lMq];lia
 have ig:=uf (rs:=if r=[] then M else (M.take p++M.drop (p+1))++G.map (qZ r)) (λt ht=>by have:=duR t ht;lia) (rN (by lia))
 rw[due]at ig;have mF:=KQ mvF;have pF:=KF mvF.mp;have bF:q % 2=0->Bl (tR ((GC M p r G).map good)):=λz=>Rf mvF (blF (hb z))
 have wR:∀t∈tR ((GC M p r G).map good),t.length<=1000:=λt ht=>by have:=zi ht;have:=mF.le;lia
 clear due duR rows
 generalize tR ((GC M p r G).map good)=F at fe ig mF pF bF wR;have pcF:=pieces_ok mF.mp;have pcM:=pieces_ok h.mp;obtain⟨z,bz,bl⟩:=Io mF;rw[pF,pnF]at pcF bl;have wc:=Kl (G:=F) wR;have ab1:=Qb F;have lF:F.length<=rY:=rN (by have:=mF.lv;lia)
 have sF:(F.map aI).map pH=F.map dI:=by rw[mPq];exact mCq λr _=>qP r
 have m2:=tW (i:=q) (j:=2) (by decide)
 obtain⟨bs,hA⟩:=Rq (rs:=F) wR;have hsp:∀S:AS,S.length=14->S[8]?=some (some (.ow (F.map aI)))->Bw 8 13 (.int 0) S=some (.nx ((S.set 8 (some (.ow bs))).set 13 none)):=λS h1 h2=>by
  unfold Bw;rw[pV (by lia),qe (show (D.int 0).scal=true from rfl)]
  have:si S 8=some (F.map aI):=by rw[Kj,h2];rfl
  rw[this];show (yK _ _).map _=_;rw[hA];rfl
 have dG:∀X:List (List Int),GS (.list (X.map dI)) (.list (X.map dI))=some (.bl false):=λX=>by rw[Tg];simp
 have dE:∀X:List (List Int),DV (.list (X.map dI)) (.list (X.map dI))=some (.bl true):=λX=>by rw[OJ];simp
 have cb:∀l:List (List Int),xJ (.ow ((l.map λ_=>D.bl true).map AV.sh))=true:=λl=>by
  induction l with
  |nil=>rfl
  |cons x l ih=>exact ih
 obtain⟨x,v11,dl,hx⟩:=NZ (M:=M) (B:=M.take p++M.drop (p+1)) (G:=G) hr rl (by rw[lAq];lia) (x:=.sh (dM M)) (sm _) (v0:=v0) (v1:=v1) (v2:=v2) (v3:=some (.sh (.int q))) (v4:=v4) (v7:=some (.sh (dM M))) (v8:=some (.ow (F.map aI))) (v9:=some (.sh (dM G))) (v12:=none) (v13:=none)
 simp_arith [U7,d6,ml,sM,cp,fe,ge,sF,Oe,EV,Hb,wc,cb,ab1,lF,dG,dM,c1,c2,lc,ap]
 simp -implicitDefEqProofs only [Z.WL,iA,iB,gJ,gK,ft,↓reduceIte,reduceCtorEq,dM]at dl;rw[dl];have nD:decide (((pn M+(G.length-1):Nat):Int)=((pn M:Nat):Int)+if ((G.length:Nat):Int)-1>0 then ((G.length:Nat):Int)-1 else 0)=true:=decide_eq_true (by split <;> lia)
 have hz:q % 2=0->decide (z=2*((pn M+(G.length-1):Nat):Int))=true:=λw=>decide_eq_true (bl (bF w))
 have sD:∀X:List (List Int),(X.map λr=>AV.sh (.list (r.map D.int))).map pH=X.map dI:=λX=>by rw[mPq];exact mCq λr _=>sm _
 have hsq:=λ(v3 v5 v6 v7 v9 v10 v12:Option AV)=>hsp [v0,v1,v2,v3,v4,v5,v6,v7,some (.ow (F.map aI)),v9,v10,v11,v12,none] rfl rfl
 generalize ((pn M+(G.length-1):Nat):Int)=nF at pcF nD hz;have mu:∀i:Int,Cq (.int 2) (.int i)=some (.int (2*i)):=λi=>Kw (by decide) (by decide)
 by_cases c:r=[]
 .subst c;have a2:atI (M.map dI) (p:Int)=some (.list []):=at1;have d0:decide (((0:Nat):Int)=0)=true:=rfl;rw[qe rfl]at ig
  by_cases w:q % 2=0
  .have hz:=hz w
   simp_arith [hx,dM,a2,d0,ig,sF,dG,pcF,pcM,nD,m2,w,bz,mu,hz,hsq,dE,fe]
  .simp_arith [hx,dM,a2,d0,ig,sF,dG,pcF,pcM,nD,m2,w,bz,hsq,dE,fe]
 .have r0:decide (((r.length:Nat):Int)=0)=false:=decide_eq_false λq=>c (bc.mp (by lia))
  rw[pV c]at ig
  by_cases w:q % 2=0
  .have hz:=hz w
   simp_arith [hx,dM,at1,dI,r0,sD,ig,sF,dG,pcF,pcM,nD,m2,w,bz,mu,hz,hsq,dE,fe]
  .simp_arith [hx,dM,at1,dI,r0,sD,ig,sF,dG,pcF,pcM,nD,m2,w,bz,hsq,dE,fe]
theorem T2{ns:List Int}(hns:ns.length<=63):P1 [.scr ns]=some (.sh (.bl true)):=by
 obtain⟨st,sh,a,b,h1,h1',h2,h2',h3,h4,en⟩:=CF (cell ns 0) (cell ns 1);have hnm:=FR (b:=b) (n:=20) (by decide) h1 h2 h3 h4
 have nc:=yt (n:=20) en;have hnl:(N4 st sh a b 20).length=20:=by unfold K31.N4;rw[lMq,bC]
 generalize N4 st sh a b 20=nm at hnm nc hnl;have hcs:yX ns (some 3) (some 66)=(ns.drop 3).take 63:=Na ns 3 66;have hl:((ns.drop 3).take 63).length<=63:=by rw[lTq];exact Nat.min_le_left ..
 generalize (ns.drop 3).take 63=cs at hcs hl;obtain⟨T,et,mt,pn'⟩:=C0 (nm:=nm) (cs:=cs) (wild:=decide (cell ns 2 % 2=1)) hl hnm (by lia)
 have t0:0<T.length:=by
  obtain⟨T',left,et',_,_,h0,_⟩:=K44.HG (nm:=nm) (cs:=cs) (wild:=decide (cell ns 2 % 2=1)) hl (by lia) (K31.zV hnm)
  have:=K45.GD (aD.inj (et.symm.trans et'));rw[this];exact h0
 have sT:(T.map aI).map pH=T.map dI:=by rw[mPq];exact mCq λr _=>qP r
 have c0:qD [.scr ns,.int 0]=some (.sh (.int (cell ns 0))):=FG ns (by decide)
 have c1:qD [.scr ns,.int 1]=some (.sh (.int (cell ns 1))):=FG ns (by decide)
 have c2:qD [.scr ns,.int 2]=some (.sh (.int (cell ns 2))):=FG ns (by decide)
 have r20:Ej [.int 20]=some (rL 0 20):=Cv (n:=20) (by decide)
 have l20:(20:Nat)<=rY:=by show 20<=16777216;decide
 have sn:=qP nm;have m2:=tW (i:=cell ns 2) (j:=2) (by decide)
 have d2:=zI (i:=cell ns 2) (j:=2) (by decide) (by decide)
 have m3:=tW (i:=cell ns 2 / 2) (j:=3) (by decide)
 have b0:=bN (cell ns 2 / 2) (b:=3) (by decide)
 have b1:=bK (cell ns 2 / 2) (b:=3) (by decide)
 obtain⟨k,hk⟩:∃k:Nat,cell ns 2 / 2 % 3=(k:Int):=⟨(cell ns 2 / 2 % 3).toNat,by lia⟩
 rw[hk]at m3 b1;have rk:=Cv (n:=k) (by lia)
 have nk:=K41.K6 k;have rd:=λj:Nat=>tm 0 j
 have sK:((ax k ([]:List Int)).map aI).map pH=(ax k ([]:List Int)).map dI:=by rw[mPq];exact mCq λr _=>qP r
 have lR:(ax k ([]:List Int)).length=k:=bD;have q2:T.map dI++(ax k ([]:List Int)).map dI=(T++ax k []).map dI:=by rw[mBq]
 have hlt:=mt.lt;have hle:=mt.le;have lk:k<=rY:=rN (by lia)
 have l5:T.length+k<=rY:=rN (by lia)
 have bal:cell ns 2 % 2=0->K46.Yk (tR ((T++ax k []).map good)):=λh=>Ho mt (pn' (decide_eq_false (by lia))) k (by lia)
 have fR:(T++ax k ([]:List Int)).flatten=T.flatten:=by simp
 have lW:(T++ax k ([]:List Int)).length=T.length+k:=by rw[lAq,lR]
 generalize T++ax k ([]:List Int)=W at q2 bal fR lW;have ig:=uf (rs:=W) (λr hr=>by have:=zi hr;rw[fR]at this;lia) (rN (by lia))
 have mvW:Mv W:=⟨⟨by rw[fR];exact mt.nd,by rw[fR];lia,by lia,by rw[fR];exact mt.ng⟩,by rw[fR];exact mt.nz,by lia,by rw[fR];lia⟩
 have mv:=KQ mvW;have lG:(tR (W.map good)).length=T.length+k:=by rw[sC,lMq,lW]
 have lF:(tR (W.map good)).flatten.length<=60:=by rw[((qb (qW _)).trans (rq rJ W)).length_eq,fR];exact hle
 have fin:=λv0 v1 v2 v4=>RV mv (by lia) (by lia) (by lia) (q:=cell ns 2) (λh=>by
  obtain⟨LL,ln,e⟩:=bal h;obtain⟨kn,PS,hp,ep⟩:=vA mv.mp;exact⟨LL,ln,by rw[←ep];exact e hp⟩) (v0:=v0) (v1:=v1) (v2:=v2) (v4:=v4)
 have lw:Nj=(qi (qK 1 (kSc (uu Zl.qD (oZ (pd 0) (oZ (rC (.int 0)) pO)))))
  (qi (qK 2 (kSc (uu Zl.qD (oZ (pd 0) (oZ (rC (.int 1)) pO)))))
  (qi (qK 3 (kSc (uu Zl.qD (oZ (pd 0) (oZ (rC (.int 2)) pO)))))
  (qi (qK 4 (sZ (Vf (oZ (rC (.int 20)) pO)) [1,2] rG (kSc (uu K31.uw (oZ (pd 1) (oZ (pd 2) (oZ (pd 0) pO)))))))
  (qi (qK 5 (rH Zl.qf (qk (Da (lOf (rH K31.vv (qk (MJ (vd 0) (xD (rC (.int 3))) (xD (rC (.int 66)))) (qk (qp 4) (qk (kSc (qG GB (qG vR (pd 3) (rC (.int 2))) (rC (.int 1)))) rS))))) (lOf (sZ (Vf (oZ (qG vR (qG BN (pd 3) (rC (.int 2))) (rC (.int 3))) pO)) [] rG (zF rS)))) rS))) U7))))):=rfl
 simp -implicitDefEqProofs only [Z.WL,iA,iB,gJ,gK,ft,↓reduceIte,reduceCtorEq,dI]at et
 simp_arith [P1,lw,c0,c1,c2,r20,l20,nc,yn,hcs,sn,dI,m2,et,sT,d2,m3,hk,rk,nk,rd,lk,sK,lR,l5,q2,ig,fin]
end K47
namespace K47
open PySem L2 Mr Z
theorem TM{l:W.OpenLaw}{w:kN}{K:W.Frag}{h:Heap}{mg:Str->Option Value}{fa:Addr}(X:K.In h) (G:h.Ns kM mg) (hfa:mg "law" = some (.ref fa))
  (a0:At K "turned" zH f0 fd0)
  (a1:At K "in_good_order" tK f1 fd1)
  (a2:At K "places_at" uL f2 fd2)
  (a3:At K "thinned" xX f3 fd3)
  (a4:At K "reached" yf f4 fd4)
  (a5:At K "without_roads" tL f5 fd5)
  (a6:At K "groups" xP f6 fd6)
  (a7:At K "only_roads" vh f7 fd7)
  (a8:At K "fallen" zd f8 fd8)
  (a9:At K "_law_cell" zw f9 fd9)
  (a10:At K "_law_name" zB f10 fd10)
  (a11:At K "_law_turns" yj f11 fd11)
  (a12:At K "_law_turned" wD f12 fd12)
  (a13:At K "_law_good" zA f13 fd13)
  (a14:At K "_law_copy" zC f14 fd14)
  (a15:At K "_law_wholes" wG f15 fd15)
  (a16:At K "_law_follow" wM f16 fd16)
  (a17:At K "_law_lands" xQ f17 fd17)
  (a18:At K "_law_pieces" wV f18 fd18)
  (a19:At K "_law_balance" vO f19 fd19)
  (a20:W.nsIn K kM "law" = some (some (.ref f20))) (l20:K.lookup f20=some ⟨oc20,od20,.func (W.fnOf "law" "law" (wt Ai) (vN Ai) (qd Ai) .none kV20 dc20 pm20 an20 cd20 ct20),sl20⟩) (c20:W.codeIn K cd20 "law" = true) (k20:W.keepIn K (.ref f20)=true)
  (bx_set:W.nsIn K kM "set" = some none)
  (z0:W.nsIn K kM "len" = some none) (z1:W.nsIn K kM "min" = some none) (z2:W.nsIn K kM "max" = some none) (z3:W.nsIn K kM "abs" = some none) (z4:W.nsIn K kM "all" = some none) (z5:W.nsIn K kM "sorted" = some none) (z6:W.nsIn K kM "isinstance" = some none) (z7:W.nsIn K kM "list" = some none) (z8:W.nsIn K kM "int" = some none) (z9:W.nsIn K kM "bool" = some none) (z10:W.nsIn K kM "str" = some none) (z11:W.nsIn K kM "dict" = some none) (z12:W.nsIn K kM "zip" = some none) (z13:W.nsIn K kM "enumerate" = some none) (z14:W.nsIn K kM "range" = some none) (z15:W.nsIn K kM "reversed" = some none) :
  ∃fd:kT,(∀(s:Shared) (v:Value),nY s fd ⟨[v],[]⟩ [("_law_script", v)])/\∀base:Heap,K.In base->base.Ns kM mg->Co l.prog w K mg base Ti 5 fa fd ["_law_script"] (Kg K):=by
 have e:=hfa.symm.trans (W.mg_of X G a20);cases e;have B:Bt mg:=⟨W.mg_none_of X G z0,W.mg_none_of X G z1,W.mg_none_of X G z2,W.mg_none_of X G z3,W.mg_none_of X G z4,W.mg_none_of X G z5,W.mg_none_of X G z6,W.mg_none_of X G z7,W.mg_none_of X G z8,W.mg_none_of X G z9,W.mg_none_of X G z10,W.mg_none_of X G z11,W.mg_none_of X G z12,W.mg_none_of X G z13,W.mg_none_of X G z14,W.mg_none_of X G z15⟩;have D20:CM K mg "law" Ai ["_law_script"] _ _:=⟨JA l20 c20 k20,W.mg_of X G a20,b1 (JA l20 c20 k20) λ_ _ _ _ _ _ _=>rfl⟩
 refine⟨W.fnOf "law" "law" (wt Ai) (vN Ai) (qd Ai) .none kV20 dc20 pm20 an20 cd20 ct20,λs v=>.of_eq rfl,λbase kb nb=>?_⟩
 have bX_set:=W.mg_none_of X G bx_set;have F0:=Lb (P:=l.prog) (w:=w) (base:=base) (EO X G a0 (b1 a0.F λ_ _ _ _ _ _ _=>rfl)) B
 have F1:=BR (EO X G a1 (b1 a1.F λ_ _ _ _ _ _ _=>rfl)) B F0
 have F2:=Gz (P:=l.prog) (w:=w) (base:=base) (EO X G a2 (b1 a2.F λ_ _ _ _ _ _ _=>rfl)) B
 have F3:=IF (P:=l.prog) (w:=w) (base:=base) (EO X G a3 (b2 a3.F λ_ _ _ _ _ _ _ _=>rfl)) B
 have F4:=Jq (EO X G a4 (b2 a4.F λ_ _ _ _ _ _ _ _=>rfl)) B F2
 have F5:=BS (EO X G a5 (b2 a5.F λ_ _ _ _ _ _ _ _=>rfl)) B F3
 have F6:=Mj (EO X G a6 (b2 a6.F λ_ _ _ _ _ _ _ _=>rfl)) B F2 F5 F4
 have F7:=Eo (P:=l.prog) (w:=w) (base:=base) (EO X G a7 (b2 a7.F λ_ _ _ _ _ _ _ _=>rfl)) B
 have F8:=Ly (EO X G a8 (b2 a8.F λ_ _ _ _ _ _ _ _=>rfl)) B F1 F7 F6
 have F9:=LO (P:=l.prog) (w:=w) (base:=base) (EO X G a9 (b2 a9.F λ_ _ _ _ _ _ _ _=>rfl)) B
 have F10:=Mi (P:=l.prog) (w:=w) (base:=base) (EO X G a10 (b3 a10.F λ_ _ _ _ _ _ _ _ _=>rfl)) B
 have F11:=Jg (P:=l.prog) (w:=w) (base:=base) (EO X G a11 (b3 a11.F λ_ _ _ _ _ _ _ _ _=>rfl)) B
 have F12:=HU (P:=l.prog) (w:=w) (base:=base) (EO X G a12 (b1 a12.F λ_ _ _ _ _ _ _=>rfl)) B
 have F13:=KY (EO X G a13 (b1 a13.F λ_ _ _ _ _ _ _=>rfl)) B F12
 have F14:=LV (P:=l.prog) (w:=w) (base:=base) (EO X G a14 (b1 a14.F λ_ _ _ _ _ _ _=>rfl)) B
 have F15:=GW (P:=l.prog) (w:=w) (base:=base) (EO X G a15 (b1 a15.F λ_ _ _ _ _ _ _=>rfl)) B
 have F16:=HI (P:=l.prog) (w:=w) (base:=base) (EO X G a16 (b1 a16.F λ_ _ _ _ _ _ _=>rfl)) B
 have F17:=Jt (EO X G a17 (b1 a17.F λ_ _ _ _ _ _ _=>rfl)) B F16
 have F18:=Ib (P:=l.prog) (w:=w) (base:=base) (EO X G a18 (b1 a18.F λ_ _ _ _ _ _ _=>rfl)) B bX_set
 have F19:=Gh (EO X G a19 (b1 a19.F λ_ _ _ _ _ _ _=>rfl)) B bX_set F17
 have F20:=Ud D20 B F9 F13 F14 F8 F6 F18 F10 F11 F19 F15;exact F20.ok.imp (Rg λns h=>T2 h)
theorem W8{l:W.OpenLaw}{q:kL}{loose:List Str}{XP:(Str->Option Value)->Heap->Prop}{YP:kN->Heap->Prop}{d:DefRec}{K:Params->W.Frag}(hn:l.most=some 63) (hdf:d.params.defaults=[])
  (hY:∀(w:kN) (h:Heap),YP w h->(K w.params).In h)
  (F:∀(w:kN) (mg:Str->Option Value) (fa:Addr) (h:Heap),(K w.params).In h->h.Ns kM mg->mg d.name=some (.ref fa) ->
   ∃fd:kT,(∀(s:Shared) (u:Value),nY s fd ⟨[u],[]⟩ [("_law_script", u)])/\∀base:Heap,(K w.params).In base->base.Ns kM mg->Co l.prog w (K w.params) mg base Ti 5 fa fd ["_law_script"] (Kg (K w.params))) :
  W.WalkO q loose XP YP l.row.toRowW d [] (λf vs=>PySem.call f vs) :=
 L2.RF (n:=63) (k:=5) (x := "_law_script") (CX:=λ_=>Ti) (sp:=λw=>Kg (K w.params)) hn (by decide) hdf ⟨rfl,by decide,by decide⟩ hY F (λ_ _ a ns hl _ hS=>⟨a,ns,rfl,hS,hl,λ_=>rfl⟩) λ_ _ _ _ _ z=>z
end K47
structure PySem.W.Fast:Prop where(tw13041160299542850583 tw6963524616289881634 tw14116463030678120501 tw9871284768105745763 tw1965506064745680557 tw3245905812146972395 tw5881783714712312142 tw7124645385599131683 tw9376690860525506963 tw16016079060394136963 tw7214174140360730066 tw12734707566078780152 tw15716548601690350355 tw16230012319650058920 tw3731075963330249280 tw14935920067098274696 tw10392421866512906614 tw754053315222230024 tw5812948181245255365 tw17244887163089030829 tw9508716182369420219 tw8293897536012276561 tw17797887615165228972 tw649181432561684860 tw15565226681221833048 tw10372701983706305008 tw15709276522604217437 tw1848652992766589580 tw14561395582961236157 tw13962642799123691361 tw15529722481645192002 tw17688921537749257651 tw1318678934097225074 tw6715023560814051110 tw5491481793458748195 tw324405946608009034 tw17432501571211300606 tw13108730726277225136 tw8459729401165047053 tw16960264072460006397 tw5199981401888185566 tw3866261394216003940 tw12717421169181857013 tw9083396533465289488 tw15591748311567808865 tw5768795117264448949 tw8332612696362853508 tw4089273781242472455 tw6214744183404799346 tw4222270401086158909 tw14948440771228733698 tw5944673557585468712 tw816223652423828077 tw17017922128234674240 tw7802213959081539159 tw13909547073224935209 tw17086889786454082723 tw646145194420254717 tw1805909544803732656 tw12846194245241735649 tw5488021118120495401 tw10362560260823632110 tw13057608500913956823 tw1518253008162208806 tw9240301460976192377 tw1946190422644315790 tw789957224544685692 tw12287068317688071481 tw5498250177911738714 tw3659007381156998374 tw13859131875350399124 tw4247925991441690068 tw8939063017730265460 tw13644201291001131128 tw2832131701042887365 tw14366565439594318671 tw16299960233625574758 tw15189777035255520521 tw3894594966668433340 tw11410237293441326204 tw14178282286344034327 tw12928843537987808770 tw10834882333720085632 tw5412996224180071173 tw6234125294697433133 tw6766675079861152973 tw3360897481033971669 tw13626447120477621127 tw9692015290352869168 tw3190979847179185684 tw6001837647441279443:True)
open PySem PySem.W PyProof.Rows
set_option maxRecDepth 100000 in
set_option maxHeartbeats 0 in
theorem PySem.Challenge.cw_mapround_k47_fallen_at_a_place_holds : PySem.Challenge.rw_mapround_k47_fallen_at_a_place.Holds := by
 w_on;o_law;k_head;(case hw=>w_witness2)
 k_fill
 refine K47.W8 (l:=PySem.Challenge.rw_mapround_k47_fallen_at_a_place) rfl rfl (λw h Y=>W.kIn_of Y) ?F
 case F =>
  intro w mg fa h KX G hmg;apply K47.TM KX G hmg
  all_goals first|exact Mr.Vv (by k_is) (by k_is) (by k_is) (by k_is)|exact Mr.atM_mk (by k_is) (by k_is) (by k_is) (by k_is) (by k_is)|k_is|kernel_rfl

import PyProof.Rows.All
import Wide.All
import OpenK.AllK
import Wide.FinOn
import Lean
import PyProof.EqAt
import PyProof.EqKinds
import PyProof.TupleCall
import KE.KIntText
import PyProof.ConsumeWalk
import PySem.Challenge.RW_mapround_k53_the_crossing
set_option Elab.async false
set_option linter.all false
set_option maxRecDepth 100000
set_option maxHeartbeats 4000000
open Option renaming bind_eq_some_iff->oBq,map_eq_some_iff->oMq
open List renaming getElem?_eq_some_iff->gSq,getElem?_eq_getElem->gEg,getD_eq_getElem?_getD->gDq,length_append->lAq,length_map->lMq,mem_append->mAq,mem_flatten->mFq,mem_map->mMq,getElem?_map->gMq,mem_of_getElem?->mGq,map_congr_left->mCq,getElem_mem->gRq,length_singleton->lSq,mem_singleton->mSq,length_take->lTq,nodup_append->nAq,append_nil->aNq,flatten_append->fAq,getElem?_append_right->gYq,getElem?_append_left->gZq,length_cons->lCq,map_map->mPq,map_append->mBq,mem_cons_of_mem->mCo,length_set->lZq,flatten_cons->fCq,count_append->cAq,append_assoc->ag,mem_cons->ah,mem_cons_self->ai,getElem?_set_ne->ao,mem_append_right->ar,map_cons->au,nodup_cons->ax,size_toArray->aA,drop_eq_getElem_cons->aB,getElem?_set_self->aC,mem_append_left->aD,length_drop->aG,pairwise_append->aJ,flatten_singleton->aL,replicate->aQ,sublist_flatten_of_mem->aU,mem_iff_getElem?->aV,Perm->aW,take_append_drop->aX,nodup_nil->aZ,perm_append_comm->bb,mem_reverse->bc,getElem?_set->bf,Pairwise->bj,length->bo,pairwise_map->bq,nodup_iff_pairwise_ne->bu,mem_of_mem_drop->bw,take_length->bC,getElem?_take_of_lt->bD,take_sublist->bE,getElem?_replicate->bH,perm_ext_iff_of_nodup->bI,drop_eq_nil_of_le->bJ,range->bK,drop_sublist->bL,pairwise_iff_getElem->bM,length_nil->bP,nil_append->bQ,getElem?_eq_none->bR,mem_of_mem_take->bT,mem_filter->bV,drop_length->bX,mem_flatMap->bY,eq_of_mem_replicate->bZ,mem_iff_getElem->cc,dropLast_concat->cg,find?_cons->cj,take_add_one->cw,foldl_cons->cz,reverse_cons->cA,eraseIdx_cons_succ->cB,length_eq_zero_iff->cC,take_of_length_le->cE,find?_cons_of_neg->cF,getElem?_drop->cH,contains_cons->cI,Sublist->cK,any_cons->cO,length_range->cP,exists_mem_of_ne_nil->cQ,reverse_append->cT,not_mem_nil->cU,perm_iff_count->cW,length_pos_iff->cX,length_reverse->cY,set_cons_zero->df,count_pos_iff->dg,find?_cons_of_pos->dr,append_eq_nil_iff->dv,length_replicate->dC,ext_getElem?->dF,eq_nil_or_concat->dG,concat_eq_append->dJ,mem_range->dN,length_eraseIdx->dP,extract_eq_take_drop->dW,sublist_append_right->dY,getElem_idxOf->eh,pairwise_cons->eA,set_cons_succ->eD,count_eq_zero->eE,pairwise_mergeSort->eG,set_set->eI,pairwise_singleton->eJ,drop_zero->eK,getElem_drop->eN,find?_isSome->eS,flatMap_cons->eT,drop_of_length_le->eV,length_eq_one_iff->eW,findIdx_lt_length_of_exists->eX,take_succ_eq_append_getElem->eY,length_eq_countP_add_countP->eZ,eraseIdxIfInBounds_toArray->fc,map_id->fg,set_getElem_self->fj,any_eq_true->fk,nodup_range->fo,count_cons_of_ne->fu,min?_eq_some_iff->fv,flatten_nil->fB,reverse_reverse->fE,nodup_iff_count->fF,flatten_flatten->fG,count_cons_self->fI,filterMap_cons->fN,mergeSort_perm->fO,getElem?_range->fP,perm_singleton->fQ,filter_sublist->fR,countP_eq_length_filter->fS,perm_append_comm_assoc->fT,idxOf_lt_length_of_mem->fU,getElem_take->fZ,getElem?_zip_eq_some->gf,idxOf_lt_length_iff->gh,sublist_append_left->gi,map_nil->gq,of_mem_zip->gA,set_append_right->gF,getElem?_zipWith->gG,count_nil->gJ,reduceReplicate->gN,findIdx_getElem->gO,all_cons->gP,map_take->gR,flatMap_append->gS,mem_filterMap->gU,cons->gZ,isEmpty_cons->hU,foldl_append->hW,flatMap_def->ip,map_reverse->ir,take_zero->iC,zipWith->iK,any_map->iM
open And renaming intro->aa
open Nat renaming le_refl->ae,lt_of_lt_of_le->aR,ne_of_lt->aS,zero_le->bg,sub_self->bp,le_trans->bN,le_succ->bO,zero_add->bU,lt_succ_of_lt->cu,lt_irrefl->cD,le_of_lt->cJ,lt_succ_iff_lt_or_eq->cS,ne_of_gt->cZ,not_lt_zero->dh,min_eq_left->dm,lt_succ_self->dR,mod_eq_of_lt->dU,add_one_sub_one->dX,lt_or_eq_of_le->dZ,add_assoc->fe,le_add_right->ff,le_of_eq->fL,add_zero->fM,pos_of_ne_zero->fV,add_sub_cancel->fW,succ_le_succ->gk,le_of_not_lt->gn,add_sub_cancel_left->gu,strongRecOn->gD,add_comm->gW,le_of_lt_succ->gX,lt_trichotomy->gY,max_eq_right->ig,min_eq_right->ij,reduceEqDiff->ik,reduceLeDiff->il,reduceAdd->iI,reduceSub->iJ,mod_self->iO
open Array renaming getElem?_eq_getElem->af,length_toList->aw,getElem?_toList->aF,getElem?_eq_some_iff->aK,toList_append->aN,getElem_mem->aY,toList_reverse->cf,toList_push->dE,size_extract->eB,toList_extract->fD,toList_setIfInBounds->fX,getElem?_extract->gB,mem_toList_iff->gK,toArray_toList->gL,getD->gQ,append_assoc->gT,Perm->iA,size_map->iD
open PySem.Heap renaming get?_push_of_some->aj,lt_size->aq,get?_push_size->bh,get?_update_other->bz,get?_update_ne->cV,get?_update_self->dD,get?_none_of_le->dO,size_update->dS,get?_push_ne->eO,SameBut->fK,update_setField_same->gc,size_push->gI,MadeExcOf->iE
open PySem.F renaming plainAttrs_list->ak,slot_list_append->ay,type_list_append->az,slot_list_pop->bF,type_list_pop->bG,slot_list_index->eF,type_list_index->gw,slot_list_lt->gM
open PySem.Value renaming ref->aE,none->dA,type->eU,int->gE,bool->iz,isStrOf->iG,str->iH,isInt->iQ
open Bool renaming false_ne_true->aH,not_eq_true->bS,eq_iff_iff->bW,and_eq_true->dQ,false_eq_true->eC,not_eq_true'->eQ,or_true->gv,eq_false_iff->hV,false_and->iB
open Sum renaming inl->aO,inr->fY
open Option renaming some->aT,isSome_map->cm,bind_some->fh,map_some->fJ,getD_none->ic,none->iR
open Int renaming emod_lt_of_pos->bx,emod_nonneg->bA,toNat_natCast->cM,neg_neg->fq,toNat->gH,zero_add->gV,mul_one->hZ,natCast_emod->iq
open PyProof.Rows renaming callWith_type1->cG,boot_sorted->cR,boot_isinstance->dB,boot_abs->fm,boot_list->gC,callWith_builtin1->iu,ne_dataH_same->iF,boot_tuple->iN,boot_bool->iP,boot_min->iS,boot_int->iT,lt_int->iU
open Classical renaming propDecidable->de,byContradiction->gg
open Prod renaming ext->iw
open PySem renaming Shared->iV,model->iY,wpAny_bind->ja,wpAny->jb,sizeLine->jc,mainGlobals->jd,Program->je,World->jf,starEach->jh,call_isinstance->ji,wpAny_pure->jj,wpAny_mono->jk,FuncData->jl,wpAny_truthy_bool->jn,compareOp->jq,wpAny_loadPart_at->jr,sizeLine_eq->jt,cLine->jv,wpAny_isSubtype_exc->jB,sysModules->jC,wpAny_passesOwn->jD,isinstance_true->jE,backTo->jH,wpAny_holding->jI,wpAny_Call_Name_kw->jJ,wpAny_execs_nil->jK,codeAny_builtin->jL,isinstance_false_int->jO,call_meets->jQ,sliceBounds->jR,Scope->jU,tupleKind_room_in1->jV,bootBuiltins->jW,rawInt->jX,unsupported->jZ,excClassObj->kc,behindInMarks->kf,binaryOp->ki,wpAny_callSpecialIfBound?_slot->kj,letOwnedTupleGo->km,assignEach->kq,Model->kr,relabel->ku,setFlight->kx,wpAny_standAt->ky,wpAny_newList->kA,plainId_quiet->kB,attributeBase->kC,typeLookup->kE,valueAt->kG,codeAny->kH,callerA->kJ,wpAny_execs_cons->kK,codeAny_mono->kL,handleBy->kM,tupleKind->kO,noteFrame->kP,atKey->kQ,wpAny_field->kS,subscripted->kT,wpAny_isTrue_Compare1->kU,isinstance_false_none->kW,codeAny_handlers_test->kX,wpAny_setField->kY,isSubtype_type->lg,getItem->lp,Keyword->lu,BindsTo->ly,PlainL->lz,lookup_relabel_local->lB,isinstance_false_str->lC,wpAny_call->lD,wpAny_handleBy_cons->lI,seqIndex_neg->lJ,swapsWith->lK,seqIndex?->lN,holding->lO,seqIndex_of->lQ,keywordEach->lS
open PyProof.Rows renaming Keyed->iW,wpS_bind->iX,wpS_pure->iZ,arrOf->jg,seqObj->jm,IntsAre->ju,wpS_forRange->jw,setArr->jx,wpS_mono->jy,SortKind->jz,elem'->jA,envOfC->jF,pairsOf->jG,pendingOf->jM,oneType'->jN,wpS_modify->jP,wpS_get->jS,getElem?_mirror_all->jT,AllBare->jY,reverseSlice'->ke,gallopOf->kg,pairsOf_size->ko,sortedHeap->kF,get?_update_seq->kN,subscriptTail_builtinR->kR,keyLt'_oneType->kZ,subscriptTail->lE,listUpdate_at->lH,seqEpoch_at->lR
noncomputable section
open Array renaming mem_of_getElem?->aQq
local macro_rules|`(tactic|trivial)=>`(tactic|first|exact Or.inl rfl|exact Or.inr rfl|exact Or.inr (Or.inl rfl)|exact Or.inr (Or.inr rfl)|exact⟨rfl,rfl,rfl,by decide +kernel,rfl,by decide +kernel,by decide +kernel⟩|fail)
theorem oq{c:Prop}{_:Decidable c}(h:c){α}{t e:α}:ite c t e=t:=if_pos h
theorem oz{c:Prop}{_:Decidable c}(h:¬c){α}{t e:α}:ite c t e=e:=if_neg h
namespace L2
open PySem PySem.Spec PyProof.Rows
abbrev oD:=Sum Int Str
def D7:oD->Value->Bool
 | .inl k,v=>iQ k v
 | .inr x,v=>iG x v
def W6(w:jf):oD->Int
 | .inl k=>hashInt k
 | .inr x=>hashStr w x
theorem qk:∀{k:oD}{v:Value},D7 k v=true->(∃i t,k=aO i/\v=gE i t)∨(∃x t,k=fY x/\v=iH x t)
 | .inl i,v,h=>by
  obtain⟨t,e⟩:=Value.isInt_shape (k:=i) (v:=v) h;exact .inl ⟨i,t,rfl,e⟩
 | .inr x,v,h=>by
  obtain⟨t,e⟩:=Value.isStrOf_shape (x:=x) (v:=v) h;exact .inr ⟨x,t,rfl,e⟩
theorem K6(i:Int) (t:Tok):D7 (.inl i) (.int i t)=true:=by simp[D7,iQ]
theorem KJ(x:Str) (t:Tok):D7 (.inr x) (.str x t)=true:=by simp[D7,iG]
theorem Ts(a b:Int):decide ((aO a:oD)=aO b)=(a == b):=by
 by_cases e:a=b
 .subst e;simp
 .have h:¬ (aO a:oD)=aO b:=λq=>e (aO.inj q)
  rw[decide_eq_false h];exact(beq_eq_false_iff_ne.mpr e).symm
theorem RQ(a b:Str):decide ((fY a:oD)=fY b)=decide (a=b):=by
 by_cases e:a=b
 .subst e;simp
 .have h:¬ (fY a:oD)=fY b:=λq=>e (fY.inj q)
  rw[decide_eq_false h,decide_eq_false e]
theorem TF(a:Int) (b:Str):decide ((aO a:oD)=fY b)=false:=decide_eq_false (λq=>nomatch q)
theorem SU(a:Str) (b:Int):decide ((fY a:oD)=aO b)=false:=decide_eq_false (λq=>nomatch q)
def qp(prog:je) (w:jf):PySem.KeyKind prog w oD where
 is:=D7
 hash:=W6 w
 inj:=λv a b ha hb=>by
  rcases qk ha with ⟨i,t,rfl,rfl⟩|⟨x,t,rfl,rfl⟩
  .rcases qk hb with ⟨j,u,rfl,e⟩|⟨y,u,rfl,e⟩
   .injection e with e1 _;rw[e1]
   .exact nomatch e
  .rcases qk hb with ⟨j,u,rfl,e⟩|⟨y,u,rfl,e⟩
   .exact nomatch e
   .injection e with e1 _;rw[e1]
 byValue:=λk v h=>by
  rcases qk h with ⟨i,t,rfl,rfl⟩|⟨x,t,rfl,rfl⟩ <;> rfl
 pyHash:=λhv h=>by
  rcases qk hv with ⟨i,t,rfl,rfl⟩|⟨x,t,rfl,rfl⟩
  .exact wpAny_pyHash_int h
  .exact wpAny_pyHash_str h
 eqBool:=λhu hv h=>by
  rcases qk hu with ⟨i,t,rfl,rfl⟩|⟨x,t,rfl,rfl⟩
  .rcases qk hv with ⟨j,u,rfl,rfl⟩|⟨y,u,rfl,rfl⟩
   .rw [Ts]at h;exact wpAny_eqBool_int h
   .rw [TF]at h;exact SeqAt.EqAt.int_str i t y u _ _ _ _ h
  .rcases qk hv with ⟨j,u,rfl,rfl⟩|⟨y,u,rfl,rfl⟩
   .rw [SU]at h;exact SeqAt.EqAt.str_int x t j u _ _ _ _ h
   .rw [RQ]at h;exact wpAny_eqBool_str h
 «strs»:=λk x t v h=>by
  rcases qk h with ⟨i,u,rfl,e⟩|⟨y,u,rfl,e⟩
  .exact nomatch e
  .injection e with e1 _
   subst e1;cases v <;> rfl
theorem Gv(prog:je) (w:jf) (i:Int) (t:Tok):(qp prog w).is (.inl i) (.int i t)=true:=K6 i t
theorem FT(prog:je) (w:jf) (x:Str) (t:Tok):(qp prog w).is (.inr x) (.str x t)=true:=KJ x t
inductive V where
 |non|bl (b:Bool)|int (i:Int)|str (x:Str)|byt (b:Array UInt8)|flt (b:UInt64)|ref (a:Addr)|ty (n:String)
 deriving DecidableEq
def pI:V->Value->Prop
 | .non,u=>u=dA
 | .bl b,u=>u=iz b
 | .int i,u=>∃t,u=gE i t
 | .str x,u=>∃t,u=iH x t
 | .byt b,u=>∃t,u=Value.bytes b t
 | .flt b,u=>∃t,u=Value.float b t
 | .ref a,u=>u=aE a
 | .ty n,u=>u=eU n
abbrev oN:List V->List Value->Prop:=Paired pI
theorem oN.length{xs:List V}{us:List Value}(r:oN xs us):xs.length=us.length:=Paired.length r
theorem oN.get:∀{xs:List V}{us:List Value}{i:Nat}{x:V},oN xs us->xs[i]?=some x->∃u,us[i]?=some u/\pI x u
 |_,_,_,_,.nil,e=>by simp at e
 |_,_,0,_,.cons r _,e=>by simp at e;subst e;exact⟨_,rfl,r⟩
 |_,_,i+1,x,.cons _ t,e=>by
  obtain⟨u,h1,h2⟩:=oN.get (i:=i) (x:=x) t (by simpa using e)
  exact⟨u,by simpa using h1,h2⟩
theorem oN.set{x:V}{u:Value}(r:pI x u):∀{xs:List V}{us:List Value}(i:Nat),oN xs us->oN (xs.set i x) (us.set i u)
 |_,_,_,.nil=>.nil
 |_,_,0,.cons _ t=>.cons r t
 |_,_,i+1,.cons q t=>.cons q (oN.set r i t)
theorem oN.append:∀{xs ys:List V}{us ws:List Value},oN xs us->oN ys ws->oN (xs++ys) (us++ws)
 |_,_,_,_,.nil,s=>s
 |_,_,_,_,.cons r t,s=>.cons r (oN.append t s)
theorem oN.take:∀{xs:List V}{us:List Value}(n:Nat),oN xs us->oN (xs.take n) (us.take n)
 |_,_,0,_=>.nil
 |_,_,_+1,.nil=>.nil
 |_,_,n+1,.cons r t=>.cons r (oN.take n t)
theorem oN.drop:∀{xs:List V}{us:List Value}(n:Nat),oN xs us->oN (xs.drop n) (us.drop n)
 |_,_,0,r=>r
 |_,_,_+1,.nil=>.nil
 |_,_,n+1,.cons _ t=>oN.drop n t
def Dh:Option V->Option Value->Prop
 |some v,some u=>pI v u
 |none,none=>True
 |_,_=>False
def KV{κ:Type}:List (κ×V)->List (κ×Value)->Prop:=Paired λ(p:κ×V) (q:κ×Value)=>p.1=q.1/\pI p.2 q.2
def kV:oD->V
 | .inl i=>.int i
 | .inr x=>.str x
inductive HO where
 /-- a list -/
 |lst (xs:List V)
 /-- a tuple (never changes) -/
 |tup (xs:List V)
 /-- a dict whose keys are ints and texts;one whose keys are tuples of ints and texts (the empty one is UL) -/
 |dK (kvs:List (oD×V))|dT (kvs:List (List oD×V))
 /-- a set of ints: its members,its size -/
 |set (S:Int->Bool) (n:Nat)
 /-- an instance of the class at C,its dict at dx,its attributes -/
 |ins (C dx:Addr) (fs:List (Str×V))
 /-- the dict of the instance at x -/
 |own (x:Addr)
 /-- the dict of an exception -/
 |xd (fs:List (Str×V))
 /-- a bound method,f of x -/
 |met (f x:Addr)
 /-- a range object lo,lo+1,.. below hi -/
 |rng (lo hi:Int)
 /-- a thing that is known to the object (the script;a dict while a loop walks it): read,never written while it is so -/
 |frz (o:Obj) (u:HO)
 /-- a code object's table -/
 |tbl (ps:Array Value)
 /-- any other thing,by what is true of its one object (a def of one's own: SetO a S n:=HO.ext λh=>..) -/
 |ext (φ:Heap->Prop)
abbrev Hp:=Addr->Option HO
def upd(H:Hp) (a:Addr) (o:HO):Hp:=λb=>if b=a then some o else H b
theorem nZ{H:Hp}{a:Addr}{o:HO}:upd H a o a=some o:=by unfold upd;rw[oq rfl]
theorem nV{H:Hp}{a b:Addr}{o:HO}(h:b≠a):upd H a o b=H b:=by unfold upd;rw[oz h]
theorem Pe{H:Hp}{a:Addr}{o u:HO}:upd (upd H a o) a u=upd H a u:=by
 funext b;unfold upd;split <;> rfl
theorem V5{H:Hp}{a b:Addr}{o u:HO}(h:H a=some o) (h':H b=some u) (d:o≠u):a≠b:=by
 intro e;subst e;rw[h]at h';exact d (aT.inj h')
theorem qm{H:Hp}{a b:Addr}{o:HO}(h:H a=some o) (h':H b=none):a≠b:=by
 intro e;subst e;rw[h]at h';cases h'
section
variable (P:je) (w:jf)
def qv(H:Hp) (h:Heap) (a:Addr):HO->Prop
 | .lst xs=>xs.length<=jc/\∃(its:List Value) (n:Nat),oN xs its/\h.get? a=some { cls:=.type "list", data:=.seq its.toArray n }
 | .tup xs=>xs.length<=jc/\∃its:List Value,oN xs its/\IsTup h a its.toArray
 | .dK kvs=>kvs.length<=jc/\(a == jC)=false/\∃vs,KV kvs vs/\h.DictOf (qp P w) a vs
 | .dT kvs=>kvs.length<=jc/\(a == jC)=false/\∃xs:List (List oD×Addr×Value),
   Paired (λ(p:List oD×V) (q:List oD×Addr×Value)=>p.1=q.1/\H q.2.1=some (.tup (p.1.map kV))/\pI p.2 q.2.2) kvs xs /\
   ∃o es ep,h.get? a=some o/\o.ExactDict/\o.data = .dict es ep/\es.toList=xs.map (entryOfKey (kO (qp P w)))/\(xs.map (·.1)).Nodup
 | .set S n=>h.SetOf (intKind P w) a S n
 | .ins C dx fs=>H dx=some (.own a)/\fs.length<=1000/\dx≠a/\h.get? a=some (W.instObj C dx) /\
   ∃mA,h.Ns1 dx mA/\(∀f,Dh (fs.lookup f) (mA f))/\PySem.Within mA (fs.map (·.1))
 | .own _=>∃o,h.get? a=some o
 | .xd fs=>∃mA,h.Ns1 a mA/\∀f,Dh (fs.lookup f) (mA f)
 | .rng lo hi=>∃t u v,h.get? a=some { cls:=.type "range", data:=.fields #[.int lo t,.int hi u,.int 1 v] }
 | .frz o u=>h.get? a=some o/\qv H h a u
 | .tbl ps=>h.get? a=some { cls:=.none,data:=.fields ps }
 | .met f x=>h.get? a=some (W.methodObj (.ref f) (.ref x))
 | .ext φ=>φ h/\(∃o,h.get? a=some o)/\∀h1 h2:Heap,φ h1->(∀o,h1.get? a=some o->h2.get? a=some o)->φ h2
def xl(H:Hp) (h:Heap):Prop:=∀a o,H a=some o->qv P w H h a o
end
section
variable {P:je}{w:jf}{H H':Hp}{h h':Heap}{a:Addr}{o:HO}
theorem qv.lt(x:qv P w H h a o):a<h.objs.size:=by
 cases o with
 |lst xs=>obtain⟨_,_,_,_,e⟩:=x;exact aq e
 |tup xs=>obtain⟨_,_,_,p⟩:=x;exact p.lt
 |dK kvs=>obtain⟨_,_,_,_,o,_,_,e,_⟩:=x;exact aq e
 |dT kvs=>obtain⟨_,_,_,_,o,_,_,e,_⟩:=x;exact aq e
 |set S n=>obtain⟨o,_,_,_,e,_⟩:=x;exact aq e
 |ins C dx fs=>obtain⟨_,_,_,e,_⟩:=x;exact aq e
 |own y=>obtain⟨_,e⟩:=x;exact aq e
 |xd fs=>obtain⟨_,⟨_,_,_,e,_⟩,_⟩:=x;exact aq e
 |rng lo hi=>obtain⟨_,_,_,e⟩:=x;exact aq e
 |frz ob u=>obtain⟨e,_⟩:=x;exact aq e
 |tbl ps=>exact aq (show h.get? a=some _ from x)
 |met f y=>exact aq (show h.get? a=some _ from x)
 |ext φ=>obtain⟨_,⟨_,e⟩,_⟩:=x;exact aq e
theorem Paired.mapP{α β:Type}{F G:α->β->Prop}:∀{l₁:List α}{l₂:List β},Paired F l₁ l₂->(∀a b,F a b->G a b)->Paired G l₁ l₂
 |_,_,.nil,_=>.nil
 |_,_,.cons r t,f=>.cons (f _ _ r) (Paired.mapP t f)
theorem qv.stay(x:qv P w H h a o) (k:∀b u,(b=a∨H b=some (.own a))->h.get? b=some u->h'.get? b=some u)
  (ho:∀b,H b=some (.own a)->H' b=some (.own a)) (ht:∀b xs,H b=some (.tup xs)->H' b=some (.tup xs)):qv P w H' h' a o:=by
 induction o with
 |lst xs=>obtain⟨z,its,n,r,e⟩:=x;exact⟨z,its,n,r,k _ _ (.inl rfl) e⟩
 |tup xs=>obtain⟨z,its,r,ob,e,c⟩:=x;exact⟨z,its,r,ob,k _ _ (.inl rfl) e,c⟩
 |dK kvs=>obtain⟨z,y,vs,r,ob,es,ep,e,c⟩:=x;exact⟨z,y,vs,r,ob,es,ep,k _ _ (.inl rfl) e,c⟩
 |dT kvs =>
  obtain⟨z,y,xs,r,ob,es,ep,e,c⟩:=x;exact⟨z,y,xs,Paired.mapP r λp q z=>⟨z.1,ht _ _ z.2.1,z.2.2⟩,ob,es,ep,k _ _ (.inl rfl) e,c⟩
 |set S n=>obtain⟨ob,es,ep,t,e,c⟩:=x;exact⟨ob,es,ep,t,k _ _ (.inl rfl) e,c⟩
 |ins C dx fs =>
  obtain⟨d,z,ne,e,mA,⟨od,es,ep,e2,c⟩,r⟩:=x;exact⟨ho _ d,z,ne,k _ _ (.inl rfl) e,mA,⟨od,es,ep,k _ _ (.inr d) e2,c⟩,r⟩
 |own y=>obtain⟨ob,e⟩:=x;exact⟨ob,k _ _ (.inl rfl) e⟩
 |xd fs=>obtain⟨mA,⟨od,es,ep,e,c⟩,r⟩:=x;exact⟨mA,⟨od,es,ep,k _ _ (.inl rfl) e,c⟩,r⟩
 |rng lo hi=>obtain⟨t,u,v,e⟩:=x;exact⟨t,u,v,k _ _ (.inl rfl) e⟩
 |frz ob u ih=>obtain⟨e,q⟩:=x;exact⟨k _ _ (.inl rfl) e,ih q⟩
 |tbl ps =>
  have e:h.get? a=some { cls:=.none,data:=.fields ps }:=x;show h'.get? a=some { cls:=.none,data:=.fields ps };exact k a _ (.inl rfl) e
 |met f y =>
  have e:h.get? a=some (W.methodObj (.ref f) (.ref y)):=x;show h'.get? a=some (W.methodObj (.ref f) (.ref y));exact k a _ (.inl rfl) e
 |ext φ=>obtain⟨p,⟨o,e⟩,st⟩:=x;exact⟨st _ _ p λo q=>k _ _ (.inl rfl) q,⟨o,k _ _ (.inl rfl) e⟩,st⟩
theorem xl.lt(x:xl P w H h) (e:H a=some o):a<h.objs.size:=(x a o e).lt
theorem xl.fresh(x:xl P w H h) (e:h.objs.size<=a):H a=none:=by
 cases q:H a with
 |none=>rfl
 |some u=>exact absurd (aR (x.lt q) e) (cD _)
theorem xl.kept(x:xl P w H h) (k:∀b u,h.get? b=some u->h'.get? b=some u):xl P w H h':=λa o e =>
 (x a o e).stay (λb u _ q=>k b u q) (λ_ q=>q) λ_ _ q=>q
theorem xl.laid(x:xl P w H h) (k:∀b u,h.get? b=some u->h'.get? b=some u) (hp:h.objs.size<=a) (new:qv P w (upd H a o) h' a o):xl P w (upd H a o) h':=λb u e=>by
 have hn:=x.fresh hp
 by_cases hb:b=a
 .subst hb;rw[nZ]at e;cases e;exact new
 .rw [nV hb]at e;exact(x b u e).stay (λc v _ q=>k c v q) (λc q=>by rw[nV (qm q hn)];exact q) λc xs q=>by rw[nV (qm q hn)];exact q
end
def Rd(H:Hp) (a:Addr) (u:HO):Prop:=H a=some u∨∃o,H a=some (.frz o u)
theorem Rd.ok{P:je}{w:jf}{H:Hp}{h:Heap}{a:Addr}{u:HO}(r:Rd H a u) (x:xl P w H h):qv P w H h a u:=by
 rcases r with r|⟨o,r⟩
 .exact x a u r
 .obtain ⟨_,q⟩:=x a _ r;exact q
def U8:Option HO->Prop
 |some (.lst _)=>True
 |some (.dK _)=>True
 |some (.dT _)=>True
 |some (.set _ _)=>True
 |some (.ins _ _ _)=>True
 |some (.ext _)=>True
 |_=>False
section
variable {P:je}{w:jf}{H:Hp}{h h':Heap}{x e:Addr}{o':HO}
theorem xl.write(ok:xl P w H h) (mu:U8 (H x)) (he:e=x∨H e=some (.own x)) (k:∀b u,b≠e->h.get? b=some u->h'.get? b=some u) (heo:∃u,h'.get? e=some u)
  (new:qv P w (upd H x o') h' x o'):xl P w (upd H x o') h':=λb u q=>by
 have nown:∀c y,H c=some (.own y)->c≠x:=λc y r z=>by subst z;rw[r]at mu;exact mu
 have ntup:∀c xs,H c=some (.tup xs)->c≠x:=λc xs r z=>by subst z;rw[r]at mu;exact mu
 by_cases hb:b=x
 .subst hb;rw[nZ]at q;cases q;exact new
 .rw [nV hb]at q
  by_cases hbe:b=e
  .have q':H b=some (.own x):=by
    rcases he with z|z
    .exact absurd (hbe.trans z) hb
    .rw [hbe];exact z
   rw[q]at q';cases q';obtain⟨v,hv⟩:=heo;exact⟨v,by rw[hbe];exact hv⟩
  .refine (ok b u q).stay (λc v hc r=>k c v ?_ r) (λc r=>by rw[nV (nown c b r)];exact r) λc xs r=>by rw[nV (ntup c xs r)];exact r
   rcases hc with rfl|hc
   .exact hbe
   .rintro rfl;rcases he with z|z
    .exact nown c b hc z
    .rw [hc]at z;cases z;exact hb rfl
end
structure Un (fs ex:List Addr) (H H':Hp) (h h':Heap):Prop where
 keep:∀b o,h.get? b=some o->H b=none->b∉fs->b∉ex->h'.get? b=some o
 slot:∀b o,h.get? b=some o->H b=none->b∈fs->b∉ex->∃sl,h'.get? b=some { o with slots:=sl }
 free:∀b o,h.get? b=some o->H b=none->b∉ex->H' b=none
 there:∀b o,h.get? b=some o->b∉ex->∃o',h'.get? b=some o'
 tups:∀b xs,H b=some (.tup xs)->H' b=some (.tup xs)
 frzs:∀b o u,H b=some (.frz o u)->H' b=some (.frz o u)
 tbls:∀b ps,H b=some (.tbl ps)->∃more,H' b=some (.tbl (ps++more))
section
variable {fs fs' ex ex':List Addr}{H H1 H2:Hp}{h h1 h2 h':Heap}{a x e:Addr}{o:HO}
theorem Un.any(u:Un fs ex H H1 h h1) {b:Addr}{ob:Obj}(q:h.get? b=some ob) (n:H b=none) (hx:b∉ex):∃sl,h1.get? b=some { ob with slots:=sl }:=by
 by_cases hb:b∈fs
 .exact u.slot b ob q n hb hx
 .exact ⟨ob.slots,u.keep b ob q n hb hx⟩
theorem Un.kept(k:∀b u,h.get? b=some u->h'.get? b=some u):Un fs ex H H h h' :=
 ⟨λb ob q _ _ _=>k b ob q,λb ob q _ _ _=>⟨ob.slots,k b ob q⟩,λ_ _ _ n _=>n,λb ob q _=>⟨ob,k b ob q⟩,λ_ _ q=>q,λ_ _ _ q=>q,λ_ ps q=>⟨#[],by rw[q];simp⟩⟩
theorem Un.refl:Un fs ex H H h h:=Un.kept λ_ _ q=>q
theorem Un.laid(k:∀b u,h.get? b=some u->h'.get? b=some u) (hp:h.objs.size<=a) (hn:H a=none):Un fs ex H (upd H a o) h h' where
 keep:=λb u q _ _ _=>k b u q
 slot:=λb u q _ _ _=>⟨u.slots,k b u q⟩
 free:=λb u q n _=>by rw[nV (aS (aR (aq q) hp))];exact n
 there:=λb u q _=>⟨u,k b u q⟩
 tups:=λb xs q=>by rw[nV (qm q hn)];exact q
 frzs:=λb u xs q=>by rw[nV (qm q hn)];exact q
 tbls:=λb ps q=>⟨#[],by rw[nV (qm q hn),q];simp⟩
theorem Un.write(mu:U8 (H x)) (he:e=x∨H e=some (.own x)) (k:∀b u,b≠e->h.get? b=some u->h'.get? b=some u) (heo:∃u,h'.get? e=some u):Un fs ex H (upd H x o) h h':=by
 have hx:∀b,H b=none->b≠x:=λb n z=>by subst z;rw[n]at mu;exact mu
 have hb:∀b,H b=none->b≠e:=λb n z=>by
  subst z;rcases he with r|r
  .exact hx b n r
  .rw [n]at r;cases r
 have hm:∀b u,H b=some u->¬ U8 (some u)->b≠x:=λb u q nm z=>by subst z;rw[q]at mu;exact nm mu
 refine⟨λb u q n _ _=>k b u (hb b n) q,λb u q n _ _=>⟨u.slots,k b u (hb b n) q⟩,λb u q n _=>by rw[nV (hx b n)];exact n,λb u q _=>?_,
  λb xs q=>by rw[nV (hm b _ q λz=>z)];exact q,λb u xs q=>by rw[nV (hm b _ q λz=>z)];exact q,λb ps q=>⟨#[],by rw[nV (hm b _ q λz=>z),q];simp⟩⟩
 by_cases hbe:b=e
 .subst hbe;exact heo
 .exact ⟨u,k b u hbe q⟩
end
def WC(h:Heap) (H:Hp):List Addr:=(bK h.objs.size).filter λa=>(H a).isSome
def FA(h:Heap) (H:Hp):Heap:=W.hideAll h (WC h H)
theorem Ke(h:Heap) (H:Hp):(FA h H).objs.size=h.objs.size:=W.hideAll_size _ _
theorem NT{h:Heap}{H:Hp}{b:Addr}{o:Obj}(e:h.get? b=some o) (n:H b=none):(FA h H).get? b=some o :=
 W.hideAll_get _ e λhm=>by
  have q:(H b).isSome=true:=(bV.mp hm).2;rw[n]at q;simp at q
theorem QA{h:Heap}{H:Hp}{b:Addr}{o:Obj}(e:(FA h H).get? b=some o):h.get? b=some o/\H b=none:=by
 have e':h.get? b=some o:=W.of_hideAll (WC h H) e;refine⟨e',?_⟩;cases q:H b with
 |none=>rfl
 |some x =>
  have hm:b∈WC h H:=bV.mpr ⟨dN.mpr (aq e'),by simp[q]⟩
  have z:(FA h H).get? b=none:=W.hideAll_none (WC h H) hm;rw[z]at e;cases e
def QM(g h:Heap) (L:Addr):List (Addr×Obj):=(bK h.objs.size).filterMap λa=>if a=L∨(g.get? a).isSome=true then none else (h.get? a).map λo=>(a,o)
def rest(g h:Heap) (L d:Addr):List (Addr×Obj):=(QM g h L).filter λp=>decide (p.1≠d)
structure Mod (K:W.Frag) (mg:Str->Option Value) (base:Heap):Prop where
 kin:K.In base
 glob:base.Ns jd mg
 blt:∃mb,base.Ns builtinsNs mb/\∀x:Str,x ≠ "__name__" -> mb x=jW x
 nolimit:base.NoLimit
structure Cx where
 prog:je
 w:jf
 K:W.Frag
 mg:Str->Option Value
 base:Heap
 A:Around
 N:List Str
 s₀:iV
 H₀:Hp
 env:Env
 outer:List Env
 stack:List Env
 ex:List Addr
 fn:Str->Bool
 calm:Bool
 pn:List (Addr×Obj)
 xe:Value->iV->Prop
def Io(l:List Env):List Addr:=l.filterMap (·.frame)
abbrev Cx.fs(X:Cx):List Addr:=Io X.outer
def Xz(sc:jU) (x:Str):Prop:=sc.names.lookup x=some .local∨sc.names.lookup x=some .cell∨sc.names.lookup x=some .free
def Ww(sc:jU) (x:Str):Prop:=sc.names.lookup x=some .local∨sc.names.lookup x=some .cell
def Xt(env:Env) (h:Heap) (m:Str->Option Value) (x:Str) (u:Value):Prop :=
 (env.kindOf x=some .local/\m x=some u)∨((env.kindOf x=some .cell∨env.kindOf x=some .free)/\∃c,env.cells.lookup x=some c/\h.IsCell c (some u))
structure Cx.Ok (X:Cx):Prop where
 mod:Mod X.K X.mg X.base
 kind:X.env.scope.kind = .function
 glob:X.env.globals=jd
 blt:X.env.builtins=builtinsNs
 above:X.s₀.heap.objs.size<=X.env.locals
 inj:∀x y c,X.env.cells.lookup x=some c->X.env.cells.lookup y=some c->x=y
 has:∀x,(X.env.kindOf x=some .cell∨X.env.kindOf x=some .free)->∃c,X.env.cells.lookup x=some c
 cab:∀x c,X.fn x=true->X.env.cells.lookup x=some c->X.s₀.heap.objs.size<=c
 hd:X.calm=true->X.A.handled=none
 frames:X.A.frames=some X.stack
 stk:X.stack=X.outer∨(X.stack=X.env::X.outer/\X.env.frame=some X.env.locals)
 exf:∀b∈X.ex,b≠X.env.locals/\∀x c,X.env.cells.lookup x=some c->c≠b
 bs:∀b o,X.base.get? b=some o->X.s₀.heap.get? b=some o/\X.H₀ b=none
 bsz:X.base.objs.size<=X.s₀.heap.objs.size
 noex:∀b o,X.base.get? b=some o->b∉X.ex
 exfs:∀b∈X.ex,b∉X.fs
 funs:X.s₀.heap.FunFrames X.base X.outer
 frf:∀b∈X.fs,X.H₀ b=none
structure Inv (X:Cx) (nA:List (Addr×Obj)) (σ:List (Option V)) (H:Hp) (s:iV):Prop where
 ok:X.Ok
 os:s.os=X.s₀.os
 bare:jY s.gens
 base:Un X.fs X.ex X.H₀ H X.s₀.heap s.heap
 loc:∃m,s.heap.Ns X.env.locals m/\∀(i:Nat) (x:Str) (v:V),X.N[i]?=some x->σ[i]?=some (some v)->Xz X.env.scope x->∃u,pI v u/\Xt X.env s.heap m x u
 cell:∀x c,X.env.cells.lookup x=some c->∃v,s.heap.IsCell c v
 free:H X.env.locals=none
 freeC:∀x c,X.env.cells.lookup x=some c->H c=none
 pin:∀p∈X.pn++nA,s.heap.get? p.1=some p.2/\H p.1=none/\p.1≠X.env.locals/\p.1∉X.fs/\∀v,p.2.data ≠ .cell v
 hok:xl X.prog X.w H s.heap
 len:σ.length=X.N.length
section
variable {X:Cx}{nA:List (Addr×Obj)}{σ:List (Option V)}{H H':Hp}{s:iV}{h':Heap}
theorem Cx.Ok.nofr(ok:X.Ok) {b:Addr}{o:Obj}(e:X.base.get? b=some o):b∉X.fs:=λhb=>by
 have:=(ok.funs.mem hb).1;rw[e]at this;cases this
theorem Inv.bs(I:Inv X nA σ H s):∀b o,X.base.get? b=some o->s.heap.get? b=some o/\H b=none:=λb o e =>
 ⟨I.base.keep b o (I.ok.bs b o e).1 (I.ok.bs b o e).2 (I.ok.nofr e) (I.ok.noex b o e),I.base.free b o (I.ok.bs b o e).1 (I.ok.bs b o e).2 (I.ok.noex b o e)⟩
theorem Inv.bk(I:Inv X nA σ H s):∀b o,X.base.get? b=some o->s.heap.get? b=some o:=λb o e=>(I.bs b o e).1
theorem Inv.mod(I:Inv X nA σ H s):Mod X.K X.mg X.base:=I.ok.mod
theorem Inv.kIn(I:Inv X nA σ H s):X.K.In s.heap:=I.ok.mod.kin.keeps I.bk
theorem Inv.lt(I:Inv X nA σ H s):X.env.locals<s.heap.objs.size:=let ⟨_,hn,_⟩:=I.loc;hn.lt
theorem Inv.sz(I:Inv X nA σ H s):X.s₀.heap.objs.size<=s.heap.objs.size:=bN I.ok.above (cJ I.lt)
theorem Inv.nofs(I:Inv X nA σ H s) {a:Addr}(h:s.heap.objs.size<=a):a∉X.fs:=λhb=>by
 obtain⟨_,o,ho,_⟩:=I.ok.funs.mem hb;exact absurd (aR (aq ho) (bN I.sz h)) (cD _)
theorem Inv.cne(I:Inv X nA σ H s):∀x c,X.env.cells.lookup x=some c->c≠X.env.locals:=λx c e z=>by
 obtain⟨v,o,ho,hd⟩:=I.cell x c e;obtain⟨m,⟨o',es,ep,ho',hd',_⟩,_⟩:=I.loc;rw[z,ho']at ho;cases ho;rw[hd']at hd;cases hd
theorem Inv.funs(I:Inv X nA σ H s):s.heap.FunFrames X.base X.outer:=by
 have all:∀(l:List Env),(∀b∈Io l,b∈X.fs)->X.s₀.heap.FunFrames X.base l->s.heap.FunFrames X.base l:=by
  intro l
  induction l with
  |nil=>intro _ _;trivial
  |cons env r ih =>
   intro hs hl;obtain⟨hk,⟨L,o,hf,hn,ho,hd⟩,hr⟩:=hl;have hL:L∈X.fs:=hs L (by unfold Io;rw[fN,hf];exact ai)
   obtain⟨sl,e⟩:=I.base.slot L o ho (I.ok.frf L hL) hL λz=>I.ok.exfs L z hL
   exact⟨hk,⟨L,_,hf,hn,e,hd⟩,ih (λb hb=>hs b (by unfold Io;rw[fN,hf];exact mCo _ hb)) hr⟩
 exact all X.outer (λ_ hb=>hb) I.ok.funs
theorem Inv.stack(I:Inv X nA σ H s):s.heap.FunFrames X.base X.stack:=by
 rcases I.ok.stk with e|⟨e,hf⟩
 .rw [e];exact I.funs
 .rw [e];obtain⟨m,hn,_⟩:=I.loc;refine .cons (by rw[I.ok.kind];decide) hf hn ?_ I.funs
  exact dO (bN I.ok.bsz I.ok.above)
theorem Inv.stkSub(I:Inv X nA σ H s):∀b∈Io X.stack,b∈X.env.locals::X.fs:=λb hb=>by
 rcases I.ok.stk with e|⟨e,hf⟩
 .rw [e]at hb;exact mCo _ hb
 .rw [e]at hb;unfold Io at hb;rw[fN,hf]at hb;exact hb
theorem Inv.stkFree(I:Inv X nA σ H s):∀b∈Io X.stack,H b=none:=λb hb=>by
 rcases ah.mp (I.stkSub b hb) with e|hb
 .rw [e];exact I.free
 .obtain ⟨_,o,ho,_⟩:=I.ok.funs.mem hb;exact I.base.free b o ho (I.ok.frf b hb) λz=>I.ok.exfs b z hb
theorem Inv.step{g':Array GenState}{t':Nat}{d':Drawn}{ch:List Addr}(I:Inv X nA σ H s)
  (hch:∀b∈ch,(b∈X.ex∨X.s₀.heap.objs.size<=b)/\b≠X.env.locals/\(∀x c,X.env.cells.lookup x=some c->c≠b)/\∀p∈X.pn++nA,p.1≠b)
  (keep:∀b o,b≠X.env.locals->b∉X.fs->b∉ch->s.heap.get? b=some o->H b=none->h'.get? b=some o)
  (slot:∀b o,b≠X.env.locals->b∈X.fs->b∉ch->s.heap.get? b=some o->H b=none->∃sl,h'.get? b=some { o with slots:=sl }) (free:∀b o,b∉ch->s.heap.get? b=some o->H b=none->H' b=none)
  (there:∀b o,b∉ch->s.heap.get? b=some o->∃o',h'.get? b=some o')
  (tups:∀b xs,H b=some (.tup xs)->H' b=some (.tup xs)) (frzs:∀b o u,H b=some (.frz o u)->H' b=some (.frz o u)) (tbls:∀b ps,H b=some (.tbl ps)->∃more,H' b=some (.tbl (ps++more)))
  (ns:∀m,s.heap.Ns X.env.locals m->h'.Ns X.env.locals m) (hok:xl X.prog X.w H' h') (hg:jY g') :
  Inv X nA σ H' { s with heap:=h',gens:=g',drawn:=d',toks:=t' }:=by
 have neL:∀b o,X.s₀.heap.get? b=some o->b≠X.env.locals:=λb o e=>aS (aR (aq e) I.ok.above)
 have neC:∀b o,X.s₀.heap.get? b=some o->b∉X.ex->b∉ch:=λb o e hx hb=>by
  rcases (hch b hb).1 with z|z
  .exact hx z
  .exact absurd (aR (aq e) z) (cD _)
 have cellK:∀x c,X.env.cells.lookup x=some c->∀v,s.heap.IsCell c v->h'.IsCell c v:=λx c e v ⟨o,ho,hd⟩=>by
  have nch:c∉ch:=λz=>(hch c z).2.2.1 x c e rfl
  by_cases hc:c∈X.fs
  .obtain ⟨sl,q⟩:=slot c o (I.cne x c e) hc nch ho (I.freeC x c e);exact⟨_,q,hd⟩
  .exact ⟨o,keep c o (I.cne x c e) hc nch ho (I.freeC x c e),hd⟩
 refine⟨I.ok,I.os,hg,⟨λb o e n hb hx=>?_,λb o e n hb hx=>?_,λb o e n hx=>?_,λb o e hx=>?_,λb xs e=>tups b xs (I.base.tups b xs e),λb o xs e=>frzs b o xs (I.base.frzs b o xs e),λb ps e=>?_⟩,?_,λx c e=>?_,?_,λx c e=>?_,λp hp=>?_,hok,I.len⟩
 .exact keep b o (neL b o e) hb (neC b o e hx) (I.base.keep b o e n hb hx) (I.base.free b o e n hx)
 .obtain ⟨sl,e1⟩:=I.base.slot b o e n hb hx;obtain⟨sl',e2⟩:=slot b _ (neL b o e) hb (neC b o e hx) e1 (I.base.free b o e n hx);exact⟨sl',e2⟩
 .obtain ⟨o',e1⟩:=I.base.there b o e hx;exact free b o' (neC b o e hx) e1 (I.base.free b o e n hx)
 .obtain ⟨o',e1⟩:=I.base.there b o e hx;exact there b o' (neC b o e hx) e1
 .obtain ⟨m1,e1⟩:=I.base.tbls b ps e;obtain⟨m2,e2⟩:=tbls b _ e1;exact⟨m1++m2,by rw[e2,gT]⟩
 .obtain ⟨m,hn,hl⟩:=I.loc;refine⟨m,ns m hn,λi x v e1 e2 e3=>?_⟩
  obtain⟨u,r,l⟩:=hl i x v e1 e2 e3;refine⟨u,r,?_⟩;rcases l with l|⟨k,c,e,z⟩
  .exact .inl l
  .exact .inr ⟨k,c,e,cellK x c e _ z⟩
 .obtain ⟨v,z⟩:=I.cell x c e;exact⟨v,cellK x c e v z⟩
 .obtain ⟨m,⟨o,_,_,ho,_⟩,_⟩:=I.loc;exact free _ o (λz=>(hch _ z).2.1 rfl) ho I.free
 .obtain ⟨v,o,ho,hd⟩:=I.cell x c e;exact free c o (λz=>(hch c z).2.2.1 x c e rfl) ho (I.freeC x c e)
 .obtain ⟨e,n,ne,nf,d⟩:=I.pin p hp;have nch:p.1∉ch:=λz=>(hch p.1 z).2.2.2 p hp rfl
  exact⟨keep p.1 p.2 ne nf nch e n,free p.1 p.2 nch e n,ne,nf,d⟩
theorem Inv.un{t':Nat}(I:Inv X nA σ H s) (u:Un X.fs [] H H' s.heap h') (hok:xl X.prog X.w H' h'):Inv X nA σ H' { s with heap:=h',toks:=t' }:=by
 obtain⟨m,⟨o,es,ep,ho,r⟩,_⟩:=id I.loc;obtain⟨sl,hL⟩:=u.any ho I.free (by simp)
 exact I.step (g':=s.gens) (d':=s.drawn) (ch:=[]) (λ_ z=>nomatch z) (λb o _ hb _ e n=>u.keep b o e n hb (by simp)) (λb o _ hb _ e n=>u.slot b o e n hb (by simp)) (λb o _ e n=>u.free b o e n (by simp)) (λb o _ e=>u.there b o e (by simp)) u.tups u.frzs u.tbls (λm' hm=>by
  obtain⟨o',es',ep',ho',r'⟩:=hm;rw[ho]at ho';cases ho';exact⟨_,es',ep',hL,r'⟩) hok I.bare
theorem Inv.call{g':Array GenState}{t':Nat}{d':Drawn}{ch:List Addr}(I:Inv X nA σ H s) (u:Un (Io X.stack) ch H H' s.heap h') (hok:xl X.prog X.w H' h') (hg:jY g')
  (hch:∀b∈ch,(b∈X.ex∨X.s₀.heap.objs.size<=b)/\b≠X.env.locals/\(∀x c,X.env.cells.lookup x=some c->c≠b)/\∀p∈X.pn++nA,p.1≠b) :
  Inv X nA σ H' { s with heap:=h',gens:=g',drawn:=d',toks:=t' }:=by
 obtain⟨m,⟨o,es,ep,ho,r⟩,_⟩:=id I.loc;obtain⟨sl,hL⟩:=u.any ho I.free λz=>(hch _ z).2.1 rfl
 exact I.step (ch:=ch) hch (λb o hL hb hc e n=>u.keep b o e n (λz=>(ah.mp (I.stkSub b z)).elim hL hb) hc) (λb o _ _ hc e n=>u.any e n hc) (λb o hc e n=>u.free b o e n hc) (λb o hc e=>u.there b o e hc) u.tups u.frzs u.tbls (λm' hm=>by
  obtain⟨o',es',ep',ho',r'⟩:=hm;rw[ho]at ho';cases ho';exact⟨_,es',ep',hL,r'⟩) hok hg
theorem Inv.turned{t':Nat}{it:Addr}(I:Inv X nA σ H s) (k:∀b o,b≠it->s.heap.get? b=some o->h'.get? b=some o) (hn:H it=none) (hL:it≠X.env.locals)
  (h1:it∈X.ex∨X.s₀.heap.objs.size<=it) (h2:∀x c,X.env.cells.lookup x=some c->c≠it) (h3:∀p∈X.pn++nA,p.1≠it):Inv X nA σ H { s with heap:=h',toks:=t' }:=by
 have nit:∀b u,H b=some u->b≠it:=λb u e z=>by rw[z,hn]at e;cases e
 refine I.step (g':=s.gens) (d':=s.drawn) (ch:=[it]) (λb hb=>?_) (λb o _ _ hc e _=>k b o (λz=>hc (by simp[z])) e) (λb o _ _ hc e _=>⟨o.slots,k b o (λz=>hc (by simp[z])) e⟩) (λ_ _ _ _ n=>n)
  (λb o hc e=>⟨o,k b o (λz=>hc (by simp[z])) e⟩) (λ_ _ e=>e) (λ_ _ _ e=>e) (λb ps e=>⟨#[],by rw[e];simp⟩) (λm hm=>?_) (λb u e=>?_) I.bare
 .have e:b=it:=by simpa using hb
  subst e;exact⟨h1,hL,h2,h3⟩
 .obtain ⟨o,es,ep,ho,r⟩:=hm;exact⟨o,es,ep,k _ o (Ne.symm hL) ho,r⟩
 .refine (I.hok b u e).stay (λc v hc q=>k c v ?_ q) (λ_ q=>q) λ_ _ q=>q
  rcases hc with z|z
  .rw [z];exact nit b u e
  .exact nit c _ z
theorem Inv.tok(I:Inv X nA σ H s) (t:Nat):Inv X nA σ H { s with toks:=t }:=I.un (h':=s.heap) (t':=t) Un.refl I.hok
theorem Inv.kept{t':Nat}(I:Inv X nA σ H s) (k:∀b u,s.heap.get? b=some u->h'.get? b=some u):Inv X nA σ H { s with heap:=h',toks:=t' }:=I.un (Un.kept k) (I.hok.kept k)
theorem Inv.laid{a:Addr}{o:HO}{t':Nat}(I:Inv X nA σ H s) (k:∀b u,s.heap.get? b=some u->h'.get? b=some u) (hp:s.heap.objs.size<=a) (new:qv X.prog X.w (upd H a o) h' a o) :
  Inv X nA σ (upd H a o) { s with heap:=h',toks:=t' }:=I.un (Un.laid k hp (I.hok.fresh hp)) (I.hok.laid k hp new)
theorem Inv.write{x e:Addr}{o:HO}{t':Nat}(I:Inv X nA σ H s) (mu:U8 (H x)) (he:e=x∨H e=some (.own x)) (k:∀b u,b≠e->s.heap.get? b=some u->h'.get? b=some u) (heo:∃u,h'.get? e=some u)
  (new:qv X.prog X.w (upd H x o) h' x o):Inv X nA σ (upd H x o) { s with heap:=h',toks:=t' }:=I.un (Un.write mu he k heo) (I.hok.write mu he k heo new)
theorem Inv.pins_of{pins':List (Addr×Obj)}(I:Inv X nA σ H s) (h:∀p∈pins',s.heap.get? p.1=some p.2/\H p.1=none/\p.1≠X.env.locals/\p.1∉X.fs/\∀v,p.2.data ≠ .cell v):Inv X pins' σ H s :=
 ⟨I.ok,I.os,I.bare,I.base,I.loc,I.cell,I.free,I.freeC,λp hp=>(mAq.mp hp).elim (λz=>I.pin p (aD _ z)) (h p),I.hok,I.len⟩
theorem GB{N:List Str}(hN:N.Nodup) {i j:Nat}{x:Str}(a:N[i]?=some x) (b:N[j]?=some x):i=j:=by
 obtain⟨h1,e1⟩:=gSq.mp a;obtain⟨h2,e2⟩:=gSq.mp b;exact(List.getElem_inj hN).mp (e1.trans e2.symm)
theorem Kd{M:kr}{A:Around}{E:Value->iV->Prop}{i:Nat}{x:Str}{v:V}{u:Value}{Q:Unit->iV->Prop}(I:Inv X nA σ H s) (hN:X.N.Nodup) (hi:X.N[i]?=some x) (hx:Ww X.env.scope x) (r:pI v u)
  (h:∀s',Inv X nA (σ.set i (some v)) H s'->(∃a,fK a s.heap s'.heap/\(a=X.env.locals∨X.env.cells.lookup x=some a))->Q () s') (hf:X.fn x=true∨X.env.scope.names.lookup x=some .local:=by trivial):jb M A (storeName X.env x u) Q E s:=by
 obtain⟨m,hn,hl⟩:=id I.loc;have hcls:(X.env.scope.kind == .class || (X.env.scope.kind == .module && X.env.locals != X.env.globals))=false:=by rw[I.ok.kind];rfl
 have hiσ:i<σ.length:=by rw[I.len];exact(gSq.mp hi).1
 have cne:=I.cne;have tracked:∀{a:Addr}{h':Heap},(∃o,s.heap.get? a=some o/\H a=none)->fK a s.heap h'->xl X.prog X.w H h':=λ{a h'} ha hs b ob e=>by
  obtain⟨_,_,hfree⟩:=ha;refine(I.hok b ob e).stay (λc w' hc q=>(hs.2 c ?_).trans q) (λ_ q=>q) λ_ _ q=>q
  rintro rfl;rcases hc with rfl|hc
  .rw [hfree]at e;cases e
  .rw [hfree]at hc;cases hc
 rcases hx with hk|hk
 .refine wpAny_storeName_local hk hn (λh' hn' hs=>?_) hcls
  obtain⟨oL,_,_,hoL,_⟩:=id hn;refine h _ ⟨I.ok,I.os,I.bare,⟨λb o e n hb hx=>?_,λb o e n hb hx=>?_,I.base.free,λb o e hx=>?_,I.base.tups,I.base.frzs,I.base.tbls⟩,⟨_,hn',λj y v' e1 e2 e3=>?_⟩,λy c e=>?_,I.free,I.freeC,λp hp=>?_,tracked ⟨oL,hoL,I.free⟩ hs,by simpa using I.len⟩ ⟨_,hs,.inl rfl⟩
  .exact (hs.2 b (aS (aR (aq e) I.ok.above))).trans (I.base.keep b o e n hb hx)
  .obtain ⟨sl,e1⟩:=I.base.slot b o e n hb hx;exact⟨sl,(hs.2 b (aS (aR (aq e) I.ok.above))).trans e1⟩
  .obtain ⟨o',e1⟩:=I.base.there b o e hx;exact⟨o',(hs.2 b (aS (aR (aq e) I.ok.above))).trans e1⟩
  .by_cases hj:j=i
   .subst hj;rw[hi]at e1;cases e1;rw[aC hiσ]at e2;cases e2;exact⟨u,r,.inl ⟨hk,by simp⟩⟩
   .rw [ao (Ne.symm hj)]at e2;obtain⟨u',r',q⟩:=hl j y v' e1 e2 e3;refine⟨u',r',?_⟩;rcases q with ⟨k,e⟩|⟨k,c,e,z⟩
    .refine .inl ⟨k,?_⟩;have:y≠x:=λe=>hj (GB hN e1 (e ▸ hi))
     simp[this,e]
    .exact .inr ⟨k,c,e,z.sameBut hs (cne y c e)⟩
  .obtain ⟨w',z⟩:=I.cell y c e;exact⟨w',z.sameBut hs (cne y c e)⟩
  .obtain ⟨e,n,ne,nf,d⟩:=I.pin p hp;exact⟨(hs.2 p.1 ne).trans e,n,ne,nf,d⟩
 .have hfn:X.fn x=true:=by
   rcases hf with z|z
   .exact z
   .rw [z]at hk;cases hk
  obtain⟨c,hc⟩:=I.ok.has x (.inl hk);obtain⟨w',z⟩:=I.cell x c hc;refine wpAny_storeName_cell I.ok.kind hk hc z (λh' hc' hs=>?_)
  obtain⟨oc,hoc,hocd⟩:=id z;refine h { s with heap:=h' } ⟨I.ok,I.os,I.bare,⟨λb o e n hb hx=>?_,λb o e n hb hx=>?_,I.base.free,λb o e hx=>?_,I.base.tups,I.base.frzs,I.base.tbls⟩,⟨m,hn.sameBut hs (Ne.symm (cne x c hc)),λj y v' e1 e2 e3=>?_⟩,λy c' e=>?_,I.free,I.freeC,λp hp=>?_,tracked ⟨oc,hoc,I.freeC x c hc⟩ hs,by simpa using I.len⟩ ⟨c,hs,.inr hc⟩
  .exact (hs.2 b (aS (aR (aq e) (I.ok.cab x c hfn hc)))).trans (I.base.keep b o e n hb hx)
  .obtain ⟨sl,e1⟩:=I.base.slot b o e n hb hx;exact⟨sl,(hs.2 b (aS (aR (aq e) (I.ok.cab x c hfn hc)))).trans e1⟩
  .obtain ⟨o',e1⟩:=I.base.there b o e hx;exact⟨o',(hs.2 b (aS (aR (aq e) (I.ok.cab x c hfn hc)))).trans e1⟩
  .by_cases hj:j=i
   .subst hj;rw[hi]at e1;cases e1;rw[aC hiσ]at e2;cases e2;exact⟨u,r,.inr ⟨.inl hk,c,hc,hc'⟩⟩
   .rw [ao (Ne.symm hj)]at e2;obtain⟨u',r',q⟩:=hl j y v' e1 e2 e3;refine⟨u',r',?_⟩;rcases q with q|⟨k,c',e,z'⟩
    .exact .inl q
    .refine .inr ⟨k,c',e,z'.sameBut hs ?_⟩;rintro rfl;exact hj (GB hN e1 (I.ok.inj _ _ _ e hc ▸ hi))
  .by_cases hcc:c'=c
   .subst hcc;exact⟨_,hc'⟩
   .obtain ⟨w2,z2⟩:=I.cell y c' e;exact⟨w2,z2.sameBut hs hcc⟩
  .obtain ⟨e,n,ne,nf,d⟩:=I.pin p hp;refine⟨(hs.2 p.1 ?_).trans e,n,ne,nf,d⟩;intro q;rw[q,hoc]at e;have q':oc=p.2:=aT.inj e;exact d w' (by rw[←q'];exact hocd)
theorem GJ{M:kr}{A:Around}{E:Value->iV->Prop}{i:Nat}{x:Str}{v:V}{u:Value}{Q:Unit->iV->Prop}(I:Inv X nA σ H s) (hN:X.N.Nodup) (hi:X.N[i]?=some x) (hx:Ww X.env.scope x) (r:pI v u)
  (h:∀s',Inv X nA (σ.set i (some v)) H s'->Q () s') (hf:X.fn x=true∨X.env.scope.names.lookup x=some .local:=by trivial):jb M A (storeName X.env x u) Q E s :=
 Kd I hN hi hx r (λs' I' _=>h s' I') hf
theorem Inv.call'{s':iV}{ch:List Addr}(I:Inv X nA σ H s) (ho:s'.os=s.os) (u:Un (Io X.stack) ch H H' s.heap s'.heap) (hok:xl X.prog X.w H' s'.heap) (hg:jY s'.gens)
  (hch:∀b∈ch,(b∈X.ex∨X.s₀.heap.objs.size<=b)/\b≠X.env.locals/\(∀x c,X.env.cells.lookup x=some c->c≠b)/\∀p∈X.pn++nA,p.1≠b):Inv X nA σ H' s':=by
 obtain⟨h',g',d',t',o'⟩:=s';have e:o'=s.os:=ho;subst e;exact I.call (g':=g') (t':=t') (d':=d') u hok hg hch
end
abbrev XK:=Value->Option Addr->Hp->Prop
abbrev St:=List (Option V)
abbrev VK:=V->Hp->Prop
abbrev TE:=St->Hp->VK->Prop
abbrev TT:=St->Hp->(Bool->Hp->Prop)->Prop
abbrev TA:=St->Hp->(List V->Hp->Prop)->Prop
structure tY where
 nx:St->Hp->Prop
 rt:VK
 bk:St->Hp->Prop:=λ_ _=>False
 ct:St->Hp->Prop:=λ_ _=>False
abbrev TS:=tY->St->Hp->Prop
def EP(X:Cx) (nA:List (Addr×Obj)) (σ:St) (Q:VK) (u:Value) (s':iV):Prop:=∃v H',Inv X nA σ H' s'/\pI v u/\Q v H'
def TP(X:Cx) (nA:List (Addr×Obj)) (σ:St) (Q:Bool->Hp->Prop) (b:Bool) (s':iV):Prop:=∃H',Inv X nA σ H' s'/\Q b H'
def AP(X:Cx) (nA:List (Addr×Obj)) (σ:St) (Q:List V->Hp->Prop) (us:List Value) (s':iV):Prop:=∃vs H',Inv X nA σ H' s'/\oN vs us/\Q vs H'
def SP(X:Cx) (nA:List (Addr×Obj)) (D:tY) (f:Flow) (s':iV):Prop :=
 match f with
 | .next=>∃σ' H',Inv X nA σ' H' s'/\D.nx σ' H'
 | .brk=>∃σ' H',Inv X nA σ' H' s'/\D.bk σ' H'
 | .cont=>∃σ' H',Inv X nA σ' H' s'/\D.ct σ' H'
 | .ret u=>∃v σ' H',Inv X nA σ' H' s'/\pI v u/\D.rt v H'
def PE(X:Cx) (e:Expr) (t:TE):Prop :=
 ∀(nA:List (Addr×Obj)) (s:iV) (σ:St) (H:Hp) (Q:VK),Inv X nA σ H s->t σ H Q->jb (iY X.prog X.w) X.A (eval e X.env) (EP X nA σ Q) X.xe s
def PT(X:Cx) (e:Expr) (t:TT):Prop :=
 ∀(nA:List (Addr×Obj)) (s:iV) (σ:St) (H:Hp) (Q:Bool->Hp->Prop),Inv X nA σ H s->t σ H Q->jb (iY X.prog X.w) X.A (isTrue e X.env (eval e X.env)) (TP X nA σ Q) X.xe s
def PW(X:Cx) (e:Expr) (t:TT):Prop :=
 ∀(whole:Sem Value) (nA:List (Addr×Obj)) (s:iV) (σ:St) (H:Hp) (Q:Bool->Hp->Prop),Inv X nA σ H s->t σ H Q->jb (iY X.prog X.w) X.A (isTrue e X.env whole) (TP X nA σ Q) X.xe s
theorem PW.pt{X:Cx}{e:Expr}{t:TT}(h:PW X e t):PT X e t:=h _
def PA(X:Cx) (es:List Expr) (t:TA):Prop :=
 ∀(pos:Pos) (nA:List (Addr×Obj)) (s:iV) (σ:St) (H:Hp) (Q:List V->Hp->Prop),Inv X nA σ H s->t σ H Q->jb (iY X.prog X.w) X.A (spliced (jH pos (jh es X.env))) (AP X nA σ Q) X.xe s
def PS(X:Cx) (st:Stmt) (t:TS):Prop :=
 ∀(nA:List (Addr×Obj)) (s:iV) (σ:St) (H:Hp) (D:tY),Inv X nA σ H s->t D σ H->jb (iY X.prog X.w) X.A (exec st X.env) (SP X nA D) X.xe s
def Ii(X:Cx) (st:List Stmt) (t:TS):Prop :=
 ∀(nA:List (Addr×Obj)) (s:iV) (σ:St) (H:Hp) (D:tY),Inv X nA σ H s->t D σ H->jb (iY X.prog X.w) X.A (execs st X.env) (SP X nA D) X.xe s
theorem thn{α:Type}{t:Sem α}{Q Q':α->iV->Prop}{M:kr}{A:Around}{E:Value->iV->Prop}{s:iV}(h:jb M A t Q E s) (hQ:∀a s,Q a s->Q' a s):jb M A t Q' E s:=jk h hQ λ_ _ x=>x
section
variable {X:Cx}
def uY(i:Nat):TE:=λσ H Q=>∃v,σ[i]?=some (some v)/\Q v H
def tC(v:V):TE:=λ_ H Q=>Q v H
theorem TV{i:Nat}{x:Str}{pos:Pos}(hN:X.N[i]?=some x) (hv:Xz X.env.scope x) (hd:(x == ("__debug__" : Str))=false:=by decide) (hcd:(x == ("__classdict__" : Str))=false:=by decide):PE X (.Name x pos) (uY i):=by
 intro nA s σ H Q I h;obtain⟨v,e,h⟩:=h;obtain⟨m,hn,hl⟩:=I.loc;obtain⟨u,r,l⟩:=hl i x v hN e hv;have fin:EP X nA σ Q u s:=⟨v,H,I,r,h⟩;rcases l with ⟨hk,hm⟩|⟨hk,c,hc,hcell⟩
 .exact wpAny_Name (wpAny_loadName_local I.ok.kind hk hn hm fin) hd
 .rcases hk with hk|hk
  .exact wpAny_Name (wpAny_loadName_cell I.ok.kind hk hc hcell fin) hd
  .exact wpAny_Name (wpAny_loadName_free I.ok.kind hk hc hcell fin hcd) hd
theorem nJ{i j pos}:PE X (.Constant (.int i) j pos) (tC (.int i)):=λ_ _ _ H _ I h=>wpAny_Constant_int ⟨.int i,H,I.tok _,⟨_,rfl⟩,h⟩
theorem xR{b j pos}:PE X (.Constant (.bool b) j pos) (tC (.bl b)):=λ_ _ _ H _ I h=>Constant_bool ⟨.bl b,H,I,rfl,h⟩
theorem vC{j pos}:PE X (.Constant .none j pos) (tC .non):=λ_ _ _ H _ I h=>Constant_none ⟨.non,H,I,rfl,h⟩
theorem vp{x j pos}:PE X (.Constant (.str x) j pos) (tC (.str x)):=λ_ _ _ H _ I h=>Calls.Constant_str ⟨.str x,H,I.tok _,⟨_,rfl⟩,h⟩
def Gl(X:Cx) (x:Str):Prop:=X.env.kindOf x=some .globalImplicit
theorem BI{E:Value->iV->Prop}{nA:List (Addr×Obj)}{s:iV}{σ:St}{H:Hp}{x:Str}{u:Value}{pos:Pos}{Q:Value->iV->Prop}(I:Inv X nA σ H s) (hg:Gl X x) (hm:X.mg x=some u) (h:Q u s)
  (hd:(x == ("__debug__" : Str))=false:=by decide):jb (iY X.prog X.w) X.A (eval (.Name x pos) X.env) Q E s :=
 Calls.Name_function_global I.ok.kind hg (Calls.loadGlobal_global (by rw[I.ok.glob];exact I.mod.glob.keeps I.bk) hm h) hd
theorem Ar{E:Value->iV->Prop}{nA:List (Addr×Obj)}{s:iV}{σ:St}{H:Hp}{x:Str}{u:Value}{pos:Pos}{Q:Value->iV->Prop}(I:Inv X nA σ H s) (hg:Gl X x) (hm:X.mg x=none) (hv:jW x=some u) (h:Q u s)
  (hn:x ≠ "__name__" := by decide) (hd:(x == ("__debug__" : Str))=false:=by decide):jb (iY X.prog X.w) X.A (eval (.Name x pos) X.env) Q E s:=by
 obtain⟨mb,h1,h2⟩:=I.mod.blt;exact Calls.Name_function_global I.ok.kind hg (Calls.loadGlobal_builtin (by rw[I.ok.glob];exact I.mod.glob.keeps I.bk) hm (by rw[I.ok.blt];exact h1.keeps I.bk) ((h2 x hn).trans hv) h) hd
theorem EV{x:Str}{v:V}{u:Value}{pos:Pos}(hg:Gl X x) (hm:X.mg x=none) (hv:jW x=some u) (r:pI v u) (hn:x ≠ "__name__" := by decide) (hd:(x == ("__debug__" : Str))=false:=by decide):PE X (.Name x pos) (tC v) :=
 λ_ _ _ H _ I h=>Ar I hg hm hv ⟨v,H,I,r,h⟩ hn hd
variable {a b:Expr}{ta tb:TE}{pos:Pos}
def PC(X:Cx) (op:CmpOp) (a b:Expr) (t:TE):Prop :=
 ∀(nA:List (Addr×Obj)) (s:iV) (σ:St) (H:Hp) (Q:VK),Inv X nA σ H s->t σ H Q ->
  jb (iY X.prog X.w) X.A (eval a X.env) (λv s₁=>jb (iY X.prog X.w) X.A (eval b X.env) (λu s₂=>jb (iY X.prog X.w) X.A (jq op v u) (EP X nA σ Q) X.xe s₂) X.xe s₁) X.xe s
def tB(t:TE):TT:=λσ H Q=>t σ H λx H1=>∃c,x = .bl c/\Q c H1
theorem EM{op:CmpOp}{t:TE}(h:PC X op a b t) (h1:kf op b=false:=by first|exact nobehind _ (by decide) (by decide)|rfl):PT X (.Compare a [op] [b] pos) (tB t):=by
 intro nA s σ H Q I hw;refine kU (thn (h nA s σ H _ I hw) λv s1 h1=>thn h1 λu s2 h2=>thn h2 λc s3 ⟨x,H1,I1,r1,q1⟩=>?_) h1
 obtain⟨d,rfl,q⟩:=q1;cases r1;exact jn ⟨H1,I1,q⟩
theorem NY{e:Expr}{t:TE}(h:PE X e t) (he:∀whole,isTrue e X.env whole=(do let v ←whole;standAt e.pos;lO [v] (truthy v)):=by intro _;rfl):PT X e (tB t):=by
 intro nA s σ H Q I hw;refine isTrue_plain (thn (h nA s σ H _ I hw) λv s1 ⟨x,H1,I1,r1,q1⟩=>?_) (he _)
 obtain⟨d,rfl,q⟩:=q1;cases r1;exact jn ⟨H1,I1,q⟩
variable {tA tB':TT}{rest:List Expr}
def UN(t u:TT):TT:=λσ H Q=>t σ H λc H1=>if c=true then u σ H1 Q else Q false H1
def Yt(t u:TT):TT:=λσ H Q=>t σ H λc H1=>if c=true then Q true H1 else u σ H1 Q
def Vt(t:TT):TT:=λσ H Q=>t σ H λc H1=>Q (!c) H1
theorem Br(ha:PT X a tA):PW X (.BoolOp .And [a] pos) tA:=by
 intro wh nA s σ H Q I h;refine isTrue_and (thn (ha nA s σ H Q I h) λc s1 e=>?_)
 cases c with
 |true=>exact isTrue_and_nil e
 |false=>exact e
theorem L0(ha:PT X a tA):PW X (.BoolOp .Or [a] pos) tA:=by
 intro wh nA s σ H Q I h;refine isTrue_or (thn (ha nA s σ H Q I h) λc s1 e=>?_)
 cases c with
 |false=>exact isTrue_or_nil e
 |true=>exact e
theorem EY(ha:PT X a tA) (hb:PW X (.BoolOp .And (b::rest) pos) tB'):PW X (.BoolOp .And (a::b::rest) pos) (UN tA tB'):=by
 intro wh nA s σ H Q I h;refine isTrue_and (thn (ha nA s σ H _ I h) λc s1 ⟨H1,I1,q1⟩=>?_)
 cases c with
 |true=>exact hb wh nA s1 σ H1 Q I1 q1
 |false=>exact⟨H1,I1,q1⟩
theorem Q8(ha:PT X a tA) (hb:PW X (.BoolOp .Or (b::rest) pos) tB'):PW X (.BoolOp .Or (a::b::rest) pos) (Yt tA tB'):=by
 intro wh nA s σ H Q I h;refine isTrue_or (thn (ha nA s σ H _ I h) λc s1 ⟨H1,I1,q1⟩=>?_)
 cases c with
 |true=>exact⟨H1,I1,q1⟩
 |false=>exact hb wh nA s1 σ H1 Q I1 q1
theorem T9(ha:PT X a tA):PT X (.UnaryOp .Not a pos) (Vt tA):=by
 intro nA s σ H Q I h;exact isTrue_not (ha nA s σ H (λc H1=>Q (!c) H1) I h)
def Rf(ta tb:TE):TE:=λσ H Q=>ta σ H λx H1=>∃c,x = .bl c/\if c=true then tb σ H1 Q else Q (.bl false) H1
def Q6(ta:TE):TE:=λσ H Q=>ta σ H λx H1=>∃c,x = .bl c/\Q (.bl (!c)) H1
theorem EX{op} {t:TE}(h:PE X a t):PE X (.BoolOp op [a] pos) t:=λnA s σ H Q I hw=>BoolOp_one (h nA s σ H Q I hw)
theorem Ab(ha:PE X a ta) (hb:PE X (.BoolOp .And (b::rest) pos) tb):PE X (.BoolOp .And (a::b::rest) pos) (Rf ta tb):=by
 intro nA s σ H Q I h;refine BoolOp_and (thn (ha nA s σ H _ I h) λv s1 ⟨x,H1,I1,r1,q1⟩=>?_)
 obtain⟨c,rfl,q1⟩:=q1;cases r1;refine jn ?_;cases c with
 |true=>exact hb nA s1 σ H1 Q I1 q1
 |false=>exact⟨.bl false,H1,I1,rfl,q1⟩
theorem TL(ha:PE X a ta):PE X (.UnaryOp .Not a pos) (Q6 ta):=by
 intro nA s σ H Q I h;refine UnaryOp_ (thn (ha nA s σ H _ I h) λv s1 ⟨x,H1,I1,r1,q1⟩=>?_)
 obtain⟨c,rfl,q1⟩:=q1;cases r1;exact not_of (jn ⟨.bl (!c),H1,I1,rfl,q1⟩)
end
def qC(K:W.Frag) (H:Hp) (a:Addr) (xs:List V):Prop :=
 Rd H a (.lst xs) ∨
  ∃(o:Obj) (its:Array Value) (n:Nat),K.lookup a=some o/\o.cls = .type "list" /\ o.dict=none/\o.data = .seq its n/\its.size<=jc/\oN xs its.toList
def Bh(K:W.Frag) (H:Hp) (a:Addr) (xs:List V):Prop :=
 Rd H a (.tup xs) ∨
  ∃(o:Obj) (its:Array Value) (n:Nat),K.lookup a=some o/\o.cls = .type "tuple" /\ o.data = .seq its n/\its.size<=jc/\oN xs its.toList
def WX:Value->Option V
 | .none=>some .non
 | .bool b=>some (.bl b)
 | .int i _=>some (.int i)
 | .str x _=>some (.str x)
 | .bytes b _=>some (.byt b)
 | .float b _=>some (.flt b)
 | .ref a=>some (.ref a)
 | .type n=>some (.ty n)
 |_=>none
theorem pI.abs{x:V}{u:Value}(r:pI x u):WX u=some x:=by
 cases x with
 |non=>cases r;rfl
 |bl _=>cases r;rfl
 |int _=>obtain⟨t,rfl⟩:=r;rfl
 |str _=>obtain⟨t,rfl⟩:=r;rfl
 |byt _=>obtain⟨t,rfl⟩:=r;rfl
 |flt _=>obtain⟨t,rfl⟩:=r;rfl
 |ref _=>cases r;rfl
 |ty _=>cases r;rfl
theorem pI.inj{x y:V}{u:Value}(r:pI x u) (q:pI y u):x=y:=aT.inj (r.abs.symm.trans q.abs)
theorem oN.inj:∀{xs ys:List V}{us:List Value},oN xs us->oN ys us->xs=ys
 |_,_,_,.nil,.nil=>rfl
 |_,_,_,.cons r t,.cons r' t'=>by rw[r.inj r',oN.inj t t']
section
variable {X:Cx}{nA:List (Addr×Obj)}{σ:St}{H:Hp}{s:iV}{a:Addr}{xs ys:List V}
theorem qC.of{K:W.Frag}(h:H a=some (.lst xs)):qC K H a xs:=.inl (.inl h)
theorem Bh.of{K:W.Frag}(h:H a=some (.tup xs)):Bh K H a xs:=.inl (.inl h)
theorem Inv.list(I:Inv X nA σ H s) (h:qC X.K H a xs):∃its:List Value,oN xs its/\lz s.heap a its.toArray/\xs.length<=jc:=by
 rcases h with h|⟨o,its,n,hk,hc,hd,hs,hz,r⟩
 .obtain ⟨z,its,n,r,e⟩:=h.ok I.hok;exact⟨its,r,⟨_,n,e,rfl,rfl,rfl⟩,z⟩
 .refine ⟨its.toList,r,⟨o,n,I.kIn a o hk,hc,hd,by simpa using hs⟩,?_⟩
  have e:=r.length;simp only[aw]at e;lia
theorem Inv.tuple(I:Inv X nA σ H s) (h:Bh X.K H a xs):∃its:List Value,oN xs its/\IsTup s.heap a its.toArray/\xs.length<=jc:=by
 rcases h with h|⟨o,its,n,hk,hc,hs,hz,r⟩
 .obtain ⟨z,its,r,p⟩:=h.ok I.hok;exact⟨its,r,p,z⟩
 .refine ⟨its.toList,r,⟨o,I.kIn a o hk,hc,n,by simpa using hs⟩,?_⟩
  have e:=r.length;simp only[aw]at e;lia
theorem Inv.list_inj(I:Inv X nA σ H s) (h:qC X.K H a xs) (h':qC X.K H a ys):xs=ys:=by
 obtain⟨its,r,⟨o,n,e,_,_,d⟩,_⟩:=I.list h;obtain⟨its',r',⟨o',n',e',_,_,d'⟩,_⟩:=I.list h';rw[e]at e';cases e';rw[d]at d';injection d' with d1 _
 have:its=its':=by simpa using congrArg Array.toList d1
 subst this;exact r.inj r'
end
abbrev Cx.wish(X:Cx) (E:Value->iV->Prop):Cx:={ X with xe:=E }
abbrev Cx.nox(X:Cx):Cx:=X.wish λ_ _=>False
theorem Cx.Ok.wish{X:Cx}(ok:X.Ok) (E:Value->iV->Prop):(X.wish E).Ok :=
 ⟨ok.mod,ok.kind,ok.glob,ok.blt,ok.above,ok.inj,ok.has,ok.cab,ok.hd,ok.frames,ok.stk,ok.exf,ok.bs,ok.bsz,ok.noex,ok.exfs,ok.funs,ok.frf⟩
theorem Cx.Ok.unwish{X:Cx}{E:Value->iV->Prop}(ok:(X.wish E).Ok):X.Ok :=
 ⟨ok.mod,ok.kind,ok.glob,ok.blt,ok.above,ok.inj,ok.has,ok.cab,ok.hd,ok.frames,ok.stk,ok.exf,ok.bs,ok.bsz,ok.noex,ok.exfs,ok.funs,ok.frf⟩
section
variable {X:Cx}{nA:List (Addr×Obj)}{σ:St}{H:Hp}{s:iV}{E:Value->iV->Prop}
theorem Inv.wish(I:Inv X nA σ H s) (E:Value->iV->Prop):Inv (X.wish E) nA σ H s:=⟨I.ok.wish E,I.os,I.bare,I.base,I.loc,I.cell,I.free,I.freeC,I.pin,I.hok,I.len⟩
theorem Inv.unwish(I:Inv (X.wish E) nA σ H s):Inv X nA σ H s:=⟨I.ok.unwish,I.os,I.bare,I.base,I.loc,I.cell,I.free,I.freeC,I.pin,I.hok,I.len⟩
theorem SP.unwish{D:tY}{f:Flow}{s':iV}(h:SP (X.wish E) nA D f s'):SP X nA D f s':=by
 cases f with
 |next=>obtain⟨σ',H',I,q⟩:=h;exact⟨σ',H',I.unwish,q⟩
 |brk=>obtain⟨σ',H',I,q⟩:=h;exact⟨σ',H',I.unwish,q⟩
 |cont=>obtain⟨σ',H',I,q⟩:=h;exact⟨σ',H',I.unwish,q⟩
 |ret u=>obtain⟨v,σ',H',I,r,q⟩:=h;exact⟨v,σ',H',I.unwish,r,q⟩
theorem Ii.nox{st:List Stmt}{t:TS}(h:Ii X.nox st t):Ii X st t:=λnA s σ H D I hw =>
 jk (h nA s σ H D (I.wish _) hw) (λ_ _ q=>q.unwish) λ_ _ z=>False.elim z
end
section
variable {X:Cx}{st:Stmt}{rest:List Stmt}{t u:TS}{e:Expr}{te:TE}{pos:Pos}
def Jg:TS:=λD σ H=>D.nx σ H
def xQ(t u:TS):TS:=λD σ H=>t { D with nx:=u D } σ H
theorem pQ:Ii X [] Jg:=λ_ _ σ H _ I h=>jK ⟨σ,H,I,h⟩
theorem nC(h1:PS X st t) (h2:Ii X rest u):Ii X (st::rest) (xQ t u):=by
 intro nA s σ H D I h;refine kK (thn (h1 nA s σ H { D with nx:=u D } I h) λf s1 q=>?_)
 cases f with
 |next =>
  obtain⟨σ',H',I',q⟩:=q;exact h2 nA s1 σ' H' D I' q
 |ret v=>exact q
 |brk=>exact q
 |cont=>exact q
theorem nH(h1:PS X st t):Ii X [st] t:=by
 intro nA s σ H D I h;refine kK (thn (h1 nA s σ H D I h) λf s1 q=>?_)
 cases f with
 |next=>exact jK q
 |ret v=>exact q
 |brk=>exact q
 |cont=>exact q
theorem Inv.quiet{nA:List (Addr×Obj)}{σ:St}{H:Hp}{s:iV}(I:Inv X nA σ H s):interactive X.env=false:=by simp[interactive,I.ok.kind]
def vV(te:TE):TS:=λD σ H=>te σ H λ_ H1=>D.nx σ H1
theorem pH(he:PE X e te) (hs:lK e none pos.line X.env=pure false:=by rfl):PS X (.Expr e pos) (vV te):=by
 intro nA s σ H D I h;exact wpAny_Expr_any (thn (he nA s σ H _ I h) λv s1 ⟨x,H1,I1,r1,q1⟩=>⟨σ,H1,I1,q1⟩) I.quiet hs
def LN(te:TE):TS:=λD σ H=>te σ H D.rt
theorem pK(he:PE X e te):PS X (.Return (some e) pos) (LN te):=by
 intro nA s σ H D I h;exact wpAny_Return_some (thn (he nA s σ H _ I h) λv s1 ⟨x,H1,I1,r1,q1⟩=>⟨x,σ,H1,I1,r1,q1⟩)
def Hw(c:TT) (t u:TS):TS:=λD σ H=>c σ H λb H1=>if b=true then t D σ H1 else u D σ H1
theorem qi{c:Expr}{a b:List Stmt}{tc:TT}(hc:PT X c tc) (ha:Ii X a t) (hb:Ii X b u):PS X (.If c a b pos) (Hw tc t u):=by
 intro nA s σ H D I h;refine wpAny_If (thn (hc nA s σ H _ I h) λd s1 ⟨H1,I1,q1⟩=>?_)
 cases d with
 |true=>exact ha nA s1 σ H1 D I1 q1
 |false=>exact hb nA s1 σ H1 D I1 q1
end
abbrev TG:=V->St->Hp->(St->Hp->Prop)->Prop
abbrev S6:=List V->St->Hp->(St->Hp->Prop)->Prop
def PG(X:Cx) (target:Expr) (t:TG):Prop :=
 ∀(nA:List (Addr×Obj)) (s:iV) (σ:St) (H:Hp) (v:V) (u:Value) (Q:St->Hp->Prop),Inv X nA σ H s->pI v u->t v σ H Q ->
  jb (iY X.prog X.w) X.A (assign target X.env u) (λ_ s'=>∃σ' H',Inv X nA σ' H' s'/\Q σ' H') X.xe s
def Ws(X:Cx) (ts:List Expr) (t:S6):Prop :=
 ∀(nA:List (Addr×Obj)) (s:iV) (σ:St) (H:Hp) (vs:List V) (us:List Value) (Q:St->Hp->Prop),Inv X nA σ H s->oN vs us->t vs σ H Q ->
  jb (iY X.prog X.w) X.A (assignInOrder ((kq ts X.env).map (·.2)) us) (λ_ s'=>∃σ' H',Inv X nA σ' H' s'/\Q σ' H') X.xe s
abbrev RJ:=V->V->V->Hp->(Hp->Prop)->Prop
def U5(X:Cx) (t:RJ):Prop :=
 ∀(nA:List (Addr×Obj)) (s:iV) (σ:St) (H:Hp) (o i v:V) (ov iv u:Value) (Q:Hp->Prop),Inv X nA σ H s->pI o ov->pI i iv->pI v u->t o i v H Q ->
  jb (iY X.prog X.w) X.A (setItem ov iv u) (λ_ s'=>∃H',Inv X nA σ H' s'/\Q H') X.xe s
section
variable {X:Cx}{pos:Pos}
def qt(i:Nat):TG:=λv σ H Q=>Q (σ.set i (some v)) H
theorem pW{i:Nat}{x:Str}(hN:X.N.Nodup) (hi:X.N[i]?=some x) (hx:Ww X.env.scope x) (hf:X.fn x=true∨X.env.scope.names.lookup x=some .local:=by trivial):PG X (.Name x pos) (qt i):=by
 intro nA s σ H v u Q I r h;exact wpAny_assign_Name (GJ I hN hi hx r (λs' I'=>⟨_,H,I',h⟩) hf)
def HG:S6:=λvs σ H Q=>vs=[]/\Q σ H
def wc(t:TG) (u:S6):S6:=λvs σ H Q=>∃v r,vs=v::r/\t v σ H λσ' H'=>u r σ' H' Q
theorem BK:Ws X [] HG:=by
 intro nA s σ H vs us Q I r h;obtain⟨e,h⟩:=h;subst e;cases r;exact assignInOrder_nil ⟨σ,H,I,h⟩
theorem tQ{e:Expr}{es:List Expr}{t:TG}{u:S6}(h1:PG X e t) (h2:Ws X es u)
  (hs:(kq (e::es) X.env).map (·.2)=assign e X.env::(kq es X.env).map (·.2):=by rfl):Ws X (e::es) (wc t u):=by
 intro nA s σ H vs us Q I r h;obtain⟨v,vr,e1,h⟩:=h;subst e1;cases r with
 |cons r rr =>
  rw[hs];refine assignInOrder_cons (thn (h1 nA s σ H _ _ _ I r h) λ_ s1 ⟨σ1,H1,I1,q1⟩=>?_)
  exact h2 nA s1 σ1 H1 _ _ Q I1 rr q1
def Il(K:W.Frag) (n:Nat) (t:S6):TG:=λv σ H Q=>∃a xs,v = .ref a/\Bh K H a xs/\xs.length=n/\t xs σ H Q
theorem Fu{es:List Expr}{k:Nat}{t:S6}{n:Nat}(hc:X.calm=true) (h:Ws X es t)
  (hn:(kq es X.env).length=n:=by rfl) (hst:(kq es X.env).findIdx? (·.1)=none:=by rfl):PG X (.Tuple es k pos) (Il X.K n t):=by
 intro nA s σ H v u Q I r hw;obtain⟨a,xs,e1,hq,hl,hw⟩:=hw;subst e1;cases r;obtain⟨its,rv,ht,hz⟩:=I.tuple hq;refine assign_Tuple_tuple (I.ok.hd hc) ht (by simp[hn,←hl,rv.length]) hst λh' hx=>?_
 have I1:Inv X nA σ H { s with heap:=h' }:=I.kept (t':=s.toks) λb o e=>hx b o (aS (aq e)) e
 exact h nA _ σ H xs _ Q I1 (by simpa using rv) hw
def U6(to ti:TE) (t:RJ):TG:=λv σ H Q=>to σ H λo H1=>ti σ H1 λi H2=>t o i v H2 λH3=>Q σ H3
theorem Mj{o i:Expr}{to ti:TE}{t:RJ}(ho:PE X o to) (hi:PE X i ti) (hs:U5 X t)
  (ha:∀v,assign (.Subscript o i pos) X.env v=(do
   let ov ←lO [v] (eval o X.env)
   let iv ←lO [v,ov] (eval i X.env)
   standAt pos
   lO [v,ov,iv] (setItem ov iv v)
   release [v,ov,iv] []):=by intro _;rfl):PG X (.Subscript o i pos) (U6 to ti t):=by
 intro nA s σ H v u Q I r h;rw[ha];refine ja (jI (thn (ho nA s σ H _ I h) λov s1 ⟨x,H1,I1,r1,q1⟩=>?_))
 refine ja (jI (thn (hi nA s1 σ H1 _ I1 q1) λiv s2 ⟨y,H2,I2,r2,q2⟩=>?_))
 refine ja (ky (ja (jI (thn (hs nA s2 σ H2 x y v ov iv u _ I2 r1 r2 r q2) λ_ s3 ⟨H3,I3,q3⟩=>?_))))
 exact wpAny_release ⟨σ,H3,I3,q3⟩
def Au(te:TE) (g:TG):TS:=λD σ H=>te σ H λx H1=>g x σ H1 D.nx
theorem On{tg e:Expr}{te:TE}{g:TG}(he:PE X e te) (hg:PG X tg g) (hs:swapsWithSole [tg] e pos.line X.env=pure false:=by rfl) (hw:swappedStores [tg] e X.env=pure none:=by rfl)
  (h1:(kq [tg] X.env).map (·.2)=[assign tg X.env]:=by rfl):PS X (.Assign [tg] e pos) (Au te g):=by
 intro nA s σ H D I h;refine wpAny_Assign_stores (thn (he nA s σ H _ I h) λv s1 ⟨x,H1,I1,r1,q1⟩=>?_) hs hw
 rw[h1];exact thn (hg nA s1 σ H1 x v _ I1 r1 q1) λ_ s2 q=>q
theorem nT{i:Nat}{x:Str}{e:Expr}{te:TE}{pos':Pos}(hN:X.N.Nodup) (hi:X.N[i]?=some x) (hx:Ww X.env.scope x) (he:PE X e te) (hs:lK e (some (.Name x pos')) pos.line X.env=pure false:=by rfl) (hf:X.fn x=true∨X.env.scope.names.lookup x=some .local:=by trivial) :
  PS X (.Assign [.Name x pos'] e pos) (Au te (qt i)):=by
 intro nA s σ H D I h;refine wpAny_Assign_Name (thn (he nA s σ H _ I h) λv s1 ⟨y,H1,I1,r1,q1⟩=>?_) hs
 exact GJ I1 hN hi hx r1 (λs2 I2=>⟨_,H1,I2,q1⟩) hf
end
section
variable {X:Cx}{pos:Pos}
def Ib(c:TT) (tb:TS):TS:=λD σ H=>∃W:Nat->St->Hp->Prop,(∃m,W m σ H)/\∀m σ H,W m σ H ->
 c σ H λb H1=>if b=true then ∃N:St->Hp->Prop,(∀σ' H',N σ' H'->∃m',m'<m/\W m' σ' H')/\tb { D with nx:=N,ct:=N,bk:=D.nx } σ H1 else D.nx σ H1
theorem zl{c:Expr}{body:List Stmt}{tc:TT}{tb:TS}(hp:PassesOwn (iY X.prog X.w) X.A X.env X.xe) (hc:PT X c tc) (hb:Ii X body tb):PS X (.While c body [] pos) (Ib tc tb):=by
 intro nA s σ H D I h;obtain⟨W,⟨m0,w0⟩,turn⟩:=h;refine wpAny_While (codeAny_whileLoop (λn s'=>∃σ' H',Inv X nA σ' H' s'/\W n σ' H') ?_ m0 ⟨σ,H,I,w0⟩)
 rintro n s1 ⟨σ1,H1,I1,w1⟩;refine jD hp (thn (hc nA s1 σ1 H1 _ I1 (turn n σ1 H1 w1)) λb s2 ⟨H2,I2,q2⟩=>?_)
 cases b with
 |true =>
  obtain⟨N,hN,q2⟩:=q2;rw[oq rfl];refine jD hp (thn (hb nA s2 σ1 H2 _ I2 q2) λf s3 q3=>?_)
  cases f with
  |next =>
   obtain⟨σ3,H3,I3,n3⟩:=q3;obtain⟨m',hm,w3⟩:=hN σ3 H3 n3;exact⟨m',hm,σ3,H3,I3,w3⟩
  |cont =>
   obtain⟨σ3,H3,I3,n3⟩:=q3;obtain⟨m',hm,w3⟩:=hN σ3 H3 n3;exact⟨m',hm,σ3,H3,I3,w3⟩
  |brk=>exact q3
  |ret v=>exact q3
 |false =>
  rw[oz aH];exact jK ⟨σ1,H2,I2,q2⟩
end
structure It where
 go:Nat->Hp->Prop
 yld:Nat->Hp->V->Hp->Prop
 stop:Nat->Hp->Prop
def Bo(X:Cx) (nA:List (Addr×Obj)) (H:Hp) (b:Addr):Prop :=
 H b=none/\b≠X.env.locals/\b∉X.fs/\(b∈X.ex∨X.s₀.heap.objs.size<=b)/\(∀x c,X.env.cells.lookup x=some c->c≠b)/\∀p∈X.pn++nA,p.1≠b
theorem Inv.fpOk{X:Cx}{nA:List (Addr×Obj)}{σ:St}{H H':Hp}{s:iV}{b:Addr}(I:Inv X nA σ H s) (hb:s.heap.objs.size<=b) (hn:H' b=none):Bo X nA H' b:=by
 refine⟨hn,cZ (aR I.lt hb),I.nofs hb,.inr (bN I.sz hb),λx c e z=>?_,λp hp z=>?_⟩
 .obtain ⟨v,q⟩:=I.cell x c e;exact absurd (aR q.lt (by rw[z];exact hb)) (cD _)
 .exact absurd (aR (aq (I.pin p hp).1) (by rw[z];exact hb)) (cD _)
structure Kb (P:je) (w:jf) (K:W.Frag) (tg:Expr) (J:It) (fp:List Addr) (it:Addr) (tn:Nat->Heap->Prop):Prop where
 mem:it∈fp
 obj:∀i h,tn i h->∀b∈fp,∃o,h.get? b=some o/\∀v,o.data ≠ .cell v
 keep:∀i h h',tn i h->(∀b∈fp,∀o,h.get? b=some o->h'.get? b=some o)->tn i h'
 item:∀(X:Cx),X.prog=P->X.w=w->X.K=K->X.calm=true->∀(i:Nat) (nA:List (Addr×Obj)) (s:iV) (σ:St) (H:Hp) (E:Value->iV->Prop),Inv X nA σ H s->(∀b∈fp,Bo X nA H b)->tn i s.heap->J.go i H ->
  jb (iY P w) X.A (pyNext (.ref it)) (λr s1=>∃u,r=some u /\
   jb (iY P w) X.A (km tg (.ref it) u) (λ_ s2=>∃x H',Inv X nA σ H' s2/\pI x u/\J.yld i H x H'/\tn (i+1) s2.heap/\∀b∈fp,H' b=none) E s1) E s
 done:∀(X:Cx),X.prog=P->X.w=w->X.K=K->X.calm=true->∀(i:Nat) (nA:List (Addr×Obj)) (s:iV) (σ:St) (H:Hp) (E:Value->iV->Prop),Inv X nA σ H s->(∀b∈fp,Bo X nA H b)->tn i s.heap->J.stop i H ->
  jb (iY P w) X.A (pyNext (.ref it)) (λr s1=>r=none/\Inv X nA σ H s1) E s
 self:∀(A:Around) (i:Nat) (s:iV) (Q:Value->iV->Prop) (E:Value->iV->Prop),tn i s.heap->Q (.ref it) s->jb (iY P w) A (pyIter (.ref it)) Q E s
abbrev TI:=St->Hp->(It->Hp->Prop)->Prop
def Yi(X:Cx) (nA:List (Addr×Obj)) (σ:St) (tg:Expr) (R:It->Hp->Prop) (itv:Value) (s2:iV):Prop :=
 ∃(it:Addr) (fp:List Addr) (tn:Nat->Heap->Prop) (J:It) (H':Hp),itv = .ref it/\Inv X nA σ H' s2/\Kb X.prog X.w X.K tg J fp it tn/\tn 0 s2.heap/\(∀b∈fp,Bo X nA H' b)/\R J H'
def PI(X:Cx) (tg iter:Expr) (wi:TI):Prop :=
 ∀(nA:List (Addr×Obj)) (s:iV) (σ:St) (H:Hp) (R:It->Hp->Prop),Inv X nA σ H s->wi σ H R ->
  jb (iY X.prog X.w) X.A (eval iter X.env) (λv s1=>jb (iY X.prog X.w) X.A (pyIter v) (Yi X nA σ tg R) X.xe s1) X.xe s
theorem Q9{M:kr}{A:Around}{E:Value->iV->Prop}{s:iV}{tg:Expr}{it:Addr}{u:Value}{o:Obj}{n:String}{vs:Array Value}{Q:Unit->iV->Prop}(ho:s.heap.get? it=some o) (hc:o.cls = .type n) (hd:o.data = .fields vs)
    (hn:["enumerate", "zip", "dict_itemiterator", "dict_reverseitemiterator", "odict_iterator", "itertools.zip_longest", "itertools.pairwise"].contains n=false) (hQ:Q () s):jb M A (km tg (.ref it) u) Q E s:=by
  unfold km;cases tg <;> first
    |exact jj hQ
    | (cases u <;> first
        |exact jj hQ
        | (refine ja (wpAny_load ho ?_)
           rw[hc,hd];show jb M A (if (["enumerate", "zip", "dict_itemiterator", "dict_reverseitemiterator", "odict_iterator", "itertools.zip_longest", "itertools.pairwise"].contains n && vs[0]? == some (jX _))=true then _ else _) Q E s
           rw[oz (by intro h;rw[hn,iB]at h;cases h)]
           exact jj hQ))
def US(K:W.Frag) (a:Addr):It :=
 ⟨λi H=>∃xs x,qC K H a xs/\xs[i]?=some x,λi H x H'=>H'=H/\∀xs,qC K H a xs->xs[i]?=some x,λi H=>∃xs,qC K H a xs/\xs.length<=i⟩
def Qp(lo:Int) (n:Nat):It:=⟨λi _=>i<n,λi H x H'=>H'=H/\x = .int (lo+i),λi _=>n<=i⟩
theorem K7{P:je}{w:jf}{K:W.Frag}{tg:Expr}(a it:Addr):Kb P w K tg (US K a) [it] it (λi h=>h.IsListIter it a i) where
 mem:=by simp
 obj:=λi h st b hb=>by
  have e:b=it:=by simpa using hb
  subst e;obtain⟨o,e,c,d⟩:=st;exact⟨o,e,λv z=>by rw[d]at z;cases z⟩
 keep:=λi h h' st k=>st.at λo e=>k it (by simp) o e
 item:=by
  intro X hP hw hK hc i nA s σ H E I hf st hg;subst hP hw hK;obtain⟨xs,x,hq,hx⟩:=hg;obtain⟨its,rv,p,hz⟩:=I.list hq;obtain⟨u,hu,ru⟩:=rv.get hx;obtain⟨f0,f1,f2,f3,f4,f5⟩:=hf it (by simp)
  refine wpAny_pyNext_list_item st p.isList (x:=u) (by simpa using hu) λh' st' sb=>?_
  have I1:Inv X nA σ H { s with heap:=h' }:=I.turned (t':=s.toks) (λb o hb e=>(sb.2 b hb).trans e) f0 f1 f3 f4 f5
  obtain⟨o,e,c,d⟩:=id st';exact⟨u,rfl,Q9 (s:={ s with heap:=h' }) e c d (by decide) ⟨x,H,I1,ru,⟨rfl,λys hy=>by rw[I.list_inj hy hq];exact hx⟩,st',λb hb=>(hf b hb).1⟩⟩
 done:=by
  intro X hP hw hK hc i nA s σ H E I hf st hg;subst hP hw hK;obtain⟨xs,hq,hx⟩:=hg;obtain⟨its,rv,p,hz⟩:=I.list hq;obtain⟨f0,f1,f2,f3,f4,f5⟩:=hf it (by simp)
  have hl:=rv.length;exact wpAny_pyNext_list_end (I.ok.hd hc) st p.isList (by simp;lia) λh' eb=>⟨rfl,I.turned (t':=s.toks) (λb o hb e=>eb b o hb e) f0 f1 f3 f4 f5⟩
 self:=λ_ _ _ _ _ st h=>wpAny_pyIter_listiter st h
theorem He{P:je}{w:jf}{K:W.Frag}{tg:Expr}(it:Addr) (lo:Int) (n:Nat):Kb P w K tg (Qp lo n) [it] it (λi h=>IsRangeIter h it (lo+(i:Nat)*1) ((n:Int)-(i:Nat)) 1) where
 mem:=by simp
 obj:=λi h st b hb=>by
  have e:b=it:=by simpa using hb
  subst e;exact⟨_,st,λv z=>by
   have z':Data.fields _=Data.cell v:=z;cases z'⟩
 keep:=λi h h' st k=>k it (by simp) _ st
 item:=by
  intro X hP hw hK hc i nA s σ H E I hf st hg;subst hP hw hK;obtain⟨f0,f1,f2,f3,f4,f5⟩:=hf it (by simp)
  have W:=Walks.range (prog:=X.prog) (w:=X.w) (I.ok.hd hc) it lo 1 n;refine W.item i s _ _ hg st λv h' tk hv st' kk=>?_
  obtain⟨t,rfl⟩:=hv;have I1:Inv X nA σ H { s with heap:=h',toks:=tk }:=I.turned (λb o hb e=>kk b o (by simpa using hb) e) f0 f1 f3 f4 f5
  refine⟨_,rfl,Q9 (s:={ s with heap:=h',toks:=tk }) (n := "range_iterator") st' rfl rfl (by decide) ⟨.int (lo+i),H,I1,⟨t,?_⟩,⟨rfl,rfl⟩,st',λb hb=>(hf b hb).1⟩⟩
  rw[hZ]
 done:=by
  intro X hP hw hK hc i nA s σ H E I hf st hg;subst hP hw hK;obtain⟨f0,f1,f2,f3,f4,f5⟩:=hf it (by simp)
  exact wpAny_pyNext_range_end (I.ok.hd hc) st (by have:n<=i:=hg;lia) λh' eb=>⟨rfl,I.turned (t':=s.toks) (λb o hb e=>eb b o hb e) f0 f1 f3 f4 f5⟩
 self:=λ_ _ _ _ _ st h=>wpAny_pyIter_rangeiter st h
section
variable {X:Cx}{tg:Expr}
def Dy(K:W.Frag) (tl:TE):TI:=λσ H R=>tl σ H λx H1=>∃a,x = .ref a/\(∃xs,qC K H1 a xs)/\R (US K a) H1
theorem qY{l:Expr}{tl:TE}(hl:PE X l tl):PI X tg l (Dy X.K tl):=by
 intro nA s σ H R I h;refine thn (hl nA s σ H _ I h) λv s1 ⟨x,H1,I1,r1,q1⟩=>?_
 obtain⟨a,e,⟨xs,hq⟩,q⟩:=q1;subst e;cases r1;obtain⟨its,rv,p,hz⟩:=I1.list hq;refine wpAny_pyIter_list p.isList ?_;refine⟨s1.heap.objs.size,[s1.heap.objs.size],_,_,H1,rfl,I1.kept (t':=s1.toks) λb o e=>aj _ e,K7 a _,⟨_,bh _ rfl,rfl,rfl⟩,λb hb=>?_,q⟩
 have e:b=s1.heap.objs.size:=by simpa using hb
 subst e;exact I1.fpOk (ae _) (I1.hok.fresh (ae _))
theorem MQ{nA:List (Addr×Obj)}{σ:St}{H:Hp}{s:iV}{R:It->Hp->Prop}{E:Value->iV->Prop}{lo hi:Int}{t u v:Tok}{tk:Nat}(I:Inv X nA σ H s) (h1:-(2 ^ 62)<=lo) (h2:lo<2 ^ 62) (h3:-(2 ^ 62)<=hi) (h4:hi<2 ^ 62)
  (q:R (Qp lo (hi-lo).toNat) H):jb (iY X.prog X.w) X.A (pyIter (.ref s.heap.objs.size)) (Yi X nA σ tg R) E { s with heap:=s.heap.push { cls:=.type "range", data:=.fields #[.int lo t,.int hi u,.int 1 v] },toks:=tk }:=by
 refine wpAny_pyIter_range (IsRange.new ..) (small_one h1 h2 h3 h4) ?_;have I1:Inv X nA σ H { s with heap:=s.heap.push { cls:=.type "range", data:=.fields #[.int lo t,.int hi u,.int 1 v] },toks:=tk }:=I.kept λb o e=>aj _ e
 refine⟨(s.heap.push { cls:=.type "range", data:=.fields #[.int lo t,.int hi u,.int 1 v] }).objs.size,[(s.heap.push { cls:=.type "range", data:=.fields #[.int lo t,.int hi u,.int 1 v] }).objs.size],_,_,H,rfl,
  I1.kept (t':=tk) λb o e=>aj _ e,He _ lo (hi-lo).toNat,?_,λb hb=>?_,q⟩
 .have e1:lo+((0:Nat):Int)*1=lo:=by simp
  have e2:(((hi-lo).toNat:Nat):Int)-((0:Nat):Int)=Builtin.Range.rangeSize lo hi 1:=by rw[rangeSize_one];split <;> lia
  show IsRangeIter _ _ (lo+((0:Nat):Int)*1) ((((hi-lo).toNat:Nat):Int)-((0:Nat):Int)) 1;rw[e1,e2];exact bh _ rfl
 .have e:b=(s.heap.push { cls:=.type "range", data:=.fields #[.int lo t,.int hi u,.int 1 v] }).objs.size:=by simpa using hb
  subst e;exact I1.fpOk (ae _) (I1.hok.fresh (ae _))
def Nb(ta:TA):TI:=λσ H R=>ta σ H λvs H1=>∃j:Int,vs=[.int j]/\-(2 ^ 62)<=j/\j<2 ^ 62/\R (Qp 0 j.toNat) H1
theorem D8{a:Expr}{ta:TA}{p pos:Pos}(hg:Gl X "range") (hm:X.mg "range" = none) (ha:PA X [a] ta) (hs:jh [a] X.env=[(false,eval a X.env)]:=by rfl):PI X tg (.Call (.Name "range" p) [a] [] pos) (Nb ta):=by
 intro nA s σ H R I h;refine Call_ (Ar I hg hm boot_range (cG (thn (ha pos nA s σ H _ I h) λus s1 ⟨vs,H1,I1,r1,q1⟩=>?_) hs rfl))
 obtain⟨j,e,q1,q2,q⟩:=q1;subst e;cases r1 with
 |cons r rr =>
  cases rr;obtain⟨t,rfl⟩:=r;exact call_range_1 (MQ I1 (by lia) (by lia) q1 q2 (by simpa using q))
def G2(wi:TI) (g:TG) (tb:TS):TS:=λD σ H=>wi σ H λJ H1=>∃W:Nat->Nat->St->Hp->Prop,(∃m,W 0 m σ H1)/\∀i m σ H,W i m σ H ->
 (J.stop i H/\D.nx σ H)∨(J.go i H/\∃N:St->Hp->Prop,(∀σ' H',N σ' H'->∃m',m'<m/\W (i+1) m' σ' H')/\∀x H',J.yld i H x H'->g x σ H' λσ2 H2=>tb { D with nx:=N,ct:=N,bk:=D.nx } σ2 H2)
def CU(fp:List Addr) (h:Heap):List (Addr×Obj):=fp.filterMap λb=>(h.get? b).map λo=>(b,o)
theorem wC{fp:List Addr}{h:Heap}{b:Addr}{o:Obj}(hb:b∈fp) (e:h.get? b=some o):(b,o)∈CU fp h:=gU.mpr ⟨b,hb,by rw[e];rfl⟩
theorem KP{fp:List Addr}{h:Heap}{p:Addr×Obj}(hp:p∈CU fp h):p.1∈fp/\h.get? p.1=some p.2:=by
 obtain⟨b,hb,e⟩:=gU.mp hp;cases q:h.get? b with
 |none=>rw[q]at e;cases e
 |some o =>
  rw[q]at e;have e':(b,o)=p:=aT.inj e;subst e';exact⟨hb,q⟩
theorem Inv.pinned{nA:List (Addr×Obj)}{σ:St}{H:Hp}{s:iV}{fp:List Addr}(I:Inv X nA σ H s) (hf:∀b∈fp,Bo X nA H b) (ho:∀b∈fp,∃o,s.heap.get? b=some o/\∀v,o.data ≠ .cell v):Inv X (nA++CU fp s.heap) σ H s :=
 I.pins_of λp hp=>(mAq.mp hp).elim (λz=>I.pin p (ar _ z)) λz=>by
  obtain⟨hb,e⟩:=KP z;obtain⟨f0,f1,f2,_⟩:=hf p.1 hb;obtain⟨o,e',d⟩:=ho p.1 hb;rw[e]at e';cases e';exact⟨e,f0,f1,f2,d⟩
theorem Inv.unpinned{nA pl:List (Addr×Obj)}{σ:St}{H:Hp}{s:iV}(I:Inv X (nA++pl) σ H s):Inv X nA σ H s:=I.pins_of λp hp=>I.pin p (ar _ (aD _ hp))
theorem rP{iter:Expr}{body:List Stmt}{wi:TI}{g:TG}{tb:TS}{pos:Pos}(hp:PassesOwn (iY X.prog X.w) X.A X.env X.xe) (hc:X.calm=true) (hi:PI X tg iter wi) (hg:PG X tg g) (hb:Ii X body tb)
  (hs:∀x,foldedSetIterable iter X.env x=pure x:=by intro _;rfl):PS X (.For tg iter body [] pos) (G2 wi g tb):=by
 intro nA s σ H D I h;refine wpAny_For (thn (hi nA s σ H _ I h) λv s1 h1=>thn h1 λitv s2 h2=>?_) hs
 obtain⟨it,fp,tn,J,H2,e,I2,T,Hb,f2,W,⟨m0,w0⟩,turn⟩:=h2;subst e;have stat:∀{H':Hp},(∀b∈fp,H' b=none)->∀b∈fp,Bo X nA H' b:=λhn b hb=>⟨hn b hb,(f2 b hb).2⟩
 refine codeAny_forLoop_any (λn s'=>∃i σ' H',Inv X nA σ' H' s'/\tn i s'.heap/\(∀b∈fp,H' b=none)/\W i n σ' H') ?_ m0 ⟨0,σ,H2,I2,Hb,λb hb=>(f2 b hb).1,w0⟩
 rintro n s3 ⟨i,σ3,H3,I3,WK,fr3,w3⟩;rcases turn i n σ3 H3 w3 with ⟨stop,qn⟩|⟨go,N,hN,step⟩
 .refine jD hp (thn (T.done X rfl rfl rfl hc i nA s3 σ3 H3 X.xe I3 (stat fr3) WK stop) λr s4 ⟨hr,I4⟩=>?_)
  subst hr;exact jK ⟨σ3,H3,I4,qn⟩
 .refine jD hp (thn (T.item X rfl rfl rfl hc i nA s3 σ3 H3 X.xe I3 (stat fr3) WK go) λr s4 ⟨u,hr,h4⟩=>?_)
  subst hr;refine jD hp (thn h4 λ_ s5 ⟨x,H5,I5,r5,y5,st5,fr5⟩=>?_)
  have I5':=I5.pinned (stat fr5) (T.obj _ _ st5);refine jD hp (thn (hg _ s5 σ3 H5 x u _ I5' r5 (step x H5 y5)) λ_ s6 ⟨σ6,H6,I6,q6⟩=>?_)
  refine jD hp (thn (hb _ s6 σ6 H6 _ I6 q6) λf s7 q7=>?_)
  have again:∀{σ7:St}{H7:Hp},Inv X (nA++CU fp s5.heap) σ7 H7 s7->N σ7 H7->∃m,m<n/\∃i σ' H',Inv X nA σ' H' s7/\tn i s7.heap/\(∀b∈fp,H' b=none)/\W i m σ' H':=λ{σ7 H7} I7 n7=>by
   obtain⟨m',hm,w7⟩:=hN σ7 H7 n7;refine⟨m',hm,i+1,σ7,H7,I7.unpinned,T.keep _ _ _ st5 λb hb o e=>(I7.pin (b,o) (ar _ (ar _ (wC hb e)))).1,λb hb=>?_,w7⟩
   obtain⟨o,e,d⟩:=T.obj _ _ st5 b hb;exact(I7.pin (b,o) (ar _ (ar _ (wC hb e)))).2.1
  cases f with
  |next=>obtain⟨σ7,H7,I7,n7⟩:=q7;exact again I7 n7
  |cont=>obtain⟨σ7,H7,I7,n7⟩:=q7;exact again I7 n7
  |brk=>obtain⟨σ7,H7,I7,q7⟩:=q7;exact⟨σ7,H7,I7.unpinned,q7⟩
  |ret v=>obtain⟨x7,σ7,H7,I7,r7,q7⟩:=q7;exact⟨x7,σ7,H7,I7.unpinned,r7,q7⟩
end
theorem CO{K:W.Frag}{a:Addr}{xs:List V}{g:TG}{tb:TS}{D:tY}{σ:St}{H:Hp}(Pv:Nat->St->Hp->Prop) (h0:Pv 0 σ H) (hl:∀i σ H,i<=xs.length->Pv i σ H->qC K H a xs)
  (hs:∀i x σ H,xs[i]?=some x->Pv i σ H->g x σ H λσ2 H2=>tb { D with nx:=Pv (i+1),ct:=Pv (i+1),bk:=D.nx } σ2 H2) (hd:∀σ H,Pv xs.length σ H->D.nx σ H) :
  ∃W:Nat->Nat->St->Hp->Prop,(∃m,W 0 m σ H)/\∀i m σ H,W i m σ H ->
   ((US K a).stop i H/\D.nx σ H)∨((US K a).go i H/\∃N:St->Hp->Prop,(∀σ' H',N σ' H'->∃m',m'<m/\W (i+1) m' σ' H')/\∀x H',(US K a).yld i H x H'->g x σ H' λσ2 H2=>tb { D with nx:=N,ct:=N,bk:=D.nx } σ2 H2):=by
 refine⟨λi m σ H=>m=xs.length-i/\i<=xs.length/\Pv i σ H,⟨xs.length,by simp,bg _,h0⟩,?_⟩
 rintro i m σ H ⟨rfl,hi,p⟩;have q:=hl i σ H hi p
 by_cases hlt:i<xs.length
 .refine .inr ⟨⟨xs,xs[i],q,by simp[hlt]⟩,Pv (i+1),λσ' H' p'=>⟨xs.length-(i+1),by lia,rfl,hlt,p'⟩,λx H' y=>?_⟩
  obtain⟨e,y⟩:=y;subst e;exact hs i x σ _ (y xs q) p
 .have e:i=xs.length:=by lia
  subst e;exact .inl ⟨⟨xs,q,ae _⟩,hd σ H p⟩
theorem K4{lo:Int}{n:Nat}{g:TG}{tb:TS}{D:tY}{σ:St}{H:Hp}(Pv:Nat->St->Hp->Prop) (h0:Pv 0 σ H)
  (hs:∀i σ H,i<n->Pv i σ H->g (.int (lo+i)) σ H λσ2 H2=>tb { D with nx:=Pv (i+1),ct:=Pv (i+1),bk:=D.nx } σ2 H2) (hd:∀σ H,Pv n σ H->D.nx σ H) :
  ∃W:Nat->Nat->St->Hp->Prop,(∃m,W 0 m σ H)/\∀i m σ H,W i m σ H ->
   ((Qp lo n).stop i H/\D.nx σ H)∨((Qp lo n).go i H/\∃N:St->Hp->Prop,(∀σ' H',N σ' H'->∃m',m'<m/\W (i+1) m' σ' H')/\∀x H',(Qp lo n).yld i H x H'->g x σ H' λσ2 H2=>tb { D with nx:=N,ct:=N,bk:=D.nx } σ2 H2):=by
 refine⟨λi m σ H=>m=n-i/\i<=n/\Pv i σ H,⟨n,by simp,bg _,h0⟩,?_⟩
 rintro i m σ H ⟨rfl,hi,p⟩
 by_cases hlt:i<n
 .refine .inr ⟨hlt,Pv (i+1),λσ' H' p'=>⟨n-(i+1),by lia,rfl,hlt,p'⟩,λx H' y=>?_⟩
  obtain⟨e,y⟩:=y;subst e y;exact hs i σ _ hlt p
 .have e:i=n:=by lia
  subst e;exact .inl ⟨ae _,hd σ H p⟩
abbrev R2:=V->V->Hp->VK->Prop
def Bg(X:Cx) (f:Value->Value->Sem Value) (r:R2):Prop :=
 ∀(nA:List (Addr×Obj)) (s:iV) (σ:St) (H:Hp) (x y:V) (v u:Value) (Q:VK),Inv X nA σ H s->pI x v->pI y u->r x y H Q ->
  jb (iY X.prog X.w) X.A (f v u) (EP X nA σ Q) X.xe s
def WN(X:Cx) (f:Value->Sem Value) (r:V->Hp->VK->Prop):Prop :=
 ∀(nA:List (Addr×Obj)) (s:iV) (σ:St) (H:Hp) (x:V) (v:Value) (Q:VK),Inv X nA σ H s->pI x v->r x H Q ->
  jb (iY X.prog X.w) X.A (f v) (EP X nA σ Q) X.xe s
def sv(X:Cx) (f:Value) (r:List V->Hp->VK->Prop):Prop :=
 ∀(nA:List (Addr×Obj)) (s:iV) (σ:St) (H:Hp) (xs:List V) (us:List Value) (Q:VK),Inv X nA σ H s->oN xs us->r xs H Q ->
  jb (iY X.prog X.w) X.A (call f us) (EP X nA σ Q) X.xe s
def XD(X:Cx) (r:V->Hp->(Bool->Hp->Prop)->Prop):Prop :=
 ∀(nA:List (Addr×Obj)) (s:iV) (σ:St) (H:Hp) (x:V) (v:Value) (Q:Bool->Hp->Prop),Inv X nA σ H s->pI x v->r x H Q ->
  jb (iY X.prog X.w) X.A (truthy v) (TP X nA σ Q) X.xe s
def OT(r:R2) (ta tb:TE):TE:=λσ H Q=>ta σ H λx H1=>tb σ H1 λy H2=>r x y H2 Q
def WR(r:V->Hp->VK->Prop) (ta:TE):TE:=λσ H Q=>ta σ H λx H1=>r x H1 Q
def rI(C:Int->Int->Prop) (g:Int->Int->V):R2:=λx y H Q=>∃i j,x = .int i/\y = .int j/\C i j/\Q (g i j) H
def Nh(g:Int->Int->V):R2:=λx y H Q=>∃i j,x = .int i/\y = .int j/\Q (g i j) H
def rU(g:Int->V):V->Hp->VK->Prop:=λx H Q=>∃i,x = .int i/\Q (g i) H
section
variable {X:Cx}{a b c:Expr}{ta tb tc:TE}{pos:Pos}
theorem Ub(ha:PE X a ta) (hb:PE X b tb) {nA:List (Addr×Obj)}{s:iV}{σ:St}{H:Hp}{R:V->V->Hp->Prop}(I:Inv X nA σ H s)
  (h:ta σ H λx H1=>tb σ H1 λy H2=>R x y H2) {Q:Value->iV->Prop}{f:Value->Value->Sem Value}
  (hf:∀v u s2 x y H2,Inv X nA σ H2 s2->pI x v->pI y u->R x y H2->jb (iY X.prog X.w) X.A (f v u) Q X.xe s2) :
  jb (iY X.prog X.w) X.A (eval a X.env) (λv s₁=>jb (iY X.prog X.w) X.A (eval b X.env) (λu s₂=>jb (iY X.prog X.w) X.A (f v u) Q X.xe s₂) X.xe s₁) X.xe s:=by
 refine thn (ha nA s σ H _ I h) λv s1 ⟨x,H1,I1,r1,q1⟩=>?_
 refine thn (hb nA s1 σ H1 _ I1 q1) λu s2 ⟨y,H2,I2,r2,q2⟩=>?_
 exact hf v u s2 x y H2 I2 r1 r2 q2
theorem pD{op:Operator}{r:R2}(ho:Bg X (ki op) r) (ha:PE X a ta) (hb:PE X b tb):PE X (.BinOp a op b pos) (OT r ta tb):=by
 intro nA s σ H Q I h;exact wpAny_BinOp (Ub ha hb I h λv u s2 x y H2 I2 rx ry q=>ho nA s2 σ H2 x y v u Q I2 rx ry q)
theorem tT{op:UnaryOp}{r:V->Hp->VK->Prop}(ho:WN X (unaryOp op) r) (ha:PE X a ta):PE X (.UnaryOp op a pos) (WR r ta):=by
 intro nA s σ H Q I h;exact UnaryOp_ (thn (ha nA s σ H _ I h) λv s1 ⟨x,H1,I1,r1,q1⟩=>ho nA s1 σ H1 x v Q I1 r1 q1)
theorem WH{f:Value->Value->Sem Value}{C:Int->Int->Prop}{g:Int->Int->Int}
  (rule:∀(i j:Int) (t u:Tok) (s:iV) (Q:Value->iV->Prop) (E:Value->iV->Prop),C i j->Q (.int (g i j) s.toks) { s with toks:=s.toks+1 }->jb (iY X.prog X.w) X.A (f (.int i t) (.int j u)) Q E s) :
  Bg X f (rI C λi j=>.int (g i j)):=by
 intro nA s σ H x y v u Q I rx ry h;obtain⟨i,j,rfl,rfl,hc,q⟩:=h;obtain⟨t,rfl⟩:=rx;obtain⟨t',rfl⟩:=ry;exact rule i j t t' s _ _ hc ⟨.int (g i j),H,I.tok _,⟨_,rfl⟩,q⟩
theorem U2{f:Value->Value->Sem Value}{g:Int->Int->Int}
  (rule:∀(i j:Int) (t u:Tok) (s:iV) (Q:Value->iV->Prop) (E:Value->iV->Prop),Q (.int (g i j) s.toks) { s with toks:=s.toks+1 }->jb (iY X.prog X.w) X.A (f (.int i t) (.int j u)) Q E s) :
  Bg X f (Nh λi j=>.int (g i j)):=by
 intro nA s σ H x y v u Q I rx ry h;obtain⟨i,j,rfl,rfl,q⟩:=h;obtain⟨t,rfl⟩:=rx;obtain⟨t',rfl⟩:=ry;exact rule i j t t' s _ _ ⟨.int (g i j),H,I.tok _,⟨_,rfl⟩,q⟩
theorem Wb{f:Value->Value->Sem Value}{g:Int->Int->Bool}
  (rule:∀(i j:Int) (t u:Tok) (s:iV) (Q:Value->iV->Prop) (E:Value->iV->Prop),Q (.bool (g i j)) s->jb (iY X.prog X.w) X.A (f (.int i t) (.int j u)) Q E s) :
  Bg X f (Nh λi j=>.bl (g i j)):=by
 intro nA s σ H x y v u Q I rx ry h;obtain⟨i,j,rfl,rfl,q⟩:=h;obtain⟨t,rfl⟩:=rx;obtain⟨t',rfl⟩:=ry;exact rule i j t t' s _ _ ⟨.bl (g i j),H,I,rfl,q⟩
def Sf(i j:Int):Prop:=0<j/\j<1073741824
def R6(i j:Int):Prop:=0<=j/\j<=1000000/\i.natAbs<2 ^ 64
def N8(i j:Int):Prop:=(-(2 ^ 64)<i/\i<2 ^ 64)∨(-(2 ^ 64)<j/\j<2 ^ 64)
theorem N8.ok{i j:Int}(h:N8 i j):IntMulOk i j:=by
 rcases h with ⟨h1,h2⟩|⟨h1,h2⟩
 .exact .of_left (intBits_le_64 h1 h2)
 .exact .of_right (intBits_le_64 h1 h2)
theorem xG:Bg X (ki .Add) (Nh λi j=>.int (i+j)):=U2 λ_ _ _ _ _ _ _ q=>add_int q
theorem Fx:Bg X (ki .Sub) (Nh λi j=>.int (i-j)):=U2 λ_ _ _ _ _ _ _ q=>sub_int q
theorem Fo:Bg X (ki .Mult) (rI N8 λi j=>.int (i*j)):=WH λ_ _ _ _ _ _ _ hc q=>mul_int q hc.ok
theorem zI:Bg X (ki .FloorDiv) (rI Sf λi j=>.int (i / j)):=WH λi j _ _ _ _ _ hc q=>by
 have h1:(0:Int)<j:=hc.1;have h2:j<1073741824:=hc.2;exact floordiv_int (by lia) (by rw[Int.fdiv_eq_ediv_of_nonneg i (by lia)];exact q) (.inl (PyProof.noPylong_small (by lia)))
theorem qT:Bg X (ki .Mod) (rI (λ_ j=>0<j) λi j=>.int (i % j)):=WH λi j _ _ _ _ _ hc q=>by
 have h1:(0:Int)<j:=hc;exact mod_int' (by lia) (by rw[Int.fmod_eq_emod_of_nonneg i (by lia)];exact q)
theorem NH:Bg X (ki .Pow) (rI R6 λi j=>.int (i ^ j.toNat)):=WH λ_ _ _ _ _ _ _ hc q=>pow_int_small hc.1 hc.2.1 hc.2.2 q
theorem YT{f:Value->Sem Value}{g:Int->Int}
  (rule:∀(i:Int) (t:Tok) (s:iV) (Q:Value->iV->Prop) (E:Value->iV->Prop),Q (.int (g i) s.toks) { s with toks:=s.toks+1 }->jb (iY X.prog X.w) X.A (f (.int i t)) Q E s) :
  WN X f (rU λi=>.int (g i)):=by
 intro nA s σ H x v Q I rx h;obtain⟨i,rfl,q⟩:=h;obtain⟨t,rfl⟩:=rx;exact rule i t s _ _ ⟨.int (g i),H,I.tok _,⟨_,rfl⟩,q⟩
theorem rz:WN X (unaryOp .USub) (rU λi=>.int (-i)):=YT λ_ _ _ _ _ q=>neg_int q
end
def scal:V->V->Bool
 | .non,.non=>true|.non,.int _=>true|.int _,.non=>true|.non,.bl _=>true|.bl _,.non=>true|.non,.str _=>true|.str _,.non=>true
 | .int _,.int _=>true|.bl _,.bl _=>true|.str _,.str _=>true|.byt _,.byt _=>true
 | .int _,.str _=>true|.str _,.int _=>true|.bl _,.str _=>true|.str _,.bl _=>true
 |_,_=>false
def Yd:R2:=λx y H Q=>scal x y=true/\Q (.bl (decide (x=y))) H
def Yj:R2:=λx y H Q=>scal x y=true/\Q (.bl (!decide (x=y))) H
theorem IS{i j:Int}:decide (V.int i=V.int j)=(i == j):=by
 rw[bW];simp
theorem OJ{i j:Bool}:decide (V.bl i=V.bl j)=(i == j):=by
 rw[bW];simp
theorem J2{i j:Str}:decide (V.str i=V.str j)=(i == j):=by
 rw[bW];simp
theorem Jw{i j:Array UInt8}:decide (V.byt i=V.byt j)=(i.toList == j.toList):=by
 rw[bW];cases i;cases j;simp
section
variable {X:Cx}{a b c:Expr}{ta tb tc:TE}{pos:Pos}
theorem oZ{nA:List (Addr×Obj)}{σ:St}{H:Hp}{s:iV}{Q:VK}{k k':Bool}(I:Inv X nA σ H s) (q:Q (.bl k) H) (e:k=k'):EP X nA σ Q (.bool k') s:=by
 subst e;exact⟨.bl k,H,I,rfl,q⟩
theorem B8:Bg X (jq .Eq) Yd:=by
 intro nA s σ H x y v u Q I rx ry h;obtain⟨hs,q⟩:=h;cases x with
 |non =>
  cases rx;cases y with
  |non=>cases ry;exact PySem.EqNone.eq_none_none (oZ I q (by simp))
  |bl j=>cases ry;exact PySem.EqNone.eq_none_bool (oZ I q (by simp))
  |int j=>obtain⟨t',rfl⟩:=ry;exact PySem.EqNone.eq_none_int (oZ I q (by simp))
  |str j=>obtain⟨t',rfl⟩:=ry;exact PySem.EqNone.eq_none_str (oZ I q (by simp))
  |_=>exact absurd (show false=true from hs) aH
 |bl i =>
  cases rx;cases y with
  |non=>cases ry;exact PySem.EqNone.eq_bool_none (oZ I q (by simp))
  |bl j=>cases ry;exact eq_bool (oZ I q OJ)
  |str j=>obtain⟨t',rfl⟩:=ry;exact PySem.EqMixed.eq_bool_str (oZ I q (by simp))
  |_=>exact absurd (show false=true from hs) aH
 |int i =>
  obtain⟨t,rfl⟩:=rx;cases y with
  |non=>cases ry;exact PySem.EqNone.eq_int_none (oZ I q (by simp))
  |int j=>obtain⟨t',rfl⟩:=ry;exact eq_int (oZ I q IS)
  |str j=>obtain⟨t',rfl⟩:=ry;exact PySem.EqMixed.eq_int_str (oZ I q (by simp))
  |_=>exact absurd (show false=true from hs) aH
 |str i =>
  obtain⟨t,rfl⟩:=rx;cases y with
  |non=>cases ry;exact PySem.EqNone.eq_str_none (oZ I q (by simp))
  |bl j=>cases ry;exact PySem.EqMixed.eq_str_bool (oZ I q (by simp))
  |int j=>obtain⟨t',rfl⟩:=ry;exact PySem.EqMixed.eq_str_int (oZ I q (by simp))
  |str j=>obtain⟨t',rfl⟩:=ry;exact eq_str (oZ I q J2)
  |_=>exact absurd (show false=true from hs) aH
 |byt i =>
  obtain⟨t,rfl⟩:=rx;cases y with
  |byt j=>obtain⟨t',rfl⟩:=ry;exact W.eq_bytes (oZ I q Jw)
  |_=>exact absurd (show false=true from hs) aH
 |_=>cases y <;> exact absurd (show false=true from hs) aH
theorem zS:Bg X (jq .NotEq) Yj:=by
 intro nA s σ H x y v u Q I rx ry h;obtain⟨hs,q⟩:=h;cases x with
 |non =>
  cases rx;cases y with
  |non=>cases ry;exact PySem.EqNone.ne_none_none (oZ I q (by simp))
  |bl j=>cases ry;exact PySem.EqNone.ne_none_bool (oZ I q (by simp))
  |int j=>obtain⟨t',rfl⟩:=ry;exact PySem.EqNone.ne_none_int (oZ I q (by simp))
  |str j=>obtain⟨t',rfl⟩:=ry;exact PySem.EqNone.ne_none_str (oZ I q (by simp))
  |_=>exact absurd (show false=true from hs) aH
 |bl i =>
  cases rx;cases y with
  |non=>cases ry;exact PySem.EqNone.ne_bool_none (oZ I q (by simp))
  |bl j=>cases ry;exact ne_bool (oZ I q (congrArg not OJ))
  |str j=>obtain⟨t',rfl⟩:=ry;exact PySem.EqMixed.ne_bool_str (oZ I q (by simp))
  |_=>exact absurd (show false=true from hs) aH
 |int i =>
  obtain⟨t,rfl⟩:=rx;cases y with
  |non=>cases ry;exact PySem.EqNone.ne_int_none (oZ I q (by simp))
  |int j=>obtain⟨t',rfl⟩:=ry;exact ne_int (oZ I q (congrArg not IS))
  |str j=>obtain⟨t',rfl⟩:=ry;exact PySem.EqMixed.ne_int_str (oZ I q (by simp))
  |_=>exact absurd (show false=true from hs) aH
 |str i =>
  obtain⟨t,rfl⟩:=rx;cases y with
  |non=>cases ry;exact PySem.EqNone.ne_str_none (oZ I q (by simp))
  |bl j=>cases ry;exact PySem.EqMixed.ne_str_bool (oZ I q (by simp))
  |int j=>obtain⟨t',rfl⟩:=ry;exact PySem.EqMixed.ne_str_int (oZ I q (by simp))
  |str j=>obtain⟨t',rfl⟩:=ry;exact ne_str (oZ I q (congrArg not J2))
  |_=>exact absurd (show false=true from hs) aH
 |byt i =>
  obtain⟨t,rfl⟩:=rx;cases y with
  |byt j=>obtain⟨t',rfl⟩:=ry;exact W.ne_bytes (oZ I q (congrArg not Jw))
  |_=>exact absurd (show false=true from hs) aH
 |_=>cases y <;> exact absurd (show false=true from hs) aH
theorem BS:Bg X (jq .Lt) (Nh λi j=>.bl (decide (i<j))):=Wb λ_ _ _ _ _ _ _ q=>lt_int q
theorem DI:Bg X (jq .Gt) (Nh λi j=>.bl (decide (j<i))):=Wb λ_ _ _ _ _ _ _ q=>gt_int q
theorem HL:Bg X (jq .Is) (λx y H Q=>y = .non/\Q (.bl (decide (x = .non))) H):=by
 intro nA s σ H x y v u Q I rx ry h;obtain⟨rfl,q⟩:=h;cases ry;refine is_none_gen (oZ I q ?_);cases x <;> first
  | (cases rx;rfl)
  | (obtain⟨t,rfl⟩:=rx;rfl)
theorem Jv:Bg X (jq .IsNot) (λx y H Q=>y = .non/\Q (.bl (!decide (x = .non))) H):=by
 intro nA s σ H x y v u Q I rx ry h;obtain⟨rfl,q⟩:=h;cases ry;refine isnot_none_gen (oZ I q ?_);cases x <;> first
  | (cases rx;rfl)
  | (obtain⟨t,rfl⟩:=rx;rfl)
theorem oW(b:Expr) {op:CmpOp}(h:op ≠ .In:=by decide) (h2:op ≠ .NotIn:=by decide):kf op b=false:=by
 have e1:(op == CmpOp.In)=false:=by cases op <;> first|rfl|exact absurd rfl h
 have e2:(op == CmpOp.NotIn)=false:=by cases op <;> first|rfl|exact absurd rfl h2
 cases b <;> simp[kf,e1,e2]
theorem ve{op:CmpOp}{r:R2}(ho:Bg X (jq op) r) (ha:PE X a ta) (hb:PE X b tb) (hm:kf op b=false):PE X (.Compare a [op] [b] pos) (OT r ta tb):=by
 intro nA s σ H Q I h;exact wpAny_Compare1 (Ub ha hb I h λv u s2 x y H2 I2 rx ry q=>ho nA s2 σ H2 x y v u Q I2 rx ry q) hm
def Oj(t:TE):TT:=λσ H Q=>t σ H λx H'=>∃k,x = .bl k/\Q k H'
theorem oP{op:CmpOp}{r:R2}(ho:Bg X (jq op) r) (ha:PE X a ta) (hb:PE X b tb) (hm:kf op b=false):PT X (.Compare a [op] [b] pos) (Oj (OT r ta tb)):=by
 intro nA s σ H Q I h;refine kU (thn (ha nA s σ H _ I h) λv s1 ⟨x,H1,I1,r1,q1⟩=>thn (hb nA s1 σ H1 _ I1 q1) λu s2 ⟨y,H2,I2,r2,q2⟩ =>
  thn (ho nA s2 σ H2 x y v u _ I2 r1 r2 q2) λc s3 ⟨z,H3,I3,r3,k,e,q3⟩=>?_) hm
 subst e;cases r3;exact jn ⟨H3,I3,q3⟩
def N6(r r':R2) (ta tb tc:TE):TE:=λσ H Q=>ta σ H λx H1=>tb σ H1 λy H2=>r x y H2 λz H3=>∃k,z = .bl k /\
 (if k=true then tc σ H3 λw' H4=>r' y w' H4 Q else Q (.bl false) H3)
theorem OH{op op':CmpOp}{r r':R2}(ho:Bg X (jq op) r) (ho':Bg X (jq op') r') (ha:PE X a ta) (hb:PE X b tb) (hc:PE X c tc)
  (hm:lastMarks [op,op'] [b,c]=false:=by with_unfolding_all rfl):PT X (.Compare a [op,op'] [b,c] pos) (Oj (N6 r r' ta tb tc)):=by
 intro nA s σ H Q I h;refine isTrue_chain (thn (ha nA s σ H _ I h) λv s1 ⟨x,H1,I1,r1,q1⟩=>test_link (thn (hb nA s1 σ H1 _ I1 q1) λu s2 ⟨y,H2,I2,r2,q2⟩ =>
  thn (ho nA s2 σ H2 x y v u _ I2 r1 r2 q2) λd s3 ⟨z,H3,I3,r3,k,e,q3⟩=>?_)) hm
 subst e;cases r3;refine jn ?_;cases k with
 |false =>
  obtain⟨k',e',q'⟩:=q3;cases e';exact ite_ff ⟨H3,I3,q'⟩
 |true =>
  refine ite_tt (test_last (thn (hc nA s3 σ H3 _ I3 q3) λw' s4 ⟨z',H4,I4,r4,q4⟩=>thn (ho' nA s4 σ H4 y z' u w' _ I4 r2 r4 q4) λd' s5 ⟨z2,H5,I5,r5,k2,e2,q5⟩=>?_))
  subst e2;cases r5;exact jn ⟨H5,I5,q5⟩
def Uu(K:W.Frag) (x:V) (H:Hp) (k:Bool):Prop :=
 match x with
 | .non=>k=false
 | .bl b=>k=b
 | .int i=>k=(i != 0)
 | .str y=>y.length<=jc/\k=((y.length:Int) != 0)
 | .byt y=>y.size<=jc/\k=((y.size:Int) != 0)
 | .ref p=>(∃xs,qC K H p xs/\k = !xs.isEmpty)∨(∃xs,Bh K H p xs/\k = !xs.isEmpty)∨∃kvs,H p=some (.dK kvs)/\k = !kvs.isEmpty
 |_=>False
theorem Iv{κ:Type}{kvs:List (κ×V)}{vs:List (κ×Value)}(r:KV kvs vs):(!vs.isEmpty) = !kvs.isEmpty:=by
 cases r <;> rfl
theorem BZ{xs:List V}{its:List Value}(r:oN xs its):(!its.toArray.isEmpty) = !xs.isEmpty:=by
 cases r <;> simp
theorem Cg:(jc:Nat)<2 ^ 63:=by rw[jt];decide
theorem Ss:XD X (λx H Q=>∃k,Uu X.K x H k/\Q k H):=by
 intro nA s σ H x v Q I rx h;obtain⟨k,e,q⟩:=h;have hl:=Cg;have hs:jc=16777216:=jt;cases x with
 |non =>
  cases rx;have e':k=false:=e;subst e';exact truthy_none ⟨H,I,q⟩
 |bl b =>
  cases rx;have e':k=b:=e;subst e';exact jn ⟨H,I,q⟩
 |int i =>
  obtain⟨t,rfl⟩:=rx;have e':k=(i != 0):=e;subst e';exact PySem.P.truthy_int ⟨H,I,q⟩
 |str y =>
  obtain⟨t,rfl⟩:=rx;obtain⟨hy,e'⟩:y.length<=jc/\k=((y.length:Int) != 0):=e;subst e';exact PySem.P.truthy_str (by lia) ⟨H,I.tok _,q⟩
 |byt y =>
  obtain⟨t,rfl⟩:=rx;obtain⟨hy,e'⟩:y.size<=jc/\k=((y.size:Int) != 0):=e;subst e';exact W.truthy_bytes (by lia) ⟨H,I.tok _,q⟩
 |ref p =>
  cases rx;have e':(∃xs,qC X.K H p xs/\k = !xs.isEmpty)∨(∃xs,Bh X.K H p xs/\k = !xs.isEmpty)∨∃kvs,H p=some (.dK kvs)/\k = !kvs.isEmpty:=e;rcases e' with ⟨xs,hx,e'⟩|⟨xs,hx,e'⟩|⟨kvs,hx,e'⟩
  .subst e';obtain⟨its,r,pl,hz⟩:=I.list hx;have hlen:=r.length;exact wpAny_truthy_list pl.isList (by simp only[aA];lia) ⟨H,I.tok _,by rw[BZ r];exact q⟩
  .subst e';obtain⟨its,r,pl,hz⟩:=I.tuple hx;have hlen:=r.length;exact truthy_tuple pl (by simp only[aA];lia) ⟨H,I.tok _,by rw[BZ r];exact q⟩
  .subst e';obtain⟨hz,hS,vs,r,m⟩:kvs.length<=jc/\(p == jC)=false/\∃vs,KV kvs vs/\s.heap.DictOf (qp X.prog X.w) p vs:=I.hok p _ hx;have hlen:kvs.length=vs.length:=Paired.length r;exact wpAny_truthy_dict hS m (by lia) ⟨H,I.tok _,by rw[Iv r];exact q⟩
 |_=>exact(show False from e).elim
theorem vT(ha:PE X a ta) (he:∀whole,isTrue a X.env whole=(do let v ←whole;standAt a.pos;lO [v] (truthy v))) :
  PT X a (λσ H Q=>ta σ H λx H'=>∃k,Uu X.K x H' k/\Q k H'):=by
 intro nA s σ H Q I h;exact isTrue_plain (thn (ha nA s σ H _ I h) λv s1 ⟨x,H1,I1,r1,q1⟩=>Ss nA s1 σ H1 x v Q I1 r1 q1) (he _)
theorem yF{x:V}{us:List Value}(r:oN [x] us):∃u,us=[u]/\pI x u:=by
 cases r with
 |cons r1 r2=>cases r2;exact⟨_,rfl,r1⟩
theorem MN{x y:V}{us:List Value}(r:oN [x,y] us):∃u w',us=[u,w']/\pI x u/\pI y w':=by
 cases r with
 |cons r1 r2 =>
  cases r2 with
  |cons r3 r4=>cases r4;exact⟨_,_,rfl,r1,r3⟩
theorem Cv:sv X (.builtin "abs") (λxs H Q=>∃i,xs=[.int i]/\Q (.int (if i<0 then -i else i)) H):=by
 intro nA s σ H xs us Q I r h;obtain⟨i,rfl,q⟩:=h;obtain⟨u,rfl,t,rfl⟩:=yF r;exact call_abs_int λu tk=>⟨.int (if i<0 then -i else i),H,I.tok _,⟨_,rfl⟩,q⟩
def UU(K:W.Frag) (x:V) (H:Hp) (n:Nat):Prop :=
 match x with
 | .str y=>y.length<=jc/\n=y.length
 | .byt y=>y.size<=jc/\n=y.size
 | .ref p=>(∃xs,qC K H p xs/\n=xs.length)∨∃xs,Bh K H p xs/\n=xs.length
 |_=>False
theorem pR:sv X (.builtin "len") (λxs H Q=>∃x n,xs=[x]/\UU X.K x H n/\Q (.int n) H):=by
 intro nA s σ H xs us Q I r h;obtain⟨x,n,rfl,e,q⟩:=h;obtain⟨u,rfl,rx⟩:=yF r;have hl:=Cg;have hs:jc=16777216:=jt;cases x with
 |str y =>
  obtain⟨t,rfl⟩:=rx;obtain⟨hy,e'⟩:y.length<=jc/\n=y.length:=e;subst e';exact len_str (by lia) ⟨.int _,H,I.tok _,⟨_,rfl⟩,q⟩
 |byt y =>
  obtain⟨t,rfl⟩:=rx;obtain⟨hy,e'⟩:y.size<=jc/\n=y.size:=e;subst e';exact W.len_bytes (by lia) ⟨.int _,H,I.tok _,⟨_,rfl⟩,q⟩
 |ref p =>
  cases rx;have e':(∃xs,qC X.K H p xs/\n=xs.length)∨∃xs,Bh X.K H p xs/\n=xs.length:=e;rcases e' with ⟨xs,hx,e'⟩|⟨xs,hx,e'⟩
  .subst e';obtain⟨its,r',pl,hz⟩:=I.list hx;have hlen:=r'.length;exact Calls.call_len_list pl.isList (by simp only[aA];lia) ⟨.int xs.length,H,I.tok _,⟨_,by simp only[aA];rw[hlen]⟩,q⟩
  .subst e';obtain⟨its,r',pl,hz⟩:=I.tuple hx;have hlen:=r'.length;exact len_tuple pl (by simp only[aA];lia) ⟨.int xs.length,H,I.tok _,⟨_,by simp only[aA];rw[hlen]⟩,q⟩
 |_=>exact(show False from e).elim
end
theorem Dh.some_of{v:V}{o:Option Value}(r:Dh (some v) o):∃u,o=some u/\pI v u:=by
 cases o with
 |none=>exact(show False from r).elim
 |some u=>exact⟨u,rfl,r⟩
structure tm (k:Nat) (A:Around):Prop where
 hd:A.handled=none
 dp:A.depth+3*k+5<recursionLimit
 un:A.units+16*k+200<jv
theorem tm.mono{j k:Nat}{A:Around}(r:tm k A) (h:j<=k):tm j A:=⟨r.hd,by have:=r.dp;lia,by have:=r.un;lia⟩
theorem tm.deeper{k:Nat}{A:Around}(r:tm (k+1) A) (env:Env):tm k (A.deeper env) :=
 ⟨r.hd,by have:=r.dp;show A.depth+1+3*k+5<_;lia,by have:=r.un;show A.units+3+16*k+200<_;lia⟩
theorem tm.depth{k:Nat}{A:Around}(r:tm k A):A.depth<recursionLimit:=by have:=r.dp;lia
theorem tm.units{k:Nat}{A:Around}(r:tm k A):A.units+64<jv:=by have:=r.un;lia
def vw:TA:=λ_ H Q=>Q [] H
def rM(ta:TE) (tr:TA):TA:=λσ H Q=>ta σ H λx H1=>tr σ H1 λxs H2=>Q (x::xs) H2
section
variable {X:Cx}{e:Expr}{es:List Expr}{te:TE}{t:TA}{pos:Pos}
theorem nF:PA X [] vw:=λ_ _ _ _ H Q I h=>Calls.spliced_nil ⟨[],H,I,.nil,h⟩
theorem nB(ha:PE X e te) (hr:PA X es t) (hs:jh (e::es) X.env=(false,eval e X.env)::jh es X.env:=by rfl):PA X (e::es) (rM te t):=by
 intro pos nA s σ H Q I h;rw[hs];show jb _ _ (spliced ((false,eval e X.env)::jH pos (jh es X.env))) _ _ s;refine Calls.spliced_cons (thn (ha nA s σ H _ I h) λu s1 ⟨x,H1,I1,r1,q1⟩=>?_)
 exact thn (hr pos nA s1 σ H1 _ I1 q1) λus s2 ⟨xs,H2,I2,r2,q2⟩=>⟨x::xs,H2,I2,.cons r1 r2,q2⟩
def Wa(t:TA):TE:=λσ H Q=>t σ H λxs H1=>xs.length<=jc/\∀p,H1 p=none->Q (.ref p) (upd H1 p (.tup xs))
def Th(t:TA):TE:=λσ H Q=>t σ H λxs H1=>xs.length<=jc/\∀p,H1 p=none->Q (.ref p) (upd H1 p (.lst xs))
theorem yc{x1} (h:PA X es t):PE X (.Tuple es x1 pos) (Wa t):=by
 intro nA s σ H Q I hq;refine wpAny_Tuple_spliced (thn (h pos nA s σ H _ I hq) λus s1 ⟨xs,H1,I1,r,z,q⟩=>⟨by rw[←r.length];exact z,?_⟩)
 have hf:H1 s1.heap.objs.size=none:=I1.hok.fresh (ae _);refine⟨.ref s1.heap.objs.size,upd H1 s1.heap.objs.size (.tup xs),I1.laid (t':=s1.toks) (λb u e=>aj _ e) (ae _) ?_,rfl,q _ hf⟩
 exact⟨z,us,r,⟨_,bh _ rfl,rfl,_,rfl⟩⟩
theorem qE(h:PA X es t):PE X (.List es pos) (Th t):=by
 intro nA s σ H Q I hq;refine wpAny_List_spliced (thn (h pos nA s σ H _ I hq) λus s1 ⟨xs,H1,I1,r,z,q⟩=>⟨by rw[←r.length];exact z,?_⟩)
 have hf:H1 s1.heap.objs.size=none:=I1.hok.fresh (ae _);refine⟨.ref s1.heap.objs.size,upd H1 s1.heap.objs.size (.lst xs),I1.laid (t':=s1.toks) (λb u e=>aj _ e) (ae _) ?_,rfl,q _ hf⟩
 exact⟨z,us,0,r,bh _ rfl⟩
end
abbrev Sp:=List V->Hp->VK->XK->Prop
abbrev Lg:=List Env->Hp->iV->XK->Value->iV->Prop
structure O4 (P:je) (w:jf) (K:W.Frag) (mg:Str->Option Value) (base:Heap) (A:Around) (outer:List Env) (s:iV) (H:Hp):Prop where
 frames:A.frames=some outer
 mod:Mod K mg base
 bs:∀b o,base.get? b=some o->s.heap.get? b=some o/\H b=none
 bsz:base.objs.size<=s.heap.objs.size
 funs:s.heap.FunFrames base outer
 frf:∀b∈Io outer,H b=none
 hok:xl P w H s.heap
 bare:jY s.gens
def CE(outer:List Env) (P:je) (w:jf) (H:Hp) (s:iV) (Q:VK) (u:Value) (s':iV):Prop :=
 ∃v H',s'.os=s.os/\jY s'.gens/\Un (Io outer) [] H H' s.heap s'.heap/\xl P w H' s'.heap/\pI v u/\Q v H'
def CR(CX:Lg) (outer:List Env) (P:je) (w:jf) (H:Hp) (s:iV) (Q:VK) (E:XK) (r:Result) (s':iV):Prop :=
 match r with
 | .ok (.ret u)=>CE outer P w H s Q u s'
 | .ok _=>False
 | .error e=>CX outer H s E e s'
structure yP (P:je) (w:jf) (K:W.Frag) (mg:Str->Option Value) (base:Heap) (CX:Lg) (k:Nat) (f:Addr) (fd:jl) (ps:List Str) (sp:Sp):Prop where
 len:∀vs H Q E,sp vs H Q E->vs.length=ps.length
 run:∀(A:Around) (outer:List Env) (s:iV) (H:Hp) (args:Args) (us:List Value) (vs:List V) (Q:VK) (E:XK),tm k A->O4 P w K mg base A outer s H->ly s fd args (ps.zip us)->oN vs us->sp vs H Q E ->
  kH (iY P w) A (.call (.ref f) args) (CR CX outer P w H s Q E) s
theorem yP.imp{P:je}{w:jf}{K:W.Frag}{mg:Str->Option Value}{base:Heap}{CX:Lg}{k:Nat}{f:Addr}{fd:jl}{ps:List Str}{sp sp':Sp}(F:yP P w K mg base CX k f fd ps sp)
  (h:∀vs H Q E,sp' vs H Q E->sp vs H Q E):yP P w K mg base CX k f fd ps sp' :=
 ⟨λvs H Q E q=>F.len vs H Q E (h _ _ _ _ q),λA outer s H args us vs Q E hr he hb hv hs=>F.run A outer s H args us vs Q E hr he hb hv (h _ _ _ _ hs)⟩
section
variable {X:Cx}{nA:List (Addr×Obj)}{σ:St}{H:Hp}{s s':iV}
theorem Inv.env0(I:Inv X nA σ H s):O4 X.prog X.w X.K X.mg X.base X.A X.stack s H :=
 ⟨I.ok.frames,I.ok.mod,I.bs,bN I.ok.bsz I.sz,I.stack,I.stkFree,I.hok,I.bare⟩
theorem Inv.after{Q:VK}{u:Value}(I:Inv X nA σ H s) (h:CE X.stack X.prog X.w H s Q u s'):EP X nA σ Q u s':=by
 obtain⟨v,H',os,bare,un,hok,r,q⟩:=h;obtain⟨hh,g,d,t,os'⟩:=s';obtain rfl:os'=s.os:=os;exact⟨v,H',I.call (h':=hh) (g':=g) (d':=d) (t':=t) (ch:=[]) un hok bare (λb z=>absurd z (by simp)),r,q⟩
end
def A7(sp:Sp) (dvs:List V) (E:XK) (t:TA):TE:=λσ H Q=>t σ H λvs H1=>sp (vs++dvs) H1 Q E
def xx(K:W.Frag) (fd:jl) (ps:List Str) (ds:List Value):Prop :=
 ∀(s:iV) (us:List Value),K.In s.heap->(us++ds).length=ps.length->ly s fd ⟨us,[]⟩ (ps.zip (us++ds))
theorem xx.all{K:W.Frag}{fd:jl}{ps:List Str}(h:∀us:List Value,us.length=ps.length->bindArgs fd ⟨us,[]⟩=pure (ps.zip us)):xx K fd ps []:=λs us _ hl=>by
 rw[aNq]at hl ⊢;exact .of_eq (h us hl)
def An(CX:Lg) (X:Cx) (E:XK):Prop:=∀(nA:List (Addr×Obj)) (σ:St) (H:Hp) (s:iV) (e:Value) (s':iV),Inv X nA σ H s->CX X.stack H s E e s'->X.xe e s'
section
variable {X:Cx}{CX:Lg}{k:Nat}{f C:Addr}{fd:jl}{ps:List Str}{sp:Sp}{dvs:List V}{ds:List Value}{E:XK}{x m:Str}{p pos apos:Pos}{e o:Expr}{es:List Expr}{ta:TE}{t:TA}
theorem Tc{nA:List (Addr×Obj)}{σ:St}{H:Hp}{s:iV}{Q:VK}{us:List Value}{vs:List V}(F:yP X.prog X.w X.K X.mg X.base CX k f fd ps sp) (hr:tm k X.A) (hb:xx X.K fd ps ds) (hd:oN dvs ds) (hx:An CX X E)
  (I:Inv X nA σ H s) (r:oN vs us) (h:sp (vs++dvs) H Q E):jb (iY X.prog X.w) X.A (call (.ref f) us) (EP X nA σ Q) X.xe s:=by
 have r2:oN (vs++dvs) (us++ds):=r.append hd;have hl:(us++ds).length=ps.length:=by rw[←r2.length];exact F.len _ _ _ _ h
 refine lD (kL (F.run X.A X.stack s H ⟨us,[]⟩ (us++ds) (vs++dvs) Q E hr I.env0 (hb s us I.kIn hl) r2 h) λr s' hq=>?_)
 cases r with
 |error e=>exact hx nA σ H s e s' I hq
 |ok fl =>
  cases fl with
  |ret u=>exact I.after hq
  |next=>exact False.elim hq
  |brk=>exact False.elim hq
  |cont=>exact False.elim hq
theorem Fi(F:yP X.prog X.w X.K X.mg X.base CX k f fd ps sp) (hr:tm k X.A) (hg:Gl X x) (hm:X.mg x=some (.ref f)) (hk:W.keepIn X.K (.ref f)=true) (hb:xx X.K fd ps ds) (hd:oN dvs ds) (hx:An CX X E)
  (ha:PA X (e::es) t) (hdb:(x == ("__debug__" : Str))=false:=by decide) (he:jh (e::es) X.env=(false,eval e X.env)::jh es X.env:=by rfl) (hpl:(jH pos (jh es X.env)).any (·.1)=false:=by rfl) :
  PE X (.Call (.Name x p) (e::es) [] pos) (A7 sp dvs E t):=by
 intro nA s σ H Q I h;refine jJ (BI I hg hm ?_ hdb);refine W.callWith_K (h₀:=X.base) I.ok.mod.kin hk (thn (ha pos nA s σ H _ I h) λus s1 ⟨vs,H1,I1,r,q⟩=>⟨I1.kIn,?_⟩) he hpl
 exact Tc F hr hb hd hx I1 r q
end
structure pE (N P:List Str) (sc:jU):Prop where
 kind:sc.kind = .function
 co:sc.isCoroutine=false
 gen:sc.isGenerator=false
 nd:N.Nodup
 pre:N.take P.length=P
 par:∀x∈P,sc.names.lookup x=some .local∨sc.names.lookup x=some .cell
 nofree:∀y∈sc.names,y.2 ≠ .free
theorem DE{kindOf:Str->Option NameKind}{x:Str}:∀{binds:List (Str×Value)}{m:Str->Option Value},(∀v,(x,v)∉binds)->bindL kindOf binds m x=m x
 | [],_,_=>rfl
 | (n,v)::r,m,h=>by
  unfold bindL;rw[DE λw hw=>h w (mCo _ hw)]
  split
  .have:x≠n:=by rintro rfl;exact h v ai
   simp[this]
  .rfl
theorem D1{kindOf:Str->Option NameKind}{x:Str}:∀{binds:List (Str×Value)}{m:Str->Option Value},(∀v,(x,v)∉binds)->bindC kindOf binds m x=m x
 | [],_,_=>rfl
 | (n,v)::r,m,h=>by
  unfold bindC;rw[D1 λw hw=>h w (mCo _ hw)]
  split
  .rfl
  .have:x≠n:=by rintro rfl;exact h v ai
   simp[this]
theorem DJ{kindOf:Str->Option NameKind}{x:Str}{v:Value}:∀{P:List Str}{vs:List Value}{i:Nat}{m:Str->Option Value},P.Nodup->P[i]?=some x->vs[i]?=some v->kindOf x=some .local ->
  bindL kindOf (P.zip vs) m x=some v
 | [],_,_,_,_,h,_,_=>by simp at h
 |_::_,[],_,_,_,_,h,_=>by simp at h
 |p::P,w::vs,0,m,nd,h1,h2,hk=>by
  simp at h1 h2;subst h1;subst h2;show bindL kindOf ((p,w)::P.zip vs) m p=_;unfold bindL;rw[DE λv hv=>(ax.mp nd).1 (gA hv).1,oq hk]
  simp
 |p::P,w::vs,i+1,m,nd,h1,h2,hk=>by
  show bindL kindOf ((p,w)::P.zip vs) m x=_;unfold bindL;exact DJ (i:=i) (ax.mp nd).2 (by simpa using h1) (by simpa using h2) hk
theorem DV{kindOf:Str->Option NameKind}{x:Str}{v:Value}:∀{P:List Str}{vs:List Value}{i:Nat}{m:Str->Option Value},P.Nodup->P[i]?=some x->vs[i]?=some v->kindOf x≠some .local ->
  bindC kindOf (P.zip vs) m x=some v
 | [],_,_,_,_,h,_,_=>by simp at h
 |_::_,[],_,_,_,_,h,_=>by simp at h
 |p::P,w::vs,0,m,nd,h1,h2,hk=>by
  simp at h1 h2;subst h1;subst h2;show bindC kindOf ((p,w)::P.zip vs) m p=_;unfold bindC;rw[D1 λv hv=>(ax.mp nd).1 (gA hv).1,oz hk]
  simp
 |p::P,w::vs,i+1,m,nd,h1,h2,hk=>by
  show bindC kindOf ((p,w)::P.zip vs) m x=_;unfold bindC;exact DV (i:=i) (ax.mp nd).2 (by simpa using h1) (by simpa using h2) hk
def rN(N:List Str) (vs:List V):St:=vs.map some++aQ (N.length-vs.length) none
def Fg(CX:Lg) (P:je) (w:jf) (K:W.Frag) (mg:Str->Option Value) (base:Heap) (N:List Str) (qual:Str) (scope:jU) (f:Addr) (cd:Value) (A:Around) (outer:List Env) (s:iV) (H:Hp) (E:XK):Cx where
 prog:=P
 w:=w
 K:=K
 mg:=mg
 base:=base
 A:=A.deeper (jF qual scope s.heap.objs.size f cd)
 N:=N
 s₀:=s
 H₀:=H
 env:=jF qual scope s.heap.objs.size f cd
 outer:=outer
 stack:=jF qual scope s.heap.objs.size f cd::outer
 ex:=[]
 calm:=true
 fn:=λ_=>true
 pn:=[]
 xe:=λe s'=>jb (iY P w) (A.deeper (jF qual scope s.heap.objs.size f cd)) (leaving (jF qual scope s.heap.objs.size f cd) e) (λ_ s''=>CX outer H s E e s'') (λe' s''=>CX outer H s E e' s'') s'
theorem FS{sc:jU}{n:Nat}{x:Str}(h:sc.names.lookup x=some .cell):∃c,(cellsFrom n sc.names []).lookup x=some c:=by
 have q:=W.cellsFrom_some sc.names n [] (.inl h);exact Option.isSome_iff_exists.mp q
theorem Kp{CX:Lg}{P:je}{w:jf}{K:W.Frag}{mg:Str->Option Value}{base:Heap}{N ps:List Str}{qual:Str}{scope:jU}{f:Addr}{cd:Value}{A:Around}{outer:List Env}{s s1:iV}{H:Hp}{E:XK}{us:List Value}{vs:List V}
  (S:pE N ps scope) (hd:A.handled=none) (e0:O4 P w K mg base A outer s H) (hl:vs.length=ps.length) (r:oN vs us)
  (x:InCallC s s.heap.objs.size (bindL (jF qual scope s.heap.objs.size f cd).kindOf (ps.zip us) λ_=>none) (cellsFrom (s.heap.objs.size+1) scope.names []) (bindC (jF qual scope s.heap.objs.size f cd).kindOf (ps.zip us) λ_=>none) s1) :
  Inv (Fg CX P w K mg base N qual scope f cd A outer s H E) [] (rN N vs) H s1:=by
 have hpl:ps.length<=N.length:=by have:=congrArg bo S.pre;rw[lTq]at this;lia
 obtain⟨h1,tk,rfl,hk⟩:=x.done;have noA:∀b:Addr,b∉(Fg CX P w K mg base N qual scope f cd A outer s H E).ex:=λb z=>absurd (show b∈([]:List Addr) from z) (by simp)
 refine⟨⟨e0.mod,S.kind,rfl,rfl,ae _,λy z c h1 h2=>?_,λy hy=>?_,λy c _ h=>?_,λ_=>hd,Around.frames_deeper e0.frames,.inr ⟨rfl,rfl⟩,λb z=>absurd z (noA b),e0.bs,e0.bsz,λb _ _=>noA b,λb z=>absurd z (noA b),e0.funs,e0.frf⟩,
  rfl,e0.bare,Un.kept hk,⟨_,x.toInCall.ns,λi y v h1 h2 h3=>?_⟩,λy c h=>⟨_,x.cell y c h⟩,e0.hok.fresh (ae _),λy c h=>?_,λp hp=>absurd (show p∈([]:List (Addr×Obj)) from hp) (by simp),e0.hok.kept hk,?_⟩
 .exact name_of_addr x.apart (PySem.mem_of_lookup h1) (PySem.mem_of_lookup h2)
 .have hy:scope.names.lookup y=some .cell∨scope.names.lookup y=some .free:=hy;rcases hy with hy|hy
  .exact FS hy
  .exact absurd rfl (S.nofree _ (PySem.mem_of_lookup hy))
 .exact cJ (x.above y c (PySem.mem_of_lookup h))
 .have hi:i<vs.length:=by
   unfold rN at h2
   by_cases hi:i<vs.length
   .exact hi
   .rw [gYq (by simpa using hi)]at h2
    rw[bH]at h2;split at h2 <;> cases h2
  have ha:vs[i]?=some v:=by
   unfold rN at h2;rw[gZq (by simpa using hi),gMq]at h2
   cases e:vs[i]? with
   |none=>rw[e]at h2;cases h2
   |some a=>rw[e]at h2;cases h2;rfl
  obtain⟨u,hu,rv⟩:=r.get ha;have hp:ps[i]?=some y:=by
   rw[←S.pre,bD (by lia)];exact h1
  have ndP:ps.Nodup:=by rw[←S.pre];exact S.nd.sublist (bE _ _)
  refine⟨u,rv,?_⟩;rcases S.par y (mGq hp) with k|k
  .exact .inl ⟨k,DJ ndP hp hu k⟩
  .obtain ⟨c,e⟩:=FS (n:=s.heap.objs.size+1) k;refine .inr ⟨.inl k,c,e,?_⟩;have q:=x.cell y c e;rw[DV ndP hp hu (by show scope.names.lookup y≠_;rw[k];decide)]at q
   exact q
 .exact e0.hok.fresh (cJ (x.above y c (PySem.mem_of_lookup h)))
 .unfold rN;show _=N.length;rw[lAq,lMq,dC];lia
theorem Q3{CX:Lg}{P:je}{w:jf}{K:W.Frag}{mg:Str->Option Value}{base:Heap}{k:Nat}{f:Addr}{name qual:Str}{params:Arguments}{body:List Stmt}{scope:jU}{dV kV doc pm sZ ct oc:Value}{an od:Option Addr}
  {osl:Array (Option Value)}{N ps:List Str}{sp:Sp}(lk:K.lookup f=some ⟨oc,od,.func (W.fnOf name qual params body scope dV kV doc pm an sZ ct),osl⟩) (hcd:W.codeIn K sZ qual=true) (S:pE N ps scope)
  (len:∀vs H Q E,sp vs H Q E->vs.length=ps.length)
  (hbody:∀(A:Around) (outer:List Env) (s:iV) (H:Hp) (vs:List V) (Q:VK) (E:XK),tm k (A.deeper (jF qual scope s.heap.objs.size f sZ))->sp vs H Q E ->
   ∃t,Ii (Fg CX P w K mg base N qual scope f sZ A outer s H E) body t/\t { nx:=λ_ H'=>Q .non H',rt:=Q } (rN N vs) H) :
  yP P w K mg base CX (k+1) f (W.fnOf name qual params body scope dV kV doc pm an sZ ct) ps sp:=by
 refine⟨len,λA outer s H args us vs Q E hr e0 hb r hsp=>?_⟩
 have hl:=len _ _ _ _ hsp;have KX:K.In s.heap:=e0.mod.kin.keeps λb o e=>(e0.bs b o e).1
 have lim:s.heap.NoLimit:=e0.mod.nolimit.keeps λb o e=>(e0.bs b o e).1
 have hkind:∀y∈ps.zip us,scope.names.lookup y.1=some .local∨(scope.names.lookup y.1=some .cell/\((cellsFrom (s.heap.objs.size+1) scope.names []).lookup y.1).isSome=true):=λ⟨n,v⟩ hy=>by
  rcases S.par n (gA hy).1 with q|q
  .exact .inl q
  .exact .inr ⟨q,W.cellsFrom_some _ _ _ (.inl q)⟩
 refine codeAny_call_function hr.depth (KX _ _ lk) rfl S.co S.gen rfl (W.codeRec_of KX hcd) (hb _ _ _ _ ?_);refine wpAny_newFunctionEnv_cells S.kind hkind λenv he s1 x=>?_
 subst he;refine⟨lim.keeps x.toInCall.keep,codeAny_func ?_⟩;obtain⟨t,ht,hq⟩:=hbody A outer s H vs Q E (hr.deeper _) hsp;have I:Inv (Fg CX P w K mg base N qual scope f sZ A outer s H E) [] (rN N vs) H s1:=Kp S hr.hd e0 hl r x;refine jk (ht [] s1 (rN N vs) H _ I hq) (λfl s' hs=>?_) λe s' hs=>hs
 have fin:∀{σ':St}{H':Hp}{v:V}{u:Value},Inv (Fg CX P w K mg base N qual scope f sZ A outer s H E) [] σ' H' s'->pI v u->Q v H'->CE outer P w H s Q u s' :=
  λ{σ' H' v u} J rv q=>⟨v,H',J.os,J.bare,J.base,J.hok,rv,q⟩
 cases fl with
 |ret u =>
  obtain⟨v,σ',H',J,rv,q⟩:=hs;exact fin J rv q
 |next =>
  obtain⟨σ',H',J,q⟩:=hs;exact fin (v:=V.non) (u:=dA) J rfl q
 |brk =>
  obtain⟨_,_,_,q⟩:=hs;exact False.elim q
 |cont =>
  obtain⟨_,_,_,q⟩:=hs;exact False.elim q
section
variable {X:Cx}{x:Str}{p pos:Pos}{e:Expr}{es:List Expr}{t:TA}{id T:String}{r:List V->Hp->VK->Prop}
def T2(r:List V->Hp->VK->Prop) (t:TA):TE:=λσ H Q=>t σ H λvs H1=>r vs H1 Q
theorem oy(hc:sv X (.builtin id) r) (hg:Gl X x) (hm:X.mg x=none) (hv:jW x=some (.builtin id)) (ha:PA X (e::es) t) (hn:x ≠ "__name__" := by decide) (hdb:(x == ("__debug__" : Str))=false:=by decide)
  (he:jh (e::es) X.env=(false,eval e X.env)::jh es X.env:=by rfl) (hpl:(jH pos (jh es X.env)).any (·.1)=false:=by rfl):PE X (.Call (.Name x p) (e::es) [] pos) (T2 r t):=by
 intro nA s σ H Q I h;refine jJ (Ar I hg hm hv ?_ hn hdb);exact iu (thn (ha pos nA s σ H _ I h) λus s1 ⟨vs,H1,I1,r1,q1⟩=>hc nA s1 σ H1 vs us Q I1 r1 q1) he hpl
theorem Ei(hc:sv X (.type T) r) (hg:Gl X x) (hm:X.mg x=none) (hv:jW x=some (.type T)) (ha:PA X (e::es) t) (hn:x ≠ "__name__" := by decide) (hdb:(x == ("__debug__" : Str))=false:=by decide)
  (he:jh (e::es) X.env=(false,eval e X.env)::jh es X.env:=by rfl) (hpl:(jH pos (jh es X.env)).any (·.1)=false:=by rfl):PE X (.Call (.Name x p) (e::es) [] pos) (T2 r t):=by
 intro nA s σ H Q I h;refine jJ (Ar I hg hm hv ?_ hn hdb);exact cG (thn (ha pos nA s σ H _ I h) λus s1 ⟨vs,H1,I1,r1,q1⟩=>hc nA s1 σ H1 vs us Q I1 r1 q1) he hpl
end
end L2
namespace HT
open PySem PyProof.Rows
def qK:List Int->List Int->Bool
 | [],[]=>false
 | [],_::_=>true
 |_::_,[]=>false
 |x::xs,y::ys=>if x=y then qK xs ys else decide (x<y)
theorem wo(x y:Int) (xs ys:List Int):qK (x::xs) (y::ys)=if x=y then qK xs ys else decide (x<y):=rfl
theorem Dm:qK [] []=false:=rfl
theorem BP(y:Int) (ys:List Int):qK [] (y::ys)=true:=rfl
theorem Cm(x:Int) (xs:List Int):qK (x::xs) []=false:=rfl
theorem ON(A:Around) (s:iV) (a:Int) (t:Tok) (c:Int) (u:Tok):∃e,SeqAt.EqAt A s (.int a t) (.int c u) e/\(e=true↔a=c) :=
 ⟨(a == c),SeqAt.EqAt.int_int a t c u,by simp⟩
theorem Ox(A:Around) (s:iV) (a:Int) (t:Tok) (c:Int) (u:Tok) (prog:je) (w:jf) (E:Value->iV->Prop) (Q:Value->iV->Prop) (h:Q (.bool (decide (a<c))) s) :
  jb (iY prog w) A (richCompare .Lt (.int a t) (.int c u)) Q E s :=
 (iU h:jb (iY prog w) A (jq .Lt (.int a t) (.int c u)) Q E s)
section
variable {prog:je}{w:jf}{A:Around}{E:Value->iV->Prop}{s:iV}
def DA(n d:Nat):Option Int->Nat
 |none=>d
 |some v=>if v<0 then (v+(n:Int)).toNat else min v.toNat n
theorem Ga(n d:Nat):DA n d none=d:=rfl
theorem Bz(n d k:Nat):DA n d (some (k:Int))=min k n:=by
 show (if (k:Int)<0 then ((k:Int)+(n:Int)).toNat else min (k:Int).toNat n)=min k n
 rw[oz (by lia),cM]
end
end HT
namespace L2
open PySem PySem.Spec PyProof.Rows
abbrev TO:=St->Hp->(Option Int->Hp->Prop)->Prop
def PO(X:Cx) (e:Option Expr) (t:TO):Prop :=
 ∀(nA:List (Addr×Obj)) (s:iV) (σ:St) (H:Hp) (Q:Option Int->Hp->Prop),Inv X nA σ H s->t σ H Q ->
  jb (iY X.prog X.w) X.A (evalPart e X.env) (λu s'=>∃o H',Inv X nA σ H' s'/\IsPart u o/\Q o H') X.xe s
def Jm:TO:=λ_ H Q=>Q none H
def Rq(t:TE):TO:=λσ H Q=>t σ H λx H1=>∃i,x = .int i/\Q (some i) H1
theorem wF{ns:List Int}:∀{us:List Value},oN (ns.map V.int) us->ju us ns:=by
 induction ns with
 |nil=>intro us r;rw[gq]at r;cases r;exact .nil
 |cons n ns ih =>
  intro us r;rw[au]at r;cases r with
  |cons r1 r2 =>
   obtain⟨t,e⟩:=r1;subst e;exact .cons n t (ih r2)
section
variable {X:Cx}{e:Expr}{te:TE}{lo hi:Option Expr}{tl th:TO}{pos p2:Pos}
theorem wz:PO X none Jm:=by
 intro nA s σ H Q I h;rw[evalPart_none];exact jj ⟨none,H,I,.none,h⟩
theorem ui(h:PE X e te):PO X (some e) (Rq te):=by
 intro nA s σ H Q I hw;rw[evalPart_some];refine thn (h nA s σ H _ I hw) λu s1 ⟨x,H1,I1,r1,q1⟩=>?_
 obtain⟨i,rfl,q⟩:=q1;obtain⟨t,rfl⟩:=r1;exact⟨some i,H1,I1,.int i t,q⟩
def XX(X:Cx) (r:V->Option Int->Option Int->Hp->VK->Prop):Prop :=
 ∀(nA:List (Addr×Obj)) (s:iV) (σ:St) (H:Hp) (x:V) (v vl vu:Value) (lo hi:Option Int) (sl:Addr) (Q:VK),Inv X nA σ H s->pI x v->s.heap.IsSliceOf sl vl vu .none->IsPart vl lo->IsPart vu hi->r x lo hi H Q ->
  ∃T id,kE (.type T) "__getitem__" = pure (some (.builtin id))/\s.TypeIs v T/\jb (iY X.prog X.w) X.A (lp v (.ref sl)) (EP X nA σ Q) X.xe s
def Yb(r:V->Option Int->Option Int->Hp->VK->Prop) (te:TE) (tl th:TO):TE:=λσ H Q=>te σ H λx H1=>tl σ H1 λl H2=>th σ H2 λu H3=>r x l u H3 Q
theorem tS{r:V->Option Int->Option Int->Hp->VK->Prop}(hr:XX X r) (he:PE X e te) (hl:PO X lo tl) (hu:PO X hi th):PE X (.Subscript e (.Slice lo hi none p2) pos) (Yb r te tl th):=by
 intro nA s σ H Q I h;refine Subscript_ (thn (he nA s σ H _ I h) λv s1 ⟨x,H1,I1,r1,q1⟩=>?_)
 refine wpAny_Slice (thn (hl nA s1 σ H1 _ I1 q1) λvl s2 ⟨l,H2,I2,pl,q2⟩=>thn (hu nA s2 σ H2 _ I2 q2) λvu s3 ⟨u,H3,I3,pu,q3⟩=>?_)
 rw[evalPart_none];refine jj ?_;have I4:Inv X nA σ H3 { s3 with heap:=s3.heap.push { cls:=.type "slice", data:=.fields #[vl,vu,.none] } }:=I3.kept (t':=s3.toks) λb ob q=>aj _ q
 obtain⟨T,id,hT,ht,hg⟩:=hr nA { s3 with heap:=s3.heap.push { cls:=.type "slice", data:=.fields #[vl,vu,.none] } } σ H3 x v vl vu l u s3.heap.objs.size Q I4 r1 (Heap.IsSliceOf.new ..) pl pu q3
 show jb (iY X.prog X.w) X.A (lE e (.Slice lo hi none p2) v (.ref s3.heap.objs.size)) (EP X nA σ Q) X.xe { s3 with heap:=s3.heap.push { cls:=.type "slice", data:=.fields #[vl,vu,.none] } }
 exact tail_any (ops:=[.ref s3.heap.objs.size,v]) ht hT hg (by with_unfolding_all rfl)
def IL(xs:List V) (lo hi:Option Int):List V:=(xs.drop (HT.DA xs.length 0 lo)).take (HT.DA xs.length xs.length hi-HT.DA xs.length 0 lo)
theorem Gi(xs:List V) (lo hi:Option Int):(IL xs lo hi).length<=xs.length:=by
 unfold IL;rw[lTq,aG];lia
end
def AO(n:Nat) (i:Int):Option Nat:=if 0<=i then (if i<n then some i.toNat else none) else if -(n:Int)<=i then some (i+n).toNat else none
def atI{α:Type}(xs:List α) (i:Int):Option α:=(AO xs.length i).bind λj=>xs[j]?
theorem ER{n:Nat}{i:Int}{j:Nat}(h:AO n i=some j):lN i n=some j/\j<n/\-(n:Int)<=i/\i<n:=by
 unfold AO at h
 by_cases h0:0<=i
 .rw [oq h0]at h
  by_cases h1:i<n
  .rw [oq h1]at h;have e:i.toNat=j:=aT.inj h;exact⟨by rw[lQ h0 h1,e],by lia,by lia,h1⟩
  .rw [oz h1]at h;cases h
 .rw [oz h0]at h
  by_cases h1:-(n:Int)<=i
  .rw [oq h1]at h;have e:(i+n).toNat=j:=aT.inj h;exact⟨by rw[lJ (by lia) h1,e],by lia,h1,by lia⟩
  .rw [oz h1]at h;cases h
theorem JQ{α:Type}{xs:List α}{i:Int}{v:α}(h:atI xs i=some v):∃j,lN i xs.length=some j/\xs[j]?=some v/\j<xs.length/\-(xs.length:Int)<=i/\i<xs.length:=by
 unfold atI at h;cases e:AO xs.length i with
 |none=>rw[e]at h;cases h
 |some j =>
  rw[e]at h;obtain⟨h1,h2,h3,h4⟩:=ER e;exact⟨j,h1,h,h2,h3,h4⟩
theorem uo{α:Type}{xs:List α}{j:Nat}{v:α}(h:xs[j]?=some v):atI xs (j:Int)=some v:=by
 have hj:j<xs.length:=(gSq.mp h).1;have e:AO xs.length (j:Int)=some j:=by
  unfold AO;rw[oq (by lia),oq (by lia)];simp
 unfold atI;rw[e];exact h
theorem CI{α:Type}(xs:List α) (v:α):atI (xs++[v]) (-1)=some v:=by
 have hl:(xs++[v]).length=xs.length+1:=by simp
 have e:AO (xs++[v]).length (-1)=some xs.length:=by
  unfold AO;rw[hl,oz (by decide),oq (by lia)]
  congr 1;lia
 unfold atI;rw[e];show (xs++[v])[xs.length]?=some v;simp
def QL(b:Expr):Prop:=∀o i,kT b false o i=operate [o,i] (lp o i)
def Pw(X:Cx) (r:R2):Prop :=
 ∀(value slice:Expr) (nA:List (Addr×Obj)) (s:iV) (σ:St) (H:Hp) (x y:V) (v u:Value) (Q:VK),Inv X nA σ H s->pI x v->pI y u->r x y H Q ->
  kT slice false v u=operate [v,u] (lp v u)->jb (iY X.prog X.w) X.A (lE value slice v u) (EP X nA σ Q) X.xe s
def Wt(X:Cx) (id:String) (r:V->List V->Hp->VK->Prop):Prop :=
 ∀(nA:List (Addr×Obj)) (s:iV) (σ:St) (H:Hp) (x:V) (xs:List V) (v:Value) (us:List Value) (Q:VK),Inv X nA σ H s->pI x v->oN xs us->r x xs H Q ->
  jb (iY X.prog X.w) X.A (call (.builtin id) (v::us)) (EP X nA σ Q) X.xe s
section
variable {X:Cx}{a b:Expr}{ta tb:TE}{pos:Pos}
theorem Pw.or{r r':R2}(h:Pw X r) (h':Pw X r'):Pw X (λx y H Q=>r x y H Q∨r' x y H Q):=by
 intro value slice nA s σ H x y v u Q I rx ry q hs;rcases q with q|q
 .exact h value slice nA s σ H x y v u Q I rx ry q hs
 .exact h' value slice nA s σ H x y v u Q I rx ry q hs
theorem qc{r:R2}(hr:Pw X r) (ha:PE X a ta) (hb:PE X b tb) (hs:QL b):PE X (.Subscript a b pos) (OT r ta tb):=by
 intro nA s σ H Q I h;exact Subscript_ (Ub ha hb I h λv u s2 x y H2 I2 rx ry q=>hr a b nA s2 σ H2 x y v u Q I2 rx ry q (hs _ _))
def K1(K:W.Frag):R2:=λx y H Q=>∃p xs i v,x = .ref p/\y = .int i/\qC K H p xs/\atI xs i=some v/\Q v H
def SX(K:W.Frag):R2:=λx y H Q=>∃p xs i v,x = .ref p/\y = .int i/\Bh K H p xs/\atI xs i=some v/\Q v H
theorem oY:Pw X (K1 X.K):=by
 intro value slice nA s σ H x y v u Q I rx ry h hs;obtain⟨p,xs,i,z,rfl,rfl,hq,he,q⟩:=h;cases rx;obtain⟨t,rfl⟩:=ry;obtain⟨its,r,pl,hz⟩:=I.list hq;obtain⟨j,h1,h2,h3,h4,h5⟩:=JQ he;obtain⟨w,ew,rw'⟩:=r.get h2;have hl:=r.length;have hn:=Cg;have fin:EP X nA σ Q w s:=⟨z,H,I,rw',q⟩
 by_cases h0:0<=i
 .have hj:i.toNat=j:=by
   rw[lQ h0 h5]at h1;exact aT.inj h1
  exact item_listR pl.isList h0 (by lia) (by rw[hj];simpa using ew) fin hs
 .have hj:(i+(its.toArray.size:Int)).toNat=j:=by
   rw[lJ (by lia) h4]at h1
   rw[aA,←hl];exact aT.inj h1
  exact kR (x:=w) pl.isList.typeIs slot_list_getitem.lookup
   (wpAny_getItem_list_neg (Q:=λr s'=>r=w/\EP X nA σ Q r s') pl.isList (by lia) (by rw[aA] <;> lia) (by lia) (by rw[hj];simpa using ew) ⟨rfl,fin⟩) hs
theorem xA:Pw X (SX X.K):=by
 intro value slice nA s σ H x y v u Q I rx ry h hs;obtain⟨p,xs,i,z,rfl,rfl,hq,he,q⟩:=h;cases rx;obtain⟨t,rfl⟩:=ry;obtain⟨its,r,pl,hz⟩:=I.tuple hq;obtain⟨j,h1,h2,h3,h4,h5⟩:=JQ he;obtain⟨w,ew,rw'⟩:=r.get h2;have hl:=r.length;have hn:=Cg;have fin:EP X nA σ Q w s:=⟨z,H,I,rw',q⟩;exact kR (x:=w) pl.typeIs slot_tuple_getitem.lookup
  (getItem_tuple (j:=j) (Q:=λr s'=>r=w/\EP X nA σ Q r s') pl (by lia) (by lia) (by rw[aA,←hl];exact h1) (by simpa using ew) ⟨rfl,fin⟩) hs
theorem Hg(its:List Value) (n j:Nat) (u:Value):Obj.mapSeq (·.setIfInBounds j u) { cls:=.type "list", data:=.seq its.toArray n }={ cls:=.type "list", data:=.seq (its.set j u).toArray n }:=by
 simp[Obj.mapSeq]
theorem Inv.lst{nA:List (Addr×Obj)}{σ:St}{H:Hp}{s:iV}{p:Addr}{xs:List V}(I:Inv X nA σ H s) (h:H p=some (.lst xs)) :
  ∃(its:List Value) (n:Nat),oN xs its/\s.heap.get? p=some { cls:=.type "list", data:=.seq its.toArray n }/\xs.length<=jc:=by
 obtain⟨z,its,n,r,e⟩:=I.hok p _ h;exact⟨its,n,r,e,z⟩
theorem Inv.lstUpd{nA:List (Addr×Obj)}{σ:St}{H:Hp}{s:iV}{p:Addr}{xs ys:List V}{its its':List Value}{n n':Nat}{f:Obj->Obj}(I:Inv X nA σ H s) (h:H p=some (.lst xs))
  (ho:s.heap.get? p=some { cls:=.type "list", data:=.seq its.toArray n }) (hf:f { cls:=.type "list", data:=.seq its.toArray n }={ cls:=.type "list", data:=.seq its'.toArray n' }) (r:oN ys its') (hz:ys.length<=jc) (t:Nat) :
  Inv X nA σ (upd H p (.lst ys)) { s with heap:=s.heap.update p f,toks:=t }:=by
 have e:(s.heap.update p f).get? p=some { cls:=.type "list", data:=.seq its'.toArray n' }:=by
  rw[dD f ho (by rw[hf] <;> rfl),hf]
 refine I.write (x:=p) (e:=p) (by rw[h];trivial) (.inl rfl) (λb u hb q=>(bz _ _ (Ne.symm hb)).trans q) ⟨_,e⟩ ?_
 exact⟨hz,its',n',r,e⟩
def QZ:V->V->V->Hp->(Hp->Prop)->Prop:=λo i v H Q=>∃p xs k j,o = .ref p/\i = .int k/\H p=some (.lst xs)/\AO xs.length k=some j/\Q (upd H p (.lst (xs.set j v)))
theorem GR:U5 X QZ:=by
 intro nA s σ H o i v ov iv u Q I ro ri rv h;obtain⟨p,xs,k,j,rfl,rfl,hp,hj,q⟩:=h;cases ro;obtain⟨t,rfl⟩:=ri;obtain⟨its,n,r,ho,hz⟩:=I.lst hp;obtain⟨h1,h2,h3,h4⟩:=ER hj;have hl:=r.length;have hn:=Cg;have I':Inv X nA σ (upd H p (.lst (xs.set j v))) { s with heap:=s.heap.update p (Obj.mapSeq (·.setIfInBounds j u)) } :=
  I.lstUpd hp ho (Hg its n j u) (r.set rv j) (by rw[lZq];exact hz) s.toks
 by_cases h0:0<=k
 .have hk:k.toNat=j:=by
   rw[lQ h0 h4]at h1;exact aT.inj h1
  exact W.ki_setAt ho h0 (by lia) (by rw[aA,←hl];exact h4) (by rw[hk];exact⟨_,I',q⟩)
 .have hk:(k+(its.toArray.size:Int)).toNat=j:=by
   rw[lJ (by lia) h3]at h1
   rw[aA,←hl];exact aT.inj h1
  exact W.ki_setBack ho (by lia) (by rw[aA,←hl];exact h3) (by lia) (by rw[hk];exact⟨_,I',q⟩)
theorem Fz(lo hi:Option Int) (n:Nat):(jR lo hi none n).1=((HT.DA n 0 lo:Nat):Int)/\(jR lo hi none n).2.1=((HT.DA n n hi:Nat):Int)/\(jR lo hi none n).2.2=1:=by
 refine⟨?_,?_,rfl⟩
 .cases lo with
  |none=>simp[jR,HT.DA]
  |some i =>
   simp only[jR,HT.DA,ic,show (1:Int)>0 by decide,if_true]
   by_cases h:i<0
   .simp only [h,if_true] <;> lia
   .simp only [h,if_false] <;> lia
 .cases hi with
  |none=>simp[jR,HT.DA]
  |some i =>
   simp only[jR,HT.DA,ic,show (1:Int)>0 by decide,if_true]
   by_cases h:i<0
   .simp only [h,if_true] <;> lia
   .simp only [h,if_false] <;> lia
theorem Df(its:List Value) (lo hi:Option Int):slicePick its.toArray lo hi none=((its.drop (HT.DA its.length 0 lo)).take (HT.DA its.length its.length hi-HT.DA its.length 0 lo)).toArray:=by
 obtain⟨h1,h2,h3⟩:=Fz lo hi its.toArray.size;unfold slicePick;rw[h1,h2,h3];simp only[sliceRange_one,pick_run,aA] <;> rfl
def Vj(K:W.Frag):V->Option Int->Option Int->Hp->VK->Prop:=λx lo hi H Q=>∃a xs,x = .ref a/\qC K H a xs/\∀p,H p=none->Q (.ref p) (upd H p (.lst (IL xs lo hi)))
theorem vn:XX X (Vj X.K):=by
 intro nA s σ H x v vl vu lo hi sl Q I rx hs pl pu h;obtain⟨a,xs,rfl,hx,q⟩:=h;cases rx;obtain⟨its,r,ht,hz⟩:=I.list hx;have hlen:=r.length;refine⟨"list", _,slot_list_getitem.lookup,ht.isList.typeIs,?_⟩;refine wpAny_getItem_list_slice ht.isList hs pl pu .none (by simp) ?_ (by rw[aA] <;> lia)
 rw[Df,←hlen];refine⟨.ref s.heap.objs.size,_,I.laid (t':=s.toks) (o:=.lst (IL xs lo hi)) (λb ob q=>aj _ q) (ae _) ?_,rfl,q _ (I.hok.fresh (ae _))⟩
 exact⟨bN (Gi xs lo hi) hz,_,0,(r.drop (HT.DA xs.length 0 lo)).take (HT.DA xs.length xs.length hi-HT.DA xs.length 0 lo),bh _ rfl⟩
def yM:V->Bool
 | .non=>true
 | .bl _=>true
 | .int _=>true
 | .str _=>true
 |_=>false
def Rw:V->V->Bool
 | .non,.non=>true
 | .bl a,.bl b=>a == b
 | .bl a,.int b=>(if a then 1 else 0) == b
 | .int a,.bl b=>a == (if b then 1 else 0)
 | .int a,.int b=>a == b
 | .str a,.str b=>a == b
 |_,_=>false
theorem Ti{A:Around}{s:iV}{y x:V}{u v:Value}(ry:pI y u) (rx:pI x v) (fy:yM y=true) (fx:yM x=true):SeqAt.EqAt A s u v (Rw y x):=by
 cases y with
 |non =>
  cases ry;cases x with
  |non=>cases rx;exact SeqAt.EqAt.same _
  |bl b=>cases rx;exact SeqAt.EqAt.none_bool b
  |int b=>obtain⟨t,rfl⟩:=rx;exact SeqAt.EqAt.none_int b t
  |str b=>obtain⟨t,rfl⟩:=rx;exact SeqAt.EqAt.none_str b t
  |_=>exact absurd (show false=true from fx) aH
 |bl a =>
  cases ry;cases x with
  |non=>cases rx;exact SeqAt.EqAt.bool_none a
  |bl b=>cases rx;exact SeqAt.EqAt.bool_bool a b
  |int b=>obtain⟨t,rfl⟩:=rx;exact SeqAt.EqAt.bool_int a b t
  |str b=>obtain⟨t,rfl⟩:=rx;exact SeqAt.EqAt.bool_str a b t
  |_=>exact absurd (show false=true from fx) aH
 |int a =>
  obtain⟨t',rfl⟩:=ry;cases x with
  |non=>cases rx;exact SeqAt.EqAt.int_none a t'
  |bl b=>cases rx;exact SeqAt.EqAt.int_bool a t' b
  |int b=>obtain⟨t,rfl⟩:=rx;exact SeqAt.EqAt.int_int a t' b t
  |str b=>obtain⟨t,rfl⟩:=rx;exact SeqAt.EqAt.int_str a t' b t
  |_=>exact absurd (show false=true from fx) aH
 |str a =>
  obtain⟨t',rfl⟩:=ry;cases x with
  |non=>cases rx;exact SeqAt.EqAt.str_none a t'
  |bl b=>cases rx;exact SeqAt.EqAt.str_bool a t' b
  |int b=>obtain⟨t,rfl⟩:=rx;exact SeqAt.EqAt.str_int a t' b t
  |str b=>obtain⟨t,rfl⟩:=rx;exact SeqAt.EqAt.str_str a t' b t
  |_=>exact absurd (show false=true from fx) aH
 |_=>exact absurd (show false=true from fy) aH
def Hq(x:V) (u:Value):Bool:=match u with
 | .none=>Rw .non x
 | .bool b=>Rw (.bl b) x
 | .int i _=>Rw (.int i) x
 | .str z _=>Rw (.str z) x
 |_=>false
theorem Ob{x y:V}{u:Value}(r:pI y u) (f:yM y=true):Hq x u=Rw y x:=by
 cases y with
 |non=>cases r;rfl
 |bl b=>cases r;rfl
 |int i=>obtain⟨t,rfl⟩:=r;rfl
 |str z=>obtain⟨t,rfl⟩:=r;rfl
 |_=>exact absurd (show false=true from f) aH
theorem zV{x:V}:∀{xs:List V}{us:List Value},oN xs us->xs.all yM=true->us.any (Hq x)=xs.any λy=>Rw y x
 |_,_,.nil,_=>rfl
 |y::xs,u::us,.cons r t,f=>by
  rw[gP,dQ]at f;rw[cO,cO,Ob r f.1,zV t f.2]
theorem xD{A:Around}{s:iV}{x:V}{v:Value}(rx:pI x v) (fx:yM x=true):∀{xs:List V}{us:List Value},oN xs us->xs.all yM=true->∀u∈us,SeqAt.EqAt A s u v (Hq x u)
 |_,_,.nil,_=>λu hu=>by cases hu
 |y::xs,u::us,.cons r t,f=>λu' hu=>by
  rw[gP,dQ]at f;rcases ah.mp hu with rfl|hu
  .rw [Ob r f.1];exact Ti r rx f.1 fx
  .exact xD rx fx t f.2 u' hu
def UB(x:V) (xs:List V):Bool:=xs.any λy=>Rw y x
def XG(K:W.Frag) (neg:Bool):R2:=λx y H Q=>∃p xs,y = .ref p/\(qC K H p xs∨Bh K H p xs)/\yM x=true/\xs.all yM=true/\Q (.bl (if neg then !UB x xs else UB x xs)) H
theorem Kq:Bg X (jq .In) (XG X.K false):=by
 intro nA s σ H x y v u Q I rx ry h;obtain⟨p,xs,rfl,hq,fx,fs,q⟩:=h;cases ry;rcases hq with hq|hq
 .obtain ⟨its,r,pl,hz⟩:=I.list hq;refine SeqAt.in_listAt (Hq x) pl.isList (λw hw=>xD rx fx r fs w (by simpa using hw)) ⟨.bl _,H,I,rfl,?_⟩
  rw[show its.toArray.any (Hq x)=its.any (Hq x) by simp,zV r fs]
  exact q
 .obtain ⟨its,r,pl,hz⟩:=I.tuple hq;refine SeqAt.in_tupleAt (Hq x) pl (λw hw=>xD rx fx r fs w (by simpa using hw)) ⟨.bl _,H,I,rfl,?_⟩
  rw[show its.toArray.any (Hq x)=its.any (Hq x) by simp,zV r fs]
  exact q
theorem Fc:Bg X (jq .NotIn) (XG X.K true):=by
 intro nA s σ H x y v u Q I rx ry h;obtain⟨p,xs,rfl,hq,fx,fs,q⟩:=h;cases ry;rcases hq with hq|hq
 .obtain ⟨its,r,pl,hz⟩:=I.list hq;refine SeqAt.notIn_listAt (Hq x) pl.isList (λw hw=>xD rx fx r fs w (by simpa using hw)) ⟨.bl _,H,I,rfl,?_⟩
  rw[show its.toArray.any (Hq x)=its.any (Hq x) by simp,zV r fs]
  exact q
 .obtain ⟨its,r,pl,hz⟩:=I.tuple hq;refine SeqAt.notIn_tupleAt (Hq x) pl (λw hw=>xD rx fx r fs w (by simpa using hw)) ⟨.bl _,H,I,rfl,?_⟩
  rw[show its.toArray.any (Hq x)=its.any (Hq x) by simp,zV r fs]
  exact q
theorem sv.or{f:Value}{r r':List V->Hp->VK->Prop}(h:sv X f r) (h':sv X f r'):sv X f (λxs H Q=>r xs H Q∨r' xs H Q):=by
 intro nA s σ H xs us Q I rs q;rcases q with q|q
 .exact h nA s σ H xs us Q I rs q
 .exact h' nA s σ H xs us Q I rs q
theorem zp:sv X (.type "list") (λxs H Q=>∃p ys,xs=[.ref p]/\(qC X.K H p ys∨Bh X.K H p ys)/\∀l,H l=none->Q (.ref l) (upd H l (.lst ys))):=by
 intro nA s σ H xs us Q I r h;obtain⟨p,ys,rfl,hq,q⟩:=h;obtain⟨u,rfl,rx⟩:=yF r;cases rx;have fin:∀(its:List Value),oN ys its->ys.length<=jc->∀(h':Heap) (c':Nat),(∀b o',s.heap.get? b=some o'->h'.get? b=some o') ->
   h'.get? s.heap.objs.size=some { cls:=.type "list", dict:=none,data:=.seq its.toArray c',slots:=#[] }->EP X nA σ Q (.ref s.heap.objs.size) { s with heap:=h' }:=λits r' hz h' c' kp e =>
  ⟨.ref s.heap.objs.size,_,I.laid (t':=s.toks) kp (ae _) (show qv X.prog X.w _ h' _ (.lst ys) from ⟨hz,its,c',r',e⟩),rfl,q _ (I.hok.fresh (ae _))⟩
 rcases hq with hq|hq
 .obtain ⟨its,r',pl,hz⟩:=I.list hq;have hlen:=r'.length;obtain⟨o,ho,hc,n,hd⟩:=pl.isList;exact call_list_seq p (.inl rfl) ho hc hd (λh' c' kp e=>fin its r' hz h' c' kp e) (by simp only[aA] <;> lia)
 .obtain ⟨its,r',pl,hz⟩:=I.tuple hq;have hlen:=r'.length;obtain⟨o,ho,hc,n,hd⟩:=pl;exact call_list_seq p (.inr rfl) ho hc hd (λh' c' kp e=>fin its r' hz h' c' kp e) (by simp only[aA] <;> lia)
def WM(K:W.Frag) (T:String) (x:V) (H:Hp):Prop:=match x with
 | .str _=>T = "str"
 | .int _=>T = "int"
 | .ref p=>(T = "list" /\ ∃xs,qC K H p xs)∨(T = "tuple" /\ ∃o,K.lookup p=some o/\o.cls = .type "tuple" /\ o.dict=none) ∨
   (T = "dict" /\ ((∃kvs,H p=some (.dK kvs))∨∃kvs,H p=some (.dT kvs)))∨(T = "set" /\ ∃S n,H p=some (.set S n))
 |_=>False
theorem L1{nA:List (Addr×Obj)}{σ:St}{H:Hp}{s:iV}{T:String}{x:V}{v:Value}(I:Inv X nA σ H s) (r:pI x v) (ty:WM X.K T x H) :
  s.TypeIs v T/\∀a,v = .ref a->∃ob,s.heap.get? a=some ob/\ob.dict=none:=by
 cases x with
 |str z =>
  obtain⟨t,rfl⟩:=r;cases (show T = "str" from ty)
  exact⟨typeIs_str s z t,λ_ e=>nomatch e⟩
 |int i =>
  obtain⟨t,rfl⟩:=r;cases (show T = "int" from ty)
  exact⟨typeIs_int s i t,λ_ e=>nomatch e⟩
 |ref p =>
  cases r;rcases ty with ⟨rfl,xs,hq⟩|⟨rfl,o,hk,hc,hd⟩|⟨rfl,hk⟩|⟨rfl,S,n,hk⟩
  .obtain ⟨its,_,pl,_⟩:=I.list hq;refine⟨pl.isList.typeIs,λa e=>?_⟩
   cases e;obtain⟨o,n,e,c,hd,_⟩:=pl;exact⟨o,e,hd⟩
  .refine ⟨⟨o,I.kIn p o hk,hc⟩,λa e=>?_⟩
   cases e;exact⟨o,I.kIn _ o hk,hd⟩
  .have z:∃o,s.heap.get? p=some o/\o.ExactDict:=by
    rcases hk with ⟨kvs,hk⟩|⟨kvs,hk⟩
    .obtain ⟨_,_,_,_,o,_,_,e,ex,_⟩:=I.hok p _ hk;exact⟨o,e,ex⟩
    .obtain ⟨_,_,_,_,o,_,_,e,ex,_⟩:=I.hok p _ hk;exact⟨o,e,ex⟩
   obtain⟨o,e,ex⟩:=z;refine⟨⟨o,e,ex.1⟩,λa e2=>?_⟩
   cases e2;exact⟨o,e,ex.2.1⟩
  .obtain ⟨o,_,_,_,e,ex,_⟩:=I.hok p _ hk;refine⟨⟨o,e,ex.1⟩,λa e2=>?_⟩
   cases e2;exact⟨o,e,ex.2.1⟩
 |_=>exact False.elim ty
def Vz(K:W.Frag) (T:String) (r:V->List V->Hp->VK->Prop) (to:TE):TE:=λσ H Q=>to σ H λx H1=>WM K T x H1/\r x [] H1 Q
def KN(K:W.Frag) (T:String) (r:V->List V->Hp->VK->Prop) (to:TE) (t:TA):TE:=λσ H Q=>to σ H λx H1=>WM K T x H1/\t σ H1 λxs H2=>r x xs H2 Q
variable {o e:Expr}{es:List Expr}{to:TE}{t:TA}{name:Str}{apos cpos:Pos}{T id:String}{r:V->List V->Hp->VK->Prop}
theorem yW(pa:PlainAttrs T) (slot:Slot T name id) (hty:typeOf (.builtin id)=pure (.type "method_descriptor")) (hm:Wt X id r) (ho:PE X o to)
  (hbase:kC o name X.env (eval o X.env)=eval o X.env:=by rfl) (hline:(apos.endLine == cpos.line)=true:=by rfl):PE X (.Call (.Attribute o name apos) [] [] cpos) (Vz X.K T r to):=by
 intro nA s σ H Q I h;refine wpAny_Call_method0_late hbase hline (thn (ho nA s σ H _ I h) λv s1 ⟨x,H1,I1,r1,ty,q1⟩=>?_)
 obtain⟨h1,h2⟩:=L1 I1 r1 ty;exact⟨T,id,pa,slot,hty,h1,h2,Calls.callWith_builtin rfl (PySem.evalArgs_none (hm nA s1 σ H1 x [] v [] Q I1 r1 .nil q1))⟩
theorem qZ(pa:PlainAttrs T) (slot:Slot T name id) (hty:typeOf (.builtin id)=pure (.type "method_descriptor")) (hm:Wt X id r) (ho:PE X o to) (ha:PA X (e::es) t)
  (hbase:kC o name X.env (eval o X.env)=eval o X.env:=by rfl)
  (hfew:((jH cpos (jh (e::es) X.env)).all (λx=>!x.1) && (backToKw cpos (lS [] X.env)).all (λx=>x.1.isSome)
   && decide ((e::es).length+([]:List lu).length+(if ([]:List lu).isEmpty then 0 else 1)<30))=true:=by rfl)
  (hline:(apos.endLine == cpos.line)=true:=by rfl) (hs:jh (e::es) X.env=(false,eval e X.env)::jh es X.env:=by rfl) (hplain:(jH cpos (jh es X.env)).any (·.1)=false:=by rfl) :
  PE X (.Call (.Attribute o name apos) (e::es) [] cpos) (KN X.K T r to t):=by
 intro nA s σ H Q I h;refine wpAny_Call_method_late hbase hfew hline rfl (thn (ho nA s σ H _ I h) λv s1 ⟨x,H1,I1,r1,ty,q1⟩=>?_)
 obtain⟨h1,h2⟩:=L1 I1 r1 ty;refine⟨T,id,pa,slot,hty,h1,h2,?_⟩;have hA:=ha cpos nA s1 σ H1 _ I1 q1;rw[hs]at hA ⊢;refine Calls.callWith_builtin (by show (false || (jH cpos (jh es X.env)).any (·.1))=false;rw[hplain] <;> rfl) (Calls.evalArgs_plain ?_)
 exact thn hA λus s2 ⟨vs,H2,I2,r2,q2⟩=>hm nA s2 σ H2 x vs v us Q I2 r1 r2 q2
/- xs.append(e),list.index on a module's tuple .. are Wt facts of 06m -/
end
def WI(X:Cx) (id:String) (r:V->List V->Hp->VK->Prop):Prop :=
 ∀(nA:List (Addr×Obj)) (s:iV) (σ:St) (H:Hp) (x:V) (xs:List V) (v:Value) (us:List Value) (Q:VK),Inv X nA σ H s->pI x v->oN xs us->r x xs H Q ->
  jb (iY X.prog X.w) X.A (call (.builtin id) (v::us)) (EP X nA σ Q) X.xe s
theorem oN.one:∀{x:V}{us:List Value},oN [x] us->∃u,us=[u]/\pI x u
 |_,_,.cons r .nil=>⟨_,rfl,r⟩
theorem oN.zero:∀{us:List Value},oN [] us->us=[]
 |_,.nil=>rfl
theorem oN.dropLast{xs:List V}{us:List Value}(h:oN xs us):oN xs.dropLast us.dropLast:=by
 induction h with
 |nil=>exact .nil
 |cons r t ih =>
  cases t with
  |nil=>exact .nil
  |cons q t'=>exact .cons r ih
theorem oN.eraseIdx:∀{xs:List V}{us:List Value}(i:Nat),oN xs us->oN (xs.eraseIdx i) (us.eraseIdx i)
 |_,_,_,.nil=>.nil
 |_,_,0,.cons _ t=>t
 |_,_,i+1,.cons r t=>.cons r (oN.eraseIdx i t)
theorem uU{α:Type}(l:List α):l.eraseIdx (l.length-1)=l.dropLast:=by
 induction l with
 |nil=>rfl
 |cons a r ih =>
  cases r with
  |nil=>rfl
  |cons b r =>
   have e:(a::b::r).length-1=((b::r).length-1)+1:=by
    have h1:(a::b::r).length=r.length+2:=rfl;have h2:(b::r).length=r.length+1:=rfl;lia
   rw[e,cB,ih]
   all_goals rfl
theorem Ee{α:Type}:∀(l:List α) (i:Nat),(l.eraseIdx i).length<=l.length
 | [],_=>ae _
 |_::_,0=>bO _
 |_::r,i+1=>gk (Ee r i)
section
variable {X:Cx}{nA:List (Addr×Obj)}{σ:St}{H:Hp}{s:iV}{l b:Addr}{xs ys zs:List V}
theorem Inv.lset{its its':List Value}{n:Nat}{f:Array Value->Array Value}{t':Nat}(I:Inv X nA σ H s) (hH:H l=some (.lst xs))
  (e:s.heap.get? l=some { cls:=.type "list", data:=.seq its.toArray n }) (hf:f its.toArray=its'.toArray) (hv:oN ys its') (hz:ys.length<=jc) :
  Inv X nA σ (upd H l (.lst ys)) { s with heap:=s.heap.update l (Obj.mapSeq f),toks:=t' }:=by
 have q:=PySem.IsL.update e f;rw[hf]at q;refine I.write (x:=l) (e:=l) (by rw[hH];exact trivial) (.inl rfl) (λb' u hb hu=>(bz s.heap (Obj.mapSeq f) (Ne.symm hb)).trans hu) ⟨_,q⟩ ?_
 exact⟨hz,its',_,hv,q⟩
theorem Inv.lnew{its:List Value}{t':Nat}(I:Inv X nA σ H s) (hv:oN ys its) (hz:ys.length<=jc) :
  Inv X nA σ (upd H s.heap.objs.size (.lst ys)) { s with heap:=s.heap.push { cls:=.type "list", data:=.seq its.toArray },toks:=t' } :=
 I.laid (λ_ _ q=>aj _ q) (ae _) ⟨hz,its,0,hv,bh _ rfl⟩
theorem Inv.fresh(I:Inv X nA σ H s):H s.heap.objs.size=none:=I.hok.fresh (ae _)
theorem Inv.lstM(I:Inv X nA σ H s) (hH:H l=some (.lst xs)):xs.length<=jc/\∃(its:List Value) (n:Nat),oN xs its/\xs.length=its.length/\s.heap.get? l=some { cls:=.type "list", data:=.seq its.toArray n }:=by
 obtain⟨z,its,n,r,e⟩:=I.hok l _ hH;exact⟨z,its,n,r,r.length,e⟩
theorem LC{n:Nat}(h:n<=jc):Builtin.List.listTooLong n=false:=by
 unfold Builtin.List.listTooLong;exact decide_eq_false (by lia)
end
section
variable {X:Cx}
def vi:V->List V->Hp->VK->Prop:=λx vs H Q=>∃l xs y,x = .ref l/\vs=[y]/\H l=some (.lst xs)/\xs.length<jc/\Q .non (upd H l (.lst (xs++[y])))
theorem oM:WI X "list.append" vi:=by
 intro nA s σ H x vs v us Q I rx rv h;obtain⟨l,xs,y,rfl,rfl,hH,hz,q⟩:=h;cases rx;obtain⟨u,rfl,ru⟩:=rv.one;obtain⟨z,its,n,r,hl,e⟩:=I.lstM hH;refine jQ F.slot_list_append ⟨_,e,rfl⟩ F.entry_list_append (F.args_list_append_2 _ _) (PySem.list_append l its.toArray n u (by rw[aA];lia)) ⟨e,?_⟩
 refine⟨.non,_,I.lset (its':=its++[u]) hH e (by simp) (r.append (.cons ru .nil)) ?_,rfl,q⟩
 rw[lAq,lSq];lia
def IT:V->List V->Hp->VK->Prop:=λx vs H Q=>∃l b xs zs,x = .ref l/\vs=[.ref b]/\H l=some (.lst xs)/\H b=some (.lst zs)/\xs.length+zs.length<=jc/\Q .non (upd H l (.lst (xs++zs)))
theorem KH:WI X "list.extend" IT:=by
 intro nA s σ H x vs v us Q I rx rv h;obtain⟨l,b,xs,zs,rfl,rfl,hH,hB,hz,q⟩:=h;cases rx;obtain⟨u,rfl,ru⟩:=rv.one;cases ru;obtain⟨z,its,n,r,hl,e⟩:=I.lstM hH;obtain⟨z2,its2,n2,r2,hl2,e2⟩:=I.lstM hB;have hsz:its.toArray.size+its2.toArray.size<=jc:=by rw[aA,aA];lia
 have hlong:¬ (!its.toArray.isEmpty && Builtin.List.listTooLong (its.toArray.size+its2.toArray.size))=true:=by
  rw[LC hsz,Bool.and_false];exact aH
 refine jQ F.slot_list_extend ⟨_,e,rfl⟩ F.entry_list_extend (F.args_list_extend_2 _ _)
  (AutoSeq1.list_extend_list_list_0 l its.toArray n b its2.toArray n2 hlong (by rw[aA];lia) (by lia)) ⟨e,e2,?_⟩
 refine⟨.non,_,I.lset (its':=its++its2) hH e (by simp) (r.append r2) ?_,rfl,q⟩
 rw[lAq];lia
def Qm:V->List V->Hp->VK->Prop:=λx vs H Q=>∃l xs y,x = .ref l/\vs=[]/\H l=some (.lst xs)/\xs[xs.length-1]?=some y/\Q y (upd H l (.lst xs.dropLast))
theorem zg:WI X "list.pop" Qm:=by
 intro nA s σ H x vs v us Q I rx rv h;obtain⟨l,xs,y,rfl,rfl,hH,hy,q⟩:=h;cases rx;have hus:=rv.zero;subst hus;obtain⟨z,its,n,r,hl,e⟩:=I.lstM hH;obtain⟨u,hu,ru⟩:=r.get hy;have hy':its.toArray[its.toArray.size-1]?=some u:=by
  show its.toArray[its.length-1]?=some u;rw[←aF,←hl];exact hu
 refine jQ F.slot_list_pop ⟨_,e,rfl⟩ F.entry_list_pop (F.args_list_pop_1 _) (MeetsSeq.list_pop_last l its.toArray n u hy' (by rw[aA];lia)) ⟨e,?_⟩
 refine⟨y,_,I.lset (its':=its.dropLast) hH e ?_ r.dropLast ?_,ru,q⟩
 .show its.toArray.eraseIdxIfInBounds (its.toArray.size-1)=its.dropLast.toArray;rw[aA,fc,uU]
 .rw [List.length_dropLast];lia
def MC:V->List V->Hp->VK->Prop:=λx vs H Q=>∃l xs i k y,x = .ref l/\vs=[.int i]/\H l=some (.lst xs)/\-(2 ^ 63)<=i/\i<2 ^ 63/\lN i xs.length=some k/\xs[k]?=some y/\Q y (upd H l (.lst (xs.eraseIdx k)))
theorem N2:WI X "list.pop" MC:=by
 intro nA s σ H x vs v us Q I rx rv h;obtain⟨l,xs,i,k,y,rfl,rfl,hH,h1,h2,hk,hy,q⟩:=h;cases rx;obtain⟨u,rfl,ru⟩:=rv.one;obtain⟨t,rfl⟩:=ru;obtain⟨z,its,n,r,hl,e⟩:=I.lstM hH;obtain⟨w,hw,rw'⟩:=r.get hy;refine jQ F.slot_list_pop ⟨_,e,rfl⟩ F.entry_list_pop (F.args_list_pop_2 _ _)
  (MeetsSeq.list_pop_at l its.toArray n i t k w (fitsIndex_both h1 h2) (by rw[aA,←hl];exact hk) (by rw[←aF];exact hw) (by rw[aA];lia)) ⟨e,?_⟩
 refine⟨y,_,I.lset (its':=its.eraseIdx k) hH e ?_ (r.eraseIdx k) ?_,rw',q⟩
 .show its.toArray.eraseIdxIfInBounds k=(its.eraseIdx k).toArray;rw[fc]
 .have:=Ee xs k;lia
def UJ:R2:=λx y H Q=>∃l b xs zs,x = .ref l/\y = .ref b/\H l=some (.lst xs)/\H b=some (.lst zs)/\xs.length+zs.length<=jc/\∀p,H p=none->Q (.ref p) (upd H p (.lst (xs++zs)))
theorem L9:Bg X (ki .Add) UJ:=by
 intro nA s σ H x y v u Q I rx ry h;obtain⟨l,b,xs,zs,rfl,rfl,hH,hB,hz,q⟩:=h;cases rx;cases ry;obtain⟨z,its,n,r,hl,e⟩:=I.lstM hH;obtain⟨z2,its2,n2,r2,hl2,e2⟩:=I.lstM hB;refine PySem.P.add_list e e2 ?_ (by rw[aA,aA];lia)
 have ea:its.toArray++its2.toArray=(its++its2).toArray:=by simp
 rw[ea];exact⟨.ref _,_,I.lnew (t':=s.toks) (r.append r2) (by rw[lAq];lia),rfl,q _ I.fresh⟩
end
section
variable {κ:Type} [DecidableEq κ]
def zR(kvs:List (κ×V)) (k:κ):Option V:=(kvs.find? λkv=>decide (kv.1=k)).map (·.2)
def yj(kvs:List (κ×V)) (k:κ) (v:V):List (κ×V) :=
 if (kvs.any λkv=>decide (kv.1=k))=true then kvs.map (λkv=>if kv.1=k then (kv.1,v) else kv) else kvs++[(k,v)]
theorem B4{p:κ×V}{r:List (κ×V)}{k:κ}(e:p.1=k):zR (p::r) k=some p.2:=by simp[zR,cj,e]
theorem BV{p:κ×V}{r:List (κ×V)}{k:κ}(e:¬ p.1=k):zR (p::r) k=zR r k:=by simp[zR,cj,e]
theorem FV(k:κ):∀kvs:List (κ×V),(kvs.any λkv=>decide (kv.1=k))=(zR kvs k).isSome
 | []=>rfl
 |p::r=>by
  rw[cO]
  by_cases e:p.1=k
  .simp only [B4 e,decide_eq_true e,Bool.true_or,Option.isSome_some]
  .rw [BV e,decide_eq_false e,Bool.false_or];exact FV k r
theorem xX(kvs:List (κ×V)) (k:κ) (v:V):(yj kvs k v).length<=kvs.length+1:=by
 unfold yj;split
 .rw [lMq];lia
 .rw [lAq,lCq,bP];lia
theorem Dh.isSome_eq{o:Option V}{u:Option Value}(r:Dh o u):o.isSome=u.isSome:=by
 cases o with
 |none=>cases u with
  |none=>rfl
  |some _=>exact(show False from r).elim
 |some _=>cases u with
  |none=>exact(show False from r).elim
  |some _=>rfl
theorem KV.val{kvs:List (κ×V)}{vs:List (κ×Value)}(r:KV kvs vs) (k:κ):Dh (zR kvs k) (kG vs k):=by
 unfold KV at r
 induction r with
 |nil=>exact True.intro
 | @cons p q ps qs h t ih =>
  obtain⟨h1,h2⟩:=h
  by_cases e:p.1=k
  .have e':q.1=k:=h1.symm.trans e;have b:kG (q::qs) k=some q.2:=by simp[kG,cj,e']
   rw[B4 e,b];exact h2
  .have e':¬ q.1=k:=λz=>e (h1.trans z)
   have b:kG (q::qs) k=kG qs k:=by simp[kG,cj,e']
   rw[BV e,b];exact ih
theorem KV.any{kvs:List (κ×V)}{vs:List (κ×Value)}(r:KV kvs vs) (k:κ):(kvs.any λkv=>decide (kv.1=k))=vs.any λkv=>decide (kv.1=k):=by
 unfold KV at r
 induction r with
 |nil=>rfl
 |cons h t ih=>rw[cO,cO,ih,h.1]
theorem KV.repl{kvs:List (κ×V)}{vs:List (κ×Value)}(r:KV kvs vs) (k:κ) {y:V}{u:Value}(ry:pI y u) :
  KV (kvs.map λkv=>if kv.1=k then (kv.1,y) else kv) (vs.map λkv=>if kv.1=k then (kv.1,u) else kv):=by
 unfold KV at r ⊢
 induction r with
 |nil=>exact .nil
 | @cons p q ps qs h t ih =>
  rw[au,au];refine .cons ?_ ih;obtain⟨h1,h2⟩:=h
  by_cases e:p.1=k
  .rw [oq e,oq (h1.symm.trans e)];exact⟨h1,ry⟩
  .rw [oz e,oz (λz=>e (h1.trans z))];exact⟨h1,h2⟩
theorem KV.put{kvs:List (κ×V)}{vs:List (κ×Value)}(r:KV kvs vs) (k:κ) {y:V}{u:Value}(ry:pI y u):KV (yj kvs k y) (stored vs k u):=by
 unfold yj stored;rw[r.any k]
 by_cases e:(vs.any λkv=>decide (kv.1=k))=true
 .rw [oq e,oq e];exact r.repl k ry
 .rw [oz e,oz e];exact Paired.snoc r ⟨rfl,ry⟩
theorem KV.length{kvs:List (κ×V)}{vs:List (κ×Value)}(r:KV kvs vs):kvs.length=vs.length:=Paired.length r
end
theorem DB{P:je}{w:jf}{k:oD}{u:Value}(r:pI (kV k) u):(qp P w).is k u=true:=by
 cases k with
 |inl i=>obtain⟨t,e⟩:=(show ∃t,u=gE i t from r);subst e;exact Gv P w i t
 |inr x=>obtain⟨t,e⟩:=(show ∃t,u=iH x t from r);subst e;exact FT P w x t
theorem Ed{P:je}{w:jf}:∀{ks:List oD}{us:List Value},oN (ks.map kV) us->ItemsAre (qp P w) ks us
 | [],_,r=>by rw[gq]at r;cases r;exact .nil
 |k::ks,_,r=>by
  rw[au]at r;cases r with
  |cons h t=>exact .cons (DB h) (Ed t)
abbrev KT(H:Hp):List (List oD×V)->List (List oD×Addr×Value)->Prop:=Paired λp q=>p.1=q.1/\H q.2.1=some (.tup (p.1.map kV))/\pI p.2 q.2.2
theorem KT.val{H:Hp}{kvs:List (List oD×V)}{xs:List (List oD×Addr×Value)}(r:KT H kvs xs) (k:List oD):Dh (zR kvs k) ((kQ xs k).map (·.2)):=by
 induction r with
 |nil=>exact True.intro
 | @cons p q ps qs h t ih =>
  obtain⟨h1,_,h2⟩:=h
  by_cases e:p.1=k
  .have e':q.1=k:=h1.symm.trans e;have b:kQ (q::qs) k=some q.2:=by simp[kQ,cj,e']
   rw[B4 e,b];exact h2
  .have e':¬ q.1=k:=λz=>e (h1.trans z)
   have b:kQ (q::qs) k=kQ qs k:=by simp[kQ,cj,e']
   rw[BV e,b];exact ih
theorem KT.repl{H:Hp}{kvs:List (List oD×V)}{xs:List (List oD×Addr×Value)}(r:KT H kvs xs) (k:List oD) {y:V}{u:Value}(ry:pI y u) :
  KT H (kvs.map λkv=>if kv.1=k then (kv.1,y) else kv) (xs.map (putAt k u)):=by
 induction r with
 |nil=>exact .nil
 | @cons p q ps qs h t ih =>
  rw[au,au];refine .cons ?_ ih;obtain⟨h1,h2,h3⟩:=h;unfold putAt
  by_cases e:p.1=k
  .rw [oq e,oq (h1.symm.trans e)];exact⟨h1,h2,ry⟩
  .rw [oz e,oz (λz=>e (h1.trans z))];exact⟨h1,h2,h3⟩
theorem KT.put{H:Hp}{kvs:List (List oD×V)}{xs:List (List oD×Addr×Value)}(r:KT H kvs xs) (k:List oD) {b:Addr}{y:V}{u:Value}(hb:H b=some (.tup (k.map kV))) (ry:pI y u) :
  KT H (yj kvs k y) (storedH xs k b u):=by
 have e:(kvs.any λkv=>decide (kv.1=k))=(kQ xs k).isSome:=by
  rw[FV,(r.val k).isSome_eq,cm]
 unfold yj storedH;rw[e]
 by_cases q:(kQ xs k).isSome=true
 .rw [oq q,oq q];exact r.repl k ry
 .rw [oz q,oz q];exact Paired.snoc r ⟨rfl,hb,ry⟩
theorem KT.keeps{H H':Hp}{kvs:List (List oD×V)}{xs:List (List oD×Addr×Value)}(r:KT H kvs xs) (ht:∀b ys,H b=some (.tup ys)->H' b=some (.tup ys)):KT H' kvs xs :=
 Paired.mapP r λ_ _ z=>⟨z.1,ht _ _ z.2.1,z.2.2⟩
section
variable {P:je}{w:jf}{H:Hp}{h:Heap}{a:Addr}
theorem Q7{u:HO}(ok:xl P w H h) (e:Rd H a u):qv P w H h a u:=e.ok ok
theorem BX{kvs:List (oD×V)}(ok:xl P w H h) (e:Rd H a (.dK kvs)):kvs.length<=jc/\(a == jC)=false/\∃vs,KV kvs vs/\h.DictOf (qp P w) a vs :=
 show qv P w H h a (.dK kvs) from Q7 ok e
theorem Rg{kvs:List (oD×V)}(ok:xl P w H h) (e:H a=some (.dK kvs)):kvs.length<=jc/\(a == jC)=false/\∃vs,KV kvs vs/\h.DictOf (qp P w) a vs:=BX ok (.inl e)
theorem B2{ks:List oD}(ok:xl P w H h) (e:H a=some (.tup (ks.map kV))):(kO (qp P w)).is h ks a:=by
 obtain⟨_,its,r,o,h1,h2,n,h3⟩:=(show qv P w H h a (.tup (ks.map kV)) from ok a _ e)
 exact⟨o,its.toArray,n,h1,h2,h3,by simpa using Ed r⟩
theorem DM{kvs:List (List oD×V)}(ok:xl P w H h) (e:Rd H a (.dT kvs)):kvs.length<=jc/\(a == jC)=false /\
  ∃xs,KT H kvs xs/\h.DictOfH (kO (qp P w)) a xs:=by
 obtain⟨z,y,xs,r,o,es,ep,h1,h2,h3,h4,h5⟩:=(show qv P w H h a (.dT kvs) from Q7 ok e)
 refine⟨z,y,xs,r,o,es,ep,h1,h2,h3,h4,λx hx=>?_,h5⟩
 have all:∀{l:List (List oD×V)}{m:List (List oD×Addr×Value)},KT H l m->∀x∈m,(kO (qp P w)).is h x.1 x.2.1:=by
  intro l m q
  induction q with
  |nil=>intro x hx;exact nomatch hx
  | @cons p q ps qs hq t ih =>
   intro x hx;rcases ah.mp hx with e|hx
   .subst e;exact B2 ok (by rw[←hq.1];exact hq.2.1)
   .exact ih x hx
 exact all r x hx
theorem V2{kvs:List (List oD×V)}(ok:xl P w H h) (e:H a=some (.dT kvs)):kvs.length<=jc/\(a == jC)=false /\
  ∃xs,KT H kvs xs/\h.DictOfH (kO (qp P w)) a xs:=DM ok (.inl e)
end
def AH(H:Hp) (a:Addr) (y:V) (r:Option V):Prop :=
 (∃kvs k,Rd H a (.dK kvs)/\y=kV k/\r=zR kvs k)∨∃kvs k b,Rd H a (.dT kvs)/\y = .ref b/\H b=some (.tup (k.map kV))/\r=zR kvs k
def Nl(H:Hp) (a:Addr) (y v:V) (H':Hp):Prop :=
 (∃kvs k,H a=some (.dK kvs)/\y=kV k/\kvs.length<jc/\H'=upd H a (.dK (yj kvs k v))) ∨
 ∃kvs k b,H a=some (.dT kvs)/\y = .ref b/\H b=some (.tup (k.map kV))/\kvs.length<jc/\H'=upd H a (.dT (yj kvs k v))
theorem AH.k{H:Hp}{a:Addr}{kvs:List (oD×V)}{k:oD}(e:H a=some (.dK kvs)):AH H a (kV k) (zR kvs k):=.inl ⟨kvs,k,.inl e,rfl,rfl⟩
theorem Nl.k{H:Hp}{a:Addr}{kvs:List (oD×V)}{k:oD}{v:V}(e:H a=some (.dK kvs)) (hl:kvs.length<jc):Nl H a (kV k) v (upd H a (.dK (yj kvs k v))):=.inl ⟨kvs,k,e,rfl,hl,rfl⟩
section
variable {X:Cx}{nA:List (Addr×Obj)}{σ:St}{H:Hp}{s:iV}{a:Addr}{y v:V}{u r:Value}{o:Option V}{A:Around}{E:Value->iV->Prop}
theorem Inv.big(I:Inv X nA σ H s):jC<s.heap.objs.size:=by
 have h:jd<s.heap.objs.size:=(I.mod.glob.keeps I.bk).lt;exact Nat.lt_trans (by decide) h
theorem J7{Q:Value->iV->Prop}(hu:A.units+1<jv) (I:Inv X nA σ H s) (g:AH H a y (some v)) (ry:pI y u) (h:∀w' s',Inv X nA σ H s'->pI v w'->Q w' s') :
  jb (iY X.prog X.w) A (lp (.ref a) u) Q E s:=by
 rcases g with ⟨kvs,k,e,ey,l⟩|⟨kvs,k,b,e,ey,eb,l⟩
 .subst ey;obtain⟨z,hd,vs,rel,dd⟩:=BX I.hok e;obtain⟨w',hw,rw'⟩:=Dh.some_of (v:=v) (o:=kG vs k) (by rw[l];exact rel.val k)
  exact wpAny_getItem_of (DB ry) dd.mapOf hw (h w' _ (I.tok _) rw')
 .subst ey;cases (show u=aE b from ry)
  obtain⟨z,hd,xs,rel,dd⟩:=DM I.hok e;obtain⟨w',hw,rw'⟩:=Dh.some_of (v:=v) (o:=(kQ xs k).map (·.2)) (by rw[l];exact rel.val k)
  obtain⟨p,hp,hp2⟩:=oMq.mp hw;refine wpAny_getItem_heap (jV hu) (B2 I.hok eb) dd hp ?_;rw[hp2];exact h w' _ (I.tok _) rw'
theorem XE{Q:Value->iV->Prop}(hu:A.units+1<jv) (I:Inv X nA σ H s) (g:AH H a y o) (ry:pI y u) (h:∀s',Inv X nA σ H s'->Q (.bool o.isSome) s') :
  jb (iY X.prog X.w) A (jq .In u (.ref a)) Q E s:=by
 rcases g with ⟨kvs,k,e,ey,l⟩|⟨kvs,k,b,e,ey,eb,l⟩
 .subst ey;obtain⟨z,hd,vs,rel,dd⟩:=BX I.hok e;refine wpAny_in_of (DB ry) hd dd.mapOf ?_;rw[← (rel.val k).isSome_eq,←l];exact h _ (I.tok _)
 .subst ey;cases (show u=aE b from ry)
  obtain⟨z,hd,xs,rel,dd⟩:=DM I.hok e;refine wpAny_in_heap (jV hu) (B2 I.hok eb) hd dd ?_;have q:=(rel.val k).isSome_eq;rw[cm]at q;rw[←q,←l];exact h _ (I.tok _)
theorem PQ{Q:Value->iV->Prop}(hu:A.units+1<jv) (I:Inv X nA σ H s) (g:AH H a y o) (ry:pI y u) (h:∀s',Inv X nA σ H s'->Q (.bool (!o.isSome)) s') :
  jb (iY X.prog X.w) A (jq .NotIn u (.ref a)) Q E s:=by
 rcases g with ⟨kvs,k,e,ey,l⟩|⟨kvs,k,b,e,ey,eb,l⟩
 .subst ey;obtain⟨z,hd,vs,rel,dd⟩:=BX I.hok e;refine wpAny_notIn_of (DB ry) hd dd.mapOf ?_;rw[← (rel.val k).isSome_eq,←l];exact h _ (I.tok _)
 .subst ey;cases (show u=aE b from ry)
  obtain⟨z,hd,xs,rel,dd⟩:=DM I.hok e;refine wpAny_notIn_heap (jV hu) (B2 I.hok eb) hd dd ?_;have q:=(rel.val k).isSome_eq;rw[cm]at q;rw[←q,←l];exact h _ (I.tok _)
theorem EJ{h':Heap}{t':Nat}{ob:HO}(I:Inv X nA σ H s) (mu:U8 (H a)) (hs:fK a s.heap h') (he:∃q,h'.get? a=some q) (new:qv X.prog X.w (upd H a ob) h' a ob) :
  Inv X nA σ (upd H a ob) { s with heap:=h',toks:=t' } :=
 I.write (x:=a) (e:=a) mu (.inl rfl) (λb q hb z=>(hs.2 b hb).trans z) he new
theorem NC{P:je}{w:jf}{H':Hp}{h':Heap}{kvs:List (oD×V)}{vs:List (oD×Value)}(z:kvs.length<=jc) (hd:(a == jC)=false) (rel:KV kvs vs) (dd:h'.DictOf (qp P w) a vs) :
  qv P w H' h' a (.dK kvs):=⟨z,hd,vs,rel,dd⟩
theorem Km{H':Hp}{Q:Unit->iV->Prop}(hu:A.units+1<jv) (I:Inv X nA σ H s) (g:Nl H a y v H') (ry:pI y u) (rv:pI v r) (h:∀s',Inv X nA σ H' s'->Q () s') :
  jb (iY X.prog X.w) A (setItem (.ref a) u r) Q E s:=by
 rcases g with ⟨kvs,k,e,ey,l,eH⟩|⟨kvs,k,b,e,ey,eb,l,eH⟩
 .subst ey eH;obtain⟨z,hd,vs,rel,dd⟩:=Rg I.hok e;have hz:vs.length<=jc:=by rw[←rel.length];exact z
  have hl:(yj kvs k v).length<=jc:=by have:=xX kvs k v;lia
  refine wpAny_setItem_pairs (hsz:=hz) (DB ry) dd λh' dd' hs=>h _ ?_
  have he:∃q,h'.get? a=some q:=let ⟨q,_,_,hq,_⟩:=dd';⟨q,hq⟩
  exact EJ I (by rw[e];exact True.intro) hs he (NC hl hd (rel.put k rv) dd')
 .subst ey eH;cases (show u=aE b from ry)
  obtain⟨z,hd,xs,rel,dd⟩:=V2 I.hok e;have hz:xs.length<=jc:=by rw[←Paired.length rel];exact z
  have hl:(yj kvs k v).length<=jc:=by have:=xX kvs k v;lia
  refine wpAny_setItem_heap (hsz:=hz) (jV hu) (B2 I.hok eb) dd λh' dd' hs=>h _ ?_
  obtain⟨q,es,ep,hq,h2,h3,h4,_,h5⟩:=dd';refine EJ I (by rw[e];exact True.intro) hs ⟨q,hq⟩ ⟨hl,hd,_,(rel.put k eb rv).keeps λc ys ec=>?_,q,es,ep,hq,h2,h3,h4,h5⟩
  rw[nV (V5 ec e (λz=>nomatch z))]
  exact ec
end
section
variable {X:Cx}{nA:List (Addr×Obj)}{σ:St}{H:Hp}{s:iV}{a:Addr}{kvs:List (oD×V)}{k:oD}{u:Value}{A:Around}{E:Value->iV->Prop}
theorem VS{Q:Value->iV->Prop}(I:Inv X nA σ H s) (e:Rd H a (.dK kvs)) (h:∀t s',Inv X nA σ H s'->Q (.int kvs.length t) s'):jb (iY X.prog X.w) A (call (.builtin "len") [.ref a]) Q E s:=by
 obtain⟨z,hd,vs,rel,dd⟩:=BX I.hok e;refine call_len_dict hd dd (by rw[←rel.length];rw[jt]at z;lia) ?_
 rw[←rel.length];exact h _ _ (I.tok _)
end
def Vl(i:Expr):Prop:=∀ov iv,kT i false ov iv=operate [ov,iv] (lp ov iv)
theorem P4{prog:je}{w:jf}{A:Around}{E:Value->iV->Prop}{s:iV}{env:Env}{value slice:Expr}{pos:Pos}{T id:String}{Q:Value->iV->Prop}
  (hl:kE (.type T) "__getitem__" = pure (some (.builtin id))) (hs:Vl slice)
  (h:jb (iY prog w) A (eval value env) (λo s₁=>jb (iY prog w) A (eval slice env) (λi s₂=>s₂.TypeIs o T/\jb (iY prog w) A (lp o i) Q E s₂) E s₁) E s) :
  jb (iY prog w) A (eval (.Subscript value slice pos) env) Q E s:=by
 refine Subscript_ (jk h (λo s₁ h₁=>jk h₁ (λi s₂ h₂=>?_) λ_ _ x=>x) λ_ _ x=>x)
 obtain⟨hT,h₂⟩:=h₂;unfold lE;refine ja ?_;rw[getitemInPython_of_ne hT.not_modules];refine ja (wpAny_specialOf hT hl ?_);have fin:jb (iY prog w) A (kT slice false o i) (λr s₃=>jb (iY prog w) A (letTemporaryGo value o r >>= λ_=>pure r) Q E s₃) E s₂:=by
  rw[hs o i];exact wpAny_operating (jk h₂ (λr s₃ h₃=>ja (wpAny_letTemporaryGo (jj h₃))) λ_ _ x=>x)
 first
  |exact jj (ja fin)
  |exact ja (jj (ja fin))
  |exact ja fin
theorem Gd{X:Cx}{nA:List (Addr×Obj)}{σ:St}{H:Hp}{s:iV}{a:Addr}{y:V}{o:Option V}(I:Inv X nA σ H s) (g:AH H a y o):s.TypeIs (.ref a) "dict" := by
 rcases g with ⟨kvs,k,e,_,_⟩|⟨kvs,k,b,e,_,_,_⟩
 .obtain ⟨_,_,vs,_,dd⟩:=BX I.hok e;exact dd.typeIs
 .obtain ⟨_,_,xs,_,dd⟩:=DM I.hok e;exact dd.typeIs
def Rb(td ty:TE):TE:=λσ H Q=>td σ H λx H1=>ty σ H1 λy H2=>∃a v,x = .ref a/\AH H2 a y (some v)/\Q v H2
def V6(ty td:TE):TE:=λσ H Q=>ty σ H λy H1=>td σ H1 λx H2=>∃a o,x = .ref a/\AH H2 a y o/\Q (.bl o.isSome) H2
def Jn(ty td:TE):TE:=λσ H Q=>ty σ H λy H1=>td σ H1 λx H2=>∃a o,x = .ref a/\AH H2 a y o/\Q (.bl (!o.isSome)) H2
def RC(td ty tv:TE):TS:=λD σ H=>tv σ H λv H1=>td σ H1 λx H2=>ty σ H2 λy H3=>∃a H4,x = .ref a/\Nl H3 a y v H4/\D.nx σ H4
section
variable {X:Cx}{o i e value:Expr}{pos pos' tpos:Pos}{td ty tv:TE}
theorem vb(hu:X.A.units+1<jv) (ho:PE X o td) (hi:PE X i ty) (hs:Vl i):PE X (.Subscript o i pos) (Rb td ty):=by
 intro nA s σ H Q I h;refine P4 PySem.F.slot_dict_getitem.lookup hs (thn (ho nA s σ H _ I h) λu s1 ⟨x,H1,I1,rx,q1⟩=>thn (hi nA s1 σ H1 _ I1 q1) λiv s2 ⟨y,H2,I2,ry,a,v,ex,g,q2⟩=>?_)
 subst ex;obtain rfl:u=aE a:=rx;exact⟨Gd I2 g,J7 hu I2 g ry λw' s3 I3 rw'=>⟨v,H2,I3,rw',q2⟩⟩
theorem RX(hu:X.A.units+1<jv) (hi:PE X i ty) (ho:PE X o td):PC X .In i o (V6 ty td):=by
 intro nA s σ H Q I h;refine thn (hi nA s σ H _ I h) λiv s1 ⟨y,H1,I1,ry,q1⟩=>thn (ho nA s1 σ H1 _ I1 q1) λu s2 ⟨x,H2,I2,rx,a,ov,ex,g,q2⟩=>?_
 subst ex;obtain rfl:u=aE a:=rx;exact XE hu I2 g ry λs3 I3=>⟨.bl ov.isSome,H2,I3,rfl,q2⟩
theorem Ag(hu:X.A.units+1<jv) (hi:PE X i ty) (ho:PE X o td):PC X .NotIn i o (Jn ty td):=by
 intro nA s σ H Q I h;refine thn (hi nA s σ H _ I h) λiv s1 ⟨y,H1,I1,ry,q1⟩=>thn (ho nA s1 σ H1 _ I1 q1) λu s2 ⟨x,H2,I2,rx,a,ov,ex,g,q2⟩=>?_
 subst ex;obtain rfl:u=aE a:=rx;exact PQ hu I2 g ry λs3 I3=>⟨.bl (!ov.isSome),H2,I3,rfl,q2⟩
theorem wQ(hu:X.A.units+1<jv) (ho:PE X o td) (hi:PE X i ty) (hv:PE X value tv) (hs:lK value (some (.Subscript o i pos')) pos.line X.env=pure false) :
  PS X (.Assign [.Subscript o i pos'] value pos) (RC td ty tv):=by
 intro nA s σ H D I h;refine wpAny_Assign_Subscript (thn (hv nA s σ H _ I h) λr s1 ⟨v,H1,I1,rv,q1⟩=>thn (ho nA s1 σ H1 _ I1 q1) λu s2 ⟨x,H2,I2,rx,q2⟩=>thn (hi nA s2 σ H2 _ I2 q2) λiv s3 ⟨y,H3,I3,ry,a,H4,ex,g,q3⟩=>?_) hs
 subst ex;obtain rfl:u=aE a:=rx;exact Km hu I3 g ry rv λs4 I4=>⟨σ,H4,I4,q3⟩
end
theorem Gu{P:je}{w:jf}{H:Hp}(h:Heap) (hb:jC<h.objs.size):qv P w H (h.push { cls:=.type "dict", data:=.dict #[] }) h.objs.size (.dK []) :=
 ⟨bg _,beq_eq_false_iff_ne.mpr (Ne.symm (aS hb)),[],.nil,Heap.DictOf.new h⟩
def MB:TE:=λ_ H Q=>∀p,H p=none->Q (.ref p) (upd H p (.dK []))
section
variable {X:Cx}{pos:Pos}
theorem zW:PE X (.Dict [] [] pos) MB:=λnA s σ H Q I h =>
 wpAny_Dict_empty ⟨.ref s.heap.objs.size,_,I.laid (a:=s.heap.objs.size) (o:=.dK []) (t':=s.toks) (λ_ _ q=>aj _ q) (ae _) (Gu s.heap I.big),rfl,h _ (I.hok.fresh (ae _))⟩
end
def Ig:List (TE×TE)->St->Hp->(List (V×V)->Hp->Prop)->Prop
 | [],_,H,Q=>Q [] H
 | (tk,tv)::r,σ,H,Q=>tk σ H λx H1=>tv σ H1 λy H2=>Ig r σ H2 λps H3=>Q ((x,y)::ps) H3
abbrev VV:List (V×V)->List (Value×Value)->Prop:=Paired λp q=>pI p.1 q.1/\pI p.2 q.2
def WB(X:Cx) (pos:Pos) (keys:List (Option Expr)) (values:List Expr) (trs:List (TE×TE)):Prop :=
 ∀(nA:List (Addr×Obj)) (s:iV) (σ:St) (H:Hp) (Q:List (V×V)->Hp->Prop),Inv X nA σ H s->Ig trs σ H Q ->
  jb (iY X.prog X.w) X.A (evalPairs (pairTrees keys values X.env pos)) (λvs s'=>∃ps H',Inv X nA σ H' s'/\VV ps vs/\Q ps H') X.xe s
theorem EE{X:Cx}{pos:Pos}:WB X pos [] [] []:=λnA s σ H Q I h=>pairTrees_nil_walk ⟨[],H,I,.nil,h⟩
theorem Cd{X:Cx}{pos:Pos}{k v:Expr}{ks:List (Option Expr)}{vs:List Expr}{tk tv:TE}{trs:List (TE×TE)}(hk:PE X k tk) (hv:PE X v tv) (hr:WB X pos ks vs trs) :
  WB X pos (some k::ks) (v::vs) ((tk,tv)::trs):=λnA s σ H Q I h =>
 pairTrees_cons_walk (thn (hk nA s σ H _ I h) λu s1 ⟨x,H1,I1,rx,q1⟩=>thn (hv nA s1 σ H1 _ I1 q1) λw2 s2 ⟨y,H2,I2,ry,q2⟩ =>
  thn (hr nA s2 σ H2 _ I2 q2) λws s3 ⟨ps,H3,I3,rel,q3⟩=>⟨(x,y)::ps,H3,I3,.cons ⟨rx,ry⟩ rel,q3⟩)
def Az(kvs more:List (oD×V)):List (oD×V):=more.foldl (λacc kv=>yj acc kv.1 kv.2) kvs
theorem KV.merge:∀{more:List (oD×V)}{rs:List (oD×Value)}{kvs:List (oD×V)}{vs:List (oD×Value)},KV more rs->KV kvs vs->KV (Az kvs more) (merged vs rs):=by
 intro more rs kvs vs r;unfold KV at r
 induction r generalizing kvs vs with
 |nil=>intro q;exact q
 | @cons p q ps qs h t ih =>
  intro r0;have e:KV (yj kvs p.1 p.2) (stored vs q.1 q.2):=by
   have:=r0.put p.1 h.2;rw[←h.1];exact this
  exact ih e
theorem yI:∀(more kvs:List (oD×V)),(Az kvs more).length<=kvs.length+more.length
 | [],kvs=>by show kvs.length<=kvs.length+0;lia
 |p::r,kvs=>by
  have h1:=yI r (yj kvs p.1 p.2);have h2:=xX kvs p.1 p.2;show (Az (yj kvs p.1 p.2) r).length<=_;rw[lCq];lia
theorem Cf{P:je}{w:jf}:∀{kvs:List (oD×V)}{ws:List (Value×Value)},VV (kvs.map λkv=>(kV kv.1,kv.2)) ws->∃rs,Carries (qp P w) ws rs/\KV kvs rs
 | [],_,r=>by rw[gq]at r;cases r;exact⟨[],True.intro,.nil⟩
 |p::kvs,_,r=>by
  rw[au]at r;cases r with
  | @cons a b as bs h t =>
   obtain⟨rs,c,q⟩:=Cf (P:=P) (w:=w) t;obtain⟨b1,b2⟩:=b;exact⟨(p.1,b2)::rs,⟨DB h.1,rfl,c⟩,.cons ⟨rfl,h.2⟩ q⟩
def Rx(trs:List (TE×TE)):TE:=λσ H Q=>∀p,H p=none->Ig trs σ (upd H p (.dK [])) λps H2=>H2 p=some (.dK [])/\∃kvs:List (oD×V),ps=kvs.map (λkv=>(kV kv.1,kv.2))/\kvs.length<=15/\Q (.ref p) (upd H2 p (.dK (Az [] kvs)))
theorem Em{X:Cx}{pos:Pos}{keys:List (Option Expr)}{values:List Expr}{trs:List (TE×TE)}(h:WB X pos keys values trs) (hall:keys.all (·.isSome)=true) (hl:keys.length=values.length) (h0:keys≠[])
  (h15:keys.length<=15):PE X (.Dict keys values pos) (Rx trs):=by
 intro nA s σ H Q I q;have hn:=I.hok.fresh (ae s.heap.objs.size);have I1:=I.laid (a:=s.heap.objs.size) (o:=.dK []) (h':=s.heap.push { cls:=.type "dict", data:=.dict #[] }) (t':=s.toks) (λ_ _ q=>aj _ q) (ae _) (Gu s.heap I.big)
 refine wpAny_Dict_walk (knd:=qp X.prog X.w) hall hl h0 h15 (thn (h nA _ σ _ _ I1 (q _ hn)) λws s2 ⟨ps,H2,I2,rel,e,kvs,ep,lk,q2⟩=>?_)
 subst ep;obtain⟨rs,c,rk⟩:=Cf (P:=X.prog) (w:=X.w) rel;obtain⟨z,hd,vs0,r0,dd⟩:=Rg I2.hok e;cases r0;refine⟨rs,c,dd,λh' dd' hs=>⟨.ref s.heap.objs.size,_,?_,rfl,q2⟩⟩
 have hz:(Az [] kvs).length<=jc:=by
  have h1:=yI kvs [];rw[bP]at h1;rw[jt];lia
 have he:∃q,h'.get? s.heap.objs.size=some q:=let ⟨q,_,_,hq,_⟩:=dd';⟨q,hq⟩
 exact EJ I2 (by rw[e];exact True.intro) hs he (NC hz hd (rk.merge .nil) dd')
structure M1 (X:Cx) (o:Expr) (m:Str) (apos:Pos) (e:Expr) (cpos:Pos):Prop where
 base:kC o m X.env (eval o X.env)=eval o X.env
 few:((jH cpos (jh [e] X.env)).all (λx=>!x.1) && (backToKw cpos (lS [] X.env)).all (λx=>x.1.isSome)
  && decide (([e]:List Expr).length+([]:List lu).length+(if ([]:List lu).isEmpty then 0 else 1)<30))=true
 line:(apos.endLine == cpos.line)=true
 trees:jH cpos (jh [e] X.env)=[(false,eval e X.env)]
structure M2 (X:Cx) (o:Expr) (m:Str) (apos:Pos) (e f:Expr) (cpos:Pos):Prop where
 base:kC o m X.env (eval o X.env)=eval o X.env
 few:((jH cpos (jh [e,f] X.env)).all (λx=>!x.1) && (backToKw cpos (lS [] X.env)).all (λx=>x.1.isSome)
  && decide (([e,f]:List Expr).length+([]:List lu).length+(if ([]:List lu).isEmpty then 0 else 1)<30))=true
 line:(apos.endLine == cpos.line)=true
 trees:jH cpos (jh [e,f] X.env)=[(false,eval e X.env),(false,eval f X.env)]
def YO(H:Hp) (a:Addr):Prop:=(∃kvs,Rd H a (.dK kvs))∨∃kvs,Rd H a (.dT kvs)
theorem SN{X:Cx}{nA:List (Addr×Obj)}{σ:St}{H:Hp}{s:iV}{a:Addr}(I:Inv X nA σ H s) (d:YO H a) :
  s.TypeIs (.ref a) "dict" /\ (∀b,aE a = .ref b->∃ob,s.heap.get? b=some ob/\ob.dict=none)/\(a == jC)=false:=by
 rcases d with ⟨kvs,e⟩|⟨kvs,e⟩
 .obtain ⟨_,hd,vs,_,dd⟩:=BX I.hok e;refine⟨dd.typeIs,λb q=>?_,hd⟩
  cases q;obtain⟨ob,_,_,h1,h2,_⟩:=dd;exact⟨ob,h1,h2.2.1⟩
 .obtain ⟨_,hd,xs,_,dd⟩:=DM I.hok e;refine⟨dd.typeIs,λb q=>?_,hd⟩
  cases q;obtain⟨ob,_,_,h1,h2,_⟩:=dd;exact⟨ob,h1,h2.2.1⟩
end L2
namespace Att
open PySem PySem.W PySem.Calls PyProof.Rows
theorem Be{P:Params}{h:Heap}:∀(ns:List Int) (vs:List Value),WellAll P h vs (ns.map WData.int)->ju vs ns:=by
 intro ns
 induction ns with
 |nil =>
  intro vs w;rw[gq]at w;cases w;exact .nil
 |cons n ns ih =>
  intro vs w;rw[au]at w;cases w with
  |cons a b =>
   cases a;exact .cons _ _ (ih _ b)
theorem Kf{l:OpenLaw}{n:Nat}(hn:l.most=some n) {P:Params}{h:Heap}{args:List WData}{vals:List Value}
  (hpre:l.row.toRowW.claim.pre args=true) (hwl:WellAll P h vals args) :
  ∃a vs ns,vals=[aE a]/\args=[WData.list (ns.map WData.int)]/\h.get? a=some { cls:=.type "list", data:=.seq vs.toArray }/\ju vs ns/\ns.length<=n:=by
 have hsh:WShape.hasAll [] args [.list .int]=true:=(pre_splitW hpre).1;have hc:l.pre.holds [] { args:=args }=true:=(pre_splitW hpre).2;obtain⟨d,r,rfl,h1,h2⟩:=hasAllW_cons hsh;obtain rfl:=hasAllW_nil h2;obtain⟨xs,rfl,h3⟩:=hasW_list h1;obtain⟨ns,rfl⟩:=items_int h3;have hlen:ns.length<=n:=by
  unfold OpenLaw.pre at hc;have h4:(WTm.not (.lt (.lit (.int (n:Int))) (.len (.arg 0)))).holds [] { args:=[.list (ns.map .int)] }=true:=by
   have h4:=(holds_andW hc).1;rw[hn]at h4;exact h4
  have h5:=condW_of h4 (w_not (w_lt w_lit (w_len_list (w_arg rfl))));rw[lMq]at h5;refine gn λq=>?_
  have q':(n:Int)<((ns.length:Nat):Int):=by lia
  first
   | (rw[decide_eq_true q']at h5;exact absurd h5 (by decide))
   | (simp at h5;lia)
 cases hwl with
 |cons w1 w2 =>
  cases w2;cases w1 with
  |list ho hall=>exact⟨_,_,ns,rfl,rfl,ho,Be ns _ hall,hlen⟩
theorem J5(l:OpenLaw) (args:List WData):l.row.toRowW.claim.post args (.bool true) args=true :=
 postW_of (r:=l.row.toRowW) (X:=(true == true))
  (show WShape.has [] (.bool true) .bool=true by first|rfl|decide|simp[WShape.has,WShape.arms,WShape.armsAll])
  (show (WTm.eq .res (.lit (.bool true))).value [] { args:=args,res:=some (.bool true),after:=args }=some (.bool (true == true)) from w_eq_bool (w_res rfl) w_lit) rfl
theorem GD{l:OpenLaw}{n:Nat}{q:je}{loose:List Str}{XP:(Str->Option Value)->Heap->Prop}{YP:jf->Heap->Prop}{d:DefRec}
  (hn:l.most=some n) (hdf:d.params.defaults=[])
  (call:∀(w:jf) (s₀ s₁:iV) (mg mb:Str->Option Value) (fa:Addr) (o:Obj) (pm cd doc:Value) (a:Addr) (vs:List Value) (ns:List Int),
   Ground q loose [] XP w s₀ mg mb s₁.heap->YP w s₁.heap ->
   s₁.heap.get? fa=some o->o.data = .func (docDef d.name d.params d.body d.scope pm cd doc)->s₁.heap.CodeRec cd d.name->mg d.name=some (.ref fa) ->
   s₁.heap.get? a=some { cls:=.type "list", data:=.seq vs.toArray }->ju vs ns->ns.length<=n->s₁.gens=#[] ->
   kH (iY l.prog w) kJ (.call (.ref fa) ⟨[.ref a],[]⟩) (λr s'=>r = .ok (.ret (.bool true))/\OldK s₁.heap s'.heap/\s'.os=s₁.os/\jY s'.gens) s₁) :
  WalkO q loose XP YP l.row.toRowW d [] (λf vs=>PySem.call f vs):=by
 intro w s₀ s₁ mg mb G Y fa o pm cd doc dV kV ho hd hcd hD hmg hg args vals as hpre hlay hrd hwl hlo;obtain rfl:dV = .none:=Dflts.none hD hdf;obtain rfl:kV = .none:=Dflts.noKw hD;obtain⟨a,vs,ns,rfl,rfl,hobj,hints,hlen⟩:=Kf hn hpre hwl;refine enter_call (kL (call w s₀ s₁ mg mb fa o pm cd doc a vs ns G Y ho (fd_plain hd) hcd hmg hobj hints hlen hg) λr s' hq=>?_)
 obtain⟨rfl,h2,h3,h4⟩:=hq;exact⟨.inl ⟨.bool true,.bool true,[],rfl,λ_=>rfl,.bool true,J5 l _,λ_=>⟨bj.nil,λ_ hm=>(nomatch hm)⟩⟩,h2,h3,h4⟩
end Att
namespace L2
open PySem PySem.Spec PyProof.Rows
theorem vals_ints:∀{vs:List Value}{ns:List Int},ju vs ns->oN (ns.map V.int) vs
 |_,_,.nil=>.nil
 |_,_,.cons n t h=>.cons ⟨t,rfl⟩ (vals_ints h)
def So(H:Hp):Prop:=∀b,H b=none∨∃o xs,H b=some (.frz o (.lst xs))
theorem Oz{P:je}{w:jf}{K:W.Frag}{mg mb:Str->Option Value}{CX:Lg}{k:Nat}{fa a:Addr}{fd:jl}{x:Str}{sp:Sp}{s₁:iV}{vs:List Value}{ns:List Int}
  (KX:K.In s₁.heap) (hns:s₁.heap.Ns jd mg) (hb:s₁.heap.Ns builtinsNs mb) (hbb:∀x:Str,x ≠ "__name__" -> mb x=jW x) (hlim:s₁.heap.NoLimit) (hg:s₁.gens=#[])
  (ha:s₁.heap.get? a=some { cls:=.type "list", data:=.seq vs.toArray }) (hi:ju vs ns) (hl:ns.length<=jc) (hr:tm k kJ)
  (F:∀base:Heap,K.In base->base.Ns jd mg->yP P w K mg base CX k fa fd [x] sp) (hbind:∀(s:iV) (u:Value),ly s fd ⟨[u],[]⟩ [(x,u)])
  (hsp:∀H:Hp,So H->qC K H a (ns.map V.int)->sp [.ref a] H (λv _=>v = .bl true) λ_ _ _=>False)
  (hCX:∀H e s',CX [] H s₁ (λ_ _ _=>False) e s'->False) :
  kH (iY P w) kJ (.call (.ref fa) ⟨[.ref a],[]⟩) (λr s'=>r = .ok (.ret (.bool true))/\OldK s₁.heap s'.heap/\s'.os=s₁.os/\jY s'.gens) s₁:=by
 have rv:=vals_ints hi;have lenV:=hi.length;have core:∀H:Hp,So H->qC K H a (ns.map V.int)->xl P w H s₁.heap->(∀b,H b≠none->b=a)->(H a≠none->K.lookup a=none) ->
   kH (iY P w) kJ (.call (.ref fa) ⟨[.ref a],[]⟩) (λr s'=>r = .ok (.ret (.bool true))/\OldK s₁.heap s'.heap/\s'.os=s₁.os/\jY s'.gens) s₁:=by
  intro H hO hS hok hA hK;have base_of:∀{b:Addr}{o:Obj},s₁.heap.get? b=some o->H b=none->(FA s₁.heap H).get? b=some o:=λe n=>NT e n
  have noA:∀{b:Addr}{o:Obj}{es:Array DictEntry}{ep:Nat},s₁.heap.get? b=some o->o.data = .dict es ep->H b=none:=λ{b o es ep} e d=>by
   cases q:H b with
   |none=>rfl
   |some u =>
    have e':b=a:=hA b (by rw[q];simp)
    subst e';rw[ha]at e;cases e;have d':Data.seq vs.toArray _=Data.dict es ep:=d;cases d'
  have nsK:∀{b:Addr}{m:Str->Option Value},s₁.heap.Ns b m->(FA s₁.heap H).Ns b m:=λ{b m} ⟨o,es,ep,e,d,r⟩=>⟨o,es,ep,base_of e (noA e d),d,r⟩
  have hKb:K.In (FA s₁.heap H):=λb o e=>base_of (KX b o e) (by
   cases q:H b with
   |none=>rfl
   |some u =>
    have e':b=a:=hA b (by rw[q];simp)
    subst e';rw[hK (by rw[q];simp)]at e;cases e)
  have hM:Mod K mg (FA s₁.heap H):=⟨hKb,nsK hns,⟨mb,nsK hb,hbb⟩,let ⟨mc,h1,h2⟩:=hlim;⟨mc,nsK h1,h2⟩⟩
  have e0:O4 P w K mg (FA s₁.heap H) kJ [] s₁ H:=⟨rfl,hM,λb o e=>QA e,fL (Ke _ _),trivial,λb hb=>absurd (show b∈([]:List Addr) from hb) (by simp),hok,.of_eq hg⟩
  refine kL ((F _ hKb (nsK hns)).run kJ [] s₁ H ⟨[.ref a],[]⟩ [.ref a] [.ref a] _ _ hr e0 (hbind s₁ (.ref a)) (.cons rfl .nil) (hsp H hO hS)) λr s' h=>?_
  cases r with
  |error e=>exact(hCX H e s' h).elim
  |ok fl =>
   cases fl with
   |next=>exact False.elim h
   |brk=>exact False.elim h
   |cont=>exact False.elim h
   |ret u =>
    obtain⟨v,H',os,bare,un,hok',r',q⟩:=h;have q':v = .bl true:=q;subst q';obtain rfl:u=iz true:=r';refine⟨rfl,OldK.of_keep λb o e=>?_,os,bare⟩
    cases q:H b with
    |none=>exact un.keep b o e q (by intro z;exact absurd (show b∈([]:List Addr) from z) (by simp)) (by simp)
    |some u =>
     rcases hO b with z|⟨ob,xs,z⟩
     .rw [q]at z;cases z
     .have z2:=un.frzs b ob _ z;obtain⟨e1,_⟩:=hok b _ z;obtain⟨e2,_⟩:=hok' b _ z2;rw[e]at e1;cases e1;exact e2
 cases hk:K.lookup a with
 |some o =>
  have e:=KX a o hk;rw[ha]at e;cases e;refine core (λ_=>none) (λ_=>.inl rfl) (.inr ⟨_,vs.toArray,_,hk,rfl,rfl,rfl,by rw[aA,lenV];exact hl,by simpa using rv⟩) (λb u z=>by have z':(none:Option HO)=some u:=z;cases z') (λb z=>absurd rfl z) λz=>absurd rfl z
 |none =>
  refine core (λb=>if b=a then some (.frz { cls:=.type "list", data:=.seq vs.toArray } (.lst (ns.map V.int))) else none) (λb=>?_) (.inl (.inr ⟨{ cls:=.type "list", data:=.seq vs.toArray },oq rfl⟩)) (λb u z=>?_) (λb z=>?_) λ_=>hk
  .by_cases hb:b=a
   .exact .inr ⟨_,_,oq hb⟩
   .exact .inl (oz hb)
  .by_cases hb:b=a
   .have z':=(oq hb).symm.trans z;cases z';subst hb;exact⟨ha,by rw[lMq];exact hl,vs,_,rv,ha⟩
   .have z':=(oz hb).symm.trans z;cases z'
  .by_cases hb:b=a
   .exact hb
   .exact absurd (oz hb) z
theorem O3{l:W.OpenLaw}{n k:Nat}{q:je}{loose:List Str}{XP:(Str->Option Value)->Heap->Prop}{YP:jf->Heap->Prop}{d:DefRec}{K:Params->W.Frag}{CX:jf->Lg}{sp:jf->Sp}{x:Str}
  (hn:l.most=some n) (hn2:n<=jc) (hdf:d.params.defaults=[]) (hr:tm k kJ)
  (hY:∀(w:jf) (h:Heap),YP w h->(K w.params).In h)
  (F:∀(w:jf) (mg:Str->Option Value) (fa:Addr) (h:Heap),(K w.params).In h->h.Ns jd mg->mg d.name=some (.ref fa) ->
   ∃fd:jl,(∀(s:iV) (u:Value),ly s fd ⟨[u],[]⟩ [(x,u)]) /\
    ∀base:Heap,(K w.params).In base->base.Ns jd mg->yP l.prog w (K w.params) mg base (CX w) k fa fd [x] (sp w))
  (hsp:∀(w:jf) (H:Hp) (a:Addr) (ns:List Int),ns.length<=n->So H->qC (K w.params) H a (ns.map V.int)->sp w [.ref a] H (λv _=>v = .bl true) λ_ _ _=>False)
  (hCX:∀(w:jf) (H:Hp) (s:iV) (e:Value) (s':iV),CX w [] H s (λ_ _ _=>False) e s'->False) :
  W.WalkO q loose XP YP l.row.toRowW d [] (λf vs=>PySem.call f vs):=by
 refine Att.GD hn hdf λw s₀ s₁ mg mb fa o pm cd doc a vs ns G Y ho hd hcd hmg hobj hints hlen hg=>?_
 have KX:=hY w _ Y;obtain⟨fd,hb,hF⟩:=F w mg fa _ KX G.T.g hmg;exact Oz KX G.T.g G.T.b G.T.builtins G.T.nolimit hg hobj hints (bN hlen hn2) hr hF hb (λH hO hS=>hsp w H a ns hlen hO hS) λH e s'=>hCX w H s₁ e s'
def uf(s:Stmt):Arguments:=match s with
 | .FunctionDef _ a _ _ _ _ _ _ _ _=>a
 |_=>{ posonlyargs:=[],args:=[],vararg:=none,kwonlyargs:=[],kw_defaults:=[],kwarg:=none,defaults:=[] }
def sN(s:Stmt):List Stmt:=match s with
 | .FunctionDef _ _ b _ _ _ _ _ _ _=>b
 |_=>[]
def nX(s:Stmt):jU:=match s with
 | .FunctionDef _ _ _ _ _ _ sc _ _ _=>sc
 |_=>{ kind:=.function,names:=[],isGenerator:=false,isCoroutine:=false }
abbrev Uz:Lg:=λ_ _ _ _ _ _=>False
abbrev E0:XK:=λ_ _ _=>False
theorem UT{X:Cx}:An Uz X E0:=λ_ _ _ _ _ _ _ h=>h.elim
structure Qc (K:W.Frag) (x qual:Str) (st:Stmt) (f:Addr) (fd:jl):Prop where
 ex:∃(oc:Value) (od:Option Addr) (kV doc pm:Value) (an:Option Addr) (sZ ct:Value) (osl:Array (Option Value)),
  fd=W.fnOf x qual (uf st) (sN st) (nX st) .none kV doc pm an sZ ct/\K.lookup f=some ⟨oc,od,.func fd,osl⟩/\W.codeIn K sZ qual=true
 kp:W.keepIn K (.ref f)=true
section
variable {P:je}{w:jf}{K:W.Frag}{mg:Str->Option Value}{base:Heap}
theorem Qc.ok{x qual:Str}{st:Stmt}{f:Addr}{fd:jl}{N ps:List Str}{k:Nat}{sp:Sp}(F:Qc K x qual st f fd) (S:pE N ps (nX st)) (len:∀vs H Q E,sp vs H Q E->vs.length=ps.length)
  (hbody:∀(sZ:Value) (A:Around) (outer:List Env) (s:iV) (H:Hp) (vs:List V) (Q:VK) (E:XK),tm k (A.deeper (jF qual (nX st) s.heap.objs.size f sZ))->sp vs H Q E ->
   ∃t,Ii (Fg Uz P w K mg base N qual (nX st) f sZ A outer s H E).nox (sN st) t/\t { nx:=λ_ H'=>Q .non H',rt:=Q } (rN N vs) H):yP P w K mg base Uz (k+1) f fd ps sp:=by
 obtain⟨oc,od,kV,doc,pm,an,sZ,ct,osl,rfl,lk,hcd⟩:=F.ex;refine Q3 lk hcd S len λA outer s H vs Q E hr hsp=>?_
 obtain⟨t,h,q⟩:=hbody sZ A outer s H vs Q E hr hsp;exact⟨t,h.nox,q⟩
theorem Qc.binds{x qual:Str}{st:Stmt}{f:Addr}{fd:jl}{ps:List Str}(F:Qc K x qual st f fd)
  (h:∀(kV doc pm:Value) (an:Option Addr) (sZ ct:Value) (us:List Value),us.length=ps.length->bindArgs (W.fnOf x qual (uf st) (sN st) (nX st) .none kV doc pm an sZ ct) ⟨us,[]⟩=pure (ps.zip us)):xx K fd ps []:=by
 obtain⟨oc,od,kV,doc,pm,an,sZ,ct,osl,rfl,lk,hcd⟩:=F.ex;exact .all (h kV doc pm an sZ ct)
theorem IC{x qual:Str}{st:Stmt}{f:Addr}{oc:Value}{od an:Option Addr}{osl:Array (Option Value)}{kV doc pm sZ ct:Value}(l:K.lookup f=some ⟨oc,od,.func (W.fnOf x qual (uf st) (sN st) (nX st) .none kV doc pm an sZ ct),osl⟩)
  (c:W.codeIn K sZ qual=true) (k:W.keepIn K (.ref f)=true):Qc K x qual st f (W.fnOf x qual (uf st) (sN st) (nX st) .none kV doc pm an sZ ct):=⟨⟨oc,od,kV,doc,pm,an,sZ,ct,osl,rfl,l,c⟩,k⟩
end
theorem sU{A:Around}{k:Nat}(hr:tm k A):A.units+1<jv:=Nat.lt_of_le_of_lt (Nat.add_le_add_left (by decide:1<=64) _) hr.units
section
variable {X:Cx}
theorem pv(i:Nat) {x:Str}{pos:Pos}(hN:X.N[i]?=some x:=by rfl) (hv:Xz X.env.scope x:=by trivial) (hd:(x == ("__debug__" : Str))=false:=by decide)
  (hcd:(x == ("__classdict__" : Str))=false:=by decide):PE X (.Name x pos) (uY i):=TV hN hv hd hcd
end
theorem CT{A B:Prop}(h:B):if false=true then A else B:=by
 rw[oz aH];exact h
theorem Dc{A B:Prop}(h:A):if true=true then A else B:=by
 rw[oq rfl];exact h
def ot(H H':Hp):Prop:=∀b o,H b=some o->H' b=some o
theorem ot.refl(H:Hp):ot H H:=λ_ _ h=>h
theorem ot.trans{H H1 H2:Hp}(a:ot H H1) (b:ot H1 H2):ot H H2:=λc o h=>b c o (a c o h)
theorem ot.free{H H':Hp}(e:ot H H') {l:Addr}(h:H' l=iR):H l=iR:=by
 cases q:H l with
 |none=>rfl
 |some o =>
  rw[e l o q]at h;cases h
theorem ot.seq{K:W.Frag}{H H':Hp}{a:Addr}{xs:List V}(e:ot H H') (h:qC K H a xs):qC K H' a xs:=by
 rcases h with (h|⟨o,h⟩)|h
 .exact .inl (.inl (e _ _ h))
 .exact .inl (.inr ⟨o,e _ _ h⟩)
 .exact .inr h
section
variable {X:Cx}
theorem KU:sv X (.builtin "len") (λxs H Q=>∃a kvs,xs=[V.ref a]/\H a=some (.dK kvs)/\Q (.int kvs.length) H):=by
 intro nA s σ H xs us Q I r h;obtain⟨a,kvs,rfl,ha,q⟩:=h;obtain⟨u,rfl,ru⟩:=yF r;cases ru;exact VS I (.inl ha) λt s' I'=>⟨.int kvs.length,H,I',⟨t,rfl⟩,q⟩
end
end L2
namespace Mr
def cell(ns:List Int) (k:Nat):Int:=ns.getD k 0
def pN(ns:List Int):Nat->Nat
 |0=>0
 |k+1=>if ns.getD k 0<ns.getD (pN ns k) 0 then k else pN ns k
def rot(ns:List Int) (i:Nat):List Int:=ns.drop i++ns.take i
def oS(ns:List Int):List Int:=rot ns (pN ns ns.length)
theorem wO(ns:List Int):∀n,(0<n->pN ns n<n)/\(∀j,j<n->ns.getD (pN ns n) 0<=ns.getD j 0)/\(∀j,j<pN ns n->ns.getD (pN ns n) 0<ns.getD j 0)
 |0=>⟨λh=>absurd h (cD _),λj h=>absurd h (dh _),λj h=>absurd h (dh _)⟩
 |n+1=>by
  obtain⟨h1,h2,h3⟩:=wO ns n;simp only[pN]
  by_cases c:ns.getD n 0<ns.getD (pN ns n) 0
  .rw [oq c];refine⟨λ_=>dR n,λj hj=>?_,λj hj=>?_⟩
   .rcases dZ (gX hj) with q|q
    .have:=h2 j q;lia
    .subst q;exact Int.le_refl _
   .have:=h2 j hj;lia
  .rw [oz c];refine⟨λ_=>?_,λj hj=>?_,h3⟩
   .by_cases hn:0<n
    .exact cu (h1 hn)
    .have:n=0:=by lia
     subst this;exact dR 0
   .rcases dZ (gX hj) with q|q
    .exact h2 j q
    .subst q;lia
theorem Ho(ns:List Int):pN ns ns.length<=ns.length:=by
 by_cases h:0<ns.length
 .exact cJ ((wO ns ns.length).1 h)
 .have:ns.length=0:=by lia
  rw[this];exact ae 0
theorem BD{ns:List Int}{j:Nat}(h:j<ns.length):ns.getD j 0=ns[j]:=by
 rw[gDq,gEg h];rfl
theorem G9{ns:List Int}{M:Int}(hm:M∈ns) (hl:∀a,a∈ns->M<=a):ns.idxOf M=pN ns ns.length:=by
 have h0:0<ns.length:=List.length_pos_of_mem hm;obtain⟨h1,h2,h3⟩:=wO ns ns.length;have h1:=h1 h0;have hi:ns.idxOf M<ns.length:=gh.mpr hm;have e:ns.getD (ns.idxOf M) 0=M:=by rw[BD hi];exact eh hi
 have eL:ns.getD (pN ns ns.length) 0=M:=by
  have q1:=h2 _ hi;rw[e]at q1;have q2:=hl _ (by rw[BD h1];exact gRq h1:ns.getD (pN ns ns.length) 0∈ns)
  lia
 rcases gY (ns.idxOf M) (pN ns ns.length) with q|q|q
 .have:=h3 _ q;lia
 .exact q
 .exfalso;have:=List.not_of_lt_findIdx (p:=(· == M)) (xs:=ns) (i:=pN ns ns.length) (by simpa [List.idxOf] using q)
  rw[BD h1]at eL;simp[eL]at this
theorem xW:oS []=[]:=rfl
theorem Hz(ns:List Int) (i:Nat):(rot ns i).length=ns.length:=by
 unfold rot;rw[lAq,aG,lTq];lia
theorem yd(ns:List Int):(oS ns).length=ns.length:=Hz _ _
def step(ns:List Int):Int:=if 0<cell ns 0 % 3 then cell ns 0 % 10 ^ 40+1 else 1
def Vb(ns:List Int):Int:=if 0<cell ns 1 % 3 then cell ns 1 % 10 ^ 40 else 0
def Q4(ns:List Int) (k:Int):Int:=step ns*(((1+cell ns 1 / 3 % 66)*k+cell ns 0 / 3 % 67) % 67+1)+Vb ns
def YN(ns:List Int) (k:Int):Int:=if cell ns 1 % 5=4 then 10 ^ 60-Q4 ns k else Q4 ns k
theorem LM(t:List Int) (i:Nat):(rot t i).Perm t:=by
 unfold rot;exact bb.trans (by rw[aX])
theorem qu(t:List Int):(oS t).Perm t:=LM t _
theorem wt{rs ts:List (List Int)}(h:rs.Perm ts):rs.flatten.Perm ts.flatten:=by
 induction h with
 |nil=>exact .refl _
 |cons x _ ih=>rw[fCq,fCq];exact aW.append (.refl x) ih
 |swap x y l =>
  rw[fCq,fCq,fCq,fCq,←ag,←ag];exact aW.append bb (.refl _)
 |trans _ _ a b=>exact a.trans b
theorem qJ{f:List Int->List Int}(hf:∀r,(f r).Perm r):∀rs:List (List Int),(rs.map f).flatten.Perm rs.flatten
 | []=>.refl _
 |r::rs=>by
  rw[au,fCq,fCq];exact aW.append (hf r) (qJ hf rs)
theorem Ul{rs:List (List Int)}{r:List Int}(hr:r∈rs):r.length<=rs.flatten.length:=(aU hr).length_le
def VF(r:List Int) (i:Nat) (e:Int):List Int:=r.take i++[e]++r.drop i
def YH(ts:List (List Int)) (a:Nat) (f:Nat->Nat) (e:Int):List (List Int):=ts.set a (VF (ts.getD a []) (f (ts.getD a []).length) e)
theorem IU:∀t:Fin 66,∀d:Fin 67,0<d.val->(t.val+1)*d.val % 67≠0:=by decide +kernel
end Mr
namespace MrS
open PySem PyProof.Rows
def vh:Bool->iW->Array iW->Nat->Nat->Nat->StateT SortSt Sem (Option Nat):=sortPriv% PySem.Builtin.gallop
structure xq (prog:je) (w:jf) (A:Around) (s:iV) (κ:jz) (P:iW->Prop) (lt:iW->iW->Bool):Prop where
 ask:∀x y,P x->P y->∀(E:Value->iV->Prop) (Q:Bool->iV->Prop),Q (lt x y) s->jb (iY prog w) A (keyLt' κ x.1 y.1) Q E s
 asym:∀x y,P x->P y->lt x y=true->lt y x=false
 trans:∀x y z,P x->P y->P z->lt y x=false->lt z y=false->lt z x=false
section
variable {prog:je}{w:jf}{A:Around}{E:Value->iV->Prop}{s:iV}{κ:jz}{P:iW->Prop}{lt:iW->iW->Bool}
theorem xq.refl(C:xq prog w A s κ P lt) {x:iW}(hx:P x):lt x x=false:=by
 cases e:lt x x with
 |false=>rfl
 |true=>rw[←C.asym x x hx hx e,e]
theorem xq.cmp(C:xq prog w A s κ P lt) {x y:iW}{st:SortSt}{Q:Option Bool->SortSt->Prop}(hx:P x) (hy:P y) (hk:kindOf st=κ) (h:Q (some (lt x y)) st) :
  wpS (iY prog w) A E s (lt' x y) Q st:=by
 rw[lt'_eq];refine iX (jS ?_);rw[hk];refine iX (wpS_lift (wpAny_attempt (C.ask x y hx hy _ _ ⟨rfl,?_⟩)));exact iZ h
theorem oV{arr:Array iW}{i:Nat}{x:iW}{st:SortSt}{Q:iW->SortSt->Prop}(hx:arr[i]?=some x) (h:Q x st):wpS (iY prog w) A E s (jA arr i) Q st:=by
 rw[elem'_eq,hx];exact iZ h
theorem xq.at(C:xq prog w A s κ P lt) {i j:Nat}{x y:iW}{st:SortSt}{Q:Option Bool->SortSt->Prop}(hi:(jg st)[i]?=some x) (hj:(jg st)[j]?=some y) (hx:P x) (hy:P y) (hk:kindOf st=κ) (h:Q (some (lt x y)) st) :
  wpS (iY prog w) A E s (ltAt' i j) Q st:=by
 rw[ltAt'_eq];refine iX (jS ?_);exact iX (oV hi (iX (oV hj (C.cmp hx hy hk h))))
def wW(lt:iW->iW->Bool) (left:Bool) (key:iW) (arr:Array iW) (base i:Nat):Bool :=
 if left then lt (arr.getD (base+i) key) key else !lt key (arr.getD (base+i) key)
theorem IP(left:Bool) (key:iW) (arr:Array iW) (base n hint:Nat):vh left key arr base n hint=(do
 let beyond (i:Nat):StateT SortSt Sem (Option Bool):=do
  let x ←jA arr (base+i)
  if left then lt' x key else return (←lt' key x).map (!·)
 let mut lastofs:=0
 let mut ofs:=1
 let mut lo:=0
 let mut hi:=0
 let some right ←beyond hint|return none
 if right then
  let maxofs:=n-hint
  for _ in [0:n] do
   if ofs ≥ maxofs then break
   let some more ←beyond (hint+ofs)|return none
   if !more then break
   lastofs:=ofs
   ofs:=2*ofs+1
  lo:=hint+lastofs+1
  hi:=hint+min ofs maxofs
 else
  let maxofs:=hint+1
  for _ in [0:n] do
   if ofs ≥ maxofs then break
   let some found ←beyond (hint-ofs)|return none
   if found then break
   lastofs:=ofs
   ofs:=2*ofs+1
  lo:=hint+1-min ofs maxofs
  hi:=hint-lastofs
 for _ in [0:n] do
  if lo ≥ hi then break
  let m:=lo+(hi-lo) / 2
  let some more ←beyond m|return none
  if more then lo:=m+1 else hi:=m
 return some hi):=rfl
theorem uG(C:xq prog w A s κ P lt) {left:Bool}{key:iW}{arr:Array iW}{base i:Nat}{st:SortSt}{Q:Option Bool->SortSt->Prop}(hi:base+i<arr.size) (ha:∀x,x∈arr->P x) (hkey:P key) (hk:kindOf st=κ)
  (h:Q (some (wW lt left key arr base i)) st):wpS (iY prog w) A E s (do
   let x ←jA arr (base+i)
   if left=true then lt' x key else do
    let __x ←lt' key x
    pure (__x.map (!·))) Q st:=by
 have e:arr[base+i]?=some arr[base+i]:=af hi;have e2:arr.getD (base+i) key=arr[base+i]:=by simp[gQ,hi]
 refine iX (oV e ?_);have hp:P arr[base+i]:=ha _ (aY hi);unfold wW at h;rw[e2]at h;cases left with
 |true =>
  rw[oq rfl]at h ⊢;exact C.cmp hp hkey hk h
 |false =>
  rw[oz (by decide)]at h ⊢
  exact iX (C.cmp hkey hp hk (iZ h))
theorem AJ{left:Bool}{key:iW}{arr:Array iW}{base n lo hi:Nat}{st:SortSt}{f:Nat->Option (Option Nat)×Nat×Nat->StateT SortSt Sem (ForInStep (Option (Option Nat)×Nat×Nat))}
  (mono:∀i j,i<=j->j<n->wW lt left key arr base j=true->wW lt left key arr base i=true)
  (down:∀i j,i<=j->j<n->wW lt left key arr base i=false->wW lt left key arr base j=false)
  (hf:∀(i l u:Nat) (Q':ForInStep (Option (Option Nat)×Nat×Nat)->SortSt->Prop),u<=n->(u<=l->Q' (.done (none,l,u)) st)->(l<u->wW lt left key arr base (l+(u-l) / 2)=true->Q' (.yield (none,l+(u-l) / 2+1,u)) st) ->
   (l<u->wW lt left key arr base (l+(u-l) / 2)=false->Q' (.yield (none,l,l+(u-l) / 2)) st)->wpS (iY prog w) A E s (f i (none,l,u)) Q' st)
  (h1:lo<=hi) (h2:hi<=n) (h3:∀j,j<lo->wW lt left key arr base j=true) (h4:∀j,hi<=j->j<n->wW lt left key arr base j=false) :
  wpS (iY prog w) A E s (forIn [:n] ((none,lo,hi):Option (Option Nat)×Nat×Nat) f)
   (λc st'=>∃k,c=(none,k,k)/\st'=st/\k<=n/\(∀j,j<k->wW lt left key arr base j=true)/\(∀j,k<=j->j<n->wW lt left key arr base j=false)) st:=by
 refine jw
  (I:=λi c st'=>∃l u,c=(none,l,u)/\st'=st/\l<=u/\u<=n/\(∀j,j<l->wW lt left key arr base j=true)/\(∀j,u<=j->j<n->wW lt left key arr base j=false)/\(u-l)+i<=n)
  ?step ?fin ⟨lo,hi,rfl,rfl,h1,h2,h3,h4,by lia⟩
 case step =>
  rintro i c st' _ hi' ⟨l,u,rfl,rfl,a1,a2,a3,a4,a5⟩;refine hf i l u _ a2 (λc1=>?_) (λc1 e=>?_) (λc1 e=>?_)
  .have e:l=u:=by lia
   subst e;exact⟨l,rfl,rfl,a2,a3,a4⟩
  .exact ⟨_,u,rfl,rfl,by lia,a2,λj hj=>mono j _ (by lia) (by lia) e,a4,by lia⟩
  .exact ⟨l,_,rfl,rfl,by lia,by lia,a3,λj hj hn=>down _ j hj hn e,by lia⟩
 case fin =>
  rintro c st' ⟨l,u,rfl,rfl,a1,a2,a3,a4,a5⟩;have e:l=u:=by lia
  subst e;exact⟨l,rfl,rfl,a2,a3,a4⟩
theorem tw(C:xq prog w A s κ P lt) {left:Bool}{key:iW}{arr:Array iW}{base n hint:Nat}{st:SortSt}{Q:Option Nat->SortSt->Prop}(hh:hint<n) (hb:base+n<=arr.size) (ha:∀x,x∈arr->P x) (hkey:P key) (hk:kindOf st=κ)
  (mono:∀i j,i<=j->j<n->wW lt left key arr base j=true->wW lt left key arr base i=true)
  (h:∀k,k<=n->(∀j,j<k->wW lt left key arr base j=true)->(∀j,k<=j->j<n->wW lt left key arr base j=false)->Q (some k) st) :
  wpS (iY prog w) A E s (vh left key arr base n hint) Q st:=by
 have down:∀i j,i<=j->j<n->wW lt left key arr base i=false->wW lt left key arr base j=false:=λi j hij hj e=>by
  cases q:wW lt left key arr base j with
  |false=>rfl
  |true=>rw[mono i j hij hj q]at e;cases e
 rw[IP];dsimp only;refine iX (uG C (base:=base) (i:=hint) (by lia) ha hkey hk ?_)
 cases er:wW lt left key arr base hint with
 |true =>
  dsimp only;rw[oq rfl];refine iX (jy (jw
   (I:=λi c st'=>∃l o,c=(none,l,o)/\st'=st/\l<o/\i+1<=o/\hint+l<n/\wW lt left key arr base (hint+l)=true)
   (Q:=λc st'=>∃l o,c=(none,l,o)/\st'=st/\l<o/\hint+l<n/\wW lt left key arr base (hint+l)=true/\(n-hint<=o∨(hint+o<n/\wW lt left key arr base (hint+o)=false)))
   ?step ?fin ⟨0,1,rfl,rfl,by lia,by lia,by lia,er⟩) ?post)
  case step =>
   rintro i c st' _ hi' ⟨l,o,rfl,rfl,a1,a2,a3,a4⟩;dsimp only
   by_cases c1:o ≥ n-hint
   .rw [oq c1];exact iZ ⟨l,o,rfl,rfl,a1,a3,a4,.inl c1⟩
   .rw [oz c1];refine iX (uG C (base:=base) (i:=hint+o) (by lia) ha hkey hk ?_)
    cases e:wW lt left key arr base (hint+o) with
    |true =>
     dsimp only;rw[oz (by decide)]
     exact iZ ⟨o,_,rfl,rfl,by lia,by lia,by lia,e⟩
    |false =>
     dsimp only;rw[oq (by decide)]
     exact iZ ⟨l,o,rfl,rfl,a1,a3,a4,.inr ⟨by lia,e⟩⟩
  case fin =>
   rintro c st' ⟨l,o,rfl,rfl,a1,a2,a3,a4⟩;exact⟨l,o,rfl,rfl,a1,a3,a4,.inl (by lia)⟩
  case post =>
   rintro c st' ⟨l,o,rfl,rfl,a1,a3,a4,a5⟩;dsimp only;refine iX (jy (AJ (lt:=lt) (left:=left) (key:=key) (arr:=arr) (base:=base) mono down (λi l' u' Q' hu q1 q2 q3=>?_) (by lia) (by lia) (λj hj=>mono j _ (by lia) a3 a4) ?_) ?_)
   .dsimp only
    by_cases c1:l' ≥ u'
    .rw [oq c1];exact iZ (q1 c1)
    .rw [oz c1];refine iX (uG C (base:=base) (i:=l'+(u'-l') / 2) (by lia) ha hkey hk ?_)
     cases e:wW lt left key arr base (l'+(u'-l') / 2) with
     |true =>
      dsimp only;rw[oq rfl];exact iZ (q2 (by lia) e)
     |false =>
      dsimp only;rw[oz (by decide)]
      exact iZ (q3 (by lia) e)
   .intro j hj hn;rcases a5 with a5|⟨a5,a6⟩
    .lia
    .exact down (hint+o) j (by lia) hn a6
   .rintro c st' ⟨k,rfl,rfl,k1,k2,k3⟩;exact iZ (h k k1 k2 k3)
 |false =>
  dsimp only;rw[oz (by decide)]
  refine iX (jy (jw
   (I:=λi c st'=>∃l o,c=(none,l,o)/\st'=st/\l<o/\i+1<=o/\l<=hint/\wW lt left key arr base (hint-l)=false)
   (Q:=λc st'=>∃l o,c=(none,l,o)/\st'=st/\l<o/\l<=hint/\wW lt left key arr base (hint-l)=false/\(hint+1<=o∨(o<=hint/\wW lt left key arr base (hint-o)=true)))
   ?step ?fin ⟨0,1,rfl,rfl,by lia,by lia,by lia,er⟩) ?post)
  case step =>
   rintro i c st' _ hi' ⟨l,o,rfl,rfl,a1,a2,a3,a4⟩;dsimp only
   by_cases c1:o ≥ hint+1
   .rw [oq c1];exact iZ ⟨l,o,rfl,rfl,a1,a3,a4,.inl c1⟩
   .rw [oz c1];refine iX (uG C (base:=base) (i:=hint-o) (by lia) ha hkey hk ?_)
    cases e:wW lt left key arr base (hint-o) with
    |true =>
     dsimp only;rw[oq rfl];exact iZ ⟨l,o,rfl,rfl,a1,a3,a4,.inr ⟨by lia,e⟩⟩
    |false =>
     dsimp only;rw[oz (by decide)]
     exact iZ ⟨o,_,rfl,rfl,by lia,by lia,by lia,e⟩
  case fin =>
   rintro c st' ⟨l,o,rfl,rfl,a1,a2,a3,a4⟩;exact⟨l,o,rfl,rfl,a1,a3,a4,.inl (by lia)⟩
  case post =>
   rintro c st' ⟨l,o,rfl,rfl,a1,a3,a4,a5⟩;dsimp only;refine iX (jy (AJ (lt:=lt) (left:=left) (key:=key) (arr:=arr) (base:=base) mono down (λi l' u' Q' hu q1 q2 q3=>?_) (by lia) (by lia) ?_ (λj hj hn=>down _ j hj hn a4)) ?_)
   .dsimp only
    by_cases c1:l' ≥ u'
    .rw [oq c1];exact iZ (q1 c1)
    .rw [oz c1];refine iX (uG C (base:=base) (i:=l'+(u'-l') / 2) (by lia) ha hkey hk ?_)
     cases e:wW lt left key arr base (l'+(u'-l') / 2) with
     |true =>
      dsimp only;rw[oq rfl];exact iZ (q2 (by lia) e)
     |false =>
      dsimp only;rw[oz (by decide)]
      exact iZ (q3 (by lia) e)
   .intro j hj;rcases a5 with a5|⟨a5,a6⟩
    .lia
    .exact mono j (hint-o) (by lia) (by lia) a6
   .rintro c st' ⟨k,rfl,rfl,k1,k2,k3⟩;exact iZ (h k k1 k2 k3)
end
abbrev wY(lt:iW->iW->Bool) (l:List iW):Prop:=l.Pairwise λx y=>lt y x=false
structure MI (lt:iW->iW->Bool) (a b out:Array iW) (ia ib:Nat):Prop where
 la:ia<=a.size
 lb:ib<=b.size
 pm:(out.toList++(a.toList.drop ia++b.toList.drop ib)).Perm (a.toList++b.toList)
 so:wY lt out.toList
 ua:∀x∈out.toList,∀y∈a.toList.drop ia,lt y x=false
 ub:∀x∈out.toList,∀y∈b.toList.drop ib,lt y x=false
section
variable {lt:iW->iW->Bool}{a b out out':Array iW}{ia ib k:Nat}
theorem MI.congr(m:MI lt a b out ia ib) (e:out'.toList=out.toList):MI lt a b out' ia ib:=⟨m.la,m.lb,by rw[e];exact m.pm,by rw[e];exact m.so,by rw[e];exact m.ua,by rw[e];exact m.ub⟩
theorem Gf(l:List iW) (i k:Nat):l.drop i=(l.drop i).take k++l.drop (i+k):=by
 rw[←List.drop_drop,aX]
theorem wM(a:Array iW) (i k:Nat):(a.extract i (i+k)).toList=(a.toList.drop i).take k:=by
 rw[fD,dW,gu]
theorem MI.moreA(m:MI lt a b out ia ib) (sa:wY lt a.toList) (hk:ia+k<=a.size) (h:∀x∈(a.toList.drop ia).take k,∀y∈b.toList.drop ib,lt y x=false):MI lt a b (out++a.extract ia (ia+k)) (ia+k) ib:=by
 have e:(out++a.extract ia (ia+k)).toList=out.toList++(a.toList.drop ia).take k:=by rw[aN,wM]
 have sd:wY lt (a.toList.drop ia):=sa.sublist (bL _ _);have c:=Gf a.toList ia k;have sd2:=sd;rw[c]at sd2;obtain⟨q1,q2,q3⟩:=aJ.mp sd2;refine⟨hk,m.lb,?_,?_,?_,?_⟩
 .rw [e,ag];refine(aW.append_left _ ?_).trans m.pm;rw[←ag,←c]
 .rw [e];exact aJ.mpr ⟨m.so,q1,λx hx y hy=>m.ua x hx y (bT hy)⟩
 .rw [e];intro x hx y hy;rcases mAq.mp hx with hx|hx
  .exact m.ua x hx y (by rw[c];exact ar _ hy)
  .exact q3 x hx y hy
 .rw [e];intro x hx y hy;rcases mAq.mp hx with hx|hx
  .exact m.ub x hx y hy
  .exact h x hx y hy
theorem MI.moreB(m:MI lt a b out ia ib) (sb:wY lt b.toList) (hk:ib+k<=b.size) (h:∀x∈(b.toList.drop ib).take k,∀y∈a.toList.drop ia,lt y x=false):MI lt a b (out++b.extract ib (ib+k)) ia (ib+k):=by
 have e:(out++b.extract ib (ib+k)).toList=out.toList++(b.toList.drop ib).take k:=by rw[aN,wM]
 have sd:wY lt (b.toList.drop ib):=sb.sublist (bL _ _);have c:=Gf b.toList ib k;have sd2:=sd;rw[c]at sd2;obtain⟨q1,q2,q3⟩:=aJ.mp sd2;refine⟨m.la,hk,?_,?_,?_,?_⟩
 .rw [e,ag];refine(aW.append_left _ ?_).trans m.pm;refine((fT _ _ _).trans ?_);rw[←c]
 .rw [e];exact aJ.mpr ⟨m.so,q1,λx hx y hy=>m.ub x hx y (bT hy)⟩
 .rw [e];intro x hx y hy;rcases mAq.mp hx with hx|hx
  .exact m.ua x hx y hy
  .exact h x hx y hy
 .rw [e];intro x hx y hy;rcases mAq.mp hx with hx|hx
  .exact m.ub x hx y (by rw[c];exact ar _ hy)
  .exact q3 x hx y hy
theorem wN{l:List iW}{i:Nat}{x:iW}(h:l[i]?=some x):(l.drop i).take 1=[x]:=by
 obtain⟨hi,e⟩:=gSq.mp h;rw[aB hi,e];rfl
theorem MI.pushA{x:iW}(m:MI lt a b out ia ib) (sa:wY lt a.toList) (hx:a[ia]?=some x) (h:∀y∈b.toList.drop ib,lt y x=false):MI lt a b (out.push x) (ia+1) ib:=by
 have hi:ia<a.size:=(aK.mp hx).1;have hx':a.toList[ia]?=some x:=by rw[aF];exact hx
 refine(m.moreA sa (k:=1) hi λz hz y hy=>?_).congr ?_
 .rw [wN hx',mSq]at hz;rw[hz];exact h y hy
 .rw [dE,aN,wM,wN hx']
theorem MI.pushB{x:iW}(m:MI lt a b out ia ib) (sb:wY lt b.toList) (hx:b[ib]?=some x) (h:∀y∈a.toList.drop ia,lt y x=false):MI lt a b (out.push x) ia (ib+1):=by
 have hi:ib<b.size:=(aK.mp hx).1;have hx':b.toList[ib]?=some x:=by rw[aF];exact hx
 refine(m.moreB sb (k:=1) hi λz hz y hy=>?_).congr ?_
 .rw [wN hx',mSq]at hz;rw[hz];exact h y hy
 .rw [dE,aN,wM,wN hx']
structure OS (lt:iW->iW->Bool) (a b r:Array iW):Prop where
 pm:r.toList.Perm (a.toList++b.toList)
 so:wY lt r.toList
theorem vL(a:Array iW) (i:Nat):(a.extract i a.size).toList=a.toList.drop i:=by
 rw[fD,dW];exact cE (by rw[aG,aw];exact ae _)
theorem MI.endB(m:MI lt a b out ia ib) (sa:wY lt a.toList) (e:ib=b.size):OS lt a b (out++a.extract ia a.size++b.extract ib b.size):=by
 have eb:b.toList.drop ib=[]:=by rw[e,←aw,bX]
 have et:(out++a.extract ia a.size++b.extract ib b.size).toList=out.toList++a.toList.drop ia:=by
  rw[aN,aN,vL,vL,eb,aNq]
 have pm:=m.pm;rw[eb,aNq]at pm;exact⟨by rw[et];exact pm,by rw[et];exact aJ.mpr ⟨m.so,sa.sublist (bL _ _),m.ua⟩⟩
theorem MI.endA(m:MI lt a b out ia ib) (sb:wY lt b.toList) (e:ia=a.size):OS lt a b (out++a.extract ia a.size++b.extract ib b.size):=by
 have ea:a.toList.drop ia=[]:=by rw[e,←aw,bX]
 have et:(out++a.extract ia a.size++b.extract ib b.size).toList=out.toList++b.toList.drop ib:=by
  rw[aN,aN,vL,vL,ea,aNq]
 have pm:=m.pm;rw[ea,bQ]at pm;exact⟨by rw[et];exact pm,by rw[et];exact aJ.mpr ⟨m.so,sb.sublist (bL _ _),m.ub⟩⟩
theorem MI.lastA(m:MI lt a b out ia ib) (sa:wY lt a.toList) (sb:wY lt b.toList) (h:∀x∈b.toList.drop ib,∀y∈a.toList.drop ia,lt y x=false):OS lt a b (out++b.extract ib b.size++a.extract ia a.size):=by
 have et:(out++b.extract ib b.size++a.extract ia a.size).toList=out.toList++(b.toList.drop ib++a.toList.drop ia):=by
  rw[aN,aN,vL,vL,ag]
 refine⟨?_,?_⟩
 .rw [et];exact(aW.append_left _ bb).trans m.pm
 .rw [et];refine aJ.mpr ⟨m.so,aJ.mpr ⟨sb.sublist (bL _ _),sa.sublist (bL _ _),h⟩,λx hx y hy=>?_⟩
  rcases mAq.mp hy with hy|hy
  .exact m.ub x hx y hy
  .exact m.ua x hx y hy
end
def Cp:Array iW->Array iW->StateT SortSt Sem (Array iW):=sortPriv% PySem.Builtin.mergeLo
def qR:Nat->StateT SortSt Sem Unit:=sortPriv% PySem.Builtin.setMinGallop
abbrev sg(st:SortSt) (g:Nat):SortSt:=SortSt.mk' (kindOf st) (jg st) (jM st) g (failedOf st)
theorem Ak(g:Nat):qR g=modify λst=>sg st g:=rfl
section
variable (a b:Array iW)
abbrev dn(o:Array iW) (i j:Nat):=o++a.extract i a.size++b.extract j b.size
abbrev lA(o:Array iW) (i j:Nat):=o++b.extract j b.size++a.extract i a.size
abbrev SF(α:Type):=ForInStep (Option (Array iW)×Array iW×Nat×Nat×α)
def WY(o:Array iW) (i j m k l:Nat):StateT SortSt Sem (SF (Nat×Nat×Nat)):=do
 let x ←jA a i
 if i+1+1 == a.size then pure (.done (some (lA a b (o.push x) (i+1) j),o.push x,i+1,j,m,k,l))
 else if decide (k<7) && decide (l<7) then pure (.done (none,o.push x,i+1,j,m,k,l))
 else pure (.yield (none,o.push x,i+1,j,m,k,l))
def XI(o:Array iW) (i j m k q:Nat):StateT SortSt Sem (SF (Nat×Nat×Nat)):=do
 let x ←jA b j
 if j+1 == b.size then pure (.done (some (dn a b (o.push x) i (j+1)),o.push x,i,j+1,m,k,q))
 else do
  let y ←jA a i
  match ←vh true y b (j+1) (b.size-(j+1)) 0 with
  |some l =>
   if l>0 then
    if j+1+l == b.size then pure (.done (some (dn a b (o.push x++b.extract (j+1) (j+1+l)) i (j+1+l)),o.push x++b.extract (j+1) (j+1+l),i,j+1+l,m,k,l))
    else WY a b (o.push x++b.extract (j+1) (j+1+l)) i (j+1+l) m k l
   else WY a b (o.push x) i (j+1) m k l
  |_=>pure (.done (some (dn a b (o.push x) i (j+1)),o.push x,i,j+1,m,k,q))
def Xh(o:Array iW) (i j m p q:Nat):StateT SortSt Sem (SF (Nat×Nat×Nat)):=do
 qR m
 let x ←jA b j
 match ←vh false x a i (a.size-i) 0 with
 |some k =>
  if k>0 then
   if i+k+1 == a.size then pure (.done (some (lA a b (o++a.extract i (i+k)) (i+k) j),o++a.extract i (i+k),i+k,j,m,k,q))
   else if i+k == a.size then pure (.done (some (dn a b (o++a.extract i (i+k)) (i+k) j),o++a.extract i (i+k),i+k,j,m,k,q))
   else XI a b (o++a.extract i (i+k)) (i+k) j m k q
  else XI a b o i j m k q
 |_=>pure (.done (some (dn a b o i j),o,i,j,m,p,q))
def Yv(m:Nat) (o:Array iW) (i j p q:Nat):StateT SortSt Sem (SF (Nat×Nat)):=do
 let y ←jA b j
 let x ←jA a i
 match ←lt' y x with
 |some c =>
  if c then do
   let z ←jA b j
   if j+1 == b.size then pure (.done (some (dn a b (o.push z) i (j+1)),o.push z,i,j+1,0,q+1))
   else if q+1 ≥ m then pure (.done (none,o.push z,i,j+1,0,q+1))
   else pure (.yield (none,o.push z,i,j+1,0,q+1))
  else do
   let z ←jA a i
   if i+1+1 == a.size then pure (.done (some (lA a b (o.push z) (i+1) j),o.push z,i+1,j,p+1,0))
   else if p+1 ≥ m then pure (.done (none,o.push z,i+1,j,p+1,0))
   else pure (.yield (none,o.push z,i+1,j,p+1,0))
 |_=>pure (.done (some (dn a b o i j),o,i,j,p,q))
def X5(o:Array iW) (i j m:Nat):StateT SortSt Sem (SF Nat):=do
 let r ←forIn [0:a.size+b.size] (none,o,i,j,0,0) λ_ s=>Yv a b m s.2.1 s.2.2.1 s.2.2.2.1 s.2.2.2.2.1 s.2.2.2.2.2
 Break.runK.match_1 (λ_=>StateT SortSt Sem (SF Nat)) r.1 (λv=>pure (.done (some v,r.2.1,r.2.2.1,r.2.2.2.1,m))) λ_=>do
  rule "list.sort.gallop"
  let r ←forIn [0:a.size+b.size] (none,r.2.1,r.2.2.1,r.2.2.2.1,m+1,r.2.2.2.2.1,r.2.2.2.2.2) λ_ s=>if s.2.2.2.2.1>1 then Xh a b s.2.1 s.2.2.1 s.2.2.2.1 (s.2.2.2.2.1-1) s.2.2.2.2.2.1 s.2.2.2.2.2.2 else Xh a b s.2.1 s.2.2.1 s.2.2.2.1 s.2.2.2.2.1 s.2.2.2.2.2.1 s.2.2.2.2.2.2
  Break.runK.match_1 (λ_=>StateT SortSt Sem (SF Nat)) r.1 (λv=>pure (.done (some v,r.2.1,r.2.2.1,r.2.2.2.1,r.2.2.2.2.1))) λ_=>do
   qR (r.2.2.2.2.1+1)
   pure (.yield (none,r.2.1,r.2.2.1,r.2.2.2.1,r.2.2.2.2.1+1))
theorem G7:Cp a b=(do
 rule "list.sort.merge-lo"
 let x ←jA b 0
 if 1 == b.size then pure (dn a b #[x] 0 1)
 else if 0+1 == a.size then pure (lA a b #[x] 0 1)
 else do
  let st ←get
  let r ←forIn [0:a.size+b.size] (none,#[x],0,1,kg st) λ_ s=>X5 a b s.2.1 s.2.2.1 s.2.2.2.1 s.2.2.2.2
  Break.runK.match_1 (λ_=>StateT SortSt Sem (Array iW)) r.1 (λv=>pure v) λ_=>jZ "internal:list.sort.merge-bound"):=rfl
end
section
variable {prog:je}{w:jf}{A:Around}{E:Value->iV->Prop}{s:iV}{κ:jz}{P:iW->Prop}{lt:iW->iW->Bool}
theorem wA{g:Nat}{st:SortSt}{Q:Unit->SortSt->Prop}(h:Q () (sg st g)):wpS (iY prog w) A E s (qR g) Q st:=by
 rw[Ak];exact jP h
theorem vQ{x:String}{st:SortSt}{Q:Unit->SortSt->Prop}(h:Q () st):wpS (iY prog w) A E s (liftM (rule x):StateT SortSt Sem Unit) Q st:=wpS_lift (wpAny_rule ⟨rfl,h⟩)
theorem BL(C:xq prog w A s κ P lt) {a:Array iW}{i:Nat}{x:iW}(ha:∀x,x∈a->P x) (sa:wY lt a.toList) (hx:a[i]?=some x):∀y∈a.toList.drop i,lt y x=false:=by
 obtain⟨hi,e⟩:=aK.mp hx;have hi':i<a.toList.length:=by simpa using hi
 have e':a.toList[i]=x:=by simpa using e
 have sd:wY lt (a.toList.drop i):=sa.sublist (bL _ _);rw[aB hi',e']at sd ⊢;intro y hy;rcases ah.mp hy with rfl|hy
 .exact C.refl (ha _ (by rw[←e];exact aY hi))
 .exact (eA.mp sd).1 y hy
theorem uV{a:Array iW}{i:Nat}{y:iW}(h:y∈a.toList.drop i):y∈a:=by simpa using bw h
theorem zm(C:xq prog w A s κ P lt) {left:Bool}{key:iW}{arr:Array iW}{base n:Nat}(hb:base+n<=arr.size) (ha:∀x,x∈arr->P x) (hkey:P key) (so:wY lt (arr.toList.drop base)) :
  ∀i j,i<=j->j<n->wW lt left key arr base j=true->wW lt left key arr base i=true:=by
 intro i j hij hj h;have hi':base+i<arr.size:=by lia
 have hj':base+j<arr.size:=by lia
 have ei:arr.getD (base+i) key=arr[base+i]:=by simp[gQ,hi']
 have ej:arr.getD (base+j) key=arr[base+j]:=by simp[gQ,hj']
 have pi:=ha _ (aY hi');have pj:=ha _ (aY hj');have le:lt arr[base+j] arr[base+i]=false:=by
  rcases dZ hij with q|q
  .have:=bM.mp so i j (by simp;lia) (by simp;lia) q
   simpa using this
  .subst q;exact C.refl pi
 unfold wW at h ⊢;rw[ei];rw[ej]at h;cases left with
 |true =>
  rw[oq rfl]at h ⊢;cases q:lt arr[base+i] key with
  |true=>rfl
  |false =>
   have:=C.trans key arr[base+i] arr[base+j] hkey pi pj q le;rw[h]at this;cases this
 |false =>
  rw[oz (by decide)]at h ⊢
  have h':lt key arr[base+j]=false:=by simpa using h
  have:=C.trans arr[base+i] arr[base+j] key pi pj hkey le h';simp[this]
theorem sI{left:Bool}{key x:iW}{arr:Array iW}{base i:Nat}(hx:arr[base+i]?=some x):wW lt left key arr base i=if left then lt x key else !lt key x:=by
 obtain⟨hi,e⟩:=aK.mp hx;unfold wW;have ei:arr.getD (base+i) key=x:=by simp[gQ,hi,e]
 rw[ei]
theorem vy{a:Array iW}{i k:Nat}{x:iW}(h:x∈(a.toList.drop i).take k):∃j,j<k/\a[i+j]?=some x:=by
 obtain⟨j,hj,e⟩:=cc.mp h;rw[lTq]at hj;refine⟨j,by lia,?_⟩
 rw[fZ,eN]at e;rw[aK];have hs:i+j<a.size:=by
  rw[aG,aw]at hj;lia
 exact⟨hs,by simpa using e⟩
theorem ya{a:Array iW}{i:Nat}{x:iW}(h:x∈a.toList.drop i):∃j,i+j<a.size/\a[i+j]?=some x:=by
 obtain⟨j,hj,e⟩:=cc.mp h;rw[aG,aw]at hj;have hs:i+j<a.size:=by lia
 refine⟨j,hs,?_⟩;rw[eN]at e;rw[aK];exact⟨hs,by simpa using e⟩
inductive Lp {ρ τ ι σ:Type}(t:ι->τ) (v:ι->σ) (J K:ι->Prop) (R:ρ->σ->Prop):ForInStep (Option ρ×τ)->σ->Prop
 |y (x):J x->Lp t v J K R (.yield (none,t x)) (v x)
 |d (x):K x->Lp t v J K R (.done (none,t x)) (v x)
 |r (a y st):R a st->Lp t v J K R (.done (some a,y)) st
theorem vZ{M:kr}{ρ τ ι σ β:Type}{n:Nat}(t:ι->τ) (v:ι->σ) (J:Nat->ι->Prop) (K:ι->Prop) (R:ρ->σ->Prop) {f:Nat->Option ρ×τ->StateT σ Sem (ForInStep (Option ρ×τ))}{k:Option ρ×τ->StateT σ Sem β}{Q:β->σ->Prop}
  (x:ι) (h:J 0 x) (step:∀i x,J i x->wpS M A E s (f i (none,t x)) (Lp t v (J (i+1)) K R) (v x)) (fin:∀x,J n x->K x) (pn:∀x,K x->wpS M A E s (k (none,t x)) Q (v x)) (ps:∀r y st,R r st->wpS M A E s (k (some r,y)) Q st) :
  wpS M A E s (forIn [0:n] (none,t x) f >>= k) Q (v x):=by
 refine iX (jy (jw (I:=λi c st=>∃x,c=(none,t x)/\st=v x/\J i x) (Q:=λc st=>Lp t v K K R (.done c) st) ?_ ?_ ⟨x,rfl,rfl,h⟩) ?_)
 .rintro i c st _ _ ⟨x,rfl,rfl,h⟩;refine jy (step i x h) λr st' hr=>?_
  cases hr with
  |y x h=>exact⟨x,rfl,rfl,h⟩
  |d x h=>exact .d x h
  |r a y st h=>exact .r a y _ h
 .rintro c st ⟨x,rfl,rfl,h⟩;rw[ig (bg n)]at h;exact .d x (fin x h)
 .rintro c st h;cases h with
  |d x h=>exact pn x h
  |r a y st h=>exact ps a y _ h
structure Ls where
 o:Array iW
 (i j m p q g:Nat)
structure ML (lt:iW->iW->Bool) (a b:Array iW) (n:Nat) (x:Ls):Prop where
 m:MI lt a b x.o x.i x.j
 p:x.i+1<a.size
 q:x.j<b.size
 r:n<=x.i+x.j
structure Lo (prog:je) (w:jf) (A:Around) (s:iV) (κ:jz) (P:iW->Prop) (lt:iW->iW->Bool) (a b:Array iW) (st:SortSt) (Q:Array iW->SortSt->Prop):Prop where
 C:xq prog w A s κ P lt
 ha:∀x,x∈a->P x
 hb:∀x,x∈b->P x
 hk:kindOf st=κ
 sa:wY lt a.toList
 sb:wY lt b.toList
 h:∀r g,OS lt a b r->Q r (sg st g)
abbrev L6(x:Ls):=(x.o,x.i,x.j,x.m,x.p,x.q)
abbrev L5(x:Ls):=(x.o,x.i,x.j,x.p,x.q)
abbrev L4(x:Ls):=(x.o,x.i,x.j,x.m)
variable {a b:Array iW}{st:SortSt}{Q:Array iW->SortSt->Prop}{n:Nat}{x:Ls}
abbrev Hl(lt:iW->iW->Bool) (a b:Array iW):=∀i,i+1=a.size->∀x∈b.toList,∀y∈a.toList.drop i,lt y x=false
theorem Ny(H:Lo prog w A s κ P lt a b st Q) (hl:Hl lt a b) (q:ML lt a b n x) (hi:∀z,a[x.i]?=some z->∀y∈b.toList.drop x.j,lt y z=false) :
  wpS (iY prog w) A E s (WY a b x.o x.i x.j x.m x.p x.q) (Lp L6 (λx=>sg st x.g) (ML lt a b n) (ML lt a b n) Q) (sg st x.g):=by
 have p1:=q.p;have ea:a[x.i]?=some a[x.i]:=af (by lia)
 refine iX (oV ea ?_);have m6:=q.m.pushA H.sa ea (hi _ ea)
 by_cases d6:x.i+1+1=a.size
 .rw [oq (by simp[d6])]
  exact iZ (.r _ _ _ (H.h _ _ (m6.lastA H.sa H.sb λy hy=>hl _ d6 y (bw hy))))
 rw[oz (by simpa using d6)]
 have R:ML lt a b n ⟨_,_,_,x.m,x.p,x.q,x.g⟩:=⟨m6,by dsimp only;lia,q.q,by have:=q.r;dsimp only;lia⟩
 split
 .exact iZ (.d _ R)
 .exact iZ (.y _ R)
theorem OA(H:Lo prog w A s κ P lt a b st Q) (hl:Hl lt a b) (q:ML lt a b n x) (hi:∀z,b[x.j]?=some z->∀y∈a.toList.drop x.i,lt y z=false) :
  wpS (iY prog w) A E s (XI a b x.o x.i x.j x.m x.p x.q) (Lp L6 (λx=>sg st x.g) (ML lt a b n) (ML lt a b n) Q) (sg st x.g):=by
 have p1:=q.p;have p2:=q.q;have p3:=q.r;have eb:b[x.j]?=some b[x.j]:=af p2;refine iX (oV eb ?_);have m4:=q.m.pushB H.sb eb (hi _ eb)
 by_cases d3:x.j+1=b.size
 .rw [oq (by simp[d3])]
  exact iZ (.r _ _ _ (H.h _ _ (m4.endB H.sa d3)))
 rw[oz (by simpa using d3)]
 have ea:a[x.i]?=some a[x.i]:=af (by lia)
 have pa:=H.ha _ (aY (show x.i<a.size by lia))
 refine iX (oV ea (iX (tw H.C (base:=x.j+1) (n:=b.size-(x.j+1)) (by lia) (by lia) H.hb pa H.hk (zm H.C (by lia) H.hb pa (H.sb.sublist (bL _ _))) λl l1 l2 l3=>?_)))
 have hB:∀z,a[x.i]?=some z->∀y∈b.toList.drop (x.j+1+l),lt y z=false:=λz hz y hy=>by
  obtain⟨j',hj',ey⟩:=ya hy;have q:=l3 (l+j') (by lia) (by lia)
  rw[sI (by rw[←fe];exact ey),oq rfl]at q
  rw[ea]at hz;cases hz;exact q
 dsimp only
 by_cases cl:l>0
 .rw [oq cl];have m5:=m4.moreB H.sb (k:=l) (by lia) λx hx y hy=>by
   obtain⟨j',hj',ex⟩:=vy hx;have q:=l2 j' hj';rw[sI ex,oq rfl]at q;have px:=H.hb x (bT hx |> uV);exact H.C.trans _ _ _ px pa (H.ha _ (uV hy)) (H.C.asym _ _ px pa q) (BL H.C H.ha H.sa ea y hy)
  by_cases d5:x.j+1+l=b.size
  .rw [oq (by simp[d5])]
   exact iZ (.r _ _ _ (H.h _ _ (m5.endB H.sa d5)))
  rw[oz (by simpa using d5)]
  exact Ny H hl (x:=⟨_,_,_,_,_,_,x.g⟩) ⟨m5,p1,by dsimp only;lia,by dsimp only;lia⟩ hB
 .rw [oz cl];exact Ny H hl (x:=⟨_,_,_,_,_,_,x.g⟩) ⟨m4,p1,by dsimp only;lia,by dsimp only;lia⟩ (by rw[show x.j+1=x.j+1+l by lia];exact hB)
theorem Ni(H:Lo prog w A s κ P lt a b st Q) (hl:Hl lt a b) (q:ML lt a b n x) :
  wpS (iY prog w) A E s (Xh a b x.o x.i x.j x.m x.p x.q) (Lp L6 (λx=>sg st x.g) (ML lt a b n) (ML lt a b n) Q) (sg st x.g):=by
 have p1:=q.p;have p2:=q.q;have p3:=q.r;have eb:b[x.j]?=some b[x.j]:=af p2;have pb:=H.hb _ (aY p2);refine iX (wA (iX (oV eb (iX (tw H.C (base:=x.i) (n:=a.size-x.i) (by lia) (by lia) H.ha pb H.hk (zm H.C (by lia) H.ha pb (H.sa.sublist (bL _ _))) λk k1 k2 k3=>?_)))))
 have hA:∀z,b[x.j]?=some z->∀y∈a.toList.drop (x.i+k),lt y z=false:=λz hz y hy=>by
  obtain⟨j',hj',ey⟩:=ya hy;have q:=k3 (k+j') (by lia) (by lia)
  rw[sI (by rw[←fe];exact ey),oz (by decide)]at q
  rw[eb]at hz;cases hz;exact H.C.asym _ _ pb (H.ha _ (uV hy)) (by simpa using q)
 dsimp only
 by_cases ck:k>0
 .rw [oq ck];have m3:=q.m.moreA H.sa (k:=k) (by lia) λx hx y hy=>by
   obtain⟨j',hj',ex⟩:=vy hx;have q:=k2 j' hj';rw[sI ex,oz (by decide)]at q
   exact H.C.trans _ _ _ (H.ha x (bT hx |> uV)) pb (H.hb _ (uV hy)) (by simpa using q) (BL H.C H.hb H.sb eb y hy)
  by_cases d1:x.i+k+1=a.size
  .rw [oq (by simp[d1])]
   exact iZ (.r _ _ _ (H.h _ x.m (m3.lastA H.sa H.sb λx hx=>hl _ d1 x (bw hx))))
  rw[oz (by simpa using d1)]
  by_cases d2:x.i+k=a.size
  .rw [oq (by simp[d2])]
   exact iZ (.r _ _ _ (H.h _ x.m (m3.endA H.sb d2)))
  rw[oz (by simpa using d2)]
  exact OA H hl (x:=⟨_,_,_,_,_,_,x.m⟩) ⟨m3,by dsimp only;lia,p2,by dsimp only;lia⟩ hA
 .rw [oz ck];exact OA H hl (x:=⟨_,_,_,_,_,_,x.m⟩) ⟨q.m,p1,p2,p3⟩ (by rw[show x.i=x.i+k by lia];exact hA)
theorem SY(H:Lo prog w A s κ P lt a b st Q) (hl:Hl lt a b) {m j:Nat}(q:ML lt a b (n+j) x) :
  wpS (iY prog w) A E s (Yv a b m x.o x.i x.j x.p x.q) (Lp L5 (λx=>sg st x.g) (ML lt a b (n+(j+1))) (ML lt a b (n+1)) Q) (sg st x.g):=by
 have p1:=q.p;have p2:=q.q;have p3:=q.r;have ea:a[x.i]?=some a[x.i]:=af (by lia)
 have eb:b[x.j]?=some b[x.j]:=af p2;have pa:=H.ha _ (aY (show x.i<a.size by lia))
 have pb:=H.hb _ (aY p2);refine iX (oV eb (iX (oV ea (iX (H.C.cmp pb pa H.hk ?_)))));cases e:lt b[x.j] a[x.i] with
 |true =>
  dsimp only;rw[oq rfl];refine iX (oV eb ?_);have m2:=q.m.pushB H.sb eb λz hz=>H.C.trans _ _ _ pb pa (H.ha _ (uV hz)) (H.C.asym _ _ pb pa e) (BL H.C H.ha H.sa ea z hz)
  by_cases d1:x.j+1=b.size
  .rw [oq (by simp[d1])]
   exact iZ (.r _ _ _ (H.h _ _ (m2.endB H.sa d1)))
  rw[oz (by simpa using d1)]
  have R:∀n,n<=x.i+(x.j+1)->ML lt a b n ⟨_,_,_,0,0,x.q+1,x.g⟩:=λn hn=>⟨m2,p1,by dsimp only;lia,hn⟩
  split
  .exact iZ (.d _ (R _ (by lia)))
  .exact iZ (.y _ (R _ (by lia)))
 |false =>
  dsimp only;rw[oz (by decide)]
  refine iX (oV ea ?_);have m2:=q.m.pushA H.sa ea λz hz=>H.C.trans _ _ _ pa pb (H.hb _ (uV hz)) e (BL H.C H.hb H.sb eb z hz)
  by_cases d1:x.i+1+1=a.size
  .rw [oq (by simp[d1])]
   exact iZ (.r _ _ _ (H.h _ _ (m2.lastA H.sa H.sb λx hx=>hl _ d1 x (bw hx))))
  rw[oz (by simpa using d1)]
  have R:∀n,n<=x.i+1+x.j->ML lt a b n ⟨_,_,_,0,x.p+1,0,x.g⟩:=λn hn=>⟨m2,by dsimp only;lia,p2,hn⟩
  split
  .exact iZ (.d _ (R _ (by lia)))
  .exact iZ (.y _ (R _ (by lia)))
theorem Ue(H:Lo prog w A s κ P lt a b st Q) (hl:Hl lt a b) (q:ML lt a b n x) :
  wpS (iY prog w) A E s (X5 a b x.o x.i x.j x.m) (Lp L4 (λx=>sg st x.g) (ML lt a b (n+1)) (λ_=>False) Q) (sg st x.g):=by
 refine vZ L5 (λx=>sg st x.g) (λj=>ML lt a b (n+j)) (ML lt a b (n+1)) Q ⟨x.o,x.i,x.j,0,0,0,x.g⟩ ⟨q.m,q.p,q.q,q.r⟩ (λj x q=>SY H hl q) (λy h=>⟨h.m,h.p,h.q,by have:=h.r;have:=h.p;have:=h.q;lia⟩) (λy q=>?_) λr y st' hr=>iZ (.r _ _ _ hr)
 refine iX (vQ ?_);refine vZ L6 (λx=>sg st x.g) (λ_=>ML lt a b (n+1)) (ML lt a b (n+1)) Q ⟨y.o,y.i,y.j,x.m+1,y.p,y.q,y.g⟩ ⟨q.m,q.p,q.q,q.r⟩ (λj z q=>?_) (λ_ h=>h) (λz q=>?_) λr y st' hr=>iZ (.r _ _ _ hr)
 .dsimp only;split
  .exact Ni H hl (x:=⟨_,_,_,z.m-1,_,_,z.g⟩) ⟨q.m,q.p,q.q,q.r⟩
  .exact Ni H hl q
 .refine iX (wA (iZ ?_));exact Lp.y (t:=L4) (v:=λx=>sg st x.g) ⟨_,_,_,z.m+1,0,0,z.m+1⟩ ⟨q.m,q.p,q.q,q.r⟩
theorem GP(C:xq prog w A s κ P lt) (ha:∀x,x∈a->P x) (hb:∀x,x∈b->P x) (hk:kindOf st=κ) (sa:wY lt a.toList) (sb:wY lt b.toList)
  (na:0<a.size) (nb:0<b.size) (h0:∀x,b[0]?=some x->∀y∈a.toList,lt y x=false) (hl:∀i,i+1=a.size->∀x∈b.toList,∀y∈a.toList.drop i,lt y x=false)
  (h:∀r g,OS lt a b r->Q r (sg st g)):wpS (iY prog w) A E s (Cp a b) Q st:=by
 rw[G7];refine iX (vQ ?_);have eb0:b[0]?=some b[0]:=af nb;refine iX (oV eb0 ?_);have m0:MI lt a b #[] 0 0:=⟨bg _,bg _,by simp,by simp[wY],by simp,by simp⟩
 have m1:MI lt a b #[b[0]] 0 1:=m0.pushB sb eb0 λy hy=>h0 _ eb0 y (by simpa using hy)
 by_cases c1:1=b.size
 .rw [oq (by simp[←c1])]
  exact iZ (h _ (kg st) (m1.endB sa c1))
 rw[oz (by simpa using c1)]
 by_cases c2:0+1=a.size
 .rw [oq (by simp[←c2])]
  exact iZ (h _ (kg st) (m1.lastA sa sb λx hx=>hl 0 c2 x (bw hx)))
 rw[oz (by simpa using c2)]
 refine iX (jS ?_);exact vZ L4 (λx=>sg st x.g) (λi=>ML lt a b (i+1)) (λ_=>False) Q ⟨_,0,1,_,0,0,kg st⟩ ⟨m1,by dsimp only;lia,by dsimp only;lia,by dsimp only;lia⟩ (λi x q=>Ue ⟨C,ha,hb,hk,sa,sb,h⟩ hl q) (λx h=>by have:=h.p;have:=h.q;have:=h.r;lia) (λx h=>h.elim) λr y st' hr=>iZ hr
end
structure MH (lt:iW->iW->Bool) (a b out:Array iW) (na nb:Nat):Prop where
 la:na<=a.size
 lb:nb<=b.size
 pm:((a.toList.take na++b.toList.take nb)++out.toList.reverse).Perm (a.toList++b.toList)
 so:wY lt out.toList.reverse
 ua:∀x∈a.toList.take na,∀y∈out.toList,lt y x=false
 ub:∀x∈b.toList.take nb,∀y∈out.toList,lt y x=false
section
variable {lt:iW->iW->Bool}{a b out out':Array iW}{na nb k:Nat}
theorem MH.congr(m:MH lt a b out na nb) (e:out'.toList=out.toList):MH lt a b out' na nb:=⟨m.la,m.lb,by rw[e];exact m.pm,by rw[e];exact m.so,by rw[e];exact m.ua,by rw[e];exact m.ub⟩
theorem zz(l:List iW) (k n:Nat) (h:k<=n):l.take n=l.take k++(l.take n).drop k:=by
 have e:(l.take n).take k=l.take k:=by rw[List.take_take,dm h]
 rw[←e,aX]
theorem qz(a:Array iW) (k n:Nat):(a.extract k n).toList=(a.toList.take n).drop k:=by
 rw[fD,dW,List.drop_take]
theorem zt(a:Array iW) (n:Nat):(a.extract 0 n).toList=a.toList.take n:=by
 rw[qz,eK]
theorem MH.moreA(m:MH lt a b out na nb) (sa:wY lt a.toList) (hk:k<=na) (h:∀x∈b.toList.take nb,∀y∈(a.toList.take na).drop k,lt y x=false):MH lt a b (out++(a.extract k na).reverse) k nb:=by
 have e:(out++(a.extract k na).reverse).toList=out.toList++((a.toList.take na).drop k).reverse:=by rw[aN,cf,qz]
 have er:(out++(a.extract k na).reverse).toList.reverse=(a.toList.take na).drop k++out.toList.reverse:=by rw[e,cT,fE]
 have c:=zz a.toList k na hk;have sd:wY lt (a.toList.take na):=sa.sublist (bE _ _);have sd2:=sd;rw[c]at sd2;obtain⟨q1,q2,q3⟩:=aJ.mp sd2;have sub:∀y,y∈(a.toList.take na).drop k->y∈a.toList.take na:=λy hy=>bw hy
 refine⟨bN hk m.la,m.lb,?_,?_,?_,?_⟩
 .rw [er];refine aW.trans ?_ m.pm;rw[←ag];refine aW.append_right _ ?_
  conv=>rhs;rw[c]
  rw[ag,ag];exact aW.append_left _ bb
 .rw [er];exact aJ.mpr ⟨q2,m.so,λx hx y hy=>m.ua x (sub x hx) y (bc.mp hy)⟩
 .rw [e];intro x hx y hy;rcases mAq.mp hy with hy|hy
  .exact m.ua x (by rw[c];exact aD _ hx) y hy
  .exact q3 x hx y (bc.mp hy)
 .rw [e];intro x hx y hy;rcases mAq.mp hy with hy|hy
  .exact m.ub x hx y hy
  .exact h x hx y (bc.mp hy)
theorem MH.moreB(m:MH lt a b out na nb) (sb:wY lt b.toList) (hk:k<=nb) (h:∀x∈a.toList.take na,∀y∈(b.toList.take nb).drop k,lt y x=false):MH lt a b (out++(b.extract k nb).reverse) na k:=by
 have e:(out++(b.extract k nb).reverse).toList=out.toList++((b.toList.take nb).drop k).reverse:=by rw[aN,cf,qz]
 have er:(out++(b.extract k nb).reverse).toList.reverse=(b.toList.take nb).drop k++out.toList.reverse:=by rw[e,cT,fE]
 have c:=zz b.toList k nb hk;have sd:wY lt (b.toList.take nb):=sb.sublist (bE _ _);have sd2:=sd;rw[c]at sd2;obtain⟨q1,q2,q3⟩:=aJ.mp sd2;have sub:∀y,y∈(b.toList.take nb).drop k->y∈b.toList.take nb:=λy hy=>bw hy
 refine⟨m.la,bN hk m.lb,?_,?_,?_,?_⟩
 .rw [er];refine aW.trans ?_ m.pm;rw[←ag];refine aW.append_right _ ?_
  conv=>rhs;rw[c]
  rw[ag]
 .rw [er];exact aJ.mpr ⟨q2,m.so,λx hx y hy=>m.ub x (sub x hx) y (bc.mp hy)⟩
 .rw [e];intro x hx y hy;rcases mAq.mp hy with hy|hy
  .exact m.ua x hx y hy
  .exact h x hx y (bc.mp hy)
 .rw [e];intro x hx y hy;rcases mAq.mp hy with hy|hy
  .exact m.ub x (by rw[c];exact aD _ hx) y hy
  .exact q3 x hx y (bc.mp hy)
theorem wj{l:List iW}{i:Nat}{x:iW}(h:l[i]?=some x):(l.take (i+1)).drop i=[x]:=by
 rw[cw,h,List.drop_append];have hl:(l.take i).length=i:=by
  have:=(gSq.mp h).1;rw[lTq];lia
 rw[eV (by lia),hl,bp]
 rfl
theorem MH.pushA{x:iW}(m:MH lt a b out (na+1) nb) (sa:wY lt a.toList) (hx:a[na]?=some x) (h:∀y∈b.toList.take nb,lt x y=false):MH lt a b (out.push x) na nb:=by
 have hx':a.toList[na]?=some x:=by rw[aF];exact hx
 refine(m.moreA sa (k:=na) (bO _) λz hz y hy=>?_).congr ?_
 .rw [wj hx',mSq]at hy;rw[hy];exact h z hz
 .rw [dE,aN,cf,qz,wj hx'];rfl
theorem MH.pushB{x:iW}(m:MH lt a b out na (nb+1)) (sb:wY lt b.toList) (hx:b[nb]?=some x) (h:∀y∈a.toList.take na,lt x y=false):MH lt a b (out.push x) na nb:=by
 have hx':b.toList[nb]?=some x:=by rw[aF];exact hx
 refine(m.moreB sb (k:=nb) (bO _) λz hz y hy=>?_).congr ?_
 .rw [wj hx',mSq]at hy;rw[hy];exact h z hz
 .rw [dE,aN,cf,qz,wj hx'];rfl
theorem MH.end(m:MH lt a b out na nb) (sa:wY lt a.toList) (sb:wY lt b.toList) (e:na=0∨nb=0):OS lt a b (a.extract 0 na++b.extract 0 nb++out.reverse):=by
 have et:(a.extract 0 na++b.extract 0 nb++out.reverse).toList=(a.toList.take na++b.toList.take nb)++out.toList.reverse:=by
  rw[aN,aN,zt,zt,cf]
 refine⟨by rw[et];exact m.pm,?_⟩
 rw[et];refine aJ.mpr ⟨?_,m.so,λx hx y hy=>?_⟩
 .rcases e with rfl|rfl
  .rw [iC,bQ];exact sb.sublist (bE _ _)
  .rw [iC,aNq];exact sa.sublist (bE _ _)
 .rcases mAq.mp hx with hx|hx
  .exact m.ua x hx y (bc.mp hy)
  .exact m.ub x hx y (bc.mp hy)
theorem MH.firstB(m:MH lt a b out na nb) (sa:wY lt a.toList) (sb:wY lt b.toList) (h:∀x∈b.toList.take nb,∀y∈a.toList.take na,lt y x=false):OS lt a b (b.extract 0 nb++a.extract 0 na++out.reverse):=by
 have et:(b.extract 0 nb++a.extract 0 na++out.reverse).toList=(b.toList.take nb++a.toList.take na)++out.toList.reverse:=by
  rw[aN,aN,zt,zt,cf]
 refine⟨?_,?_⟩
 .rw [et];exact(aW.append_right _ bb).trans m.pm
 .rw [et];refine aJ.mpr ⟨aJ.mpr ⟨sb.sublist (bE _ _),sa.sublist (bE _ _),h⟩,m.so,λx hx y hy=>?_⟩
  rcases mAq.mp hx with hx|hx
  .exact m.ub x hx y (bc.mp hy)
  .exact m.ua x hx y (bc.mp hy)
end
def BY:Array iW->Array iW->StateT SortSt Sem (Array iW):=sortPriv% PySem.Builtin.mergeHi
section
variable (a b:Array iW)
abbrev dH(o:Array iW) (i j:Nat):=a.extract 0 i++b.extract 0 j++o.reverse
abbrev fH(o:Array iW) (i j:Nat):=b.extract 0 j++a.extract 0 i++o.reverse
abbrev SH(α:Type):=ForInStep (Option (Array iW)×Nat×Nat×Array iW×α)
def Wv(o:Array iW) (i j m k l:Nat):StateT SortSt Sem (SH (Nat×Nat×Nat)):=do
 let x ←jA a (i-1)
 if i-1 == 0 then pure (.done (some (dH a b (o.push x) (i-1) j),i-1,j,o.push x,m,k,l))
 else if decide (k<7) && decide (l<7) then pure (.done (none,i-1,j,o.push x,m,k,l))
 else pure (.yield (none,i-1,j,o.push x,m,k,l))
def Wy(o:Array iW) (i j m k q:Nat):StateT SortSt Sem (SH (Nat×Nat×Nat)):=do
 let x ←jA b (j-1)
 if j-1 == 1 then pure (.done (some (fH a b (o.push x) i (j-1)),i,j-1,o.push x,m,k,q))
 else do
  let y ←jA a (i-1)
  match ←vh true y b 0 (j-1) (j-1-1) with
  |some l =>
   if j-1-l>0 then
    if l == 1 then pure (.done (some (fH a b (o.push x++(b.extract l (j-1)).reverse) i l),i,l,o.push x++(b.extract l (j-1)).reverse,m,k,j-1-l))
    else if l == 0 then pure (.done (some (dH a b (o.push x++(b.extract l (j-1)).reverse) i l),i,l,o.push x++(b.extract l (j-1)).reverse,m,k,j-1-l))
    else Wv a b (o.push x++(b.extract l (j-1)).reverse) i l m k (j-1-l)
   else Wv a b (o.push x) i (j-1) m k (j-1-l)
  |_=>pure (.done (some (dH a b (o.push x) i (j-1)),i,j-1,o.push x,m,k,q))
def WJ(o:Array iW) (i j m p q:Nat):StateT SortSt Sem (SH (Nat×Nat×Nat)):=do
 qR m
 let x ←jA b (j-1)
 match ←vh false x a 0 i (i-1) with
 |some k =>
  if i-k>0 then
   if k == 0 then pure (.done (some (dH a b (o++(a.extract k i).reverse) k j),k,j,o++(a.extract k i).reverse,m,i-k,q))
   else Wy a b (o++(a.extract k i).reverse) k j m (i-k) q
  else Wy a b o i j m (i-k) q
 |_=>pure (.done (some (dH a b o i j),i,j,o,m,p,q))
def GU(m:Nat) (o:Array iW) (i j p q:Nat):StateT SortSt Sem (SH (Nat×Nat)):=do
 let y ←jA b (j-1)
 let x ←jA a (i-1)
 match ←lt' y x with
 |some c =>
  if c then do
   let z ←jA a (i-1)
   if i-1 == 0 then pure (.done (some (dH a b (o.push z) (i-1) j),i-1,j,o.push z,p+1,0))
   else if p+1 ≥ m then pure (.done (none,i-1,j,o.push z,p+1,0))
   else pure (.yield (none,i-1,j,o.push z,p+1,0))
  else do
   let z ←jA b (j-1)
   if j-1 == 1 then pure (.done (some (fH a b (o.push z) i (j-1)),i,j-1,o.push z,0,q+1))
   else if q+1 ≥ m then pure (.done (none,i,j-1,o.push z,0,q+1))
   else pure (.yield (none,i,j-1,o.push z,0,q+1))
 |_=>pure (.done (some (dH a b o i j),i,j,o,p,q))
def XY(o:Array iW) (i j m:Nat):StateT SortSt Sem (SH Nat):=do
 let r ←forIn [0:a.size+b.size] (none,i,j,o,0,0) λ_ s=>GU a b m s.2.2.2.1 s.2.1 s.2.2.1 s.2.2.2.2.1 s.2.2.2.2.2
 Break.runK.match_1 (λ_=>StateT SortSt Sem (SH Nat)) r.1 (λv=>pure (.done (some v,r.2.1,r.2.2.1,r.2.2.2.1,m))) λ_=>do
  rule "list.sort.gallop"
  let r ←forIn [0:a.size+b.size] (none,r.2.1,r.2.2.1,r.2.2.2.1,m+1,r.2.2.2.2.1,r.2.2.2.2.2) λ_ s=>if s.2.2.2.2.1>1 then WJ a b s.2.2.2.1 s.2.1 s.2.2.1 (s.2.2.2.2.1-1) s.2.2.2.2.2.1 s.2.2.2.2.2.2 else WJ a b s.2.2.2.1 s.2.1 s.2.2.1 s.2.2.2.2.1 s.2.2.2.2.2.1 s.2.2.2.2.2.2
  Break.runK.match_1 (λ_=>StateT SortSt Sem (SH Nat)) r.1 (λv=>pure (.done (some v,r.2.1,r.2.2.1,r.2.2.2.1,r.2.2.2.2.1))) λ_=>do
   qR (r.2.2.2.2.1+1)
   pure (.yield (none,r.2.1,r.2.2.1,r.2.2.2.1,r.2.2.2.2.1+1))
theorem Gp:BY a b=(do
 rule "list.sort.merge-hi"
 let x ←jA a (a.size-1)
 if a.size-1 == 0 then pure (dH a b #[x] (a.size-1) b.size)
 else if b.size == 1 then pure (fH a b #[x] (a.size-1) b.size)
 else do
  let st ←get
  let r ←forIn [0:a.size+b.size] (none,a.size-1,b.size,#[x],kg st) λ_ s=>XY a b s.2.2.2.1 s.2.1 s.2.2.1 s.2.2.2.2
  Break.runK.match_1 (λ_=>StateT SortSt Sem (Array iW)) r.1 (λv=>pure v) λ_=>jZ "internal:list.sort.merge-bound"):=rfl
end
section
variable {prog:je}{w:jf}{A:Around}{E:Value->iV->Prop}{s:iV}{κ:jz}{P:iW->Prop}{lt:iW->iW->Bool}
theorem BJ(C:xq prog w A s κ P lt) {a:Array iW}{i:Nat}{x:iW}(ha:∀x,x∈a->P x) (sa:wY lt a.toList) (hx:a[i]?=some x):∀y∈a.toList.take (i+1),lt x y=false:=by
 obtain⟨hi,e⟩:=aK.mp hx;have hx':a.toList[i]?=some x:=by rw[aF];exact hx
 have sd:wY lt (a.toList.take (i+1)):=sa.sublist (bE _ _);rw[cw,hx']at sd ⊢;intro y hy;rcases mAq.mp hy with hy|hy
 .exact (aJ.mp sd).2.2 y hy x (by simp)
 .have:y=x:=by simpa using hy
  rw[this];exact C.refl (ha _ (by rw[←e];exact aY hi))
theorem uT{a:Array iW}{i:Nat}{y:iW}(h:y∈a.toList.take i):y∈a:=by simpa using bT h
theorem xV{a:Array iW}{n:Nat}{x:iW}(h:x∈a.toList.take n):∃j,j<n/\a[0+j]?=some x:=by
 have h':x∈(a.toList.drop 0).take n:=by rw[eK];exact h
 exact vy h'
theorem uR{a:Array iW}{k n:Nat}{x:iW}(h:x∈(a.toList.take n).drop k):∃j,k<=j/\j<n/\a[0+j]?=some x:=by
 obtain⟨j,hj,e⟩:=cc.mp h;rw[aG,lTq,aw]at hj;refine⟨k+j,by lia,by lia,?_⟩
 rw[eN,fZ]at e;rw[aK];exact⟨by lia,by simpa using e⟩
structure MG (lt:iW->iW->Bool) (a b:Array iW) (n:Nat) (x:Ls):Prop where
 m:MH lt a b x.o x.i x.j
 p:0<x.i
 q:1<x.j
 r:x.i+x.j+n<=a.size+b.size
abbrev H6(x:Ls):=(x.i,x.j,x.o,x.m,x.p,x.q)
abbrev H5(x:Ls):=(x.i,x.j,x.o,x.p,x.q)
abbrev H4(x:Ls):=(x.i,x.j,x.o,x.m)
variable {a b:Array iW}{st:SortSt}{Q:Array iW->SortSt->Prop}{n:Nat}{x:Ls}{o:Array iW}{u v i j m k l g:Nat}
abbrev Hf(lt:iW->iW->Bool) (a b:Array iW):=∀x∈b.toList.take 1,∀y∈a.toList,lt y x=false
theorem Wr(H:Lo prog w A s κ P lt a b st Q) (hf:Hf lt a b) (m:MH lt a b o i 1):Q (b.extract 0 1++a.extract 0 i++o.reverse) (sg st g):=H.h _ _ (m.firstB H.sa H.sb λx hx y hy=>hf x hx y (bT hy))
theorem Mb(H:Lo prog w A s κ P lt a b st Q) (q:MG lt a b n ⟨o,u+1,j,m,k,l,g⟩) (hi:∀z,a[u]?=some z->∀y∈b.toList.take j,lt z y=false) :
  wpS (iY prog w) A E s (Wv a b o (u+1) j m k l) (Lp H6 (λx=>sg st x.g) (MG lt a b n) (MG lt a b n) Q) (sg st g):=by
 dsimp only [Wv,dX];have ea:a[u]?=some (a[u]'q.m.la):=af q.m.la;refine iX (oV ea ?_);have m6:=q.m.pushA H.sa ea (hi _ ea)
 by_cases d6:u=0
 .rw [oq (by simp[d6])]
  exact iZ (.r _ _ _ (H.h _ _ (m6.end H.sa H.sb (.inl d6))))
 rw[oz (by simpa using d6)]
 have R:MG lt a b n ⟨_,_,_,m,k,l,g⟩:=⟨m6,fV d6,q.q,by have:=q.r;dsimp only at *;lia⟩
 split
 .exact iZ (.d _ R)
 .exact iZ (.y _ R)
theorem M0(H:Lo prog w A s κ P lt a b st Q) (hf:Hf lt a b) (q:MG lt a b n ⟨o,u+1,v+1,m,k,l,g⟩) (hi:∀z,b[v]?=some z->∀y∈a.toList.take (u+1),lt z y=false) :
  wpS (iY prog w) A E s (Wy a b o (u+1) (v+1) m k l) (Lp H6 (λx=>sg st x.g) (MG lt a b n) (MG lt a b n) Q) (sg st g):=by
 dsimp only [Wy,dX];have la:u<a.size:=q.m.la;have lb:v<b.size:=q.m.lb;have p2:1<v+1:=q.q;have p3:u+1+(v+1)+n<=a.size+b.size:=q.r;have eb:b[v]?=some b[v]:=af lb;refine iX (oV eb ?_);have m4:=q.m.pushB H.sb eb (hi _ eb)
 by_cases d3:v=1
 .rw [oq (by simp[d3])]
  subst d3;exact iZ (.r _ _ _ (Wr H hf m4))
 rw[oz (by simpa using d3)]
 have ea:a[u]?=some a[u]:=af la;have pa:=H.ha _ (aY la);refine iX (oV ea (iX (tw H.C (base:=0) (n:=v) (by lia) (by lia) H.hb pa H.hk (zm H.C (by lia) H.hb pa (by rw[eK];exact H.sb)) λl l1 l2 l3=>?_)))
 have hB:∀z,a[u]?=some z->∀y∈b.toList.take l,lt z y=false:=λz hz y hy=>by
  obtain⟨j',hj',ey⟩:=xV hy;have q:=l2 j' hj';rw[sI ey,oq rfl]at q;rw[ea]at hz;cases hz;exact H.C.asym _ _ (H.hb _ (uT hy)) pa q
 dsimp only
 by_cases cl:v-l>0
 .rw [oq cl];have m5:=m4.moreB H.sb (k:=l) l1 λx hx y hy=>by
   obtain⟨j',hj1,hj',ey⟩:=uR hy;have q:=l3 j' hj1 hj';rw[sI ey,oq rfl]at q;exact H.C.trans _ _ _ (H.ha _ (uT hx)) pa (H.hb y (bw hy |> uT)) (BJ H.C H.ha H.sa ea x hx) q
  by_cases d5:l=1
  .rw [oq (by simp[d5])]
   subst d5;exact iZ (.r _ _ _ (Wr H hf m5))
  rw[oz (by simpa using d5)]
  by_cases d6:l=0
  .rw [oq (by simp[d6])]
   exact iZ (.r _ _ _ (H.h _ _ (m5.end H.sa H.sb (.inr d6))))
  rw[oz (by simpa using d6)]
  exact Mb H ⟨m5,q.p,by dsimp only;lia,by dsimp only;lia⟩ hB
 .rw [oz cl];have:l=v:=by lia
  subst this;exact Mb H ⟨m4,q.p,by dsimp only;lia,by dsimp only;lia⟩ hB
theorem LZ(H:Lo prog w A s κ P lt a b st Q) (hf:Hf lt a b) (q:MG lt a b n x) :
  wpS (iY prog w) A E s (WJ a b x.o x.i x.j x.m x.p x.q) (Lp H6 (λx=>sg st x.g) (MG lt a b n) (MG lt a b n) Q) (sg st x.g):=by
 obtain⟨o,i,j,m,p,q',g⟩:=x;have la:i<=a.size:=q.m.la;have p1:0<i:=q.p;have p2:1<j:=q.q;have p3:i+j+n<=a.size+b.size:=q.r;obtain⟨v,rfl⟩:∃v,j=v+1:=⟨j-1,by lia⟩
 have lb:v<b.size:=q.m.lb;dsimp only [WJ,dX];have eb:b[v]?=some b[v]:=af lb;have pb:=H.hb _ (aY lb);refine iX (wA (iX (oV eb (iX (tw H.C (base:=0) (n:=i) (by lia) (by lia) H.ha pb H.hk (zm H.C (by lia) H.ha pb (by rw[eK];exact H.sa)) λk k1 k2 k3=>?_)))))
 have hA:∀z,b[v]?=some z->∀y∈a.toList.take k,lt z y=false:=λz hz y hy=>by
  obtain⟨j',hj',ey⟩:=xV hy;have q:=k2 j' hj';rw[sI ey,oz (by decide)]at q
  rw[eb]at hz;cases hz;simpa using q
 dsimp only
 by_cases ck:i-k>0
 .rw [oq ck];have m3:=q.m.moreA H.sa (k:=k) k1 λx hx y hy=>by
   obtain⟨j',hj1,hj',ey⟩:=uR hy;have q:=k3 j' hj1 hj';rw[sI ey,oz (by decide)]at q
   have py:=H.ha y (bw hy |> uT);exact H.C.trans _ _ _ (H.hb _ (uT hx)) pb py (BJ H.C H.hb H.sb eb x hx) (H.C.asym _ _ pb py (by simpa using q))
  by_cases d2:k=0
  .rw [oq (by simp[d2])]
   exact iZ (.r _ _ _ (H.h _ m (m3.end H.sa H.sb (.inl d2))))
  rw[oz (by simpa using d2)]
  obtain⟨u,rfl⟩:∃u,k=u+1:=⟨k-1,by lia⟩
  exact M0 H hf (g:=m) ⟨m3,Nat.succ_pos _,p2,by dsimp only;lia⟩ hA
 .rw [oz ck];have:k=i:=by lia
  subst this;obtain⟨u,rfl⟩:∃u,k=u+1:=⟨k-1,by lia⟩
  exact M0 H hf (g:=m) ⟨q.m,p1,p2,p3⟩ hA
theorem R8(H:Lo prog w A s κ P lt a b st Q) (hf:Hf lt a b) (q:MG lt a b (n+j) x) :
  wpS (iY prog w) A E s (GU a b m x.o x.i x.j x.p x.q) (Lp H5 (λx=>sg st x.g) (MG lt a b (n+(j+1))) (MG lt a b (n+1)) Q) (sg st x.g):=by
 obtain⟨o,i,k,m',p,q',g⟩:=x;have p1:0<i:=q.p;have p2:1<k:=q.q;have p3:i+k+(n+j)<=a.size+b.size:=q.r;obtain⟨u,rfl⟩:∃u,i=u+1:=⟨i-1,by lia⟩
 obtain⟨v,rfl⟩:∃v,k=v+1:=⟨k-1,by lia⟩
 have la:u<a.size:=q.m.la;have lb:v<b.size:=q.m.lb;dsimp only [GU,dX];have ea:a[u]?=some a[u]:=af la;have eb:b[v]?=some b[v]:=af lb;have pa:=H.ha _ (aY la);have pb:=H.hb _ (aY lb);refine iX (oV eb (iX (oV ea (iX (H.C.cmp pb pa H.hk ?_)))));cases e:lt b[v] a[u] with
 |true =>
  dsimp only;rw[oq rfl];refine iX (oV ea ?_);have m2:=q.m.pushA H.sa ea λy hy=>H.C.trans _ _ _ (H.hb _ (uT hy)) pb pa (BJ H.C H.hb H.sb eb y hy) (H.C.asym _ _ pb pa e)
  by_cases d1:u=0
  .rw [oq (by simp[d1])]
   exact iZ (.r _ _ _ (H.h _ _ (m2.end H.sa H.sb (.inl d1))))
  rw[oz (by simpa using d1)]
  have R:∀n,u+(v+1)+n<=a.size+b.size->MG lt a b n ⟨_,_,_,0,p+1,0,g⟩:=λn hn=>⟨m2,fV d1,p2,hn⟩
  split
  .exact iZ (.d _ (R _ (by lia)))
  .exact iZ (.y _ (R _ (by lia)))
 |false =>
  dsimp only;rw[oz (by decide)]
  refine iX (oV eb ?_);have m2:=q.m.pushB H.sb eb λy hy=>H.C.trans _ _ _ (H.ha _ (uT hy)) pa pb (BJ H.C H.ha H.sa ea y hy) e
  by_cases d1:v=1
  .rw [oq (by simp[d1])]
   subst d1;exact iZ (.r _ _ _ (Wr H hf m2))
  rw[oz (by simpa using d1)]
  have R:∀n,u+1+v+n<=a.size+b.size->MG lt a b n ⟨_,_,_,0,0,q'+1,g⟩:=λn hn=>⟨m2,p1,by dsimp only;lia,hn⟩
  split
  .exact iZ (.d _ (R _ (by lia)))
  .exact iZ (.y _ (R _ (by lia)))
theorem Sn(H:Lo prog w A s κ P lt a b st Q) (hf:Hf lt a b) (q:MG lt a b n x) :
  wpS (iY prog w) A E s (XY a b x.o x.i x.j x.m) (Lp H4 (λx=>sg st x.g) (MG lt a b (n+1)) (λ_=>False) Q) (sg st x.g):=by
 refine vZ H5 (λx=>sg st x.g) (λj=>MG lt a b (n+j)) (MG lt a b (n+1)) Q ⟨x.o,x.i,x.j,0,0,0,x.g⟩ ⟨q.m,q.p,q.q,q.r⟩ (λj x q=>R8 H hf q) (λy h=>⟨h.m,h.p,h.q,by have:=h.r;have:=h.p;have:=h.q;lia⟩) (λy q=>?_) λr y st' hr=>iZ (.r _ _ _ hr)
 refine iX (vQ ?_);refine vZ H6 (λx=>sg st x.g) (λ_=>MG lt a b (n+1)) (MG lt a b (n+1)) Q ⟨y.o,y.i,y.j,x.m+1,y.p,y.q,y.g⟩ ⟨q.m,q.p,q.q,q.r⟩ (λj z q=>?_) (λ_ h=>h) (λz q=>?_) λr y st' hr=>iZ (.r _ _ _ hr)
 .dsimp only;split
  .exact LZ H hf (x:=⟨_,_,_,z.m-1,_,_,z.g⟩) ⟨q.m,q.p,q.q,q.r⟩
  .exact LZ H hf q
 .refine iX (wA (iZ ?_));exact Lp.y (t:=H4) (v:=λx=>sg st x.g) ⟨_,_,_,z.m+1,0,0,z.m+1⟩ ⟨q.m,q.p,q.q,q.r⟩
theorem FW(C:xq prog w A s κ P lt) (ha:∀x,x∈a->P x) (hb:∀x,x∈b->P x) (hk:kindOf st=κ) (sa:wY lt a.toList) (sb:wY lt b.toList)
  (na0:0<a.size) (nb0:0<b.size) (h0:∀x∈b.toList.take 1,∀y∈a.toList,lt y x=false) (hl:∀x,a[a.size-1]?=some x->∀y∈b.toList,lt x y=false)
  (h:∀r g,OS lt a b r->Q r (sg st g)):wpS (iY prog w) A E s (BY a b) Q st:=by
 have H:Lo prog w A s κ P lt a b st Q:=⟨C,ha,hb,hk,sa,sb,h⟩;rw[Gp];refine iX (vQ ?_);have ea0:a[a.size-1]?=some (a[a.size-1]'(by lia)):=af (by lia)
 refine iX (oV ea0 ?_);have m0:MH lt a b #[] (a.size-1+1) b.size:=⟨by lia,ae _,by
  rw[show a.size-1+1=a.toList.length by simp;lia,bC,←aw,bC];simp,by simp[wY],by simp,by simp⟩
 have m1:MH lt a b #[a[a.size-1]'(by lia)] (a.size-1) b.size:=m0.pushA sa ea0 λy hy=>hl _ ea0 y (bT hy)
 by_cases c1:a.size-1=0
 .rw [oq (by simp[c1])]
  exact iZ (h _ (kg st) (m1.end sa sb (.inl c1)))
 rw[oz (by simpa using c1)]
 by_cases c2:b.size=1
 .rw [oq (by simp[c2])]
  have m1':=m1;rw[c2]at m1' ⊢;exact iZ (Wr H h0 (g:=kg st) m1')
 rw[oz (by simpa using c2)]
 refine iX (jS ?_);exact vZ H4 (λx=>sg st x.g) (λi=>MG lt a b (i+1)) (λ_=>False) Q ⟨_,a.size-1,b.size,_,0,0,kg st⟩ ⟨m1,fV c1,show 1<b.size by lia,show a.size-1+b.size+1<=a.size+b.size by lia⟩ (λi x q=>Sn H h0 q) (λx h=>by have:=h.p;have:=h.q;have:=h.r;lia) (λx h=>h.elim) λr y st' hr=>iZ hr
end
def yX(lt:iW->iW->Bool) (xs:Array iW) (i j:Nat):Prop:=∀p q x y,i<=p->p<=q->q<j->xs[p]?=some x->xs[q]?=some y->lt y x=false
def OU(lt:iW->iW->Bool) (xs:Array iW) (i j:Nat):Prop:=∀p q x y,i<=p->p<=q->q<j->xs[p]?=some x->xs[q]?=some y->lt x y=false
def Vv(lt:iW->iW->Bool) (xs:Array iW) (i j:Nat):Prop:=∀p q x y,i<=p->p<j->i<=q->q<j->xs[p]?=some x->xs[q]?=some y->lt x y=false
section
variable {lt:iW->iW->Bool}{xs:Array iW}{i j lo n:Nat}
theorem IK(hj:j<=xs.size) (h:OU lt xs i j):yX lt (mirror xs i j ((j-i) / 2)) i j:=by
 intro p q x y h1 h2 h3 ex ey;rw[jT hj,oq ⟨h1,by lia⟩]at ex
 rw[jT hj,oq ⟨by lia,h3⟩]at ey
 exact h _ _ _ _ (by lia) (by lia) (by lia) ey ex
theorem yT(hj:j<=xs.size) (hi:lo<=i) (hn:j<=n) (e:Vv lt xs i j) (h:OU lt xs lo n):OU lt (mirror xs i j ((j-i) / 2)) lo n:=by
 intro p q x y h1 h2 h3 ex ey;rw[jT hj]at ex ey
 by_cases cp:i<=p/\p<j
 .rw [oq cp]at ex
  by_cases cq:i<=q/\q<j
  .rw [oq cq]at ey;exact e _ _ _ _ (by lia) (by lia) (by lia) (by lia) ex ey
  .rw [oz cq]at ey;exact h _ _ _ _ (by lia) (by lia) h3 ex ey
 .rw [oz cp]at ex
  by_cases cq:i<=q/\q<j
  .rw [oq cq]at ey;exact h _ _ _ _ h1 (by lia) (by lia) ex ey
  .rw [oz cq]at ey;exact h _ _ _ _ h1 h2 h3 ex ey
end
section
variable (lo:Nat)
def WT(n:Nat):StateT SortSt Sem (ForInStep (Option (Option Nat)×Nat)):=do
 match ←ltAt' (lo+n) (lo+n-1) with
 |some c=>if c then pure (.done (none,n)) else pure (.yield (none,n+1))
 |_=>pure (.done (some none,n))
def Yf(n q:Nat):StateT SortSt Sem (ForInStep (Option (Option Nat)×Nat×Nat)):=do
 match ←ltAt' (lo+n) (lo+n-1) with
 |some c =>
  if c then
   if q>0 then do
    let _ ←ke (lo+n-(q+1)) (lo+n)
    pure (.yield (none,n+1,0))
   else pure (.yield (none,n+1,0))
  else do
   match ←ltAt' (lo+n-1) (lo+n) with
   |some c=>if c then pure (.done (none,n,q)) else pure (.yield (none,n+1,q+1))
   |_=>pure (.done (some none,n,q))
 |_=>pure (.done (some none,n,q))
def W7(nrem n:Nat):StateT SortSt Sem (Option Nat):=do
 ke lo (lo+n)
 let r ←forIn [n:nrem] (none,n) λ_ s=>WT lo s.2
 Break.runK.match_1 (λ_=>StateT SortSt Sem (Option Nat)) r.1 (λv=>pure v) λ_=>pure (some r.2)
def XJ(nrem n:Nat):StateT SortSt Sem (Option Nat):=do
 rule "list.sort.descending-run"
 let r ←forIn [n+1:nrem] (none,n+1,0) λ_ s=>Yf lo s.2.1 s.2.2
 Break.runK.match_1 (λ_=>StateT SortSt Sem (Option Nat)) r.1 (λv=>pure v) λ_ =>
  if r.2.2>0 then do
   let _ ←ke (lo+r.2.1-(r.2.2+1)) (lo+r.2.1)
   W7 lo nrem r.2.1
  else W7 lo nrem r.2.1
theorem Vg(nrem:Nat):countRun' lo nrem=(do
 let r ←forIn [1:nrem] (none,1) λ_ s=>WT lo s.2
 Break.runK.match_1 (λ_=>StateT SortSt Sem (Option Nat)) r.1 (λv=>pure v) λ_ =>
  if r.2 == nrem then pure (some r.2)
  else if r.2>1 then do
   match ←ltAt' lo (lo+r.2-1) with
   |some c =>
    if c then pure (some r.2)
    else do
     let _ ←ke lo (lo+r.2)
     XJ lo nrem r.2
   |_=>pure none
  else XJ lo nrem r.2):=countRun'_eq lo nrem
end
section
variable {prog:je}{w:jf}{A:Around}{E:Value->iV->Prop}{s:iV}{κ:jz}{P:iW->Prop}{lt:iW->iW->Bool}
theorem O1(C:xq prog w A s κ P lt) {xs:Array iW}(hp:∀x,x∈xs->P x) (lo:Nat):yX lt xs lo (lo+1):=by
 intro p q x y h1 h2 h3 ex ey;have e:p=q:=by lia
 subst e;rw[ex]at ey;cases ey;exact C.refl (hp _ (aQq ex))
theorem Nv(C:xq prog w A s κ P lt) {xs:Array iW}(hp:∀x,x∈xs->P x) {lo n:Nat}(h:yX lt xs lo (lo+(n+1))) (hx:∀x y,xs[lo+(n+1)]?=some x->xs[lo+n]?=some y->lt x y=false) (hz:lo+(n+1)<xs.size):yX lt xs lo (lo+(n+2)):=by
 intro p q x y h1 h2 h3 ex ey
 by_cases c:q<lo+(n+1)
 .exact h p q x y h1 h2 c ex ey
 .have eq:q=lo+(n+1):=by lia
  subst eq
  by_cases c2:p=lo+(n+1)
  .subst c2;rw[ex]at ey;cases ey;exact C.refl (hp _ (aQq ex))
  .have em:xs[lo+n]?=some (xs[lo+n]'(by lia)):=af (by lia)
   exact C.trans _ _ _ (hp _ (aQq ex)) (hp _ (aQq em)) (hp _ (aQq ey)) (h p (lo+n) _ _ h1 (by lia) (by lia) ex em) (hx _ _ ey em)
theorem Gw(C:xq prog w A s κ P lt) {xs:Array iW}(hp:∀x,x∈xs->P x) {lo n:Nat}(h:OU lt xs lo (lo+(n+1))) (hx:∀x y,xs[lo+(n+1)]?=some x->xs[lo+n]?=some y->lt y x=false) (hz:lo+(n+1)<xs.size):OU lt xs lo (lo+(n+2)):=by
 intro p q x y h1 h2 h3 ex ey
 by_cases c:q<lo+(n+1)
 .exact h p q x y h1 h2 c ex ey
 .have eq:q=lo+(n+1):=by lia
  subst eq
  by_cases c2:p=lo+(n+1)
  .subst c2;rw[ex]at ey;cases ey;exact C.refl (hp _ (aQq ex))
  .have em:xs[lo+n]?=some (xs[lo+n]'(by lia)):=af (by lia)
   exact C.trans _ _ _ (hp _ (aQq ey)) (hp _ (aQq em)) (hp _ (aQq ex)) (hx _ _ ey em) (h p (lo+n) _ _ h1 (by lia) (by lia) ex em)
theorem Gk(C:xq prog w A s κ P lt) {lo nrem a:Nat}{st:SortSt}(hp:∀x,x∈jg st->P x) (hk:kindOf st=κ) (ha:1<=a) (han:a<=nrem) (hz:lo+nrem<=(jg st).size) (hs:yX lt (jg st) lo (lo+a)) :
  wpS (iY prog w) A E s (forIn [a:nrem] ((none,a):Option (Option Nat)×Nat) λ_ s=>WT lo s.2)
   (λc st'=>∃n,c=(none,n)/\st'=st/\a<=n/\n<=nrem/\yX lt (jg st) lo (lo+n)/\(n=nrem∨∃x y,(jg st)[lo+n]?=some x/\(jg st)[lo+n-1]?=some y/\lt x y=true)) st:=by
 refine jw (I:=λi c st'=>c=(none,i)/\st'=st/\a<=i/\i<=nrem/\yX lt (jg st) lo (lo+i)) ?step ?fin ⟨rfl,rfl,ae _,han,hs⟩
 case step =>
  rintro i c st' h1 h2 ⟨rfl,rfl,h3,h4,h5⟩;obtain⟨k,rfl⟩:∃k,i=k+1:=⟨i-1,by lia⟩
  have ex:(jg st')[lo+(k+1)]?=some ((jg st')[lo+(k+1)]'(by lia)):=af (by lia)
  have ey:(jg st')[lo+(k+1)-1]?=some ((jg st')[lo+k]'(by lia)):=af (by lia)
  refine iX (C.at ex ey (hp _ (aQq ex)) (hp _ (aQq ey)) hk ?_);cases e:lt ((jg st')[lo+(k+1)]'(by lia)) ((jg st')[lo+k]'(by lia)) with
  |true=>exact iZ ⟨_,rfl,rfl,h3,h4,h5,.inr ⟨_,_,ex,ey,e⟩⟩
  |false =>
   refine iZ ⟨rfl,rfl,by lia,h2,Nv C hp h5 (λx y hx hy=>?_) (by lia)⟩
   have hy':(jg st')[lo+(k+1)-1]?=some y:=hy;rw[ex]at hx;rw[ey]at hy';cases hx;cases hy';exact e
 case fin =>
  rintro c st' ⟨rfl,rfl,h3,h4,h5⟩;have e:max a nrem=nrem:=ig han;rw[e]at h3 h4 h5 ⊢;exact⟨nrem,rfl,rfl,h3,ae _,h5,.inl rfl⟩
theorem Bw{i j:Nat}{st:SortSt}{Q:Unit->SortSt->Prop}(h:Q () (jx st (mirror (jg st) i j ((j-i) / 2)))):wpS (iY prog w) A E s (ke i j) Q st:=by
 rw[reverseSlice'_eq];exact jP h
structure xi (xs ys:Array iW) (lo hi:Nat):Prop where
 pm:ys.Perm xs
 out:∀k,(k<lo∨hi<=k)->ys[k]?=xs[k]?
theorem xi.refl(xs:Array iW) (lo hi:Nat):xi xs xs lo hi:=⟨iA.refl _,λ_ _=>rfl⟩
theorem xi.trans{xs ys zs:Array iW}{lo hi:Nat}(a:xi xs ys lo hi) (b:xi ys zs lo hi):xi xs zs lo hi:=⟨b.pm.trans a.pm,λk h=>(b.out k h).trans (a.out k h)⟩
theorem xi.mono{xs ys:Array iW}{lo hi hi':Nat}(a:xi xs ys lo hi) (h:hi<=hi'):xi xs ys lo hi':=⟨a.pm,λk q=>a.out k (by lia)⟩
theorem xi.size{xs ys:Array iW}{lo hi:Nat}(a:xi xs ys lo hi):ys.size=xs.size:=a.pm.size_eq
theorem xi.mem{xs ys:Array iW}{lo hi:Nat}(a:xi xs ys lo hi) {P:iW->Prop}(h:∀x,x∈xs->P x):∀x,x∈ys->P x:=λx hx=>h x (a.pm.mem_iff.mp hx)
theorem wH{xs:Array iW}{lo hi i j:Nat}(hj:j<=xs.size) (h1:lo<=i) (h2:j<=hi):xi xs (mirror xs i j ((j-i) / 2)) lo hi :=
 ⟨mirror_perm _ _ _ _,λk hk=>by rw[jT hj,oz (by lia)]⟩
structure CR (lt:iW->iW->Bool) (as:Array iW) (lo i q:Nat) (ys:Array iW):Prop where
 b:xi as ys lo (lo+i)
 d:OU lt ys lo (lo+i)
 e:Vv lt ys (lo+i-(q+1)) (lo+i)
 p:q+1<=i
theorem BN(C:xq prog w A s κ P lt) {ys:Array iW}(hp:∀x,x∈ys->P x) {i j:Nat}(h:j<=i+1):Vv lt ys i j:=by
 intro p q x y g1 g2 g3 g4 gx gy;have e:p=q:=by lia
 subst e;rw[gx]at gy;cases gy;exact C.refl (hp _ (aQq gx))
theorem Sm(C:xq prog w A s κ P lt) {lo nrem k neq:Nat}{st:SortSt}{ys:Array iW}(hp:∀x,x∈jg st->P x) (hk:kindOf st=κ) (hz:lo+nrem<=(jg st).size) (hi:k+1<nrem) (g:CR lt (jg st) lo (k+1) neq ys) :
  wpS (iY prog w) A E s (Yf lo (k+1) neq) (λr Hb=>∃m q zs,Hb=jx st zs/\m<=nrem/\CR lt (jg st) lo m q zs/\(r = .done (none,m,q)∨r = .yield (none,m,q)/\m=k+1+1)) (jx st ys):=by
 have g1:=g.b;have g2:=g.d;have g3:=g.e;have g4:=g.p;have hpy:=g1.mem hp;have hsz:=g1.size;have ex:ys[lo+(k+1)]?=some (ys[lo+(k+1)]'(by lia)):=af (by lia)
 have ey:ys[lo+(k+1)-1]?=some (ys[lo+k]'(by lia)):=af (by lia)
 have px:=hpy _ (aQq ex);have py:=hpy _ (aQq ey);have des:lt (ys[lo+k]'(by lia)) (ys[lo+(k+1)]'(by lia))=false->OU lt ys lo (lo+(k+1+1)):=λe=>Gw C hpy g2 (λx y hx hy=>by
  have hy':ys[lo+(k+1)-1]?=some y:=hy;rw[ex]at hx;rw[ey]at hy';cases hx;cases hy';exact e) (by lia)
 refine iX (C.at (st:=jx st ys) ex ey px py hk ?_);cases e:lt (ys[lo+(k+1)]'(by lia)) (ys[lo+k]'(by lia)) with
 |true =>
  have g2':=des (C.asym _ _ px py e);dsimp only;rw[oq rfl]
  by_cases cn:neq>0
  .rw [oq cn];refine iX (Bw (iZ ?_));have bt:xi (jg st) (mirror ys (lo+(k+1)-(neq+1)) (lo+(k+1)) ((lo+(k+1)-(lo+(k+1)-(neq+1))) / 2)) lo (lo+(k+1)):=g1.trans (wH (by lia) (by lia) (ae _))
   exact⟨_,0,_,rfl,hi,⟨bt.mono (by lia),yT (by lia) (by lia) (by lia) g3 g2',BN C (bt.mem hp) (by lia),by lia⟩,.inr ⟨rfl,rfl⟩⟩
  .rw [oz cn];exact iZ ⟨_,0,ys,rfl,hi,⟨g1.mono (by lia),g2',BN C hpy (by lia),by lia⟩,.inr ⟨rfl,rfl⟩⟩
 |false =>
  dsimp only;rw[oz (by decide)]
  refine iX (C.at (st:=jx st ys) ey ex py px hk ?_);cases e':lt (ys[lo+k]'(by lia)) (ys[lo+(k+1)]'(by lia)) with
  |true=>exact iZ ⟨_,neq,ys,rfl,cJ hi,g,.inl rfl⟩
  |false =>
   refine iZ ⟨_,neq+1,ys,rfl,hi,⟨g1.mono (by lia),des e',?_,by lia⟩,.inr ⟨rfl,rfl⟩⟩
   intro p q x y h1 h2 h3 h4 gx gy;have qx:=hpy _ (aQq gx);have qy:=hpy _ (aQq gy)
   by_cases cp:p=lo+(k+1)
   .subst cp;rw[ex]at gx;cases gx
    by_cases cq:q=lo+(k+1)
    .subst cq;rw[ex]at gy;cases gy;exact C.refl px
    .exact C.trans _ _ _ qy py px (g3 (lo+(k+1)-1) q _ _ (by lia) (by lia) (by lia) (by lia) ey gy) e
   .by_cases cq:q=lo+(k+1)
    .subst cq;rw[ex]at gy;cases gy;exact C.trans _ _ _ px py qx e' (g3 p (lo+(k+1)-1) _ _ (by lia) (by lia) (by lia) (by lia) gx ey)
    .exact g3 p q x y (by lia) (by lia) (by lia) (by lia) gx gy
abbrev UK(lt:iW->iW->Bool) (st:SortSt) (lo nrem:Nat) (Q:Option Nat->SortSt->Prop):=∀n xs,1<=n->n<=nrem->xi (jg st) xs lo (lo+n)->yX lt xs lo (lo+n)->Q (some n) (jx st xs)
theorem NI(C:xq prog w A s κ P lt) {lo nrem m:Nat}{st:SortSt}{ys:Array iW}{Q:Option Nat->SortSt->Prop}(hp:∀x,x∈jg st->P x) (hk:kindOf st=κ) (hz:lo+nrem<=(jg st).size) (h:UK lt st lo nrem Q)
  (h1:1<=m) (h2:m<=nrem) (b:xi (jg st) ys lo (lo+m)) (d:OU lt ys lo (lo+m)):wpS (iY prog w) A E s (W7 lo nrem m) Q (jx st ys):=by
 refine iX (Bw ?_);have hsz:=b.size;have f1:=IK (by lia) d
 have f2:=b.trans (wH (i:=lo) (j:=lo+m) (by lia) (ae _) (ae _))
 refine iX (jy (Gk (st:=jx st _) C (f2.mem hp) hk h1 h2 (bN hz (fL f2.size.symm)) f1) ?_);rintro c Hb ⟨n',rfl,rfl,n1',n2',s1',_⟩;exact iZ (h n' _ (by lia) n2' (f2.mono (by lia)) s1')
theorem Ow(C:xq prog w A s κ P lt) {lo nrem n:Nat}{st:SortSt}{xs:Array iW}{Q:Option Nat->SortSt->Prop}(hp:∀x,x∈jg st->P x) (hk:kindOf st=κ) (hz:lo+nrem<=(jg st).size) (h:UK lt st lo nrem Q)
  (hn:n<nrem) (b:xi (jg st) xs lo (lo+n)) (d:OU lt xs lo (lo+(n+1))):wpS (iY prog w) A E s (XJ lo nrem n) Q (jx st xs):=by
 refine iX (vQ (iX (jy (jw
  (I:=λi c Hb=>∃q ys,c=(none,i,q)/\Hb=jx st ys/\i<=nrem/\CR lt (jg st) lo i q ys)
  (Q:=λc Hb=>∃m q ys,c=(none,m,q)/\Hb=jx st ys/\m<=nrem/\CR lt (jg st) lo m q ys)
  ?_ ?_ ⟨0,xs,rfl,rfl,hn,b.mono (by lia),d,BN C (b.mem hp) (by lia),by lia⟩) ?_)))
 .rintro i c Hb _ hi ⟨q,ys,rfl,rfl,_,g⟩;obtain⟨k,rfl⟩:∃k,i=k+1:=⟨i-1,by have:=g.p;lia⟩
  refine jy (Sm C hp hk hz hi g) λr Hb hr=>?_
  obtain⟨m,q,zs,rfl,hm,g',rfl|⟨rfl,rfl⟩⟩:=hr
  .exact ⟨m,q,zs,rfl,rfl,hm,g'⟩
  .exact ⟨q,zs,rfl,rfl,hm,g'⟩
 .rintro c Hb ⟨q,ys,rfl,rfl,hm,g⟩;exact⟨_,q,ys,rfl,rfl,hm,g⟩
 .rintro c Hb ⟨m,q,ys,rfl,rfl,hm,g⟩;have hsz:=g.b.size;have gp:=g.p;dsimp only
  by_cases cn:q>0
  .rw [oq cn];exact iX (Bw (NI (st:=st) (ys:=mirror ys (lo+m-(q+1)) (lo+m) ((lo+m-(lo+m-(q+1))) / 2)) C hp hk hz h (by lia) hm (g.b.trans (wH (by lia) (by lia) (ae _))) (yT (by lia) (by lia) (ae _) g.e g.d)))
  .rw [oz cn];exact NI C hp hk hz h (by lia) hm g.b g.d
theorem E9(C:xq prog w A s κ P lt) {lo nrem:Nat}{st:SortSt}{Q:Option Nat->SortSt->Prop}(hp:∀x,x∈jg st->P x) (hk:kindOf st=κ) (h1:1<=nrem) (hz:lo+nrem<=(jg st).size)
  (h:∀n xs,1<=n->n<=nrem->xi (jg st) xs lo (lo+n)->yX lt xs lo (lo+n)->Q (some n) (jx st xs)):wpS (iY prog w) A E s (countRun' lo nrem) Q st:=by
 rw[Vg];refine iX (jy (Gk C hp hk (ae 1) h1 hz (O1 C hp lo)) ?_);rintro c st' ⟨n,rfl,rfl,n1,n2,sg1,brk⟩;dsimp only;have triv:Q (some n) st':=h n (jg st') n1 n2 (xi.refl _ _ _) sg1
 by_cases c1:n=nrem
 .rw [oq (by simp[c1])]
  exact iZ triv
 rw[oz (by simpa using c1)]
 obtain⟨xb,yb,exb,eyb,eb⟩:=brk.resolve_left c1;obtain⟨m,rfl⟩:∃m,n=m+1:=⟨n-1,by lia⟩
 have pxb:=hp _ (aQq exb);have pyb:=hp _ (aQq eyb);have go:Vv lt (jg st') lo (lo+(m+1))->OU lt (jg st') lo (lo+(m+1+1)):=λe1 =>
  Gw C hp (λp q x y g1 g2 g3 ex ey=>e1 p q x y g1 (by lia) (by lia) g3 ex ey) (λx y hx hy=>by
   have hy':(jg st')[lo+(m+1)-1]?=some y:=hy;rw[exb]at hx;rw[eyb]at hy';cases hx;cases hy';exact C.asym _ _ pxb pyb eb) (by lia)
 by_cases c2:m+1>1
 .rw [oq c2];have ex:(jg st')[lo]?=some ((jg st')[lo]'(by lia)):=af (by lia)
  have pex:=hp _ (aQq ex);refine iX (C.at ex eyb pex pyb hk ?_);cases e:lt ((jg st')[lo]'(by lia)) yb with
  |true=>exact iZ triv
  |false =>
   dsimp only;rw[oz (by decide)]
   have eqv:Vv lt (jg st') lo (lo+(m+1)):=by
    intro p q x y g1 g2 g3 g4 gx gy;have px:=hp _ (aQq gx);have py:=hp _ (aQq gy);have q1:=sg1 q (lo+(m+1)-1) _ _ g3 (by lia) (by lia) gy eyb
    have q2:=sg1 lo p _ _ (ae _) g1 g2 ex gx;exact C.trans _ _ _ py pex px (C.trans _ _ _ py pyb pex q1 e) q2
   exact iX (Bw (Ow C hp hk hz h (by lia) (wH (by lia) (ae _) (ae _)) (yT (by lia) (ae _) (by lia) eqv (go eqv))))
 .rw [oz c2];exact Ow C hp hk hz h (by lia) (xi.refl _ _ _) (go (BN C hp (by lia)))
end
section
variable {prog:je}{w:jf}{A:Around}{E:Value->iV->Prop}{s:iV}{κ:jz}{P:iW->Prop}{lt:iW->iW->Bool}
theorem Qs(C:xq prog w A s κ P lt) {xs:Array iW}(hp:∀x,x∈xs->P x) {lo k l:Nat}(hz:lo+k<xs.size) (hl:l<=k) (hs:yX lt xs lo (lo+k)) {x:iW}(hx:xs[lo+k]?=some x)
  (h1:∀j y,j<l->xs[lo+j]?=some y->lt x y=false) (h2:∀j y,l<=j->j<k->xs[lo+j]?=some y->lt x y=true):yX lt (bubble xs (lo+k) (k-l)) lo (lo+(k+1)):=by
 have px:=hp _ (aQq hx);have g:∀p,(bubble xs (lo+k) (k-l))[p]?=if p=lo+l then some x else if lo+l<p/\p<=lo+k then xs[p-1]? else xs[p]?:=λp=>by
  rw[getElem?_bubble hz (k-l) (by lia) p,show lo+k-(k-l)=lo+l by lia,hx]
 intro p q u v a1 a2 a3 eu ev;rw[g]at eu ev
 by_cases cp:p=lo+l
 .rw [oq cp]at eu;cases eu
  by_cases cq:q=lo+l
  .rw [oq cq]at ev;cases ev;exact C.refl px
  .rw [oz cq,oq ⟨by lia,by lia⟩]at ev
   have pv:=hp _ (aQq ev);exact C.asym _ _ px pv (h2 (q-1-lo) v (by lia) (by lia) (by rw[show lo+(q-1-lo)=q-1 by lia];exact ev))
 .rw [oz cp]at eu
  by_cases cp2:lo+l<p/\p<=lo+k
  .rw [oq cp2]at eu;rw[oz (by lia),oq ⟨by lia,by lia⟩]at ev
   exact hs (p-1) (q-1) _ _ (by lia) (by lia) (by lia) eu ev
  .rw [oz cp2]at eu
   by_cases cq:q=lo+l
   .rw [oq cq]at ev;cases ev;exact h1 (p-lo) u (by lia) (by rw[show lo+(p-lo)=p by lia];exact eu)
   .rw [oz cq]at ev
    by_cases cq2:lo+l<q/\q<=lo+k
    .rw [oq cq2]at ev;exact hs p (q-1) _ _ a1 (by lia) (by lia) eu ev
    .rw [oz cq2]at ev;exact hs p q _ _ a1 a2 (by lia) eu ev
theorem HN{xs:Array iW}{lo k l n:Nat}(hz:lo+k<xs.size) (hl:l<=k) (hn:k<n):xi xs (bubble xs (lo+k) (k-l)) lo (lo+n) :=
 ⟨bubble_perm _ _ _,λp hp=>by rw[getElem?_bubble hz (k-l) (by lia) p,oz (by lia),oz (by lia)]⟩
theorem M5{src dst:Nat}{st:SortSt}{Q:Unit->SortSt->Prop}(h:Q () (jx st (bubble (jg st) src (src-dst)))):wpS (iY prog w) A E s (moveDown' src dst) Q st:=by
 rw[moveDown'_eq];exact jP h
theorem IQ(C:xq prog w A s κ P lt) {lo n ok:Nat}{st:SortSt}{Q:Bool->SortSt->Prop}(hp:∀x,x∈jg st->P x) (hk:kindOf st=κ) (h1:1<=ok) (h2:ok<=n) (hz:lo+n<=(jg st).size) (hs:yX lt (jg st) lo (lo+ok))
  (h:∀xs,xi (jg st) xs lo (lo+n)->yX lt xs lo (lo+n)->Q true (jx st xs)):wpS (iY prog w) A E s (binarySort' lo n ok) Q st:=by
 rw[binarySort'_eq];dsimp only;rw[Nat.max_eq_left h1];refine iX (jy (jw (I:=λk c st'=>∃ys,c=(none,())/\st'=jx st ys/\xi (jg st) ys lo (lo+n)/\yX lt ys lo (lo+k)/\k<=n)
  (Q:=λc st'=>∃ys,c=(none,())/\st'=jx st ys/\xi (jg st) ys lo (lo+n)/\yX lt ys lo (lo+n)) ?step ?fin ⟨jg st,rfl,rfl,xi.refl _ _ _,hs,h2⟩) ?post)
 case fin =>
  rintro c st' ⟨ys,rfl,rfl,b1,s1,q⟩;have e:max ok n=n:=by lia
  rw[e]at s1;exact⟨ys,rfl,rfl,b1,s1⟩
 case post =>
  rintro c st' ⟨ys,rfl,rfl,b1,s1⟩;exact iZ (h ys b1 s1)
 case step =>
  rintro k c st' hk1 hk2 ⟨ys,rfl,rfl,b1,s1,q⟩;have hpy:=b1.mem hp;have hsz:=b1.size;have ex:ys[lo+k]?=some (ys[lo+k]'(by lia)):=af (by lia)
  have px:=hpy _ (aQq ex);refine iX (jy (jw (I:=λi c st'=>∃l r,c=(none,l,r)/\st'=jx st ys/\l<=r/\r<=k/\(∀j y,j<l->ys[lo+j]?=some y->lt (ys[lo+k]'(by lia)) y=false)/\(∀j y,r<=j->j<k->ys[lo+j]?=some y->lt (ys[lo+k]'(by lia)) y=true)/\(r-l)+i<=k)
   (Q:=λc st'=>∃l r,c=(none,l,r)/\st'=jx st ys/\l=r/\r<=k/\(∀j y,j<l->ys[lo+j]?=some y->lt (ys[lo+k]'(by lia)) y=false)/\(∀j y,r<=j->j<k->ys[lo+j]?=some y->lt (ys[lo+k]'(by lia)) y=true))
   ?step1 ?fin1 ⟨0,k,rfl,rfl,bg _,ae _,λj y hj=>absurd hj (dh _),λj y g1 g2=>absurd g2 (by lia),by lia⟩) ?post1)
  case fin1 =>
   rintro c st' ⟨l,r,rfl,rfl,a1,a2,a3,a4,a5⟩;exact⟨l,r,rfl,rfl,by lia,a2,a3,a4⟩
  case step1 =>
   rintro i c st' _ hi ⟨l,r,rfl,rfl,a1,a2,a3,a4,a5⟩;dsimp only
   by_cases c1:l ≥ r
   .rw [oq c1];exact iZ ⟨l,r,rfl,rfl,by lia,a2,a3,a4⟩
   rw[oz c1];have em:ys[lo+(l+r) / 2]?=some (ys[lo+(l+r) / 2]'(by lia)):=af (by lia)
   have pm:=hpy _ (aQq em);refine iX (C.at (st:=jx st ys) ex em px pm hk ?_);cases e:lt (ys[lo+k]'(by lia)) (ys[lo+(l+r) / 2]'(by lia)) with
   |true =>
    dsimp only;rw[oq rfl];refine iZ ⟨l,_,rfl,rfl,by lia,by lia,a3,λj y g1 g2 ey=>?_,by lia⟩
    have py:=hpy _ (aQq ey);cases e':lt (ys[lo+k]'(by lia)) y with
    |true=>rfl
    |false =>
     have q1:=s1 (lo+(l+r) / 2) (lo+j) _ _ (by lia) (by lia) (by lia) em ey
     have q2:=C.trans _ _ _ pm py px q1 e';rw[e]at q2;cases q2
   |false =>
    dsimp only;rw[oz (by decide)]
    refine iZ ⟨_,r,rfl,rfl,by lia,a2,λj y g1 ey=>?_,a4,by lia⟩
    have py:=hpy _ (aQq ey);exact C.trans _ _ _ py pm px (s1 (lo+j) (lo+(l+r) / 2) _ _ (by lia) (by lia) (by lia) ey em) e
  case post1 =>
   rintro c st' ⟨l,r,rfl,rfl,rfl,a2,a3,a4⟩;dsimp only;refine iX (M5 (iZ ?_));have e:lo+k-(lo+l)=k-l:=by lia
   show ∃ys',_/\jx st (bubble ys (lo+k) (lo+k-(lo+l)))=jx st ys'/\_;rw[e];exact⟨_,rfl,rfl,b1.trans (HN (by lia) a2 hk2),Qs C hpy (by lia) a2 s1 ex a3 a4,hk2⟩
end
def rG(lt:iW->iW->Bool) (xs:Array iW):Nat->List (Nat×Nat×Nat)->Nat->Prop
 |s,[],e=>s=e
 |s,p::r,e=>p.1=s/\0<p.2.1/\yX lt xs s (s+p.2.1)/\rG lt xs (s+p.2.1) r e
theorem su{lt:iW->iW->Bool}{xs:Array iW}:∀{q r:List (Nat×Nat×Nat)}{s e:Nat},rG lt xs s (q++r) e↔∃m,rG lt xs s q m/\rG lt xs m r e
 | [],r,s,e=>by
  constructor
  .intro h;exact⟨s,rfl,h⟩
  .rintro ⟨m,rfl,h⟩;exact h
 |p::q,r,s,e=>by
  constructor
  .rintro ⟨h1,h2,h3,h4⟩;obtain⟨m,a,b⟩:=su.mp h4;exact⟨m,⟨h1,h2,h3,a⟩,b⟩
  .rintro ⟨m,⟨h1,h2,h3,a⟩,b⟩;exact⟨h1,h2,h3,su.mpr ⟨m,a,b⟩⟩
theorem yk{lt:iW->iW->Bool}{xs:Array iW}:∀{q:List (Nat×Nat×Nat)}{s e:Nat},rG lt xs s q e->s+q.length<=e
 | [],s,e,h=>by have:s=e:=h;simp[this]
 |p::q,s,e,hz=>by
  obtain⟨_,h2,_,h4⟩:=hz;have:=yk h4;rw[lCq];lia
theorem vm{lt:iW->iW->Bool}{xs ys:Array iW}:∀{q:List (Nat×Nat×Nat)}{s e:Nat},(∀k,s<=k->k<e->ys[k]?=xs[k]?)->rG lt xs s q e->rG lt ys s q e
 | [],s,e,_,h=>h
 |p::q,s,e,g,hz=>by
  obtain⟨h1,h2,h3,h4⟩:=hz;have l:=yk h4;refine⟨h1,h2,λa b x y a1 a2 a3 ex ey=>h3 a b x y a1 a2 a3 ?_ ?_,vm (λk k1 k2=>g k (by lia) k2) h4⟩
  .rw [←g a a1 (by lia)];exact ex
  .rw [←g b (by lia) (by lia)];exact ey
theorem zC{lt:iW->iW->Bool}{xs:Array iW}:∀{q q':List (Nat×Nat×Nat)}{s e:Nat},q'.map (λp=>(p.1,p.2.1))=q.map (λp=>(p.1,p.2.1))->rG lt xs s q e->rG lt xs s q' e
 | [],q',s,e,g,h=>by
  have:q'=[]:=by simpa using g
  subst this;exact h
 |p::q,[],s,e,g,h=>by simp at g
 |p::q,p'::q',s,e,g,hz=>by
  obtain⟨h1,h2,h3,h4⟩:=hz;simp only[au,gZ.injEq,Prod.mk.injEq]at g;obtain⟨⟨g1,g2⟩,g3⟩:=g;rw[←g2]at h2 h3 h4;exact⟨g1.trans h1,h2,h3,zC g3 h4⟩
theorem Dv(o:Nat):∀(M:List iW) (n:Nat) (xs:Array iW),o+n+M.length<=xs.size ->
  ((M.zipIdx n).foldl (λa x=>a.setIfInBounds (o+x.2) x.1) xs).toList=xs.toList.take (o+n)++M++xs.toList.drop (o+n+M.length)
 | [],n,xs,h=>by simp
 |y::r,n,xs,h=>by
  rw[List.zipIdx_cons,cz];rw[lCq]at h;rw[Dv o r (n+1) _ (by rw[Array.size_setIfInBounds];lia),fX]
  have hl:o+n<xs.toList.length:=by rw[aw];lia
  have e1:(xs.toList.set (o+n) y).take (o+(n+1))=xs.toList.take (o+n)++[y]:=by
   rw[←fe,cw,aC hl,List.take_set_of_le (ae _)];rfl
  have e2:(xs.toList.set (o+n) y).drop (o+(n+1)+r.length)=xs.toList.drop (o+n+(r.length+1)):=by
   rw[List.drop_set_of_lt (by lia)]
   congr 1;lia
  rw[e1,e2,lCq,ag,ag,ag];rfl
section
variable {prog:je}{w:jf}{A:Around}{E:Value->iV->Prop}{s:iV}{κ:jz}{P:iW->Prop}{lt:iW->iW->Bool}
theorem Jl(C:xq prog w A s κ P lt) {left:Bool}{key:iW}{arr:Array iW}{base n:Nat}(hb:base+n<=arr.size) (ha:∀x,x∈arr->P x) (hkey:P key) (so:yX lt arr base (base+n)) :
  ∀i j,i<=j->j<n->wW lt left key arr base j=true->wW lt left key arr base i=true:=by
 intro i j hij hj h;have ei:arr[base+i]?=some (arr[base+i]'(by lia)):=af (by lia)
 have ej:arr[base+j]?=some (arr[base+j]'(by lia)):=af (by lia)
 have pi:=ha _ (aQq ei);have pj:=ha _ (aQq ej);have le:=so (base+i) (base+j) _ _ (by lia) (by lia) (by lia) ei ej
 rw[sI ej]at h;rw[sI ei];cases left with
 |true =>
  rw[oq rfl]at h ⊢;cases q:lt (arr[base+i]'(by lia)) key with
  |true=>rfl
  |false =>
   have:=C.trans _ _ _ hkey pi pj q le;rw[h]at this;cases this
 |false =>
  rw[oz (by decide)]at h ⊢
  have h':lt key (arr[base+j]'(by lia))=false:=by simpa using h
  have:=C.trans _ _ _ pi pj hkey le h';simp[this]
theorem sj{a:Array iW}{i j:Nat}{x:iW}(h:x∈(a.extract i j).toList):∃k,i<=k/\k<j/\a[k]?=some x:=by
 rw[qz]at h;obtain⟨k,k1,k2,e⟩:=uR h;rw[bU]at e;exact⟨k,k1,k2,e⟩
theorem A9{a:Array iW}{i j:Nat}(h:yX lt a i j):wY lt (a.extract i j).toList:=by
 rw[qz];refine bM.mpr λp q hp hq hpq=>?_
 rw[aG,lTq,aw]at hp hq;have e:∀k (hk:k<((a.toList.take j).drop i).length),a[i+k]?=some ((a.toList.take j).drop i)[k]:=λk hk=>by
  rw[aG,lTq,aw]at hk;rw[eN,fZ,aK];exact⟨by lia,by simp⟩
 exact h (i+p) (i+q) _ _ (by lia) (by lia) (by lia) (e p _) (e q _)
theorem FX(i:Nat):mergeAt' i=(do
 let s ←get
 let (some (sa,na,power),some (sb,nb,_)):=((jM s)[i]?,(jM s)[i+1]?)|jZ "internal:list.sort.pending"
 set (setPending s (((jM s).setIfInBounds i (sa,na+nb,power)).eraseIdxIfInBounds (i+1)))
 let some k ←vh false (←jA (jg s) sb) (jg s) sa na 0|return false
 let (sa,na):=(sa+k,na-k)
 if na == 0 then return true
 let some nb ←vh true (←jA (jg s) (sa+na-1)) (jg s) sb nb (nb-1)|return false
 if nb == 0 then return true
 let x:=(jg s).extract sa sb
 let y:=(jg s).extract sb (sb+nb)
 let merged ←if na<=nb then Cp x y else BY x y
 modify λs=>jx s (merged.toList.zipIdx.foldl (λa (p,j)=>a.setIfInBounds (sa+j) p) (jg s))
 return (failedOf (←get)).isNone):=rfl
theorem KI{st st':SortSt}{Q:PUnit->SortSt->Prop}(h:Q ⟨⟩ st'):wpS (iY prog w) A E s (set st':StateT SortSt Sem PUnit) Q st:=by
 unfold wpS;rw[StateT.run_set];exact jj ⟨rfl,h⟩
theorem OF(C:xq prog w A s κ P lt) {xs zs M:Array iW}{sa na nb k l:Nat}(hp:∀x,x∈xs->P x) (hz:sa+na+nb<=xs.size) (hk:k<=na) (hl:l<=nb) (h1:yX lt xs sa (sa+na)) (h2:yX lt xs (sa+na) (sa+na+nb)) {key last:iW}
  (ek:xs[sa+na]?=some key) (el:xs[sa+na-1]?=some last)
  (k2:∀j y,j<k->xs[sa+j]?=some y->lt key y=false) (l3:∀j y,l<=j->j<nb->xs[sa+na+j]?=some y->lt y last=false) (hna:0<na) (hnb:0<nb)
  (m:OS lt (xs.extract (sa+k) (sa+na)) (xs.extract (sa+na) (sa+na+l)) M)
  (hzs:zs.toList=xs.toList.take (sa+k)++M.toList++xs.toList.drop (sa+k+M.toList.length)):xi xs zs sa (sa+na+nb)/\yX lt zs sa (sa+na+nb):=by
 have lM:M.toList.length=(na-k)+l:=by
  have:=m.pm.length_eq;simp only[lAq,aw,eB]at this ⊢;lia
 have hlx:xs.toList.length=xs.size:=aw;have gz:∀p,zs[p]?=if p<sa+k then xs[p]? else if p<sa+na+l then M[p-(sa+k)]? else xs[p]?:=λp=>by
  rw[←aF,hzs]
  by_cases c1:p<sa+k
  .rw [oq c1,ag,gZq (by rw[lTq];lia),bD c1,aF]
  .rw [oz c1,ag,gYq (by rw[lTq];lia),lTq,show min (sa+k) xs.toList.length=sa+k by lia]
   by_cases c2:p<sa+na+l
   .rw [oq c2,gZq (by lia),aF]
   .rw [oz c2,gYq (by lia),cH,aF]
    congr 1;lia
 have pk:=hp _ (aQq ek);have pl:=hp _ (aQq el);have from_:∀q v,M[q]?=some v->(∃j,k<=j/\j<na/\xs[sa+j]?=some v)∨∃j,j<l/\xs[sa+na+j]?=some v:=λq v e=>by
  have hv:v∈M.toList:=by simpa using aQq e
  rcases mAq.mp (m.pm.mem_iff.mp hv) with hv|hv
  .obtain ⟨j,j1,j2,ej⟩:=sj hv;exact .inl ⟨j-sa,by lia,by lia,by rw[show sa+(j-sa)=j by lia];exact ej⟩
  .obtain ⟨j,j1,j2,ej⟩:=sj hv;exact .inr ⟨j-(sa+na),by lia,by rw[show sa+na+(j-(sa+na))=j by lia];exact ej⟩
 refine⟨⟨?_,λp hp'=>?_⟩,?_⟩
 .rw [Array.perm_iff_toList_perm,hzs];have c:xs.toList=xs.toList.take (sa+k)++((xs.extract (sa+k) (sa+na)).toList++(xs.extract (sa+na) (sa+na+l)).toList)++xs.toList.drop (sa+k+M.toList.length):=by
   rw[qz,qz,lM];have a1:=zz xs.toList (sa+k) (sa+na) (by lia)
   have a2:=zz xs.toList (sa+na) (sa+na+l) (by lia)
   have a3:sa+k+(na-k+l)=sa+na+l:=by lia
   rw[a3,←ag,←a1,←a2,aX]
  conv=>rhs;rw[c]
  exact aW.append_right _ (aW.append_left _ m.pm)
 .rw [gz]
  by_cases c1:p<sa+k
  .rw [oq c1]
  .rw [oz c1,oz (by lia)]
 .intro p q x y a1 a2 a3 ex ey;rw[gz]at ex ey
  by_cases p1:p<sa+k
  .rw [oq p1]at ex;have px:=hp _ (aQq ex);have lx:lt key x=false:=k2 (p-sa) x (by lia) (by rw[show sa+(p-sa)=p by lia];exact ex)
   by_cases q1:q<sa+k
   .rw [oq q1]at ey;exact h1 p q _ _ a1 a2 (by lia) ex ey
   .rw [oz q1]at ey
    by_cases q2:q<sa+na+l
    .rw [oq q2]at ey;rcases from_ _ _ ey with ⟨j,j1,j2,ej⟩|⟨j,j1,ej⟩
     .exact h1 p (sa+j) _ _ a1 (by lia) (by lia) ex ej
     .exact C.trans _ _ _ px pk (hp _ (aQq ej)) lx (h2 (sa+na) (sa+na+j) _ _ (ae _) (by lia) (by lia) ek ej)
    .rw [oz q2]at ey;exact C.trans _ _ _ px pk (hp _ (aQq ey)) lx (h2 (sa+na) q _ _ (ae _) (by lia) (by lia) ek ey)
  .rw [oz p1]at ex;rw[oz (by lia)]at ey
   by_cases p2:p<sa+na+l
   .rw [oq p2]at ex
    by_cases q2:q<sa+na+l
    .rw [oq q2]at ey;rcases dZ a2 with c|c
     .have ex':M.toList[p-(sa+k)]?=some x:=by rw[aF];exact ex
      have ey':M.toList[q-(sa+k)]?=some y:=by rw[aF];exact ey
      obtain⟨hx,e1⟩:=gSq.mp ex';obtain⟨hy,e2⟩:=gSq.mp ey';have:=bM.mp m.so (p-(sa+k)) (q-(sa+k)) hx hy (by lia)
      rw[e1,e2]at this;exact this
     .subst c;rw[ex]at ey;cases ey;rcases from_ _ _ ex with ⟨j,j1,j2,ej⟩|⟨j,j1,ej⟩
      .exact C.refl (hp _ (aQq ej))
      .exact C.refl (hp _ (aQq ej))
    .rw [oz q2]at ey;have py:=hp _ (aQq ey);rcases from_ _ _ ex with ⟨j,j1,j2,ej⟩|⟨j,j1,ej⟩
     .exact C.trans _ _ _ (hp _ (aQq ej)) pl py (h1 (sa+j) (sa+na-1) _ _ (by lia) (by lia) (by lia) ej el) (l3 (q-(sa+na)) y (by lia) (by lia) (by rw[show sa+na+(q-(sa+na))=q by lia];exact ey))
     .exact h2 (sa+na+j) q _ _ (by lia) (by lia) (by lia) ej ey
   .rw [oz p2]at ex;rw[oz (by lia)]at ey
    exact h2 p q _ _ (by lia) a2 (by lia) ex ey
end
section
variable {prog:je}{w:jf}{A:Around}{E:Value->iV->Prop}{s:iV}{κ:jz}{P:iW->Prop}{lt:iW->iW->Bool}
theorem L8{α:Type}{l:List α}{i:Nat}{a b:α}(h1:l[i]?=some a) (h2:l[i+1]?=some b):l=l.take i++a::b::l.drop (i+2):=by
 obtain⟨h3,e3⟩:=gSq.mp h1;obtain⟨h4,e4⟩:=gSq.mp h2
 conv=>lhs;rw[←aX i l]
 rw[aB h3,aB h4,e3,e4]
theorem Kz{α:Type}{q r:List α}{a b c:α}:((q++a::b::r).set q.length c).eraseIdx (q.length+1)=q++c::r:=by
 rw[gF _ _ (ae _),bp,df,List.eraseIdx_append_of_length_le (by lia),gu]
 rfl
theorem Bc(C:xq prog w A s κ P lt) {i lo:Nat}{st:SortSt}{Q:Bool->SortSt->Prop}(hp:∀x,x∈jg st->P x) (hk:kindOf st=κ) (hf:failedOf st=none) (hlo:lo<=(jg st).size) (hch:rG lt (jg st) 0 (jM st).toList lo)
  (hi:i+1<(jM st).size) (h:∀xs p g,xi (jg st) xs 0 lo->p.size+1=(jM st).size->rG lt xs 0 p.toList lo->Q true (SortSt.mk' κ xs p g none)):wpS (iY prog w) A E s (mergeAt' i) Q st:=by
 obtain⟨κ',arr,pend,g0,fl⟩:=st;have hk:κ'=κ:=hk;have hf:fl=none:=hf;subst hk hf;have hp:∀x,x∈arr->P x:=hp;have hlo:lo<=arr.size:=hlo;have hch:rG lt arr 0 pend.toList lo:=hch;have hi:i+1<pend.size:=hi;have e1:pend[i]?=some (pend[i]'(by lia)):=af (by lia)
 have e2:pend[i+1]?=some (pend[i+1]'(by lia)):=af (by lia)
 generalize pend[i]'(by lia)=a at e1
 generalize pend[i+1]'(by lia)=b at e2
 obtain⟨sa,na,pa⟩:=a;obtain⟨sb,nb,pb⟩:=b;have e1':pend.toList[i]?=some (sa,na,pa):=by rw[aF];exact e1
 have e2':pend.toList[i+1]?=some (sb,nb,pb):=by rw[aF];exact e2
 have ep:=L8 e1' e2';have lq:(pend.toList.take i).length=i:=by rw[lTq,aw];lia
 generalize pend.toList.take i=q at ep lq;generalize pend.toList.drop (i+2)=r at ep;rw[ep]at hch;obtain⟨m0,c1,c2⟩:=su.mp hch;obtain⟨x1,x2,x3,x4,x5,x6,x7⟩:=c2;have d1:sa=m0:=x1;have d2:0<na:=x2;have d3:yX lt arr m0 (m0+na):=x3;have f1:sb=m0+na:=x4;have f2:0<nb:=x5;have f3:yX lt arr (m0+na) (m0+na+nb):=x6;have f4:rG lt arr (m0+na+nb) r lo:=x7
 clear x1 x2 x3 x4 x5 x6 x7
 subst d1 f1;have hrl:sa+na+nb+r.length<=lo:=yk f4;have hql:0+q.length<=sa:=yk c1;have hz:sa+na+nb<=arr.size:=by lia
 have np:((pend.setIfInBounds i (sa,na+nb,pa)).eraseIdxIfInBounds (i+1)).toList=q++(sa,na+nb,pa)::r:=by
  rw[Array.toList_eraseIdxIfInBounds,fX,ep,←lq];exact Kz
 have ns:((pend.setIfInBounds i (sa,na+nb,pa)).eraseIdxIfInBounds (i+1)).size+1=pend.size:=by
  rw[←aw,np,←aw,ep];simp only[lAq,lCq];lia
 have fin:∀zs g,xi arr zs sa (sa+na+nb)->yX lt zs sa (sa+na+nb)->Q true (SortSt.mk' κ' zs ((pend.setIfInBounds i (sa,na+nb,pa)).eraseIdxIfInBounds (i+1)) g none):=λzs g b1 s1=>by
  refine h zs _ g ⟨b1.pm,λk hk=>b1.out k (by lia)⟩ ns ?_
  rw[np];refine su.mpr ⟨sa,vm (λk _ k2=>b1.out k (.inl k2)) c1,rfl,by show 0<na+nb;lia,?_,?_⟩
  .show yX lt zs sa (sa+(na+nb));rw[←fe];exact s1
  .show rG lt zs (sa+(na+nb)) r lo;rw[←fe];exact vm (λk k1 _=>b1.out k (.inr k1)) f4
 rw[FX];refine iX (jS ?_);dsimp only;rw[e1,e2];dsimp only;refine iX (KI ?_);have ek:arr[sa+na]?=some (arr[sa+na]'(by lia)):=af (by lia)
 have el:arr[sa+na-1]?=some (arr[sa+na-1]'(by lia)):=af (by lia)
 have pk:=hp _ (aQq ek);have pl:=hp _ (aQq el);refine iX (oV ek ?_);refine iX (tw C d2 (by lia) hp pk rfl (Jl C (by lia) hp pk d3) λk k1 k2 k3=>?_)
 dsimp only;have kl:∀j y,j<k->arr[sa+j]?=some y->lt (arr[sa+na]'(by lia)) y=false:=λj y hj ey=>by
  have:=k2 j hj;rw[sI ey,oz (by decide)]at this
  simpa using this
 have kh:∀j y,k<=j->j<na->arr[sa+j]?=some y->lt (arr[sa+na]'(by lia)) y=true:=λj y h1 h2 ey=>by
  have:=k3 j h1 h2;rw[sI ey,oz (by decide)]at this
  simpa using this
 by_cases c1':na-k=0
 .rw [oq (by simp[c1'])]
  refine iZ (fin arr g0 (xi.refl _ _ _) λp q x y a1 a2 a3 ex ey=>?_)
  have px:=hp _ (aQq ex);have py:=hp _ (aQq ey)
  by_cases q1:q<sa+na
  .exact d3 p q _ _ a1 a2 q1 ex ey
  .by_cases p1:p<sa+na
   .exact C.trans _ _ _ px pk py (kl (p-sa) x (by lia) (by rw[show sa+(p-sa)=p by lia];exact ex)) (f3 (sa+na) q _ _ (ae _) (by lia) a3 ek ey)
   .exact f3 p q _ _ (by lia) a2 a3 ex ey
 rw[oz (by simpa using c1')]
 have ea:sa+k+(na-k)-1=sa+na-1:=by lia
 rw[ea];refine iX (oV el ?_);refine iX (tw C (by lia) (by lia) hp pl rfl (Jl C (by lia) hp pl f3) λl l1 l2 l3=>?_)
 dsimp only;have ll:∀j y,j<l->arr[sa+na+j]?=some y->lt y (arr[sa+na-1]'(by lia))=true:=λj y hj ey=>by
  have:=l2 j hj;rw[sI ey,oq rfl]at this;exact this
 have lh:∀j y,l<=j->j<nb->arr[sa+na+j]?=some y->lt y (arr[sa+na-1]'(by lia))=false:=λj y h1 h2 ey=>by
  have:=l3 j h1 h2;rw[sI ey,oq rfl]at this;exact this
 by_cases c2':l=0
 .rw [oq (by simp[c2'])]
  refine iZ (fin arr g0 (xi.refl _ _ _) λp q x y a1 a2 a3 ex ey=>?_)
  have px:=hp _ (aQq ex);have py:=hp _ (aQq ey)
  by_cases q1:q<sa+na
  .exact d3 p q _ _ a1 a2 q1 ex ey
  .by_cases p1:p<sa+na
   .exact C.trans _ _ _ px pl py (d3 p (sa+na-1) _ _ a1 (by lia) (by lia) ex el) (lh (q-(sa+na)) y (by lia) (by lia) (by rw[show sa+na+(q-(sa+na))=q by lia];exact ey))
   .exact f3 p q _ _ (by lia) a2 a3 ex ey
 rw[oz (by simpa using c2')]
 have sx:wY lt (arr.extract (sa+k) (sa+na)).toList:=A9 λp q x y a1 a2 a3 ex ey=>d3 p q x y (by lia) a2 a3 ex ey
 have sy:wY lt (arr.extract (sa+na) (sa+na+l)).toList:=A9 λp q x y a1 a2 a3 ex ey=>f3 p q x y a1 a2 (by lia) ex ey
 have hx:∀x,x∈arr.extract (sa+k) (sa+na)->P x:=λx hx=>by
  obtain⟨j,_,_,e⟩:=sj (gK.mpr hx);exact hp _ (aQq e)
 have hy:∀x,x∈arr.extract (sa+na) (sa+na+l)->P x:=λx hx=>by
  obtain⟨j,_,_,e⟩:=sj (gK.mpr hx);exact hp _ (aQq e)
 have zx:(arr.extract (sa+k) (sa+na)).size=na-k:=by rw[eB];lia
 have zy:(arr.extract (sa+na) (sa+na+l)).size=l:=by rw[eB];lia
 have g0':(arr.extract (sa+na) (sa+na+l))[0]?=some (arr[sa+na]'(by lia)):=by
  rw[gB,oq (by lia),fM]
  exact ek
 have gl':(arr.extract (sa+k) (sa+na))[na-k-1]?=some (arr[sa+na-1]'(by lia)):=by
  rw[gB,oq (by lia),show sa+k+(na-k-1)=sa+na-1 by lia]
  exact el
 have low:∀y∈(arr.extract (sa+k) (sa+na)).toList,lt y (arr[sa+na]'(by lia))=false:=λy hy=>by
  obtain⟨j,j1,j2,ej⟩:=sj hy;exact C.asym _ _ pk (hp _ (aQq ej)) (kh (j-sa) y (by lia) (by lia) (by rw[show sa+(j-sa)=j by lia];exact ej))
 have high:∀x∈(arr.extract (sa+na) (sa+na+l)).toList,lt (arr[sa+na-1]'(by lia)) x=false:=λx hx=>by
  obtain⟨j,j1,j2,ej⟩:=sj hx;exact C.asym _ _ (hp _ (aQq ej)) pl (ll (j-(sa+na)) x (by lia) (by rw[show sa+na+(j-(sa+na))=j by lia];exact ej))
 have done:∀M g,OS lt (arr.extract (sa+k) (sa+na)) (arr.extract (sa+na) (sa+na+l)) M ->
   Q true (SortSt.mk' κ' (M.toList.zipIdx.foldl (λa x=>a.setIfInBounds (sa+k+x.snd) x.fst) arr) ((pend.setIfInBounds i (sa,na+nb,pa)).eraseIdxIfInBounds (i+1)) g none):=λM g mg=>by
  have lM:M.toList.length=(na-k)+l:=by
   have:=mg.pm.length_eq;simp only[lAq,aw,eB]at this ⊢;lia
  have wb:=Dv (sa+k) M.toList 0 arr (by lia)
  obtain⟨b1,s1⟩:=OF C hp hz k1 l1 d3 f3 ek el kl lh d2 f2 mg wb;exact fin _ g b1 s1
 by_cases c3:na-k<=l
 .rw [oq c3];refine iX (GP (κ:=κ') (a:=arr.extract (sa+k) (sa+na)) (b:=arr.extract (sa+na) (sa+na+l)) C hx hy rfl sx sy (by rw[zx];lia) (by rw[zy];lia) (λx ex y hy=>?_) (λj hj x hx y hy=>?_) λM g mg=>?_)
  .rw [g0']at ex;cases ex;exact low y hy
  .have hj':j=na-k-1:=by lia
   subst hj';have:y=arr[sa+na-1]'(by lia):=by
    obtain⟨t,t1,t2⟩:=ya hy;rw[zx]at t1;have t0:t=0:=by lia
    subst t0;rw[fM,gl']at t2;exact(aT.inj t2).symm
   rw[this];exact high x hx
  .refine iX (jP ?_);refine iX (jS ?_);exact iZ (done M g mg)
 .rw [oz c3];refine iX (FW (κ:=κ') (a:=arr.extract (sa+k) (sa+na)) (b:=arr.extract (sa+na) (sa+na+l)) C hx hy rfl sx sy (by rw[zx];lia) (by rw[zy];lia) (λx hx y hy=>?_) (λx ex y hy=>?_) λM g mg=>?_)
  .have:x=arr[sa+na]'(by lia):=by
    obtain⟨t,t1,t2⟩:=xV hx;have t0:t=0:=by lia
    subst t0;rw[bU,g0']at t2;exact(aT.inj t2).symm
   rw[this];exact low y hy
  .rw [zx,gl']at ex;cases ex;exact high y hy
  .refine iX (jP ?_);refine iX (jS ?_);exact iZ (done M g mg)
end
section
variable {prog:je}{w:jf}{A:Around}{E:Value->iV->Prop}{s:iV}{κ:jz}{P:iW->Prop}{lt:iW->iW->Bool}
abbrev wX(κ:jz) (xs:Array iW) (p:Array (Nat×Nat×Nat)) (g:Nat):SortSt:=SortSt.mk' κ xs p g none
theorem Cr{xs:Array iW}{p:Array (Nat×Nat×Nat)}{lo n:Nat}(h:rG lt xs 0 p.toList lo) (hn:0<n) (hs:yX lt xs lo (lo+n)):rG lt xs 0 (p.push (lo,n,0)).toList (lo+n):=by
 rw[dE];exact su.mpr ⟨lo,h,rfl,hn,hs,rfl⟩
theorem Dn(p:Array (Nat×Nat×Nat)) (i pw:Nat):(p.modify i λx=>(x.fst,x.2.fst,pw)).toList.map (λp=>(p.1,p.2.1))=p.toList.map (λp=>(p.1,p.2.1)):=by
 apply dF;intro k;rw[gMq,gMq,aF,aF,Array.getElem?_modify];split
 .cases p[k]? <;> rfl
 .rfl
theorem Er(C:xq prog w A s κ P lt) {arr:Array iW}{g:Nat}{Q:Unit->SortSt->Prop}(hp:∀x,x∈arr->P x) (h2:2<=arr.size)
    (h:∀xs p g',xs.Perm arr->yX lt xs 0 arr.size->Q () (wX κ xs p g')):wpS (iY prog w) A E s sortRuns' Q (wX κ arr #[] g):=by
  rw[sortRuns'_eq];refine iX (jS ?_);dsimp only;have e0:jg (wX κ arr #[] g)=arr:=rfl;rw[e0];generalize minRun' arr.size arr.size 0=mr;refine iX (jy (jw
    (I:=λi c st'=>∃lo xs p g',c=(none,lo)/\st'=wX κ xs p g'/\xs.Perm arr/\lo<=arr.size/\rG lt xs 0 p.toList lo/\i<=lo)
    (Q:=λc st'=>∃xs p g',c=(none,arr.size)/\st'=wX κ xs p g'/\xs.Perm arr/\rG lt xs 0 p.toList arr.size)
    ?step ?fin ⟨0,arr,#[],g,rfl,rfl,iA.refl _,bg _,rfl,ae _⟩) ?post)
  case fin =>
    rintro c st' ⟨lo,xs,p,g',rfl,rfl,q1,q2,q3,q4⟩;have e:lo=arr.size:=by lia
    subst e;exact⟨xs,p,g',rfl,rfl,q1,q3⟩
  case step =>
    rintro i c st' _ hi ⟨lo,xs,p,g',rfl,rfl,q1,q2,q3,q4⟩;dsimp only;have hpx:∀x,x∈xs->P x:=λx hx=>hp x (q1.mem_iff.mp hx)
    have hzx:xs.size=arr.size:=q1.size_eq
    by_cases c1:lo ≥ arr.size
    . rw[oq c1]
      have e:lo=arr.size:=by lia
      subst e;exact iZ ⟨xs,p,g',rfl,rfl,q1,q3⟩
    rw[oz c1];refine iX (E9 (st:=wX κ xs p g') C hpx rfl (by lia) (by show lo+(arr.size-lo)<=xs.size;lia) λn ys n1 n2 b1 s1=>?_)
    dsimp only;have hb:xi xs ys lo (lo+n):=b1;show wpS _ _ _ _ _ _ (wX κ ys p g')
    by_cases c2:n<mr
    all_goals
      first
        | (rw[oq c2]
           refine iX (vQ ?_);refine iX (IQ (st:=wX κ ys p g') (n:=min (arr.size-lo) mr) C (hb.mem hpx) rfl n1 (by lia) (by show lo+min (arr.size-lo) mr<=ys.size;have:=hb.size;lia) s1 λzs b2 s2=>?_)
           rw[oz (by decide)]
           have hb2:xi xs zs lo (lo+min (arr.size-lo) mr):=(hb.mono (by lia)).trans b2
           have nn:1<=min (arr.size-lo) mr:=by lia
           have nl:lo+min (arr.size-lo) mr<=arr.size:=by lia
           show wpS _ _ _ _ _ _ (wX κ zs p g')
           clear b1 s1 hb b2
           generalize min (arr.size-lo) mr=nN at hb2 nn nl s2 ⊢)
        | (rw[oz c2]
           have hb2:=hb;have s2:=s1;have nn:=n1;have nl:lo+n<=arr.size:=by lia
           clear b1 s1 hb
           generalize hnN:n=nN at hb2 nn nl s2 ⊢;generalize hzs:ys=zs at hb2 s2 ⊢)
      have hpz:=hb2.mem hpx;have hzz:=hb2.size;have hcz:rG lt zs 0 p.toList lo:=vm (λk _ k2=>hb2.out k (.inl k2)) q3
      have pz:zs.Perm arr:=hb2.pm.trans q1;refine iX (jS ?_);have ep:jM (wX κ zs p g')=p:=rfl;rw[ep];cases eb:p.back? with
      |none =>
        dsimp only;refine iX (jP (iZ ?_));exact⟨lo+nN,zs,p.push (lo,nN,0),g',rfl,rfl,pz,nl,Cr hcz nn s2,by lia⟩
      |some t =>
        obtain⟨s1',n1',pw0⟩:=t;dsimp only;refine iX (jy (jw
          (I:=λi c st'=>∃ys q g2,c=(none,())/\st'=wX κ ys q g2/\xi zs ys 0 lo/\rG lt ys 0 q.toList lo)
          (Q:=λc st'=>∃ys q g2,c=(none,())/\st'=wX κ ys q g2/\xi zs ys 0 lo/\rG lt ys 0 q.toList lo)
          ?step1 (λc st' hh=>hh) ⟨zs,p,g',rfl,rfl,xi.refl _ _ _,hcz⟩) ?post1)
        case step1 =>
          rintro j c st' _ hj ⟨ys2,q,g2,rfl,rfl,b3,ch3⟩;refine iX (jS ?_);have eq:jM (wX κ ys2 q g2)=q:=rfl;rw[eq]
          by_cases d1:q.size>1
          . rw[oq d1]
            have eo:q[q.size-2]?=some (q[q.size-2]'(by lia)):=af (by lia)
            rw[eo];generalize q[q.size-2]'(by lia)=o
            obtain⟨o1,o2,older⟩:=o;dsimp only;split
            . exact iZ ⟨ys2,q,g2,rfl,rfl,b3,ch3⟩
            . refine iX (Bc (st:=wX κ ys2 q g2) C (b3.mem hpz) rfl rfl (by show lo<=ys2.size;have:=b3.size;lia) ch3 (by show q.size-2+1<q.size;lia) λxs3 p3 g3 b4 _ ch4=>?_)
              rw[oz (by decide)]
              exact iZ ⟨xs3,p3,g3,rfl,rfl,b3.trans b4,ch4⟩
          . rw[oz d1]
            exact iZ ⟨ys2,q,g2,rfl,rfl,b3,ch3⟩
        case post1 =>
          rintro c st' ⟨ys2,q,g2,rfl,rfl,b3,ch3⟩;dsimp only;refine iX (jP (iX (jP (iZ ?_))));have s3:yX lt ys2 lo (lo+nN):=λa b x y a1 a2 a3 ex ey=>s2 a b x y a1 a2 a3 (by rw[←b3.out a (.inr a1)];exact ex) (by rw[←b3.out b (.inr (by lia))];exact ey)
          exact⟨lo+nN,ys2,_,g2,rfl,rfl,b3.pm.trans pz,nl,Cr (zC (Dn q _ _) ch3) nn s3,by lia⟩
  case post =>
    rintro c st' ⟨xs,p,g',rfl,rfl,q1,q3⟩;dsimp only;refine iX (jy (jw
      (I:=λi c st'=>∃ys q g2,c=(none,())/\st'=wX κ ys q g2/\ys.Perm arr/\rG lt ys 0 q.toList arr.size/\q.size+i<=arr.size)
      (Q:=λc st'=>∃ys q g2,c=(none,())/\st'=wX κ ys q g2/\ys.Perm arr/\rG lt ys 0 q.toList arr.size/\q.size<=1)
      ?step2 ?fin2 ⟨xs,p,g',rfl,rfl,q1,q3,by have:=yk q3;rw[aw]at this;lia⟩) ?post2)
    case fin2 =>
      rintro c st' ⟨ys,q,g2,rfl,rfl,r1,r2,r3⟩;exact⟨ys,q,g2,rfl,rfl,r1,r2,by lia⟩
    case step2 =>
      rintro j c st' _ hj ⟨ys,q,g2,rfl,rfl,r1,r2,r3⟩;refine iX (jS ?_);have eq:jM (wX κ ys q g2)=q:=rfl;rw[eq]
      by_cases d1:q.size<=1
      . rw[oq d1]
        exact iZ ⟨ys,q,g2,rfl,rfl,r1,r2,d1⟩
      rw[oz d1];have hi':∀(b:Prop) [Decidable b],(if b then q.size-2-1 else q.size-2)+1<q.size:=λb _=>by split <;> lia
      refine iX (Bc (st:=wX κ ys q g2) C (λx hx=>hp x (r1.mem_iff.mp hx)) rfl rfl (by show arr.size<=ys.size;have:=r1.size_eq;lia) r2 (hi' _) λxs3 p3 g3 b4 ns ch4=>?_)
      rw[oz (by decide)]
      have ns':p3.size+1=q.size:=ns;exact iZ ⟨xs3,p3,g3,rfl,rfl,b4.pm.trans r1,ch4,by lia⟩
    case post2 =>
      rintro c st' ⟨ys,q,g2,rfl,rfl,r1,r2,r3⟩;refine iZ (h ys q g2 r1 ?_);rw[←aw]at r3;cases eq:q.toList with
      |nil =>
        rw[eq]at r2;have r2':0=arr.size:=r2;lia
      |cons a r =>
        rw[eq]at r2 r3;have er:r=[]:=by
          rw[lCq]at r3;exact cC.mp (by lia)
        subst er;obtain⟨_,_,s3,e3⟩:=r2;have e3':0+a.2.1=arr.size:=e3;rw[e3']at s3;exact s3
end
end MrS
namespace Xe
open PySem
section
variable {M:kr}{A:Around}{E:Value->iV->Prop}{s:iV}
structure DD (fs:List Addr) (e:Addr) (oe:Obj) (T:Addr) (h h':Heap):Prop where
 keep:∀b o,b≠e->b∉fs->h.get? b=some o->h'.get? b=some o
 slot:∀b o,b≠e->h.get? b=some o->∃sl,h'.get? b=some { o with slots:=sl }
 exc:h'.get? e=some (oe.mapFields (·.setIfInBounds 1 (.ref T)))
 fresh:h.get? T=none
 ent:∃oT ts,h'.get? T=some oT/\oT.data = .fields ts/\ts[3]?=some .none
theorem Dz{base:Heap}{env:Env}{outer:List Env}{L e:Addr}{oe:Obj}{vs:Array Value}{head:Value}{hadNext:Bool}{Q:Unit->iV->Prop}
  (hfr:A.frames=some (env::outer)) (hl:s.heap.FunFrames base (env::outer)) (hf:env.frame=some L)
  (he:s.heap.get? e=some oe) (hd:oe.data = .fields vs) (hsz:1<vs.size)
  (h:∀h' T,DD ((env::outer).filterMap (·.frame)) e oe T s.heap h'->Q () { s with heap:=h' }) :
  jb M A (do let a ←frameOf env;let pl ←entryPlaceOf L hadNext;let b ←EntryCells.newEntry head a .none (jX L) .none pl;setField (.ref e) 1 b) (λ_ s'=>jb M A (kx (.ref e) none) Q E s') E s:=by
 have hene:e∉(env::outer).filterMap (·.frame):=λhm=>by
  obtain⟨_,o,ho,hnf⟩:=hl.mem hm;rw[he]at ho;injection ho with ho;subst ho;exact hnf vs hd
 refine ja (wpAny_frameOf_fun hfr hl hf λh₁ hs₁=>?_)
 refine ja (wpAny_entryPlaceOf λpl hpl=>?_)
 unfold EntryCells.newEntry newFields;refine ja (wpAny_newObj_type ?_ (hpl.sizeOk5 _ _ _ _ _));have he₁:h₁.get? e=some oe:=(hs₁.2.1 e hene).trans he;have he₂:=aj (h:=h₁) { cls:=.type "traceback", dict:=none,data:=.fields ([head,.ref L,.none,jX L,.none]++(if pl.isEmpty then aQ 6 dA else pl)).toArray } he₁
 refine kY he₂ hd hsz ?_;have hTe:h₁.objs.size≠e:=cZ (aq he₁);have hd₃:=Obj.data_mapFields hd (·.setIfInBounds 1 (aE h₁.objs.size));have he₃:=dD (Obj.mapFields (·.setIfInBounds 1 (aE h₁.objs.size))) he₂ (Obj.isFreed_of_fields hd₃);have hT₃:=(bz (h₁.push { cls:=.type "traceback", dict:=none,data:=.fields ([head,.ref L,.none,jX L,.none]++(if pl.isEmpty then aQ 6 dA else pl)).toArray })
  (Obj.mapFields (·.setIfInBounds 1 (aE h₁.objs.size))) (Ne.symm hTe)).trans (bh h₁ rfl)
 unfold kx;refine ja (kS he₃ hd₃ (x:=.ref h₁.objs.size) (by simp[hsz]) ?_)
 rw[oq (show (aE h₁.objs.size != dA)=true from by simp)]
 refine kY hT₃ rfl (by simp only[aA,lAq,lCq,bP] <;> lia) (h _ h₁.objs.size ?_)
 have keep:∀b o,b≠e->h₁.get? b=some o ->
   (((h₁.push { cls:=.type "traceback", dict:=none,data:=.fields ([head,.ref L,.none,jX L,.none]++(if pl.isEmpty then aQ 6 dA else pl)).toArray }).update e (Obj.mapFields (·.setIfInBounds 1 (aE h₁.objs.size)))).update h₁.objs.size
    (Obj.mapFields (·.setIfInBounds 3 ((none:Option Addr).elim dA λf=>jX f)))).get? b=some o:=λb o hbe hb=>by
  have hbT:h₁.objs.size≠b:=cZ (aq hb);rw[bz _ _ hbT,bz _ _ (Ne.symm hbe)];exact aj _ hb
 refine⟨λb o hb hbf ho=>keep b o hb ((hs₁.2.1 b hbf).trans ho),λb o hb ho=>?_,?_,?_,?_⟩
 .obtain ⟨sl,e1⟩:=hs₁.2.2 b o ho;exact⟨sl,keep b _ hb e1⟩
 .rw [bz _ _ hTe];exact he₃
 .exact dO (by rw[hs₁.1];exact ae _)
 .exact ⟨_,_,dD _ hT₃ (Obj.isFreed_of_fields (Obj.data_mapFields rfl _)),Obj.data_mapFields rfl _,by first|(simp;done)|(rcases hpl with rfl|⟨_,_,_,_,_,_,_,rfl⟩ <;> simp)⟩
def DN(h:Heap) (vs:Array Value):Prop:=vs[1]?=some .none∨∃T0 o0 ts,vs[1]?=some (.ref T0)/\h.get? T0=some o0/\o0.data = .fields ts/\ts[3]?=some .none
theorem UV{base:Heap}{env:Env}{outer:List Env}{L e:Addr}{oe:Obj}{vs:Array Value}{Q:Unit->iV->Prop}
  (hfr:A.frames=some (env::outer)) (hl:s.heap.FunFrames base (env::outer)) (hf:env.frame=some L)
  (he:s.heap.get? e=some oe) (hd:oe.data = .fields vs) (hq:DN s.heap vs)
  (h:∀h' T,DD ((env::outer).filterMap (·.frame)) e oe T s.heap h'->Q () { s with heap:=h' }) :
  jb M A (kP (.ref e) env) (λ_ s'=>jb M A (kx (.ref e) none) Q E s') E s:=by
 unfold kP;simp only[hf];rcases hq with h1|⟨T0,o0,ts,h1,hT,hdT,h3⟩
 .refine ja (kS he hd h1 ?_);rw[oz (by decide)]
  exact Dz hfr hl hf he hd (aK.mp h1).1 h
 .refine ja (kS he hd h1 ?_);rw[oq (show (aE T0 != dA)=true from by simp)]
  refine ja (kS hT hdT h3 ?_);rw[oz (show ¬ ((dA == jX L)=true) from by simp[jX])]
  refine ja (kY hT hdT (aK.mp h3).1 ?_);rw[gc s.heap T0 o0 ts 3 .none hT hdT h3];exact Dz hfr hl hf he hd (aK.mp h1).1 h
theorem VT{base:Heap}{env:Env}{outer:List Env}{L e:Addr}{oe:Obj}{vs:Array Value}{Q:Unit->iV->Prop}
  (hfr:A.frames=some (env::outer)) (hl:s.heap.FunFrames base (env::outer)) (hf:env.frame=some L)
  (he:s.heap.get? e=some oe) (hd:oe.data = .fields vs) (hq:DN s.heap vs)
  (h:∀h' T,DD ((env::outer).filterMap (·.frame)) e oe T s.heap h'->Q () { s with heap:=h' }) :
  jb M A (leaving env (.ref e)) Q E s:=by
 unfold leaving;exact ja (UV hfr hl hf he hd hq h)
end
abbrev Dd:List Value:=[.type "ValueError", .type "Exception", .type "BaseException", .type "object"]
abbrev Ez(C t:Addr) (dd:Option Addr):Obj:={ cls:=.ref C,dict:=dd,data:=.fields #[.ref t,.none,.none,.none,.bool false,.none] }
abbrev Lk{α:Type}(M:kr) (h:Heap) (x:Sem α) (r:α):Prop :=
 ∀(A:Around) (Q:α->iV->Prop) (E:Value->iV->Prop) (s:iV),(∀b o,h.get? b=some o->s.heap.get? b=some o)->Q r s->jb M A x Q E s
section
variable {M:kr}{A:Around}{E:Value->iV->Prop}{env:Env}
variable {nm q:Str}{C N:Addr}{bs bm:List Value}{hdct:Bool}{sn:List Str}{sub:List Value}{ab:Bool}{col:Option Bool}{dd:Option Addr}{k0 k1 k2 k3 k5:Option Value}{newId:String}
theorem Hu{s:iV}{x:Sem Value}{Q:Flow->iV->Prop}(hbase:bm.contains (.type "BaseException")=true) (hh:A.handled=none)
  (h:jb M A x (λv s₁=>∃e t dx,v = .ref e/\s₁.heap.get? C=some (kc nm q C N bs bm hdct sn sub ab col dd k0 k1 k2 k3 k5 newId) /\
   s₁.heap.get? e=some (Ez C t dx)/\E (.ref e) s₁) E s) :
  jb M A (raiseStmt env (some x) none) Q E s:=by
 have hcB:(aE C::bm).contains (.type "BaseException")=true:=by rw[cI,hbase,gv]
 unfold raiseStmt;refine ja (jk h (λv s₁ h₁=>?_) λ_ _ x=>x)
 obtain⟨e,t,dx,rfl,hC,he,hE⟩:=h₁;obtain⟨hp,g,d,tk,os⟩:=s₁
 repeat (first|with_reducible refine jr he ?_|with_reducible refine jr hC ?_|(with_reducible refine jB hC ?_;rw[hcB])|wp_step)
 exact wpAny_raiseNew_none hh hE
end
section
variable {M:kr}{A:Around}{E:Value->iV->Prop}{h:Heap}{g:Array GenState}{d:Drawn}{t:Nat}{os:OsState}
variable {nm q nm' q':Str}{C N C' N':Addr}{bs bm bs' bm':List Value}{hdct hdct':Bool}{sn sn':List Str}{sub sub':List Value}{ab ab':Bool}{col col':Option Bool}{dd dd':Option Addr}{k0 k1 k2 k3 k5 k0' k1' k2' k3' k5':Option Value}{newId newId':String}
theorem Gg{e:Addr}{oe:Obj}{Q:Bool->iV->Prop}(hC:h.get? C=some (kc nm q C N bs bm hdct sn sub ab col dd k0 k1 k2 k3 k5 newId))
  (hC':h.get? C'=some (kc nm' q' C' N' bs' bm' hdct' sn' sub' ab' col' dd' k0' k1' k2' k3' k5' newId')) (hb:bm'.contains (.type "BaseException")=true)
  (he:h.get? e=some oe) (hcls:oe.cls = .ref C) (hq:Q ((aE C::bm).contains (.ref C')) ⟨h,g,d,t,os⟩):jb M A (excMatches (.ref e) (.ref C')) Q E ⟨h,g,d,t,os⟩:=by
 have hcB:(aE C'::bm').contains (.type "BaseException")=true:=by rw[cI,hb,gv]
 have f:=tc_notTuple;unfold excMatches;cases hv:(aE C::bm).contains (.ref C') with
 |true =>
  rw[hv]at hq
  repeat (first|(with_reducible refine jr he ?_;rw[hcls])|with_reducible refine jr hC' ?_|(with_reducible refine jB hC' ?_;rw[hcB])|(with_reducible refine jB hC ?_;rw[hv])|wp_step)
  exact hq
 |false =>
  rw[hv]at hq
  repeat (first|(with_reducible refine jr he ?_;rw[hcls])|with_reducible refine jr hC' ?_|(with_reducible refine jB hC' ?_;rw[hcB])|(with_reducible refine jB hC ?_;rw[hv])|wp_step)
  exact hq
end
section
variable {prog:je}{w:jf}{A:Around}{E:Value->iV->Prop}{s:iV}{env:Env}{e:Addr}{c0:Value}{t:Expr}{n:Str}{b₀:Stmt}{suite:List Stmt}{pos:Pos}{rest:List ExceptHandler}{Q:Flow->iV->Prop}
abbrev Mt(M:kr) (e:Addr) (c0:Value) (b:Bool) (s:iV):Prop:=∀(A:Around) (Q:Bool->iV->Prop) (E:Value->iV->Prop),Q b s->jb M A (excMatches (.ref e) c0) Q E s
theorem Sx(hm:Mt (iY prog w) e c0 true s) (hv:∀Q':Value->iV->Prop,Q' c0 s->jb (iY prog w) (A.mark (some (.ref e))) (eval t env) Q' (λ_ _=>False) s)
  (k:jb (iY prog w) (A.mark (some (.ref e))) (kx (.ref e) none) (λ_ s₂ =>
   jb (iY prog w) (A.mark (some (.ref e))) (execs (b₀::suite) env) Q (λ_ _=>False) s₂) (λ_ _=>False) s) :
  jb (iY prog w) A (kM (.ref e) env (.ExceptHandler (some t) none (b₀::suite) pos::rest)) Q E s:=by
 refine lI (kX (jk (hv _ ?_) (λc s₁ h₁=>h₁) λ_ _ x=>x.elim)) (by intro q;cases q)
 refine hm _ _ _ (codeAny_handlers_suite ?_);exact jk k (λ_ s₂ h₂=>jk h₂ (λ_ _ z=>z) λ_ _ z=>z.elim) λ_ _ z=>z.elim
theorem VZ{n':Option Str}(hm:Mt (iY prog w) e c0 false s) (hv:∀Q':Value->iV->Prop,Q' c0 s->jb (iY prog w) (A.mark (some (.ref e))) (eval t env) Q' (λ_ _=>False) s)
  (k:jb (iY prog w) A (kM (.ref e) env rest) Q E s):jb (iY prog w) A (kM (.ref e) env (.ExceptHandler (some t) n' (b₀::suite) pos::rest)) Q E s:=by
 refine lI (kX (jk (hv _ ?_) (λc s₁ h₁=>h₁) λ_ _ x=>x.elim)) (by intro q;cases q)
 exact hm _ _ _ k
end
end Xe
namespace Mr
abbrev St:=L2.St
open PySem PySem.Spec PyProof.Rows L2
section
variable {X:Cx}{nA:List (Addr×Obj)}{σ:List (Option V)}{H H':Hp}{s:iV}{h':Heap}
theorem FO{t':Nat}{fp:List Addr}{T:Addr}{o:HO}(I:Inv X nA σ H s) (k:∀b u,b∉fp->s.heap.get? b=some u->h'.get? b=some u)
  (hf:∀b∈fp,Bo X nA H b) (hT:s.heap.objs.size<=T) (new:qv X.prog X.w (upd H T o) h' T o):Inv X nA σ (upd H T o) { s with heap:=h',toks:=t' }:=by
 have hn:H T=none:=I.hok.fresh hT;have nf:∀b u,H b=some u->b∉fp:=λb u e z=>by rw[(hf b z).1]at e;cases e
 refine I.step (g':=s.gens) (d':=s.drawn) (ch:=fp) (λb hb=>?_) (λb u _ _ hc e _=>k b u hc e) (λb u _ _ hc e _=>⟨u.slots,k b u hc e⟩)
  (λb u _ e n=>by rw[nV (aS (aR (aq e) hT))];exact n) (λb u hc e=>⟨u,k b u hc e⟩)
  (λb xs e=>by rw[nV (qm e hn)];exact e) (λb u xs e=>by rw[nV (qm e hn)];exact e) (λb ps e=>⟨#[],by rw[nV (qm e hn),e];simp⟩) (λm hm=>?_) (λb u e=>?_) I.bare
 .obtain ⟨_,f1,_,f3,f4,f5⟩:=hf b hb;exact⟨f3,f1,f4,f5⟩
 .obtain ⟨u,es,ep,ho,r⟩:=hm;exact⟨u,es,ep,k _ u (λz=>(hf _ z).2.1 rfl) ho,r⟩
 .by_cases hb:b=T
  .subst hb;rw[nZ]at e;cases e;exact new
  .rw [nV hb]at e;refine(I.hok b u e).stay (λc v hc q=>k c v ?_ q) (λc q=>by rw[nV (qm q hn)];exact q) λc xs q=>by rw[nV (qm q hn)];exact q
   rcases hc with rfl|hc
   .exact nf _ u e
   .exact nf c _ hc
theorem JJ{t':Nat}{fp:List Addr}(I:Inv X nA σ H s) (k:∀b u,b∉fp->s.heap.get? b=some u->h'.get? b=some u)
  (hf:∀b∈fp,Bo X nA H b):Inv X nA σ H { s with heap:=h',toks:=t' }:=by
 have nf:∀b u,H b=some u->b∉fp:=λb u e z=>by rw[(hf b z).1]at e;cases e
 refine I.step (g':=s.gens) (d':=s.drawn) (ch:=fp) (λb hb=>?_) (λb u _ _ hc e _=>k b u hc e) (λb u _ _ hc e _=>⟨u.slots,k b u hc e⟩)
  (λ_ _ _ _ n=>n) (λb u hc e=>⟨u,k b u hc e⟩) (λ_ _ e=>e) (λ_ _ _ e=>e) (λb ps e=>⟨#[],by rw[e];simp⟩) (λm hm=>?_) (λb u e=>?_) I.bare
 .obtain ⟨_,f1,_,f3,f4,f5⟩:=hf b hb;exact⟨f3,f1,f4,f5⟩
 .obtain ⟨u,es,ep,ho,r⟩:=hm;exact⟨u,es,ep,k _ u (λz=>(hf _ z).2.1 rfl) ho,r⟩
 .refine (I.hok b u e).stay (λc v hc q=>k c v ?_ q) (λ_ q=>q) λ_ _ q=>q
  rcases hc with rfl|hc
  .exact nf _ u e
  .exact nf c _ hc
theorem EI{a b:Addr}{xs:List V}(I:Inv X nA σ H s) (h:qC X.K H a xs) (f:Bo X nA H b):a≠b:=by
 intro e;subst e;obtain⟨f0,_,_,f3,_⟩:=f;rcases h with (h|⟨o,h⟩)|⟨o,its,n,hk,_⟩
 .rw [f0]at h;cases h
 .rw [f0]at h;cases h
 .have hb:=I.mod.kin a o hk;rcases f3 with z|z
  .exact I.ok.noex a o hb z
  .exact absurd (aR (aq (I.ok.bs a o hb).1) z) (cD _)
end
def Wg(K:W.Frag) (a:Addr):It :=
  ⟨λi H=>∃xs x,qC K H a xs/\xs[i]?=some x,
   λi H v H'=>∃T x,H T=none/\v = .ref T/\H'=upd H T (.tup [.int i,x])/\∀xs,qC K H a xs->xs[i]?=some x,
   λi H=>∃xs,qC K H a xs/\xs.length<=i⟩
theorem K9{P:je}{w:jf}{K:W.Frag}{elts:List Expr}{k:Nat}{pos:Pos}(a e it:Addr) (hne:e≠it) :
  Kb P w K (.Tuple elts k pos) (Wg K a) [e,it] e (λi h=>(∃old,IsEnum h e it i old)/\h.IsListIter it a i) where
 mem:=by simp
 obj:=λi h st b hb=>by
  obtain⟨⟨old,he⟩,o,ho,_,d⟩:=st;rcases ah.mp hb with rfl|hb
  .exact ⟨_,he,λv z=>by
    have z':Data.fields _=Data.cell v:=z;cases z'⟩
  .have e:b=it:=by simpa using hb
   subst e;exact⟨o,ho,λv z=>by rw[d]at z;cases z⟩
 keep:=λi h h' st kp=>by
  obtain⟨⟨old,he⟩,hit⟩:=st;exact⟨⟨old,kp e (by simp) _ he⟩,hit.at λo q=>kp it (by simp) o q⟩
 item:=by
  intro X hP hw hK hc i nA s σ H E I hf st hg;subst hP hw hK;obtain⟨xs,x,hq,hx⟩:=hg;obtain⟨its,rv,p,hz⟩:=I.list hq;obtain⟨u,hu,ru⟩:=rv.get hx;obtain⟨⟨old,he⟩,hit⟩:=st;have hil:it<s.heap.objs.size:=by obtain⟨_,q,_⟩:=hit;exact aq q
  have hel:e<s.heap.objs.size:=aq he;refine wpAny_pyNext_enum_item he hit p.isList (x:=u) (by simpa using hu) hne λh1 he1 hit1 ht1 hz1 hk1=>⟨_,rfl,?_⟩
  refine wpAny_letOwnedTupleGo_enum he1 λh2 he2 hs2=>?_
  replace hs2:fK e h1 h2:=hs2;have hn:H s.heap.objs.size=none:=I.hok.fresh (ae _);refine⟨.ref s.heap.objs.size,upd H s.heap.objs.size (.tup [.int i,x]),?_,rfl,⟨_,x,hn,rfl,rfl,λys hy=>by rw[I.list_inj hy hq];exact hx⟩,⟨⟨_,by simpa using he2⟩,hit1.extBut hs2.extBut (Ne.symm hne)⟩,λb hb=>?_⟩
  .show L2.Inv X nA σ _ { s with heap:=h2,toks:=s.toks+1 }
   refine FO (s:=s) (fp:=[e,it]) I (λb o hb q=>?_) hf (ae _) ⟨by simp only[lCq,bP];rw[jt];decide,[.int i s.toks,u],.cons ⟨_,rfl⟩ (.cons ru .nil),_,hs2.extBut _ _ (cZ hel) ht1,rfl,_,rfl⟩
   have b1:b≠e:=λz=>hb (by simp[z])
   exact hs2.extBut b o b1 (hk1 b o b1 (λz=>hb (by simp[z])) q)
  .have hb2:b<s.heap.objs.size:=by
    rcases ah.mp hb with rfl|hb
    .exact hel
    .have e:b=it:=by simpa using hb
     subst e;exact hil
   rw[nV (aS hb2)];exact(hf b hb).1
 done:=by
  intro X hP hw hK hc i nA s σ H E I hf st hg;subst hP hw hK;obtain⟨xs,hq,hx⟩:=hg;obtain⟨its,rv,p,hz⟩:=I.list hq;obtain⟨⟨old,he⟩,hit⟩:=st;have hl:=rv.length;exact wpAny_pyNext_enum_end (I.ok.hd hc) he hit p.isList (by simp;lia) λh1 eb=>⟨rfl,JJ (t':=s.toks) (fp:=[e,it]) I (λb o hb q=>eb b o (λz=>hb (by simp[z])) q) hf⟩
 self:=λ_ _ _ _ _ st h=>by
  obtain⟨⟨old,he⟩,_⟩:=st;exact wpAny_pyIter_enum he h
def VO(K:W.Frag) (a b:Addr):It :=
  ⟨λi H=>∃xs ys x y,qC K H a xs/\qC K H b ys/\xs[i]?=some x/\ys[i]?=some y,
   λi H v H'=>∃T x y,H T=none/\v = .ref T/\H'=upd H T (.tup [x,y])/\(∀xs,qC K H a xs->xs[i]?=some x)/\∀ys,qC K H b ys->ys[i]?=some y,
   λi H=>∃xs ys,qC K H a xs/\qC K H b ys/\(xs.length<=i∨ys.length<=i)⟩
structure Z5 (z TI TO i1 i2:Addr):Prop where
 a:TI≠z
 b:TO≠z
 c:i1≠z
 d:i2≠z
 e:TI≠TO
 f:TI≠i1
 g:TI≠i2
 h:TO≠i1
 i:TO≠i2
 j:i1≠i2
theorem UW(n:Nat):Z5 (n+4) (n+2) (n+3) n (n+1) where
 a:=λ(q:n+2=n+4)=>by lia
 b:=λ(q:n+3=n+4)=>by lia
 c:=λ(q:n=n+4)=>by lia
 d:=λ(q:n+1=n+4)=>by lia
 e:=λ(q:n+2=n+3)=>by lia
 f:=λ(q:n+2=n)=>by lia
 g:=λ(q:n+2=n+1)=>by lia
 h:=λ(q:n+3=n)=>by lia
 i:=λ(q:n+3=n+1)=>by lia
 j:=λ(q:n=n+1)=>by lia
theorem M3{P:je}{w:jf}{K:W.Frag}{elts:List Expr}{k:Nat}{pos:Pos}(l1 l2 z TI TO i1 i2:Addr) (d:Z5 z TI TO i1 i2) :
  Kb P w K (.Tuple elts k pos) (VO K l1 l2) [z,TI,TO,i1,i2] z
   (λi h=>IsZip h z TI TO .none/\IsPair h TI (.ref i1) (.ref i2)/\(∃a b,IsPair h TO a b)/\h.IsListIter i1 l1 i/\h.IsListIter i2 l2 i) where
 mem:=by simp
 obj:=λi h st b hb=>by
  obtain⟨hz,hTI,⟨a,c,hTO⟩,⟨o1,q1,_,d1⟩,⟨o2,q2,_,d2⟩⟩:=st;simp only[ah,cU,or_false]at hb;rcases hb with rfl|rfl|rfl|rfl|rfl
  .exact ⟨_,hz,λv x=>by
    have x':Data.fields _=Data.cell v:=x;cases x'⟩
  .exact ⟨_,hTI,λv x=>by
    have x':Data.seq _ _=Data.cell v:=x;cases x'⟩
  .exact ⟨_,hTO,λv x=>by
    have x':Data.seq _ _=Data.cell v:=x;cases x'⟩
  .exact ⟨o1,q1,λv x=>by rw[d1]at x;cases x⟩
  .exact ⟨o2,q2,λv x=>by rw[d2]at x;cases x⟩
 keep:=λi h h' st kp=>by
  obtain⟨hz,hTI,⟨a,c,hTO⟩,h1,h2⟩:=st;exact⟨kp z (by simp) _ hz,kp TI (by simp) _ hTI,⟨a,c,kp TO (by simp) _ hTO⟩,h1.at λo q=>kp i1 (by simp) o q,h2.at λo q=>kp i2 (by simp) o q⟩
 item:=by
  intro X hP hw hK hc i nA s σ H E I hf st hg;subst hP hw hK;obtain⟨xs,ys,x,y,hq1,hq2,hx,hy⟩:=hg;obtain⟨its1,rv1,p1,_⟩:=I.list hq1;obtain⟨its2,rv2,p2,_⟩:=I.list hq2;obtain⟨u1,hu1,ru1⟩:=rv1.get hx;obtain⟨u2,hu2,ru2⟩:=rv2.get hy;obtain⟨hz,hTI,⟨a,c,hTO⟩,h1,h2⟩:=st;have n1:∀b∈[z,TI,TO,i1,i2],l1≠b:=λb hb=>EI I hq1 (hf b hb)
  have n2:∀b∈[z,TI,TO,i1,i2],l2≠b:=λb hb=>EI I hq2 (hf b hb)
  have D:ZipApart z TI TO i1 i2 l1 l2:=⟨d.a,d.b,d.c,d.d,d.e,d.f,d.g,d.h,d.i,d.j,n1 z (by simp),n1 TO (by simp),n1 i1 (by simp),n1 i2 (by simp),n2 z (by simp),n2 TO (by simp),n2 i1 (by simp),n2 i2 (by simp)⟩
  have hzl:z<s.heap.objs.size:=aq hz;refine wpAny_pyNext_zip_item D hz hTI hTO h1 h2 p1.isList p2.isList (x:=u1) (y:=u2) (by simpa using hu1) (by simpa using hu2) λg1 hz1 hTO1 g11 g12 hT1 hsz1 hk1=>⟨_,rfl,?_⟩
  refine wpAny_letOwnedTupleGo_zip hz1 λg2 hz2 hs2=>?_
  replace hs2:fK z g1 g2:=hs2;have hn:H s.heap.objs.size=none:=I.hok.fresh (ae _);refine⟨.ref s.heap.objs.size,upd H s.heap.objs.size (.tup [x,y]),?_,rfl,⟨_,x,y,hn,rfl,rfl,λws hw=>by rw[I.list_inj hw hq1];exact hx,λws hw=>by rw[I.list_inj hw hq2];exact hy⟩,
   ⟨hz2,hs2.extBut _ _ d.a (hk1 _ _ d.a d.e d.f d.g hTI),⟨_,_,hs2.extBut _ _ d.b hTO1⟩,g11.extBut hs2.extBut d.c,g12.extBut hs2.extBut d.d⟩,λb hb=>?_⟩
  .show L2.Inv X nA σ _ { s with heap:=g2,toks:=s.toks }
   refine FO (s:=s) (fp:=[z,TI,TO,i1,i2]) I (λb o hb q=>?_) hf (ae _) ⟨by simp only[lCq,bP];rw[jt];decide,[u1,u2],.cons ru1 (.cons ru2 .nil),_,hs2.extBut _ _ (cZ hzl) hT1,rfl,_,rfl⟩
   have b1:b≠z:=λe=>hb (by simp[e])
   exact hs2.extBut b o b1 (hk1 b o b1 (λe=>hb (by simp[e])) (λe=>hb (by simp[e])) (λe=>hb (by simp[e])) q)
  .have hb2:b<s.heap.objs.size:=by
    have hb':=hb;simp only[ah,cU,or_false]at hb';rcases hb' with rfl|rfl|rfl|rfl|rfl
    .exact hzl
    .exact aq hTI
    .exact aq hTO
    .obtain ⟨_,q,_⟩:=h1;exact aq q
    .obtain ⟨_,q,_⟩:=h2;exact aq q
   rw[nV (aS hb2)];exact(hf b hb).1
 done:=by
  intro X hP hw hK hc i nA s σ H E I hf st hg;subst hP hw hK;obtain⟨xs,ys,hq1,hq2,hx⟩:=hg;obtain⟨its1,rv1,p1,_⟩:=I.list hq1;obtain⟨its2,rv2,p2,_⟩:=I.list hq2;obtain⟨hz,hTI,⟨a,c,hTO⟩,h1,h2⟩:=st;have n1:∀b∈[z,TI,TO,i1,i2],l1≠b:=λb hb=>EI I hq1 (hf b hb)
  have n2:∀b∈[z,TI,TO,i1,i2],l2≠b:=λb hb=>EI I hq2 (hf b hb)
  have D:ZipApart z TI TO i1 i2 l1 l2:=⟨d.a,d.b,d.c,d.d,d.e,d.f,d.g,d.h,d.i,d.j,n1 z (by simp),n1 TO (by simp),n1 i1 (by simp),n1 i2 (by simp),n2 z (by simp),n2 TO (by simp),n2 i1 (by simp),n2 i2 (by simp)⟩
  have e1:=rv1.length;have e2:=rv2.length;refine wpAny_pyNext_zip_end (I.ok.hd hc) D hz hTI hTO h1 h2 p1.isList p2.isList ?_ λg1 eb=>⟨rfl,JJ (t':=s.toks) (fp:=[z,TI,TO,i1,i2]) I (λb o hb q=>eb b o (λe=>hb (by simp[e])) (λe=>hb (by simp[e])) (λe=>hb (by simp[e])) (λe=>hb (by simp[e])) q) hf⟩
  rcases hx with hx|hx
  .exact .inl (by simp;lia)
  .exact .inr (by simp;lia)
 self:=λ_ _ _ _ _ st h=>wpAny_pyIter_zip st.1 h
section
variable {X:Cx}{elts:List Expr}{kk:Nat}{tpos:Pos}
def Ri(K:W.Frag) (ta:TA):TI:=λσ H R=>ta σ H λvs H1=>∃a,vs=[.ref a]/\(∃xs,qC K H1 a xs)/\R (Wg K a) H1
theorem JU{e:Expr}{ta:TA}{p pos:Pos}(hg:Gl X "enumerate") (hm:X.mg "enumerate" = none) (ha:PA X [e] ta) (hs:jh [e] X.env=[(false,eval e X.env)]:=by rfl) :
  PI X (.Tuple elts kk tpos) (.Call (.Name "enumerate" p) [e] [] pos) (Ri X.K ta):=by
 intro nA s σ H R I h;refine Call_ (Ar I hg hm boot_enumerate (cG (thn (ha pos nA s σ H _ I h) λus s1 hz1=>?_) hs rfl))
 obtain⟨vs,H1,I1,r1,q1⟩:=hz1;obtain⟨a,e1,⟨xs,hq⟩,q⟩:=q1;subst e1;obtain⟨u,rfl,ru⟩:=yF r1;cases ru;obtain⟨its,rv,p1,hz⟩:=I1.list hq;refine call_enumerate_list p1.isList λg he hit hsz hk=>wpAny_pyIter_enum he ?_
 refine⟨s1.heap.objs.size+1,[s1.heap.objs.size+1,s1.heap.objs.size],_,_,H1,rfl,I1.kept (t':=s1.toks) hk,K9 a _ _ (Nat.succ_ne_self _),⟨⟨_,he⟩,hit⟩,λb hb=>?_,q⟩
 have hb2:s1.heap.objs.size<=b:=by
  simp only[ah,cU,or_false]at hb;rcases hb with rfl|rfl
  .exact bO _
  .exact ae _
 exact I1.fpOk hb2 (I1.hok.fresh hb2)
def U9(K:W.Frag) (ta:TA):TI:=λσ H R=>ta σ H λvs H1=>∃a b,vs=[.ref a,.ref b]/\(∃xs,qC K H1 a xs)/\(∃ys,qC K H1 b ys)/\R (VO K a b) H1
theorem RP{e f:Expr}{ta:TA}{p pos:Pos}(hg:Gl X "zip") (hm:X.mg "zip" = none) (ha:PA X [e,f] ta) (hs:jh [e,f] X.env=[(false,eval e X.env),(false,eval f X.env)]:=by rfl) (hs2:jh [f] X.env=[(false,eval f X.env)]:=by rfl) :
  PI X (.Tuple elts kk tpos) (.Call (.Name "zip" p) [e,f] [] pos) (U9 X.K ta):=by
 intro nA s σ H R I h;refine Call_ (Ar I hg hm boot_zip (cG (thn (ha pos nA s σ H _ I h) λus s1 ⟨vs,H1,I1,r1,q1⟩=>?_) (by rw[hs,hs2]) (by rw[hs2];rfl)))
 obtain⟨a,b,e1,⟨xs,hq1⟩,⟨ys,hq2⟩,q⟩:=q1;subst e1;obtain⟨u,v,rfl,ru,rv⟩:=MN r1;cases ru;cases rv;obtain⟨its1,_,p1,_⟩:=I1.list hq1;obtain⟨its2,_,p2,_⟩:=I1.list hq2;refine call_zip_2 p1.isList p2.isList λg hz hTI hTO h1 h2 hsz hk=>wpAny_pyIter_zip hz ?_
 refine⟨s1.heap.objs.size+4,[s1.heap.objs.size+4,s1.heap.objs.size+2,s1.heap.objs.size+3,s1.heap.objs.size,s1.heap.objs.size+1],_,_,H1,rfl,I1.kept (t':=s1.toks) hk,
  M3 a b _ _ _ _ _ (UW s1.heap.objs.size),⟨hz,hTI,⟨_,_,hTO⟩,h1,h2⟩,λc hc=>?_,q⟩
 have hb2:s1.heap.objs.size<=c:=by
  simp only[ah,cU,or_false]at hc;rcases hc with rfl|rfl|rfl|rfl|rfl
  .exact ff _ _
  .exact ff _ _
  .exact ff _ _
  .exact ae _
  .exact ff _ _
 exact I1.fpOk hb2 (I1.hok.fresh hb2)
end
theorem Nf{K:W.Frag}{a:Addr}{xs:List V}{i1 i2:Nat}{tb:TS}{D:tY}{σ:St}{H:Hp}(Pv:Nat->St->Hp->Prop) (h0:Pv 0 σ H) (hl:∀i σ H,i<=xs.length->Pv i σ H->qC K H a xs)
  (hs:∀i x σ H T,xs[i]?=some x->Pv i σ H->H T=none->tb { D with nx:=Pv (i+1),ct:=Pv (i+1),bk:=D.nx } ((σ.set i1 (some (.int i))).set i2 (some x)) (upd H T (.tup [.int i,x]))) (hd:∀σ H,Pv xs.length σ H->D.nx σ H) :
  ∃W:Nat->Nat->St->Hp->Prop,(∃m,W 0 m σ H)/\∀i m σ H,W i m σ H ->
   ((Wg K a).stop i H/\D.nx σ H)∨((Wg K a).go i H/\∃N:St->Hp->Prop,(∀σ' H',N σ' H'->∃m',m'<m/\W (i+1) m' σ' H')/\∀x H',(Wg K a).yld i H x H'->Il K 2 (wc (qt i1) (wc (qt i2) HG)) x σ H' λσ2 H2=>tb { D with nx:=N,ct:=N,bk:=D.nx } σ2 H2):=by
 refine⟨λi m σ H=>m=xs.length-i/\i<=xs.length/\Pv i σ H,⟨xs.length,by simp,bg _,h0⟩,?_⟩
 rintro i m σ H ⟨rfl,hi,p⟩;have q:=hl i σ H hi p
 by_cases hlt:i<xs.length
 .refine .inr ⟨⟨xs,xs[i],q,by simp[hlt]⟩,Pv (i+1),λσ' H' p'=>⟨xs.length-(i+1),by lia,rfl,hlt,p'⟩,λv H' y=>?_⟩
  obtain⟨T,x,hT,rfl,rfl,hx⟩:=y;exact⟨T,_,rfl,Bh.of nZ,rfl,_,_,rfl,_,_,rfl,rfl,hs i x σ H T (hx xs q) p hT⟩
 .have e:i=xs.length:=by lia
  subst e;exact .inl ⟨⟨xs,q,ae _⟩,hd σ H p⟩
theorem PY{K:W.Frag}{a b:Addr}{xs ys:List V}{i1 i2:Nat}{tb:TS}{D:tY}{σ:St}{H:Hp}(Pv:Nat->St->Hp->Prop) (h0:Pv 0 σ H) (hlen:xs.length=ys.length)
  (hl:∀i σ H,i<=xs.length->Pv i σ H->qC K H a xs/\qC K H b ys)
  (hs:∀i x y σ H T,xs[i]?=some x->ys[i]?=some y->Pv i σ H->H T=none->tb { D with nx:=Pv (i+1),ct:=Pv (i+1),bk:=D.nx } ((σ.set i1 (some x)).set i2 (some y)) (upd H T (.tup [x,y]))) (hd:∀σ H,Pv xs.length σ H->D.nx σ H) :
  ∃W:Nat->Nat->St->Hp->Prop,(∃m,W 0 m σ H)/\∀i m σ H,W i m σ H ->
   ((VO K a b).stop i H/\D.nx σ H)∨((VO K a b).go i H/\∃N:St->Hp->Prop,(∀σ' H',N σ' H'->∃m',m'<m/\W (i+1) m' σ' H')/\∀x H',(VO K a b).yld i H x H'->Il K 2 (wc (qt i1) (wc (qt i2) HG)) x σ H' λσ2 H2=>tb { D with nx:=N,ct:=N,bk:=D.nx } σ2 H2):=by
 refine⟨λi m σ H=>m=xs.length-i/\i<=xs.length/\Pv i σ H,⟨xs.length,by simp,bg _,h0⟩,?_⟩
 rintro i m σ H ⟨rfl,hi,p⟩;obtain⟨q1,q2⟩:=hl i σ H hi p
 by_cases hlt:i<xs.length
 .refine .inr ⟨⟨xs,ys,xs[i],ys[i],q1,q2,by simp[hlt],by simp[hlen ▸ hlt]⟩,Pv (i+1),λσ' H' p'=>⟨xs.length-(i+1),by lia,rfl,hlt,p'⟩,λv H' y=>?_⟩
  obtain⟨T,x,y,hT,rfl,rfl,hx,hy⟩:=y;exact⟨T,_,rfl,Bh.of nZ,rfl,_,_,rfl,_,_,rfl,rfl,hs i x y σ H T (hx xs q1) (hy ys q2) p hT⟩
 .have e:i=xs.length:=by lia
  subst e;exact .inl ⟨⟨xs,ys,q1,q2,.inl (ae _)⟩,hd σ H p⟩
section
variable {X:Cx}
theorem MR{nA:List (Addr×Obj)}{σ:St}{H:Hp}{s:iV}{a:Addr}{ns:List Int}(I:Inv X nA σ H s) (h:qC X.K H a (ns.map V.int)) :
  ∃vs:List Value,s.heap.IsList a vs.toArray/\ju vs ns/\ns.length<=jc:=by
 obtain⟨its,r,p,z⟩:=I.list h;rw[lMq]at z;exact⟨its,p.isList,wF r,z⟩
theorem KB(hc:X.calm=true):sv X (.builtin "min") (λxs H Q=>∃(a:Addr) (ns:List Int),xs=[.ref a]/\qC X.K H a (ns.map V.int)/\0<ns.length/\∀M,M∈ns->(∀x,x∈ns->M<=x)->Q (.int M) H):=by
 intro nA s σ H xs us Q I r h;obtain⟨a,ns,rfl,hS,hne,q⟩:=h;obtain⟨u,rfl,ru⟩:=yF r;cases ru;obtain⟨vs,hl,hi,_⟩:=MR I hS;obtain⟨xs,e⟩:=hi.allInts.items;have hns:ns=xs.toList.map (·.1):=by
  rw[←hi.numsOf,←nums_intItems,←e]
 have hsz:0<xs.size:=by
  have h3:=hne;rw[hns,lMq,aw]at h3;exact h3
 rw[e]at hl;refine min_intList (I.ok.hd hc) hl hsz λv h' tk hv hk=>?_
 obtain⟨t,rfl⟩:=intItems_at hv;obtain⟨h1,h2⟩:=argBest_lt (numAt xs) (xs.size-1);refine⟨.int _,H,I.kept hk,⟨t,rfl⟩,q _ ?_ λx hx=>?_⟩
 .rw [hns,numAt_eq];exact PySem.getD_mem (by rw[lMq,aw];lia)
 .rw [hns]at hx;obtain⟨j,hj,rfl⟩:=PySem.mem_getD hx;rw[lMq,aw]at hj;rw[←numAt_eq];exact h2 j (by lia)
def Nz(K:W.Frag):V->List V->Hp->VK->Prop:=λx vs H Q=>∃(a:Addr) (ns:List Int) (k:Int),x = .ref a/\vs=[.int k]/\qC K H a (ns.map V.int)/\k∈ns/\Q (.int (ns.idxOf k:Nat)) H
theorem G1:Wt X "list.index" (Nz X.K):=by
 intro nA s σ H x xs v us Q I rx r h;obtain⟨a,ns,k,rfl,rfl,hS,hk,q⟩:=h;cases rx;obtain⟨u,rfl,t,rfl⟩:=yF r;obtain⟨its,rv,⟨o,n,ho,hc,hd0,hd⟩,hz⟩:=I.list hS;have hi:=wF rv;obtain⟨cls,dd,data,sl⟩:=o;simp only at hc hd0 hd;subst hc hd0 hd;have hlen:=hi.length;have hj:ns.idxOf k<ns.length:=gh.mpr hk;have hs:jc=16777216:=jt;rw[lMq]at hz;refine jQ eF ⟨_,ho,rfl⟩ PySem.F.entry_list_index (PySem.F.args_list_index_2 _ _)
  (SeqAt.list_indexAt a its.toArray n none sl (.int k t) (isInt k) (ns.idxOf k) (by simpa [hlen] using hj) (by lia) ?_ ?_) ⟨ho,λy hy=>(eq_isInt k t hi y (by simpa using hy)).at _ _,?_⟩
 .show isInt k its[ns.idxOf k]=true;rw[isInt_at k hi _ (by lia) hj]
  simpa using eh hj
 .intro j hjs hlt;show isInt k its[j]=false;rw[isInt_at k hi j (by simpa using hjs) (by lia)]
  exact ne_of_lt_idxOf hlt _
 .exact ⟨.int _,H,I.tok _,⟨_,rfl⟩,q⟩
def Tz(K:W.Frag) (x:V) (H:Hp) (T:String) (b:Bool):Prop :=
 match x with
 | .int _=>(T = "int" /\ b=true)∨(T = "bool" /\ b=false)
 | .bl _=>(T = "bool" /\ b=true)∨(T = "int" /\ b=true)
 | .str _=>T = "str" /\ b=true
 | .ref p=>(T = "list" /\ b=true/\∃xs,qC K H p xs)∨(T = "dict" /\ b=true/\∃kvs,H p=some (.dK kvs))∨(T = "tuple" /\ b=true/\∃xs,Bh K H p xs)
 |_=>False
theorem Da:sv X (.builtin "isinstance") (λxs H Q=>∃x T b,xs=[x,.ty T]/\Tz X.K x H T b/\Q (.bl b) H):=by
 intro nA s σ H xs us Q I r h;obtain⟨x,T,b,rfl,e,q⟩:=h;obtain⟨u,v,rfl,rx,rT⟩:=MN r;cases rT;cases x with
 |int i =>
  obtain⟨t,rfl⟩:=rx;rcases e with ⟨rfl,rfl⟩|⟨rfl,rfl⟩
  .exact ji (jE (Tx := "int") F.isi_meta_int F.sub_int_int) ⟨(show s.TypeIs (.int i t) "int" from rfl),⟨.bl true,H,I,rfl,q⟩⟩
  .exact ji (jO (by decide +kernel) F.isi_meta_bool F.sub_int_bool) (show EP X nA σ Q (.bool false) { s with toks:=s.toks+1 } from ⟨.bl false,H,I.tok _,rfl,q⟩)
 |bl i =>
  cases rx;rcases e with ⟨rfl,rfl⟩|⟨rfl,rfl⟩
  .exact ji (jE (Tx := "bool") F.isi_meta_bool F.sub_bool_bool) ⟨(show s.TypeIs (.bool i) "bool" from rfl),⟨.bl true,H,I,rfl,q⟩⟩
  .exact ji (jE (Tx := "bool") F.isi_meta_int F.sub_bool_int) ⟨(show s.TypeIs (.bool i) "bool" from rfl),⟨.bl true,H,I,rfl,q⟩⟩
 |str i =>
  obtain⟨t,rfl⟩:=rx;obtain⟨rfl,rfl⟩:=e;exact ji (jE (Tx := "str") F.isi_meta_str F.sub_str_str) ⟨(show s.TypeIs (.str i t) "str" from rfl),⟨.bl true,H,I,rfl,q⟩⟩
 |ref p =>
  cases rx;rcases e with ⟨rfl,rfl,xs,hS⟩|⟨rfl,rfl,kvs,hp⟩|⟨rfl,rfl,xs,hS⟩
  .obtain ⟨its,rv,pl,hz⟩:=I.list hS;exact ji (jE (Tx := "list") F.isi_meta_list (by rw[lg];kernel_rfl)) ⟨pl.isList.typeIs,⟨.bl true,H,I,rfl,q⟩⟩
  .have ty:s.TypeIs (.ref p) "dict" := (SN I (.inl ⟨kvs,.inl hp⟩)).1;exact ji (jE (Tx := "dict") F.isi_meta_dict (by rw[lg];kernel_rfl)) ⟨ty,⟨.bl true,H,I,rfl,q⟩⟩
  .obtain ⟨its,rv,⟨o,ho,hc,_⟩,hz⟩:=I.tuple hS;exact ji (jE (Tx := "tuple") F.isi_meta_tuple (by rw[lg];kernel_rfl)) ⟨⟨o,ho,hc⟩,⟨.bl true,H,I,rfl,q⟩⟩
 |_=>exact(show False from e).elim
end
end Mr
namespace Mr
open PySem L2
structure Bd (K:W.Frag) (mg:Str->Option Value) (x:Str) (st:Stmt) (ps:List Str) (f:Addr) (fd:jl):Prop where
 F:Qc K x x st f fd
 m:mg x=some (.ref f)
 b:xx K fd ps []
theorem sJ{H:Hp}{p:Addr}{o:HO}(h:H p=none):ot H (upd H p o):=λb u e=>by
 rw[nV (qm e h)];exact e
end Mr
namespace Mr
open PySem PySem.Spec PyProof.Rows L2
theorem FY{prog:je}{w:jf}{A:Around}{R:Result->iV->Prop}{s:iV}{elt target iter:Expr}{ifs:List Expr}{scope:jU}{pos:Pos}{it acc:Value}{env:Env}(I:Nat->iV->Prop)
  (turn:∀n s,I n s->jb (iY prog w) A (pyNext it) (λr s₁=>match r with
   |none=>R (.ok .next) s₁
   |some v=>jb (iY prog w) A (km target it v) (λ_ s₂=>jb (iY prog w) A (assign target env v) (λ_ s₃ =>
     jb (iY prog w) A (forIn ifs true λc r=>if r=true then do let ok ←isTrue c env (eval c env);pure (ForInStep.yield ok) else pure (ForInStep.yield r)) (λok s₄ =>
      if ok=true then jb (iY prog w) A (eval elt env) (λx s₅ =>
       jb (iY prog w) A (call (.builtin "list.append") [acc,x]) (λ_ s₆=>∃m,m<n/\I m s₆) (λ_ _=>False) s₅) (λ_ _=>False) s₄
      else ∃m,m<n/\I m s₄) (λ_ _=>False) s₃) (λ_ _=>False) s₂) (λ_ _=>False) s₁) (λ_ _=>False) s)
  (n:Nat) (h:I n s):kH (iY prog w) A (.compLoop (.ListComp elt [⟨target,iter,ifs,0⟩] scope pos) 0 it acc env) R s:=by
 refine codeAny_loop rfl I (λn s hI=>?_) n h
 show jb _ A ((compTurn (.ListComp elt [⟨target,iter,ifs,0⟩] scope pos) 0 it acc env).onRaise (λx=>do kP x env;theTreesLotGoes x)) _ _ s
 refine wpAny_noted ?_;rw[compTurn_list];refine ja (ky (ja (jk (turn n s hI) (λr s₁ h₁=>?_) λ_ _ z=>z.elim)))
 cases r with
 |none=>exact jj h₁
 |some v =>
  refine ja (jk h₁ (λ_ s₂ h₂=>?_) λ_ _ z=>z.elim)
  refine ja (jk h₂ (λ_ s₃ h₃=>?_) λ_ _ z=>z.elim)
  refine ja (jk h₃ (λok s₄ h₄=>?_) λ_ _ z=>z.elim)
  cases ok with
  |false=>exact jj ⟨rfl,h₄⟩
  |true=>exact ja (ja (jk h₄ (λx s₅ h₅=>ja (jk h₅ (λ_ s₆ h₆=>jj (jj ⟨rfl,h₆⟩)) λ_ _ z=>z.elim)) λ_ _ z=>z.elim))
abbrev sV(X:Cx) (scope:jU) (cl:List (Str×Addr)) (N:List Str) (C:Addr) (s:iV) (H:Hp) (fp:List Addr):Cx where
 prog:=X.prog
 w:=X.w
 K:=X.K
 mg:=X.mg
 base:=X.base
 A:=X.A
 N:=N
 s₀:=s
 H₀:=H
 env:=compEnvC scope cl C X.env
 outer:=X.stack
 stack:=X.stack
 ex:=fp
 fn:=λ_=>false
 calm:=X.calm
 pn:=[]
 xe:=λ_ _=>False
def PF(X:Cx) (ifs:List Expr) (t:TT):Prop :=
 ∀(nA:List (Addr×Obj)) (s:iV) (σ:St) (H:Hp) (Q:Bool->Hp->Prop),Inv X nA σ H s->t σ H Q ->
  jb (iY X.prog X.w) X.A (forIn ifs true λc r=>if r=true then do let ok ←isTrue c X.env (eval c X.env);pure (ForInStep.yield ok) else pure (ForInStep.yield r)) (TP X nA σ Q) X.xe s
def Vn:TT:=λ_ H Q=>Q true H
theorem IM{X:Cx}:PF X [] Vn:=λ_ _ _ H _ I h=>wpAny_tests_nil ⟨H,I,h⟩
structure zQ (X:Cx) (scope:jU) (cl:List (Str×Addr)) (x:Str) (N:List Str) (fr:List Nat):Prop where
 names:N.Nodup
 own:N[0]?=some x
 len:N.length=fr.length+1
 sub:∀y c,cl.lookup y=some c->X.env.cells.lookup y=some c
 has:∀y,((ku scope X.env).names.lookup y=some .cell∨(ku scope X.env).names.lookup y=some .free)->∃c,cl.lookup y=some c
 get:∀(k j:Nat) (y:Str),fr[k]?=some j->N[k+1]?=some y->X.N[j]?=some y/\X.env.scope.names.lookup y=some .cell/\(ku scope X.env).names.lookup y=some .cell
theorem zQ.none{X:Cx}{scope:jU}{x:Str}(h:∀p∈scope.names,p.2 ≠ .cell/\p.2 ≠ .free):zQ X scope [] x [x] [] where
 names:=by simp
 own:=rfl
 len:=rfl
 sub:=λy c e=>by cases e
 has:=λy e=>by
  exfalso;have key:∀p∈(ku scope X.env).names,p.2 ≠ .cell/\p.2 ≠ .free:=by
   intro p hp;obtain⟨q,hq,rfl⟩:=mMq.mp hp;obtain⟨n,k⟩:=q;obtain⟨h1,h2⟩:=h _ hq;have hk:(k == NameKind.free)=false:=by simpa using h2
   simp only[hk,iB];exact⟨h1,h2⟩
  rcases e with e|e
  .exact (key _ (PySem.mem_of_lookup e)).1 rfl
  .exact (key _ (PySem.mem_of_lookup e)).2 rfl
 get:=λk j y e _=>by cases e
def slots(σ:St) (fr:List Nat):St:=fr.map λj=>(σ[j]?).join
def LI(wi:TI) (fr:List Nat) (tf:TT) (te:TE):TE:=λσ H Q=>wi σ H λJ H1=>∀acc,H1 acc=none->∃W:Nat->Nat->Hp->Prop,(∃m,W 0 m (upd H1 acc (.lst [])))/\∀i m H,W i m H ->
 (J.stop i H/\Q (.ref acc) H) ∨
 (J.go i H/\∃N:Hp->Prop,(∀H',N H'->∃m',m'<m/\W (i+1) m' H')/\∀x H',J.yld i H x H'->tf (some x::slots σ fr) H' λb H2 =>
  if b=true then te (some x::slots σ fr) H2 λy H3=>∃ys,H3 acc=some (.lst ys)/\ys.length<jc/\N (upd H3 acc (.lst (ys++[y]))) else N H2)
section
variable {X:Cx}{scope:jU}{cl:List (Str×Addr)}{N:List Str}{fr:List Nat}{x:Str}{px pos:Pos}{elt iter:Expr}{ifs:List Expr}{tf:TT}{te:TE}
theorem HB{nA:List (Addr×Obj)}{σ:St}{H:Hp}{s:iV}{E:Value->iV->Prop}{J:It}{fp:List Addr}{it:Addr}{tn:Nat->Heap->Prop}{RR:Value->Addr->Result->iV->Prop}{Q:VK}
  (hc:X.calm=true) (hcell:∀y∈scope.names,y.2 ≠ .cell) (hkind:scope.kind = .function) (hx:scope.names.lookup x=some .local) (hF:zQ X scope cl x N fr)
  (hf:∀C s H fp,PF (sV X scope cl N C s H fp) ifs tf) (he:∀C s H fp,PE (sV X scope cl N C s H fp) elt te)
  (I:Inv X nA σ H s) (T:Kb X.prog X.w X.K (.Name x px) J fp it tn) (st:tn 0 s.heap) (fpo:∀b∈fp,Bo X nA H b)
  (h:∀acc,H acc=none->∃W:Nat->Nat->Hp->Prop,(∃m,W 0 m (upd H acc (.lst [])))/\∀i m H,W i m H ->
   (J.stop i H/\Q (.ref acc) H) ∨
   (J.go i H/\∃N:Hp->Prop,(∀H',N H'->∃m',m'<m/\W (i+1) m' H')/\∀x H',J.yld i H x H'->tf (some x::slots σ fr) H' λb H2 =>
    if b=true then te (some x::slots σ fr) H2 λy H3=>∃ys,H3 acc=some (.lst ys)/\ys.length<jc/\N (upd H3 acc (.lst (ys++[y]))) else N H2))
  (fin:∀acc C s' Hf m,Inv X nA σ Hf s'->s'.heap.Ns C m->Bo X nA Hf C->Q (.ref acc) Hf->RR (.ref acc) C (.ok .next) s') :
  jb (iY X.prog X.w) X.A (newList []) (λacc s₃=>jb (iY X.prog X.w) X.A (newFunctionEnv scope X.env.globals cl [] X.env.qual none .none (some X.env)) (λcenv s₄ =>
   kH (iY X.prog X.w) X.A (.compStart (.ListComp elt [⟨.Name x px,iter,ifs,0⟩] scope pos) 0 (.ref it) acc { cenv with scope:=ku scope X.env }) (RR acc cenv.locals) s₄) E s₃) E s:=by
 refine wpAny_newObj_type (wpAny_newFunctionEnv hcell (by intro y hy;simp at hy) (λh₁ hns₁ hsb₁=>?_) hkind)
 dsimp only at hns₁ hsb₁ ⊢;generalize hG:s.heap.push { cls:=.type "list", dict:=none,data:=.seq ([]:List Value).toArray }=G at hns₁ hsb₁ ⊢;have hC:G.objs.size=s.heap.objs.size+1:=by rw[←hG,gI]
 have hCle:s.heap.objs.size<=G.objs.size:=by rw[hC];exact bO _
 have hDC:s.heap.objs.size≠G.objs.size:=by rw[hC];exact aS (dR _)
 have below:∀b,b<s.heap.objs.size->b≠G.objs.size:=λb hb=>by rw[hC];exact aS (cu hb)
 have old:∀b o,s.heap.get? b=some o->h₁.get? b=some o:=λb o e=>hsb₁.extBut b o (below b (aq e)) (aj _ (hG ▸ aj _ e))
 have hacc:h₁.get? s.heap.objs.size=some { cls:=.type "list", data:=.seq ([]:List Value).toArray }:=hsb₁.extBut _ _ hDC (aj _ (hG ▸ bh _ rfl));have hn:H s.heap.objs.size=none:=I.hok.fresh (ae _);have hnC:H G.objs.size=none:=I.hok.fresh hCle;have fpl:∀b∈fp,b<s.heap.objs.size:=λb hb=>by
  obtain⟨o,q,_⟩:=T.obj 0 _ st b hb;exact aq q
 obtain⟨W,⟨m0,w0⟩,turn⟩:=h _ hn;have ok':(sV X scope cl N G.objs.size s H fp).Ok:=by
  refine⟨I.ok.mod,by show (ku scope X.env).kind = .function;exact hkind,I.ok.glob,I.ok.blt,hCle,λy z c h1 h2=>I.ok.inj y z c (hF.sub y c h1) (hF.sub z c h2),hF.has,λ_ _ z _=>(by cases z),I.ok.hd,I.ok.frames,.inl rfl,
   λb hb=>⟨below b (fpl b hb),λy c e=>(fpo b hb).2.2.2.2.1 y c (hF.sub y c e)⟩,λb o e=>⟨(I.bs b o e).1,(I.bs b o e).2⟩,bN I.ok.bsz I.sz,λb o e hb=>?_,λb hb z=>?_,I.stack,I.stkFree⟩
  .rcases (fpo b hb).2.2.2.1 with q|q
   .exact I.ok.noex b o e q
   .exact absurd (aR (aq (I.ok.bs b o e).1) q) (cD _)
  .rcases ah.mp (I.stkSub b z) with q|q
   .exact (fpo b hb).2.1 q
   .exact (fpo b hb).2.2.1 q
 have I0:Inv (sV X scope cl N G.objs.size s H fp) [] (none::slots σ fr) (upd H s.heap.objs.size (.lst [])) { s with heap:=h₁,toks:=s.toks+([]:List (Str×Value)).length }:=by
  have hok1:xl X.prog X.w (upd H s.heap.objs.size (.lst [])) h₁:=I.hok.laid old (ae _) ⟨bg _,[],0,.nil,hacc⟩;refine⟨ok',rfl,I.bare,Un.laid old (ae _) hn,⟨_,hns₁,λk y v e1 e2 e3=>?_⟩,λy c e=>?_,?_,λy c e=>?_,λp hp=>absurd (show p∈([]:List (Addr×Obj)) from hp) (by simp),hok1,?_⟩
  .cases k with
   |zero=>cases e2
   |succ k =>
    have e2':(slots σ fr)[k]?=some (some v):=e2;unfold slots at e2';rw[gMq]at e2';cases ej:fr[k]? with
    |none=>rw[ej]at e2';cases e2'
    |some j =>
     rw[ej]at e2';have e2j:(σ[j]?).join=some v:=aT.inj e2';have e2s:σ[j]?=some (some v):=by
      cases q:σ[j]? with
      |none=>rw[q]at e2j;cases e2j
      |some z=>rw[q]at e2j;exact congrArg some e2j
     obtain⟨g1,g2,g3⟩:=hF.get k j y ej e1;obtain⟨m,_,hl⟩:=I.loc;obtain⟨u,r,l⟩:=hl j y v g1 e2s (.inr (.inl g2));refine⟨u,r,.inr ⟨.inl g3,?_⟩⟩;obtain⟨c,e⟩:=hF.has y (.inl g3);have e':=hF.sub y c e;rcases l with ⟨l1,_⟩|⟨_,c',ec,hcell'⟩
     .have l1':X.env.scope.names.lookup y=some .local:=l1;rw[g2]at l1';cases l1'
     .rw [e']at ec;cases ec;obtain⟨o,ho,hd⟩:=hcell';exact⟨c,e,o,old c o ho,hd⟩
  .obtain ⟨v,o,ho,hd⟩:=I.cell y c (hF.sub y c e);exact⟨v,o,old c o ho,hd⟩
  .show upd H s.heap.objs.size (.lst []) G.objs.size=none;rw[nV (Ne.symm hDC)];exact hnC
  .obtain ⟨v,o,ho,hd⟩:=I.cell y c (hF.sub y c e);rw[nV (aS (aq ho))];exact I.freeC y c (hF.sub y c e)
  .show (none::slots σ fr).length=N.length;rw[hF.len,lCq];unfold slots;rw[lMq]
 have WA:tn 0 h₁:=T.keep 0 _ _ st λb _ o e=>old b o e
 have nd:N.Nodup:=hF.names;have nf0:∀b∈fp,upd H s.heap.objs.size (.lst []) b=none:=λb hb=>by
  rw[nV (aS (fpl b hb))];exact(fpo b hb).1
 have stat:∀{H':Hp},(∀b∈fp,H' b=none)->∀b∈fp,Bo (sV X scope cl N G.objs.size s H fp) [] H' b:=λhn' b hb =>
  ⟨hn' b hb,below b (fpl b hb),ok'.exfs b hb,.inl hb,λy c e=>(ok'.exf b hb).2 y c e,λp hp=>absurd (show p∈([]:List (Addr×Obj)) from hp) (by simp)⟩
 have loop:∀s₃:iV,s₃={ s with heap:=h₁,toks:=s.toks+([]:List (Str×Value)).length } ->
   kH (iY X.prog X.w) X.A (.compLoop (.ListComp elt [⟨.Name x px,iter,ifs,0⟩] scope pos) 0 (.ref it) (.ref s.heap.objs.size) (compEnvC scope cl G.objs.size X.env)) (RR (.ref s.heap.objs.size) G.objs.size) s₃:=by
  rintro s₃ rfl;refine FY (λn s'=>∃i v0 H',Inv (sV X scope cl N G.objs.size s H fp) [] (v0::slots σ fr) H' s'/\tn i s'.heap/\(∀b∈fp,H' b=none)/\W i n H') ?_ m0 ⟨0,none,_,I0,WA,nf0,w0⟩
  rintro n s4 ⟨i,v0,H4,I4,WE,nf4,w4⟩;rcases turn i n H4 w4 with ⟨stop,q⟩|⟨go,Nx,hNx,step⟩
  .refine thn (T.done (sV X scope cl N G.objs.size s H fp) rfl rfl rfl hc i [] s4 (v0::slots σ fr) H4 (λ_ _=>False) I4 (stat nf4) WE stop) λr s5 hz1=>?_
   obtain⟨hr,I5⟩:=hz1;subst hr;obtain⟨m,hm,_⟩:=I5.loc;have I6:Inv X nA σ H4 s5:=I.call' (ch:=fp) I5.os I5.base I5.hok I5.bare λb hb=>⟨(fpo b hb).2.2.2.1,(fpo b hb).2.1,(fpo b hb).2.2.2.2.1,(fpo b hb).2.2.2.2.2⟩
   exact fin _ _ s5 H4 m I6 hm (I.fpOk hCle I5.free) q
  .refine thn (T.item (sV X scope cl N G.objs.size s H fp) rfl rfl rfl hc i [] s4 (v0::slots σ fr) H4 (λ_ _=>False) I4 (stat nf4) WE go) λr s5 hz1=>?_
   obtain⟨u,hr,h5⟩:=hz1;subst hr;refine thn h5 λ_ s6 hz1=>?_
   obtain⟨y,H6,I6,r6,y6,st6,nf6⟩:=hz1;have I6':=I6.pinned (stat nf6) (T.obj _ _ st6);have pg:PG (sV X scope cl N G.objs.size s H fp) (.Name x px) (qt 0):=pW nd hF.own (.inl (lB hx)) (.inr (lB hx));refine thn (pg _ s6 (v0::slots σ fr) H6 y u (λσ2 H2=>σ2=some y::slots σ fr/\H2=H6) I6' r6 ⟨rfl,rfl⟩) λ_ s7 hz1=>?_
   obtain⟨σ7,H7,I7,e7,e8⟩:=hz1;subst e7 e8;refine thn (hf _ _ _ _ _ s7 _ _ _ I7 (step y _ y6)) λb s8 hz1=>?_
   obtain⟨H8,I8,q8⟩:=hz1;have again:∀{s9:iV}{H9:Hp},Inv (sV X scope cl N G.objs.size s H fp) ([]++CU fp s6.heap) (some y::slots σ fr) H9 s9->Nx H9->∃m,m<n/\∃i v0 H',Inv (sV X scope cl N G.objs.size s H fp) [] (v0::slots σ fr) H' s9/\tn i s9.heap/\(∀b∈fp,H' b=none)/\W i m H':=λ{s9 H9} I9 n9=>by
    obtain⟨m',hm,w9⟩:=hNx H9 n9;refine⟨m',hm,i+1,some y,H9,I9.unpinned,T.keep _ _ _ st6 λb hb o e=>(I9.pin (b,o) (ar _ (ar _ (wC hb e)))).1,λb hb=>?_,w9⟩
    obtain⟨o,e,d⟩:=T.obj _ _ st6 b hb;exact(I9.pin (b,o) (ar _ (ar _ (wC hb e)))).2.1
   cases b with
   |false=>exact again I8 q8
   |true =>
    refine thn (he _ _ _ _ _ s8 _ _ _ I8 q8) λz s9 hz1=>?_
    obtain⟨zv,H9,I9,r9,ys,a9,l9,n9⟩:=hz1;refine thn (oM (X:=sV X scope cl N G.objs.size s H fp) _ s9 _ H9 (.ref s.heap.objs.size) [zv] (.ref s.heap.objs.size) [z] (λ_ H'=>H'=upd H9 s.heap.objs.size (.lst (ys++[zv]))) I9 rfl (.cons r9 .nil) ⟨_,ys,zv,rfl,rfl,a9,l9,rfl⟩) λ_ s10 hz1=>?_
    obtain⟨_,H10,I10,_,e10⟩:=hz1;subst e10;exact again I10 n9
 exact codeAny_compStart_list (loop _ rfl) (T.self X.A 0 _ _ _ WA (loop _ rfl))
theorem EC{wi:TI}(hc:X.calm=true) (hclos:closureFor scope X.env=pure cl) (hcell:∀y∈scope.names,y.2 ≠ .cell) (hkind:scope.kind = .function) (hnames:∀y∈scope.names,y.2 = .local->scope.names.lookup y.1=some .local)
  (hx:scope.names.lookup x=some .local) (hF:zQ X scope cl x N fr) (hi:PI X (.Name x px) iter wi) (hf:∀C s H fp,PF (sV X scope cl N C s H fp) ifs tf) (he:∀C s H fp,PE (sV X scope cl N C s H fp) elt te)
  (hs:∀x,foldedSetIterable iter X.env x=pure x:=by intro _;rfl):PE X (.ListComp elt [⟨.Name x px,iter,ifs,0⟩] scope pos) (LI wi fr tf te):=by
 intro nA s σ H Q I h;rw[eval_ListComp];refine wpAny_comprehension_free (use:=none) rfl hs hclos hkind hnames (thn (hi nA s σ H _ I h) λv s1 h1=>thn h1 λitv s2 h2=>?_)
 obtain⟨it,fp,tn,J,H2,e,I2,T,Hb,f2,q2⟩:=h2;subst e;refine HB (RR:=λacc C=>compPost (iY X.prog X.w) X.A X.xe none (EP X nA σ Q) acc C) hc hcell hkind hx hF hf he I2 T Hb f2 q2 ?_
 intro acc C s' Hf m I' hm fC q;refine⟨m,hm,λh' sb=>⟨.ref acc,Hf,?_,rfl,q⟩⟩
 exact I'.turned (t':=s'.toks) (λb o hb e=>(sb.2 b hb).trans e) fC.1 fC.2.1 fC.2.2.2.1 fC.2.2.2.2.1 fC.2.2.2.2.2
end
end Mr
namespace MrS
open PySem PyProof.Rows
section
variable {prog:je}{w:jf}{A:Around}{E:Value->iV->Prop}{s:iV}{Pk:iW->Prop}{lt:iW->iW->Bool}
abbrev tI(h:Heap) (a:Addr) (vs:List Value):Heap:=((h.update a (Obj.mapSeq λ_=>#[])).push (jm "tuple" vs.toArray 0)).push (jm "list" #[] 0)
theorem yG{a:Addr}{vs:List Value}{n:Nat}{P:PySem.Fin->iV->Prop}(ho:s.heap.get? a=some (jm "list" vs.toArray n)) (hs:vs.length<=jc)
  (hkk:2<=vs.length->∀Q:jz->iV->Prop,Q jN { s with heap:=tI s.heap a vs }->jb (iY prog w) A (keyKind' vs.toArray) Q E { s with heap:=tI s.heap a vs })
  (C:xq prog w A { s with heap:=tI s.heap a vs } jN Pk lt) (hp:∀x,x∈jG vs->Pk x)
  (h:∀xs:Array iW,xs.Perm (jG vs)->yX lt xs 0 (jG vs).size->P (.done (.ret .none)) { s with heap:=kF s.heap a vs (xs.map (·.2)) }) :
  jb (iY prog w) A (Builtin.«list.sort» ⟨[.ref a],[]⟩) P E s:=by
 rw[list_sort_plain];have ha:a<s.heap.objs.size:=aq ho;refine ja (listItems_at ho rfl ?_);refine ja (lH ho rfl ?_ (hsz:=by simpa using hs))
 obtain⟨e1,ho1⟩:∃e1,(s.heap.update a (Obj.mapSeq λ_=>#[])).get? a=some (jm "list" #[] e1):=⟨_,kN ho (λ_=>#[])⟩
 refine ja (lR ho1 rfl ?_);refine ja (wpAny_newTuple ?_);refine ja (kA ?_);refine jI ?_;have ho6:(tI s.heap a vs).get? a=some (jm "list" #[] e1):=by
  rw[eO _ _ _ (by rw[size_push',dS];exact aS (cu ha)),eO _ _ _ (by rw[dS];exact aS ha)]
  exact ho1
 show jb (iY prog w) A _ P E { s with heap:=tI s.heap a vs }
 dsimp only;have hsz:vs.toArray.size=vs.length:=by simp
 have hs':jc=16777216:=jt
 by_cases h2:vs.toArray.size<2
 .rw [oq h2,oq h2];refine ja (jj ?_);rw[StateT.run_pure];refine ja (jj ?_);dsimp only;refine ja (lR ho6 rfl ?_);refine ja (lH ho6 rfl ?_ (hsz2:=by rw[iD];show (jG vs).size<=_;rw[ko,jt];lia))
  simp only[bne_self_eq_false,eC,if_false];refine jj (h _ (iA.refl _) ?_);intro i j x y _ hij hj ex ey;have:i=j:=by rw[ko]at hj;lia
  subst this;rw[ex]at ey;cases ey;exact C.refl (hp x (aQq ex))
 .rw [oz h2,oz h2];refine ja (hkk (by lia) _ ?_)
  refine ja (jk (Er C (arr:=jG vs) (g:=7) (E:=E)
   (Q:=λ_ st'=>∃xs p g',st'=wX jN xs p g'/\xs.Perm (jG vs)/\yX lt xs 0 (jG vs).size) hp (by rw[ko];lia) λxs p g' a1 a2=>⟨xs,p,g',rfl,a1,a2⟩) ?_ λ_ _ e=>e)
  rintro⟨⟨⟩,st'⟩ s' ⟨rfl,xs,p,g',rfl,hpm,hsg⟩;dsimp only;refine ja (lR ho6 rfl ?_);refine ja (lH ho6 rfl ?_ (hsz2:=by refine bN (fL ((iD ..).trans (hpm.size_eq.trans (ko _)))) ?_;lia))
  simp only[bne_self_eq_false,eC,if_false];exact jj (h xs hpm hsg)
theorem JG{h:Heap}{a:Addr}{xs:Array Value}{n:Nat}(vs:List Value) (ho:h.get? a=some (jm "list" xs n)):∃e1,(tI h a vs).get? a=some (jm "list" #[] e1):=by
 have ha:a<h.objs.size:=aq ho;obtain⟨e1,ho1⟩:∃e1,(h.update a (Obj.mapSeq λ_=>#[])).get? a=some (jm "list" #[] e1):=⟨_,kN ho (λ_=>#[])⟩
 refine⟨e1,?_⟩;rw[eO _ _ _ (by rw[size_push',dS];exact aS (cu ha)),eO _ _ _ (by rw[dS];exact aS ha)]
 exact ho1
theorem J0{h:Heap}{a:Addr}{xs:Array Value}{n:Nat}(ys:Array Value) (ho:h.get? a=some (jm "list" xs n)):∃n1,(h.update a (Obj.mapSeq λ_=>ys)).get? a=some (jm "list" ys n1):=⟨_,kN ho (λ_=>ys)⟩
theorem va{vs:List Value}{x:iW}(h:x∈jG vs):x.1∈vs/\x.2=x.1:=by
 obtain⟨i,hi,e⟩:=Array.mem_iff_getElem.mp h;have hi':i<vs.length:=by rw[ko]at hi;exact hi
 have:x=(vs[i],vs[i]):=by
  rw[←e];simp[jG]
 rw[this];exact⟨gRq hi',rfl⟩
theorem A4{vs:List Value}{xs:Array iW}(hp:xs.Perm (jG vs)) (hs:yX lt xs 0 (jG vs).size) :
  (xs.map (·.2)).toList.Perm vs/\(xs.map (·.2)).toList.Pairwise (λx y=>lt (y,y) (x,x)=false):=by
 constructor
 .have:=hp.toList.map (·.2);have e:(jG vs).toList.map (·.2)=vs:=by
   have:(jG vs).toList=vs.zip vs:=by simp[jG]
   rw[this];apply List.ext_getElem
   .simp
   .intro i h1 h2;simp
  rw[e]at this;rw[Array.toList_map];exact this
 .rw [bM];intro i j hi hj hij;have hi':i<xs.size:=by simpa using hi
  have hj':j<xs.size:=by simpa using hj
  have z:=hs i j xs[i] xs[j] (bg _) (cJ hij) (by rw[←hp.size_eq];exact hj') (by simp[hi']) (by simp[hj'])
  have m1:=va (hp.mem_iff.mp (aY hi'));have m2:=va (hp.mem_iff.mp (aY hj'));have e1:xs[i]=(xs[i].2,xs[i].2):=iw m1.2.symm rfl;have e2:xs[j]=(xs[j].2,xs[j].2):=iw m2.2.symm rfl;rw[e1,e2]at z;simpa using z
theorem CS{l:Addr}{vs:List Value}{Q:Value->iV->Prop}(hl:s.heap.IsList l vs.toArray) (hs:vs.length<=jc)
  (hC:∀s':iV,(∀b o,s.heap.get? b=some o->s'.heap.get? b=some o)->(2<=vs.length->∀Q:jz->iV->Prop,Q jN s'->jb (iY prog w) A.in1.in1 (keyKind' vs.toArray) Q E s')/\xq prog w A.in1.in1 s' jN Pk lt)
  (hp:∀v∈vs,Pk (v,v))
  (h:∀(out:List Value) (h':Heap) (n':Nat),out.Perm vs->out.Pairwise (λx y=>lt (y,y) (x,x)=false)->(∀b o,s.heap.get? b=some o->h'.get? b=some o) ->
   h'.get? (s.heap.objs.size+1)=some (jm "list" out.toArray n')->Q (.ref (s.heap.objs.size+1)) { s with heap:=h' }) :
  jb (iY prog w) A (call (.builtin "sorted") [.ref l]) Q E s:=by
 refine Calls.call_function_entry kind_sorted plain_sorted entry_sorted (args_sorted1 _) ?_;unfold Builtin.«sorted»;refine ja (m:=checkCount "sorted" 1 1 _) (jj ?_);refine ja (collect_list hl ?_ hs);refine ja (kA ?_);have hsz:((s.heap.push (jm "list" #[] 0)).update s.heap.objs.size (Obj.mapSeq (· ++ vs.toArray))).objs.size=s.heap.objs.size+1:=by
  rw[dS,size_push']
 have hoL:(((s.heap.push (jm "list" #[] 0)).update s.heap.objs.size (Obj.mapSeq (· ++ vs.toArray))).push (jm "list" vs.toArray 0)).get? (s.heap.objs.size+1)=some (jm "list" vs.toArray 0):=by
  rw[←hsz];exact bh _ rfl
 show jb _ _ _ _ _ { s with heap:=((s.heap.push (jm "list" #[] 0)).update s.heap.objs.size (Obj.mapSeq (· ++ vs.toArray))).push (jm "list" vs.toArray 0) }
 rw[hsz];generalize hG:((s.heap.push (jm "list" #[] 0)).update s.heap.objs.size (Obj.mapSeq (· ++ vs.toArray))).push (jm "list" vs.toArray 0)=G at hoL ⊢;have k1:∀b o,s.heap.get? b=some o->G.get? b=some o:=λb o e=>by
  rw[←hG];refine aj _ ?_;rw[cV _ _ _ _ (aS (aq e))];exact aj _ e
 have k2:∀b o,s.heap.get? b=some o->(tI G (s.heap.objs.size+1) vs).get? b=some o:=λb o e=>by
  refine aj _ (aj _ ?_);rw[cV _ _ _ _ (aS (cu (aq e)))];exact k1 b o e
 obtain⟨q1,q2⟩:=hC { s with heap:=tI G (s.heap.objs.size+1) vs } k2
 refine ja (jI (wpAny_call_entry slot_list_sort ⟨_,hoL,rfl⟩ entry_list_sort (yG (Pk:=Pk) (lt:=lt) hoL hs q1 q2 (λx hx=>?_) λxs a1 a2=>⟨_,rfl,?_⟩) (args_list_sort _)))
 .obtain ⟨m1,m2⟩:=va hx;have:x=(x.1,x.1):=iw rfl m2;rw[this];exact hp _ m1
 .obtain ⟨v1,v2⟩:=A4 a1 a2;obtain⟨e1,ho1⟩:=JG vs hoL;obtain⟨n1,g1⟩:=J0 (xs.map (·.2)) ho1;refine jj ⟨_,rfl,h _ (kF G (s.heap.objs.size+1) vs (xs.map (·.2))) n1 v1 v2 (λb o e=>?_) ?_⟩
  .unfold kF;rw[cV _ _ _ _ (aS (cu (aq e)))];exact k2 b o e
  .rw [show (xs.map (·.2)).toList.toArray=xs.map (·.2) from gL]
   exact g1
end
end MrS
namespace HT
open PySem PyProof.Rows
section
open PySem.SeqAt
open PySem.AutoSeq1 (wpAny_loadPart')
open PySem.MeetsSeq PySem.MeetsSeq2 PySem.MeetsSeq3 PySem.SeqRoads2
theorem Gx{vs:List Value}{ns:List Int}(h:ju vs ns):∀{i:Nat}(hi:i<vs.length),∃(z:Int) (t:Tok),vs[i] = .int z t/\ns.drop i=z::ns.drop (i+1):=by
 induction h with
 |nil=>intro i hi;exact absurd hi (dh _)
 |cons a t _ ih =>
  intro i hi;cases i with
  |zero=>exact⟨a,t,rfl,rfl⟩
  |succ i=>exact ih (i:=i) (by simpa using hi)
theorem EW(l b:Addr) (items items2:Array Value) (n n2:Nat) (dd dd2:Option Addr) (sl sl2:Array (Option Value)) (ns ms:List Int) (hi:ju items.toList ns) (hj:ju items2.toList ms) (k:Nat) :
  ∀i:Nat,min items.size items2.size-i=k->i<=items.size->i<=items2.size->Meets (Builtin.«list.__eq__.loop» ⟨[.ref l,.ref b,jX i,jX 0],[]⟩)
   (λ_ R s=>s.heap.get? l=some { cls:=.type "list", dict:=dd,data:=.seq items n,slots:=sl }/\s.heap.get? b=some { cls:=.type "list", dict:=dd2,data:=.seq items2 n2,slots:=sl2 } /\
    R (.ok (.ret (.bool (qK (ns.drop i) (ms.drop i))))) s):=by
 have z1:ns.length=items.size:=by rw[←hi.length];simp
 have z2:ms.length=items2.size:=by rw[←hj.length];simp
 induction k with
 |zero =>
  intro i hk h1 h2 prog w A R s h;obtain⟨hp,g,d,tk,os⟩:=s;obtain⟨hl,hb,h⟩:=h
  wp_walk using wpAny_loadPart' hl,wpAny_loadPart' hb
  have fin:qK (ns.drop i) (ms.drop i)=decide (items.size<items2.size):=by
   by_cases c:i=items.size
   .have e1:ns.drop i=[]:=bJ (by lia)
    rw[e1]
    by_cases c2:i<items2.size
    .rw [aB (by lia:i<ms.length),BP]
     exact(decide_eq_true (by lia)).symm
    .rw [bJ (by lia:ms.length<=i),Dm]
     exact(decide_eq_false (by lia)).symm
   .have c2:i=items2.size:=by lia
    rw[aB (by lia:i<ns.length),bJ (by lia:ms.length<=i),Cm]
    exact(decide_eq_false (by lia)).symm
  rw[fin]at h
  by_cases c:i=items.size
  .have GU:items[((i:Nat):Int).toNat]?=none:=by simp;lia
   rw[GU]
   wp_walk using wpAny_loadPart' hl,wpAny_loadPart' hb
   exact h
  .have c2:i=items2.size:=by lia
   have GU:items[((i:Nat):Int).toNat]?=some (items[i]'(by lia)):=by simp
   have hi2:items2[((i:Nat):Int).toNat]?=none:=by simp;lia
   rw[GU,hi2]
   wp_walk using wpAny_loadPart' hl,wpAny_loadPart' hb
   exact h
 |succ k ih =>
  intro i hk h1 h2 prog w A R s h;obtain⟨hp,g,d,tk,os⟩:=s;obtain⟨hl,hb,h⟩:=h
  wp_walk using wpAny_loadPart' hl,wpAny_loadPart' hb
  have hlt:i<items.size:=by lia
  have hlt2:i<items2.size:=by lia
  obtain⟨x,t,ex,dx⟩:=Gx hi (i:=i) (by simpa using hlt)
  obtain⟨y,u,ey,dy⟩:=Gx hj (i:=i) (by simpa using hlt2)
  have GU:items[((i:Nat):Int).toNat]?=some (.int x t):=by
   rw[←ex];simp[hlt]
  have hi2:items2[((i:Nat):Int).toNat]?=some (.int y u):=by
   rw[←ey];simp[hlt2]
  have hc:((i:Int)+1)=((i+1:Nat):Int):=by push_cast;rfl
  rw[dx,dy,wo]at h;rw[GU,hi2];obtain⟨e,he,hiff⟩:=ON A.in1 ⟨hp,g,d,tk,os⟩ x t y u;refine ja (he prog w _ _ ?_);cases e with
  |true =>
   rw[oq (hiff.mp rfl)]at h
   wp_walk
   rw[hc];exact⟨kB plain_eq_loop _,jL entry_eq_loop (by
    rw[Around.under_plainId plain_eq_loop _];exact ih (i+1) (by lia) (by lia) (by lia) prog w A R _ ⟨hl,hb,h⟩)⟩
  |false =>
   rw[oz (λq=>absurd (hiff.mpr q) aH)]at h
   have hri:=Ox A.in1 ⟨hp,g,d,tk,os⟩ x t y u prog w
   wp_walk using wpAny_loadPart' hl,wpAny_loadPart' hb
   rw[GU,hi2]
   wp_walk using hri
   exact h
theorem zr(l b:Addr) (items items2:Array Value) (n n2:Nat) (dd dd2:Option Addr) (sl sl2:Array (Option Value)) (ns ms:List Int) (hi:ju items.toList ns) (hj:ju items2.toList ms) :
  Meets (Builtin.«list.__lt__» ⟨[.ref l,.ref b],[]⟩)
   (λ_ R s=>s.heap.get? l=some { cls:=.type "list", dict:=dd,data:=.seq items n,slots:=sl }/\s.heap.get? b=some { cls:=.type "list", dict:=dd2,data:=.seq items2 n2,slots:=sl2 } /\
    R (.ok (.ret (.bool (qK ns ms)))) s):=by
 intro prog w A R s h;obtain⟨hp,g,d,tk,os⟩:=s;obtain⟨hl,hb,h⟩:=h;have f3:=AutoSeq1.sub_list_list
 wp_walk using wpAny_loadPart' hl,wpAny_loadPart' hb
 exact⟨kB plain_eq_loop _,jL entry_eq_loop (by
  rw[Around.under_plainId plain_eq_loop _];exact EW l b items items2 n n2 dd dd2 sl sl2 ns ms hi hj _ 0 rfl (bg _) (bg _) prog w A R _ ⟨hl,hb,h⟩)⟩
end
end HT
namespace Mr
open PySem PySem.Spec PyProof.Rows L2
section
open HT
theorem zL:∀xs ys:List Int,qK xs ys=true->qK ys xs=false
 | [],[],_=>rfl
 | [],_::_,_=>rfl
 |_::_,[],h=>by cases h
 |x::xs,y::ys,h=>by
  rw[wo]at h ⊢
  by_cases e:x=y
  .rw [oq e]at h;rw[oq e.symm];exact zL xs ys h
  .rw [oz e]at h;rw[oz (Ne.symm e)];have h':x<y:=of_decide_eq_true h;exact decide_eq_false (by lia)
theorem yz:∀xs ys zs:List Int,qK ys xs=false->qK zs ys=false->qK zs xs=false
 | [],[],[],_,_=>rfl
 | [],[],_::_,_,h=>by exact h
 | [],_::_,[],_,h=>by cases h
 | [],_::_,_::_,_,_=>rfl
 |_::_,[],_,h,_=>by cases h
 |_::_,_::_,[],_,h=>by cases h
 |x::xs,y::ys,z::zs,h1,h2=>by
  rw[wo]at h1 h2 ⊢
  by_cases e1:y=x
  .rw [oq e1]at h1;subst e1
   by_cases e2:z=y
   .rw [oq e2]at h2 ⊢;exact yz xs ys zs h1 h2
   .rw [oz e2]at h2 ⊢;exact h2
  .rw [oz e1]at h1;have h1':¬ y<x:=of_decide_eq_false h1
   by_cases e2:z=y
   .rw [oz (by lia)]
    exact decide_eq_false (by lia)
   .rw [oz e2]at h2;have h2':¬ z<y:=of_decide_eq_false h2;rw[oz (by lia)]
    exact decide_eq_false (by lia)
theorem zT:∀xs ys:List Int,qK xs ys=false->qK ys xs=false->xs=ys
 | [],[],_,_=>rfl
 | [],_::_,h,_=>by cases h
 |_::_,[],_,h=>by cases h
 |x::xs,y::ys,h1,h2=>by
  rw[wo]at h1 h2
  by_cases e:x=y
  .rw [oq e]at h1;rw[oq e.symm]at h2;rw[e,zT xs ys h1 h2]
  .rw [oz e]at h1;rw[oz (Ne.symm e)]at h2;have h1':¬ x<y:=of_decide_eq_false h1;have h2':¬ y<x:=of_decide_eq_false h2;lia
def P1(x y:List Int):Bool:=!HT.qK y x
theorem Ky(x y z:List Int) (h1:P1 x y=true) (h2:P1 y z=true):P1 x z=true:=by
 unfold P1 at *;simp only[eQ]at *;exact yz x y z h1 h2
theorem Kc(x y:List Int):(P1 x y || P1 y x)=true:=by
 unfold P1;cases h:HT.qK y x with
 |false=>rfl
 |true=>rw[zL y x h];rfl
def tu(rs:List (List Int)):List (List Int):=rs.mergeSort P1
theorem qF(rs:List (List Int)):(tu rs).Perm rs:=fO _ _
theorem wU(rs:List (List Int)):(tu rs).Pairwise (λx y=>HT.qK y x=false):=by
 refine(eG Ky Kc rs).imp λ{a b} h=>?_
 unfold P1 at h;simpa using h
theorem Di:∀{xs ys:List (List Int)},xs.Perm ys->xs.Pairwise (λx y=>HT.qK y x=false)->ys.Pairwise (λx y=>HT.qK y x=false)->xs=ys
 |xs,ys,hp,h1,h2=>aW.eq_of_pairwise (λa b _ _ e1 e2=>(zT b a e1 e2).symm) h1 h2 hp
theorem Im{xs rs:List (List Int)}(hp:xs.Perm rs) (h:xs.Pairwise (λx y=>HT.qK y x=false)):xs=tu rs :=
 Di (hp.trans (qF rs).symm) h (wU rs)
theorem Kv{rs ts:List (List Int)}(hp:rs.Perm ts):tu rs=tu ts:=Im ((qF rs).trans hp) (wU rs)
theorem zh(rs:List (List Int)):(tu rs).length=rs.length:=(qF rs).length_eq
def vE(ns:List Int):List Int:=ns.mergeSort (λx y=>decide (x<=y))
theorem Ad(ns:List Int):(vE ns).Perm ns:=fO _ _
theorem AY(ns:List Int):(vE ns).Pairwise (·<=·):=by
 refine(eG (le:=λx y=>decide (x<=y)) (λa b c h1 h2=>?_) (λa b=>?_) ns).imp λ{a b} h=>by simpa using h
 .simp only [decide_eq_true_eq]at *;lia
 .simp only [Bool.or_eq_true,decide_eq_true_eq];lia
theorem QU{xs ns:List Int}(hp:xs.Perm ns) (h:xs.Pairwise (·<=·)):xs=vE ns :=
 aW.eq_of_pairwise (λa b _ _ e1 e2=>Int.le_antisymm e1 e2) h (AY ns) (hp.trans (Ad ns).symm)
end
def qD(H:Hp) (ps:List Addr) (rs:List (List Int)):Prop:=ps.map H=rs.map (λr=>some (HO.lst (r.map V.int)))
theorem qD.nil{H:Hp}:qD H [] []:=rfl
theorem qD.length{H:Hp}{ps:List Addr}{rs:List (List Int)}(h:qD H ps rs):ps.length=rs.length:=by
 have:=congrArg bo h;simpa using this
theorem qD.cons_iff{H:Hp}{ps:List Addr}{rs:List (List Int)}{p:Addr}{r:List Int}:qD H (p::ps) (r::rs)↔H p=some (.lst (r.map V.int))/\qD H ps rs:=by
 unfold qD;rw[au,au,gZ.injEq]
theorem qD.get{H:Hp}{ps:List Addr}{rs:List (List Int)}(h:qD H ps rs) {i:Nat}{p:Addr}(e:ps[i]?=some p):∃r,rs[i]?=some r/\H p=some (.lst (r.map V.int)):=by
 have:=congrArg (λl=>l[i]?) h
 simp only[gMq,e,fJ]at this;cases er:rs[i]? with
 |none=>rw[er]at this;cases this
 |some r=>rw[er]at this;exact⟨r,rfl,aT.inj this⟩
theorem qD.mem{H:Hp}{ps:List Addr}{rs:List (List Int)}(h:qD H ps rs) {p:Addr}(hp:p∈ps):∃r,r∈rs/\H p=some (.lst (r.map V.int)):=by
 obtain⟨i,hi⟩:=List.getElem?_of_mem hp;obtain⟨r,er,e⟩:=h.get hi;exact⟨r,mGq er,e⟩
theorem qD.keep{H H':Hp}{ps:List Addr}{rs:List (List Int)}(h:qD H ps rs) (k:∀p∈ps,H' p=H p):qD H' ps rs:=by
 unfold qD at *;rw[←h];exact mCq k
theorem qD.same{H H':Hp}{ps:List Addr}{rs:List (List Int)}(h:qD H ps rs) (s:ot H H'):qD H' ps rs :=
 h.keep λp hp=>by
  obtain⟨r,_,e⟩:=h.mem hp;rw[s _ _ e,e]
def Y4:V->Int
 | .int i=>i
 |_=>0
def xu(H:Hp) (p:Addr):List Int:=match H p with
 |some (.lst xs)=>xs.map Y4
 |_=>[]
theorem GG{H:Hp}{p:Addr}{r:List Int}(h:H p=some (.lst (r.map V.int))):xu H p=r:=by
 unfold xu;rw[h];simp only[mPq];exact List.map_id'' (λ_=>rfl) r
theorem qD.fn{H:Hp}{ps:List Addr}{rs:List (List Int)}(h:qD H ps rs):rs=ps.map (xu H):=by
 induction rs generalizing ps with
 |nil =>
  have:=h.length;have:ps=[]:=cC.mp this;rw[this];rfl
 |cons r rs ih =>
  cases ps with
  |nil=>have:=h.length;simp at this
  |cons p ps =>
   obtain⟨h1,h2⟩:=qD.cons_iff.mp h;rw[au,←ih h2,GG h1]
theorem qD.fn_row{H:Hp}{ps:List Addr}{rs:List (List Int)}(h:qD H ps rs) {p:Addr}(hp:p∈ps):H p=some (.lst ((xu H p).map V.int)):=by
 obtain⟨r,_,e⟩:=h.mem hp;rw[GG e];exact e
theorem qD.of_fn{H:Hp}{ps:List Addr}(h:∀p∈ps,H p=some (.lst ((xu H p).map V.int))):qD H ps (ps.map (xu H)):=by
 unfold qD;rw[mPq];exact mCq h
theorem qD.perm{H:Hp}{ps qs:List Addr}{rs:List (List Int)}(h:qD H ps rs) (hp:qs.Perm ps):∃ts,qD H qs ts/\ts.Perm rs/\ts=qs.map (xu H) :=
 ⟨_,qD.of_fn λp m=>h.fn_row (hp.mem_iff.mp m),by rw[h.fn];exact hp.map _,rfl⟩
theorem yy:∀{ps:List Addr}{vs:List Value},oN (ps.map V.ref) vs->vs=ps.map aE
 | [],vs,r=>by cases r;rfl
 |p::ps,vs,r=>by
  rw[au]at r;cases r with
  |cons h1 h2 =>
   have e:_=aE p:=h1;rw[e,yy h2];rfl
theorem Ao:∀(ps:List Addr),oN (ps.map V.ref) (ps.map aE)
 | []=>.nil
 |p::ps=>.cons rfl (Ao ps)
def tV:Value->Addr
 | .ref p=>p
 |_=>0
def intOf:Value->Int
 | .int i _=>i
 |_=>0
theorem Jj{vs:List Value}{ns:List Int}(h:ju vs ns):ns=vs.map intOf/\∀v∈vs,∃a t,v = .int a t:=by
 induction h with
 |nil=>exact⟨rfl,λv hv=>by cases hv⟩
 |cons a t _ ih =>
  refine⟨by rw[au,←ih.1];rfl,λv hv=>?_⟩
  rcases ah.mp hv with rfl|hv
  .exact ⟨a,t,rfl⟩
  .exact ih.2 v hv
theorem vals_ints:∀{vs:List Value},(∀v∈vs,∃a t,v = .int a t)->oN ((vs.map intOf).map V.int) vs
 | [],_=>.nil
 |v::vs,h=>by
  obtain⟨a,t,rfl⟩:=h _ (ai ..);exact .cons ⟨t,rfl⟩ (vals_ints λv hv=>h v (mCo _ hv))
theorem JC{M:kr}{A:Around}{E:Value->iV->Prop}{s:iV}{vs:List Value}{T:String}{Q:jz->iV->Prop}(h2:2<=vs.length) (hT:∀v∈vs,W.Looks M s.heap (typeOf v) (.type T)) (hT1:(eU T != eU "tuple")=true) (hT2:(eU T == eU T)=true) (h:Q jN s) :
  jb M A (keyKind' vs.toArray) Q E s:=W.kas_kind h2 hT hT1 hT2 h
def XW(x y:iW):Bool:=match x.1,y.1 with
 | .int a _,.int b _=>decide (a<b)
 |_,_=>false
theorem Xf(prog:je) (w:jf) (A:Around) (s:iV):MrS.xq prog w A s jN (λx=>∃a t,x.1 = .int a t) XW where
 ask:=by
  rintro⟨_,x⟩ ⟨_,y⟩ ⟨a,t,e1⟩ ⟨b,u,e2⟩ E Q q;dsimp only at e1 e2;subst e1 e2;rw[kZ];exact oneLt_int q
 asym:=by
  rintro⟨_,x⟩ ⟨_,y⟩ ⟨a,t,e1⟩ ⟨b,u,e2⟩ h;dsimp only at e1 e2;subst e1 e2;have h':a<b:=of_decide_eq_true h;exact decide_eq_false (by lia)
 trans:=by
  rintro⟨_,x⟩ ⟨_,y⟩ ⟨_,z⟩ ⟨a,t,e1⟩ ⟨b,u,e2⟩ ⟨c,v,e3⟩ h1 h2;dsimp only at e1 e2 e3;subst e1 e2 e3;have h1':¬ b<a:=of_decide_eq_false h1;have h2':¬ c<b:=of_decide_eq_false h2;exact decide_eq_false (by lia)
def YB(r:Addr->List Int) (x y:iW):Bool:=match x.1,y.1 with
 | .ref p,.ref q=>HT.qK (r p) (r q)
 |_,_=>false
theorem W1{prog:je}{w:jf}{A:Around}{s:iV}{ps:List Addr}{r:Addr->List Int}(hu:A.units<jv)
  (h:∀p∈ps,∃vs:List Value,lz s.heap p vs.toArray/\ju vs (r p)):MrS.xq prog w A s jN (λx=>∃p,x.1 = .ref p/\p∈ps) (YB r) where
 ask:=by
  rintro⟨_,x⟩ ⟨_,y⟩ ⟨p,e1,hp⟩ ⟨q,e2,hq⟩ E Q k;dsimp only at e1 e2;subst e1 e2;obtain⟨vs,⟨o,n,ho,hc,hd0,hd⟩,hi⟩:=h p hp;obtain⟨ws,⟨o2,n2,ho2,hc2,hd02,hd2⟩,hj⟩:=h q hq;obtain⟨cls,dd,data,sl⟩:=o;obtain⟨cls2,dd2,data2,sl2⟩:=o2;simp only at hc hd0 hd hc2 hd02 hd2;subst hc hd0 hd hc2 hd02 hd2;rw[kZ,oneLt'_eq];simp only[if_true];refine ja (wpAny_cRoomFor hu ?_);refine ja (kj ⟨_,ho,rfl⟩ F.slot_list_lt (jQ F.slot_list_lt ⟨_,ho,rfl⟩ F.entry_list_lt (F.args_list_lt_2 _ _)
   (HT.zr p q vs.toArray ws.toArray n n2 none none sl sl2 (r p) (r q) (by simpa using hi) (by simpa using hj)) ⟨ho,ho2,?_⟩))
  exact jn k
 asym:=by
  rintro⟨_,x⟩ ⟨_,y⟩ ⟨a,e1,_⟩ ⟨b,e2,_⟩ h;dsimp only at e1 e2;subst e1 e2;exact zL _ _ h
 trans:=by
  rintro⟨_,x⟩ ⟨_,y⟩ ⟨_,z⟩ ⟨a,e1,_⟩ ⟨b,e2,_⟩ ⟨c,e3,_⟩ h1 h2;dsimp only at e1 e2 e3;subst e1 e2 e3;exact yz _ _ _ h1 h2
section
variable {X:Cx}
theorem zP(hu:X.A.units+64<jv):sv X (.builtin "sorted") (λxs H Q=>∃(a:Addr) (ps:List Addr) (rs:List (List Int)),xs=[.ref a]/\qC X.K H a (ps.map V.ref)/\qD H ps rs /\
  ∀p qs,H p=none->qs.Perm ps->qD (upd H p (.lst (qs.map V.ref))) qs (tu rs)->Q (.ref p) (upd H p (.lst (qs.map V.ref)))):=by
 intro nA s σ H xs us Q I r h;obtain⟨a,ps,rs,rfl,hS,hE,q⟩:=h;obtain⟨u,rfl,ru⟩:=yF r;cases ru;obtain⟨its,rv,hl,hz⟩:=I.list hS;have ei:=yy rv;subst ei;have hrow:∀p∈ps,∃vs:List Value,lz s.heap p vs.toArray/\ju vs (xu H p):=λp hp=>by
  obtain⟨its,rv,pl,_⟩:=I.list (qC.of (hE.fn_row hp));exact⟨its,pl,wF rv⟩
 have keepL:∀(s':iV),(∀b o,s.heap.get? b=some o->s'.heap.get? b=some o)->∀p∈ps,∃vs:List Value,lz s'.heap p vs.toArray/\ju vs (xu H p):=λs' k p hp=>by
  obtain⟨vs,⟨o,n,ho,rest⟩,hi⟩:=hrow p hp;exact⟨vs,⟨o,n,k _ _ ho,rest⟩,hi⟩
 refine MrS.CS (Pk:=λx=>∃p,x.1 = .ref p/\p∈ps) (lt:=YB (xu H)) hl.isList (by simpa using hz) (λs' k=>⟨λh2 Q q=>?_,W1 (by show X.A.units+1+1<jv;lia) (keepL s' k)⟩) (λv m=>?_) λout h' n' o1 o2 o3 o4=>?_
 .refine JC (T := "list") h2 (λv hv=>?_) (by rfl) (by rfl) q
  obtain⟨p,hp,rfl⟩:=mMq.mp hv;obtain⟨vs,pl,_⟩:=keepL s' k p hp;intro A Q E s2 k2 q2;obtain⟨o,ho,hc,_⟩:=pl.isList;exact wpAny_typeOf (T := "list") ⟨o,k2 _ _ ho,hc⟩ q2
 .obtain ⟨p,hp,rfl⟩:=mMq.mp m;exact⟨p,rfl,hp⟩
 .have ho:∀v∈out,∃p∈ps,v = .ref p:=λv m=>by
   obtain⟨p,hp,rfl⟩:=mMq.mp (o1.mem_iff.mp m);exact⟨p,hp,rfl⟩
  have eo:out=(out.map tV).map aE:=by
   rw[mPq];have e:=mCq (l:=out) (f:=id) (g:=aE∘tV) λv hv=>by
    obtain⟨p,_,rfl⟩:=ho v hv;rfl
   rw[←e,fg]
  have hq:(out.map tV).Perm ps:=by
   have:=o1.map tV;rw[mPq,show tV∘aE=id from rfl,fg]at this
   exact this
  have hp:H (s.heap.objs.size+1)=none:=I.hok.fresh (bO _);generalize out.map tV=qs at eo hq;obtain⟨ts,e1,e2,e3⟩:=hE.perm hq;have es:ts=tu rs:=by
   refine Im e2 ?_;rw[e3,bq];rw[eo,bq]at o2;exact o2
  refine⟨.ref (s.heap.objs.size+1),_,I.laid (t':=s.toks) o3 (bO _) (show qv X.prog X.w _ h' _ (.lst (qs.map V.ref)) from ⟨?_,out,n',?_,o4⟩),rfl,q _ qs hp hq (by rw[←es];exact e1.same (sJ hp))⟩
  .rw [lMq,hq.length_eq];simpa using hz
  .rw [eo];exact Ao qs
def rV(r:List Int):PyData:=.list (r.map PyData.int)
def zE(rs:List (List Int)):PyData:=.list (rs.map rV)
theorem AM:∀rs:List (List Int),PyData.canLayAll0 (rs.map rV)=true
 | []=>by simp[PyData.canLayAll0]
 |r::rs=>by simp[PyData.canLayAll0,rV,PyData.canLay0,W.canLayAll0_ints r,AM rs]
theorem CQ:∀rs:List (List Int),PyData.depthAll (rs.map rV)<=3
 | []=>by simp[PyData.depthAll]
 |r::rs=>by
  have h1:=CQ rs;have h2:=W.depthAll_ints r;simp only[au,PyData.depthAll,rV,PyData.depth];lia
theorem AU(rs:List (List Int)):SeqAt.shaped (zE rs)=true:=by
 have h1:=CQ rs;have h2:PyData.depth (zE rs)<=64:=by simp only[zE,PyData.depth];lia
 show (PyData.canLay0 (zE rs) && decide (PyData.depth (zE rs)<=64))=true;rw[dQ];exact⟨by simp only[zE,PyData.canLay0];exact AM rs,decide_eq_true h2⟩
theorem C5:∀rs ts:List (List Int),SeqAt.noMixAll (rs.map rV) (ts.map rV)=true
 | [],[]=>by simp[SeqAt.noMixAll]
 | [],_::_=>by simp[SeqAt.noMixAll]
 |_::_,[]=>by simp[SeqAt.noMixAll]
 |r::rs,t::ts=>by simp[SeqAt.noMixAll,rV,SeqAt.noMix,W.noMix_ints r t,C5 rs ts]
theorem Ec:∀rs ts:List (List Int),PySem.Spec.sameAll (rs.map rV) (ts.map rV)=decide (rs=ts)
 | [],[]=>by simp[PySem.Spec.sameAll]
 | [],_::_=>by simp[PySem.Spec.sameAll]
 |_::_,[]=>by simp[PySem.Spec.sameAll]
 |r::rs,t::ts=>by
  simp only[au,PySem.Spec.sameAll,rV,PySem.Spec.same,W.same_ints r t];rw[Ec rs ts]
  by_cases h:r=t <;> simp[h]
end
end Mr
namespace Mr
open PySem L2
structure Bt (mg:Str->Option Value):Prop where
 len:mg "len" = none
 min:mg "min" = none
 max:mg "max" = none
 abs:mg "abs" = none
 all:mg "all" = none
 sorted:mg "sorted" = none
 isi:mg "isinstance" = none
 list:mg "list" = none
 int:mg "int" = none
 bool:mg "bool" = none
 str:mg "str" = none
 dict:mg "dict" = none
 zip:mg "zip" = none
 enum:mg "enumerate" = none
 range:mg "range" = none
 reversed:mg "reversed" = none
structure Fn (P:je) (w:jf) (K:W.Frag) (mg:Str->Option Value) (base:Heap) (k:Nat) (x:Str) (st:Stmt) (ps:List Str) (sp:Sp) (f:Addr) (fd:jl):Prop where
 D:Bd K mg x st ps f fd
 ok:yP P w K mg base Uz k f fd ps sp
theorem tm.units65{k:Nat}{A:Around}(r:tm k A):A.units+65<jv:=by have:=r.un;lia
section
variable {X:Cx}{k:Nat}{f:Addr}{fd:jl}{ps:List Str}{sp:Sp}{x:Str}{p pos:Pos}{e:Expr}{es:List Expr}{t:TA}{st:Stmt}
theorem qw(G:Fn X.prog X.w X.K X.mg X.base k x st ps sp f fd) (hr:tm k X.A) (ha:PA X (e::es) t) (hg:Gl X x:=by rfl) (hdb:(x == ("__debug__" : Str))=false:=by decide)
  (he:jh (e::es) X.env=(false,eval e X.env)::jh es X.env:=by rfl) (hpl:(jH pos (jh es X.env)).any (·.1)=false:=by rfl) :
  PE X (.Call (.Name x p) (e::es) [] pos) (A7 sp [] E0 t):=Fi G.ok hr hg G.D.m G.D.F.kp G.D.b .nil UT ha hdb he hpl
end
section
variable (K:W.Frag)
def JY:Sp:=λvs H Q _=>∃(a:Addr) (ns:List Int),vs=[.ref a]/\qC K H a (ns.map V.int)/\ns.length<=63/\∀H',Q (.bl true) H'
end
theorem tE{α:Type}{l:List α}{i:Nat}{x:α}(h:l[i]?=some x):l.take (i+1)=l.take i++[x]:=by
 rw[cw,h];rfl
end Mr
namespace Xe
open PySem PySem.Spec PySem.W PyProof.Rows L2 Mr
abbrev St:=L2.St
abbrev WV(K:Frag) (C:Addr):Bool:=findIn K (.ref C) "__setattr__" == some (some (.builtin "object.__setattr__")) && findIn K (.ref C) "__getattribute__" == some (some (.builtin "BaseException.__getattribute__")) &&
 findIn K (.ref C) "__getattr__" == some none && findIn K (.ref C) "__class__" == some (some (.builtin "object.__class__"))
def yC(K:Frag) (c:Str) (C:Addr) (bm:List Value):Bool:=match K.lookup C with
 |some ⟨.type "type", _,.cls cd,sl⟩=>(match sl.toList with
  | [_,_,_,_,some (.builtin n),_]=>cd.name == c && cd.mro == .ref C::bm && n == "ValueError.__new__" && !cd.hasDel && cd.hasDict && tailIn K Dd bm
  |_=>false)
 |_=>false
structure XC (K:Frag) (c:Str) (C:Addr) (bm:List Value):Prop where
 obj:∃N q bs sn sub ab col dd k0 k1 k2 k3 k5,K.lookup C=some (kc c q C N bs bm true sn sub ab col dd k0 k1 k2 k3 k5 "ValueError.__new__")
 cls:∃cd,clsIn K C=some cd/\cd.mro = .ref C::bm/\cd.name=c
 tail:∀h:Heap,K.In h->OwnTail h Dd bm
theorem Cq{K:Frag}{c:Str}{C:Addr}{bm:List Value}(e:yC K c C bm=true):XC K c C bm:=by
 unfold yC at e;split at e
 .rename_i dd cd sl ho;split at e
  .rename_i k0 k1 k2 k3 n k5 hs;simp only[dQ,beq_iff_eq,eQ]at e;obtain⟨⟨⟨⟨⟨e1,e2⟩,e3⟩,hdel⟩,hdc⟩,ht⟩:=e;have hc:clsIn K C=some cd:=by unfold clsIn;rw[ho]
   obtain⟨nm,bs,mro,ns,qn,hd,sn,sub,ab,col,del⟩:=cd;dsimp only at e1 e2 hdel hdc;subst e1 e2 e3 hdel hdc;have hsl:sl=#[k0,k1,k2,k3,some (.builtin "ValueError.__new__"),k5]:=by
    obtain⟨l⟩:=sl;simp only at hs;rw[hs]
   subst hsl;exact⟨⟨ns,qn,bs,sn,sub,ab,col,dd,k0,k1,k2,k3,k5,ho⟩,⟨_,hc,rfl,rfl⟩,λh X=>tail_of_in X ht⟩
  .cases e
 .cases e
theorem IZ{K:Frag}{c c':Str}{C:Addr}{bm bm':List Value}(e:yC K c C bm=true) (e':yC K c' C bm'=true):c=c'/\bm=bm':=by
 obtain⟨_,⟨cd,h1,h2,h3⟩,_⟩:=Cq e;obtain⟨_,⟨cd',h1',h2',h3'⟩,_⟩:=Cq e';rw[h1]at h1';cases h1';rw[h2]at h2';exact⟨h3.symm.trans h3',by injection h2'⟩
structure Ea (K:Frag) (c:Str) (C M:Addr):Prop where
 nm:nsIn K jd c=some (some (.ref C))
 nmM:nsIn K jd "MapError" = some (some (.ref M))
 xc:yC K c C (.ref M::Dd)=true
 xm:yC K "MapError" M Dd=true
 lk:WV K C=true
def VM(K:Frag) (c:Str) (C:Addr):Prop:=nsIn K jd c=some (some (.ref C))/\((∃M,Ea K c C M)∨(c = "MapError" /\ yC K "MapError" C Dd=true))
theorem Ea.one{K:Frag}{c:Str}{C M C' M':Addr}(a:Ea K c C M) (b:Ea K c C' M'):C=C'/\M=M':=by
 have e1:=a.nm.symm.trans b.nm;have e2:=a.nmM.symm.trans b.nmM;simp at e1 e2;exact⟨e1,e2⟩
def FD(e C:Addr) (od:Option Addr):HO:=.ext λh=>∃o vs,h.get? e=some o/\o.cls = .ref C/\o.dict=od/\o.data = .fields vs
def Vq(e C:Addr) (od:Option Addr):HO:=.ext λh=>∃t,h.get? e=some (Ez C t od)
section
variable {P:je}{w:jf}{H:Hp}{h:Heap}{e C:Addr}{od:Option Addr}
theorem T6{o:Obj}{vs:Array Value}(h1:h.get? e=some o) (h2:o.cls = .ref C) (h3:o.dict=od) (h4:o.data = .fields vs):qv P w H h e (FD e C od) :=
 ⟨⟨o,vs,h1,h2,h3,h4⟩,⟨o,h1⟩,λg1 g2 ⟨o',vs',a,b⟩ k=>⟨o',vs',k _ a,b⟩⟩
theorem Ui{t:Addr}(h1:h.get? e=some (Ez C t od)):qv P w H h e (Vq e C od):=⟨⟨t,h1⟩,⟨_,h1⟩,λg1 g2 ⟨t',a⟩ k=>⟨t',k _ a⟩⟩
theorem QX(ok:xl P w H h) (q:H e=some (Vq e C od)):∃t,h.get? e=some (Ez C t od):=(show qv P w H h e (Vq e C od) from ok e _ q).1
theorem E7(ok:xl P w H h) (q:H e=some (FD e C od)):∃o vs,h.get? e=some o/\o.cls = .ref C/\o.dict=od/\o.data = .fields vs:=(show qv P w H h e (FD e C od) from ok e _ q).1
theorem Gz{o:HO}(q:H e=some o):upd H e o=H:=by
 funext b
 by_cases hb:b=e
 .subst hb;rw[nZ,q]
 .rw [nV hb]
end
def Qe(P:je) (w:jf):Lg:=λouter H s E ev s'=>∃e C od H' o vs,ev = .ref e/\s'.os=s.os/\jY s'.gens/\Un (Io outer) [] H H' s.heap s'.heap/\xl P w H' s'.heap/\H' e=some (FD e C od) /\
 s'.heap.get? e=some o/\o.data = .fields vs/\DN s'.heap vs/\E (.ref e) od H'
theorem Uw{P:je}{w:jf}{X:Cx}:An (Qe P w) X E0:=λ_ _ _ _ _ _ _ h=>by
 obtain⟨_,_,_,_,_,_,_,_,_,_,_,_,_,_,_,z⟩:=h;exact z.elim
def LX(X:Cx) (E:XK):Prop:=∀(nA:List (Addr×Obj)) (σ:St) (H:Hp) (s:iV) (e C:Addr) (od:Option Addr) (o:Obj) (vs:Array Value) (φ:Heap->Prop),Inv X nA σ H s->H e=some (.ext φ)->s.heap.get? e=some o ->
 o.cls = .ref C->o.dict=od->o.data = .fields vs->DN s.heap vs->E (.ref e) od (upd H e (FD e C od))->X.xe (.ref e) s
section
variable {P:je}{w:jf}{H:Hp}{h h':Heap}{e C T:Addr}{od:Option Addr}{o:Obj}{vs:Array Value}{fs:List Addr}{φ:Heap->Prop}
theorem GZ(N:DD fs e o T h h') (hE:H e=some (.ext φ)):Un fs [] H (upd H e (FD e C od)) h h':=by
 have ne:∀b,H b=none->b≠e:=λb z q=>by rw[q,hE]at z;cases z
 have nE:∀(b:Addr) (ob:HO),H b=some ob->(∀φ,ob ≠ .ext φ)->b≠e:=λb ob z k q=>by rw[q,hE]at z;cases z;exact k _ rfl
 refine⟨λb ob z n hb _=>N.keep b ob (ne b n) hb z,λb ob z n _ _=>N.slot b ob (ne b n) z,λb ob z n _=>by rw[nV (ne b n)];exact n,λb ob z _=>?_,
  λb xs z=>by rw[nV (nE b _ z λφ w=>by cases w)];exact z,λb o' u' z=>by rw[nV (nE b _ z λφ w=>by cases w)];exact z,
  λb ps z=>⟨#[],by rw[nV (nE b _ z λφ w=>by cases w),z];simp⟩⟩
 by_cases hb:b=e
 .subst hb;exact⟨_,N.exc⟩
 .obtain ⟨sl,q⟩:=N.slot b ob hb z;exact⟨_,q⟩
theorem FM(N:DD fs e o T h h') (hE:H e=some (.ext φ)) (ok:xl P w H h) (hf:∀b∈fs,H b=none) (hc:o.cls = .ref C) (hd:o.dict=od) (hdat:o.data = .fields vs):xl P w (upd H e (FD e C od)) h':=by
 have nE:∀(b:Addr) (ob:HO),H b=some ob->(∀φ,ob ≠ .ext φ)->b≠e:=λb ob z k q=>by rw[q,hE]at z;cases z;exact k _ rfl
 have nf:∀b ob,H b=some ob->b∉fs:=λb ob z q=>by rw[hf b q]at z;cases z
 intro b u z
 by_cases hb:b=e
 .subst hb;rw[nZ]at z;cases z;refine T6 N.exc ?_ ?_ (Obj.data_mapFields hdat _)
  .rw [Obj.cls_mapFields];exact hc
  .obtain ⟨_,_,dt,_⟩:=o;cases dt <;> exact hd
 .rw [nV hb]at z;refine(ok b u z).stay (λc' v' hc r=>N.keep c' v' ?_ ?_ r) (λc' r=>?_) λc' xs r=>?_
  .rcases hc with rfl|hc
   .exact hb
   .exact nE c' _ hc λφ w=>by cases w
  .rcases hc with rfl|hc
   .exact nf _ _ z
   .exact nf _ _ hc
  .rw [nV (nE c' _ r λφ w=>by cases w)];exact r
  .rw [nV (nE c' _ r λφ w=>by cases w)];exact r
theorem Bb(N:DD fs e o T h h') (hdat:o.data = .fields vs) (hz:1<vs.size):∃o' vs',h'.get? e=some o'/\o'.data = .fields vs'/\vs'[1]?=some (.ref T)/\DN h' vs':=by
 obtain⟨oT,ts,h1,h2,h3⟩:=N.ent;have q:(vs.setIfInBounds 1 (aE T))[1]?=some (.ref T):=by simp[hz]
 exact⟨_,_,N.exc,Obj.data_mapFields hdat _,q,.inr ⟨T,oT,ts,q,h1,h2,h3⟩⟩
theorem CC(q:DN h vs):1<vs.size:=by
 rcases q with q|⟨_,_,_,q,_⟩ <;> exact(aK.mp q).1
end
section
variable {P:je}{w:jf}{K:Frag}{mg:Str->Option Value}{base:Heap}{N:List Str}{qual:Str}{scope:jU}{f:Addr}{cd:Value}{A:Around}{outer:List Env}{s:iV}{H:Hp}{E:XK}
theorem DG:LX (Fg (Qe P w) P w K mg base N qual scope f cd A outer s H E) E:=by
 intro nA σ H1 s1 e C od o vs φ I hE ho hc hd hdat hq he;show jb (iY P w) (A.deeper (jF qual scope s.heap.objs.size f cd)) (leaving (jF qual scope s.heap.objs.size f cd) (.ref e)) _ _ s1;have fr:(A.deeper (jF qual scope s.heap.objs.size f cd)).frames=some (jF qual scope s.heap.objs.size f cd::outer):=I.ok.frames;have st:s1.heap.FunFrames base (jF qual scope s.heap.objs.size f cd::outer):=I.stack;refine VT fr st rfl ho hdat hq λh' T Nt=>?_
 have free:∀b∈(jF qual scope s.heap.objs.size f cd::outer).filterMap (·.frame),H1 b=none:=I.stkFree;have un:=GZ (C:=C) (od:=od) Nt hE;have ok:=FM (P:=P) (w:=w) Nt hE I.hok free hc hd hdat;obtain⟨o',vs',g1,g2,g3,g4⟩:=Bb Nt hdat (CC hq);have B:Un (Io outer) [] H H1 s.heap s1.heap:=I.base;have nL:∀b ob,s.heap.get? b=some ob->b∉Io outer->b∉(jF qual scope s.heap.objs.size f cd::outer).filterMap (·.frame):=λb ob z nb m=>by
  rcases ah.mp (show b∈s.heap.objs.size::Io outer from m) with q|q
  .rw [q]at z;exact absurd (aq z) (cD _)
  .exact nb q
 refine⟨e,C,od,upd H1 e (FD e C od),o',vs',rfl,I.os,I.bare,⟨λb ob z n hb hx=>un.keep b ob (B.keep b ob z n hb hx) (B.free b ob z n hx) (nL b ob z hb) hx,λb ob z n hb hx=>?_,λb ob z n hx=>?_,λb ob z hx=>?_,λb xs z=>un.tups b xs (B.tups b xs z),λb o1 u1 z=>un.frzs b o1 u1 (B.frzs b o1 u1 z),λb ps z=>?_⟩,ok,nZ,g1,g2,g4,he⟩
 .obtain ⟨sl,q⟩:=B.slot b ob z n hb hx;obtain⟨sl',q'⟩:=un.any q (B.free b ob z n hx) hx;exact⟨sl',q'⟩
 .obtain ⟨o1,q⟩:=B.there b ob z hx;exact un.free b o1 q (B.free b ob z n hx) hx
 .obtain ⟨o1,q⟩:=B.there b ob z hx;exact un.there b o1 q hx
 .obtain ⟨m1,e1⟩:=B.tbls b ps z;obtain⟨m2,e2⟩:=un.tbls b _ e1;exact⟨m1++m2,by rw[e2,gT]⟩
theorem Kl:An (Qe P w) (Fg (Qe P w) P w K mg base N qual scope f cd A outer s H E) E:=by
 intro nA σ H1 s1 ev s2 I h;obtain⟨e,C,od,H',o,vs,rfl,os,bare,un,hok,hA,ho,hd,hq,hE⟩:=h;have I':=I.call' os un hok bare (λb z=>nomatch z)
 obtain⟨o',vs',a1,a2,a3,a4⟩:=E7 hok hA;rw[ho]at a1;cases a1;exact DG nA σ H' s2 e C od o vs _ I' hA ho a2 a3 hd hq (by rw[Gz hA];exact hE)
theorem okX{x:Str}{st:Stmt}{fd:jl}{ps:List Str}{k:Nat}{sp:Sp}(F:Qc K x qual st f fd) (S:pE N ps (nX st)) (len:∀vs H Q E,sp vs H Q E->vs.length=ps.length)
  (hbody:∀(sZ:Value) (A:Around) (outer:List Env) (s:iV) (H:Hp) (vs:List V) (Q:VK) (E:XK),tm k (A.deeper (jF qual (nX st) s.heap.objs.size f sZ))->sp vs H Q E ->
   ∃t,Ii (Fg (Qe P w) P w K mg base N qual (nX st) f sZ A outer s H E) (sN st) t/\t { nx:=λ_ H'=>Q .non H',rt:=Q } (rN N vs) H):yP P w K mg base (Qe P w) (k+1) f fd ps sp:=by
 obtain⟨oc,od,kV,doc,pm,an,sZ,ct,osl,rfl,lk,hcd⟩:=F.ex;exact Q3 lk hcd S len λA outer s H vs Q E hr hsp=>hbody sZ A outer s H vs Q E hr hsp
end
section
variable {X:Cx}{E:XK}{c:Str}{C M:Addr}{e:Expr}{te:TE}{pos:Pos}
def Yy(E:XK) (C:Addr) (te:TE):TS:=λ_ σ H=>te σ H λv H1=>∃e od,v = .ref e/\H1 e=some (Vq e C od)/\E (.ref e) od (upd H1 e (FD e C od))
theorem Li(rf:Ea X.K c C M) (hl:LX X E) (hc:X.calm=true) (he:PE X e te):PS X (.Raise (some e) none pos) (Yy E C te):=by
 intro nA s σ H D I h;obtain⟨⟨N,q',bs,sn,sub,ab,col,dd,k0,k1,k2,k3,k5,hC⟩,_,T⟩:=Cq rf.xc;rw[arm_exec_Raise];simp only[evalOpt,Option.map];refine ja (ky (Hu (C:=C) (nm:=c) (q:=q') (N:=N) (bs:=bs) (bm:=.ref M::Dd) (hdct:=true) (sn:=sn) (sub:=sub) (ab:=ab) (col:=col) (dd:=dd) (k0:=k0) (k1:=k1) (k2:=k2) (k3:=k3) (k5:=k5) (newId := "ValueError.__new__") (by rw[cI,show Dd.contains (eU "BaseException")=true by decide,gv]) (I.ok.hd hc)
  (ja (jk (he nA s σ H _ I h) (λv s3 h3=>ja (ky (jj ?_))) λ_ _ x=>x))))
 obtain⟨v',H1,I1,r,ev,od,rfl,hx,hE⟩:=h3;obtain rfl:v=aE ev:=r;obtain⟨t0,ho⟩:=QX I1.hok hx;exact⟨ev,t0,od,rfl,I1.kIn _ _ hC,ho,hl nA σ H1 s3 ev C od _ _ _ I1 hx ho rfl rfl rfl (.inl rfl) hE⟩
end
structure Pa (P:je) (w:jf) (K:Frag) (mg:Str->Option Value) (base:Heap) (k:Nat) (x:Str) (st:Stmt) (ps:List Str) (sp:Sp) (f:Addr) (fd:jl):Prop where
 D:Bd K mg x st ps f fd
 ok:yP P w K mg base (Qe P w) k f fd ps sp
abbrev QS(X:Cx) (e:Addr):Cx:={ X with A:=X.A.mark (some (.ref e)),calm:=false,xe:=λ_ _=>False }
section
variable {X:Cx}{nA:List (Addr×Obj)}{σ:St}{H:Hp}{s:iV}{e:Addr}
theorem JD(I:Inv X nA σ H s):Inv (QS X e) nA σ H s :=
 ⟨⟨I.ok.mod,I.ok.kind,I.ok.glob,I.ok.blt,I.ok.above,I.ok.inj,I.ok.has,I.ok.cab,λz=>Bool.noConfusion z,I.ok.frames,I.ok.stk,I.ok.exf,I.ok.bs,I.ok.bsz,I.ok.noex,I.ok.exfs,I.ok.funs,I.ok.frf⟩,I.os,I.bare,I.base,I.loc,I.cell,I.free,I.freeC,I.pin,I.hok,I.len⟩
theorem zH(ok:X.Ok) (I:Inv (QS X e) nA σ H s):Inv X nA σ H s:=⟨ok,I.os,I.bare,I.base,I.loc,I.cell,I.free,I.freeC,I.pin,I.hok,I.len⟩
end
abbrev XH:=Addr->Addr->Option Addr->tY->St->Hp->Prop
def PH(X:Cx) (hs:List ExceptHandler) (th:XH):Prop:=∀(nA:List (Addr×Obj)) (s:iV) (σ:St) (H:Hp) (D:tY) (e C:Addr) (od:Option Addr) (o:Obj) (vs:Array Value) (T:Addr),Inv X nA σ H s->H e=some (FD e C od) ->
 s.heap.get? e=some o->o.data = .fields vs->vs[1]?=some (.ref T)->(∃oT ts,s.heap.get? T=some oT/\oT.data = .fields ts/\ts[3]?=some .none)->th e C od D σ H ->
 jb (iY X.prog X.w) X.A (kM (.ref e) X.env hs) (SP X nA D) X.xe s
def X1(K:Frag) (C':Addr) (tb:TS) (rest:XH):XH:=λe C od D σ H=>∃c M b,Ea K c C M/\mroIn K C (.ref C')=some b/\if b=true then tb D σ H else rest e C od D σ H
def UE:XH:=λ_ _ _ _ _ _=>False
section
variable {X:Cx}{c' n:Str}{C':Addr}{bm':List Value}{np pos:Pos}{b₀:Stmt}{suite:List Stmt}{rest:List ExceptHandler}{tb:TS}{tr:XH}{i:Nat}
theorem Vo{K:Frag}{M:kr}{c:Str}{C Mp e:Addr}{b:Bool}{s:iV}{o:Obj}(X:K.In s.heap) (rf:Ea K c C Mp) (xc':yC K c' C' bm'=true) (hbase:bm'.contains (.type "BaseException")=true) (hb:mroIn K C (.ref C')=some b)
  (ho:s.heap.get? e=some o) (hc:o.cls = .ref C):Mt M e (.ref C') b s:=by
 obtain⟨⟨N,q',bs,sn,sub,ab,col,dd,k0,k1,k2,k3,k5,hC⟩,⟨cd,hcd,hm,_⟩,_⟩:=Cq rf.xc;obtain⟨⟨N',q'',bs',sn',sub',ab',col',dd',k0',k1',k2',k3',k5',hC'⟩,_,_⟩:=Cq xc';intro A Q E hq;obtain⟨hh,g,d,tk,os⟩:=s;refine Gg (X _ _ hC) (X _ _ hC') hbase ho hc ?_;unfold mroIn at hb;rw[hcd,fh,hm]at hb;simp only[hU,eC,if_false,aT.injEq]at hb;rw[hb];exact hq
theorem VY(xc':yC X.K c' C' bm'=true) (hbase:bm'.contains (.type "BaseException")=true) (hm:X.mg c'=some (.ref C')) (hb:∀e,Ii (QS X e) (b₀::suite) tb) (hr:PH X rest tr)
  (hg:Gl X c':=by rfl) (hdb:(c' == ("__debug__" : Str))=false:=by decide):PH X (.ExceptHandler (some (.Name c' np)) none (b₀::suite) pos::rest) (X1 X.K C' tb tr):=by
 intro nA s σ H D e C od o vs T I hA ho hd h1 hT h;obtain⟨c,M,b,rf,hmro,h⟩:=h;obtain⟨o',vs',a1,a2,a3,a4⟩:=E7 I.hok hA;rw[ho]at a1;cases a1;have mt:Mt (iY X.prog X.w) e (.ref C') b s:=Vo I.kIn rf xc' hbase hmro ho a2;have ev:∀Q':Value->iV->Prop,Q' (.ref C') s->jb (iY X.prog X.w) (X.A.mark (some (.ref e))) (eval (.Name c' np) X.env) Q' (λ_ _=>False) s:=λQ' q=>BI (X:=QS X e) (JD I) hg hm q hdb
 cases b with
 |false =>
  rw[oz (by decide)]at h
  exact VZ mt ev (hr nA s σ H D e C od o vs T I hA ho hd h1 hT h)
 |true =>
  rw[oq rfl]at h;obtain⟨oT,ts,t1,t2,t3⟩:=hT;refine Sx mt ev ?_;refine wpAny_setFlight_none ho hd h1 t1 t2 (aK.mp t3).1 ?_;rw[gc s.heap T oT ts 3 .none t1 t2 t3];refine thn (hb e nA s σ H _ (JD I) h) λf s4 hf=>?_
  cases f with
  |next=>obtain⟨σ',H',J,q⟩:=hf;exact⟨σ',H',zH I.ok J,q⟩
  |brk=>obtain⟨σ',H',J,q⟩:=hf;exact⟨σ',H',zH I.ok J,q⟩
  |cont=>obtain⟨σ',H',J,q⟩:=hf;exact⟨σ',H',zH I.ok J,q⟩
  |ret u=>obtain⟨v,σ',H',J,r,q⟩:=hf;exact⟨v,σ',H',zH I.ok J,r,q⟩
theorem TJ:PH X [] UE:=λ_ _ _ _ _ _ _ _ _ _ _ _ _ _ _ _ _ h=>h.elim
end
section
variable {X:Cx}{k:Nat}{x:Str}{st:Stmt}{ps:List Str}{sp:Sp}{f:Addr}{fd:jl}{p pos pos2 pos3:Pos}{e:Expr}{es:List Expr}{t:TA}{h₀:ExceptHandler}{hs:List ExceptHandler}{th:XH}
theorem NJ{nA:List (Addr×Obj)}{σ:St}{H1:Hp}{s1:iV}{Q:VK}{D:tY}{us:List Value}{vs:List V}{QQ:Value->iV->Prop}(ok:yP X.prog X.w X.K X.mg X.base (Qe X.prog X.w) k f fd ps sp) (hb:xx X.K fd ps []) (hr:tm k X.A)
  (hstk:X.stack=X.env::X.outer) (hfr:X.env.frame=some X.env.locals) (hh:PH X (h₀::hs) th) (I1:Inv X nA σ H1 s1) (r:oN vs us)
  (q:sp vs H1 Q λv _ H2=>∀e,v = .ref e->∃C od,H2 e=some (FD e C od)/\th e C od D σ H2) (hQ:∀u s',EP X nA σ Q u s'->QQ u s') :
  jb (iY X.prog X.w) X.A (call (.ref f) us) QQ (λe s₁=>jb (iY X.prog X.w) X.A (kP e X.env) (λ_ s₂=>jb (iY X.prog X.w) X.A (kx e none) (λ_ s₃ =>
   jb (iY X.prog X.w) X.A (kM e X.env (h₀::hs)) (SP X nA D) X.xe s₃) X.xe s₂) X.xe s₁) s1:=by
 have hl:us.length=ps.length:=by rw[←r.length];exact ok.len _ _ _ _ q
 refine lD (kL (ok.run X.A X.stack s1 H1 ⟨us,[]⟩ us vs Q _ hr I1.env0 (by have:=hb s1 us I1.kIn (by rw[aNq];exact hl);rw[aNq]at this;exact this) r q) λres s' hq=>?_)
 cases res with
 |ok fl =>
  cases fl with
  |ret u=>exact hQ u s' (I1.after hq)
  |next=>exact False.elim hq
  |brk=>exact False.elim hq
  |cont=>exact False.elim hq
 |error ev =>
  obtain⟨e,C,od,H',o,vs',rfl,os,bare,un,hok,hA,ho,hd,hqt,hE⟩:=hq;have I':=I1.call' os un hok bare (λb z=>nomatch z)
  obtain⟨o',vs'',a1,a2,a3,a4⟩:=E7 hok hA;rw[ho]at a1;cases a1;have fr:X.A.frames=some (X.env::X.outer):=by rw[←hstk];exact I'.ok.frames
  have sk:s'.heap.FunFrames X.base (X.env::X.outer):=by rw[←hstk];exact I'.stack
  refine UV fr sk hfr ho hd hqt λh' T Nt=>?_
  have free:∀b∈(X.env::X.outer).filterMap (·.frame),H' b=none:=by
   have z:=I'.stkFree;rw[hstk]at z;exact z
  have un2:=GZ (C:=C) (od:=od) Nt hA;have ok2:=FM (P:=X.prog) (w:=X.w) Nt hA hok free a2 a3 hd;rw[Gz hA]at un2 ok2;have I2:Inv X nA σ H' { s' with heap:=h' }:=I'.call' (s':={ s' with heap:=h' }) rfl (by rw[hstk];exact un2) ok2 I'.bare (λb z=>absurd z (by simp))
  obtain⟨o2,vs2,g1,g2,g3,g4⟩:=Bb Nt hd (CC hqt);obtain⟨C2,od2,hA2,hth⟩:=hE e rfl;exact hh nA _ σ H' D e C2 od2 o2 vs2 T I2 hA2 g1 g2 g3 Nt.ent hth
theorem QG{nA:List (Addr×Obj)}{σ:St}{H1:Hp}{s1:iV}{Q:VK}{D:tY}{us:List Value}{vs:List V}{QQ:Value->iV->Prop}(G:Pa X.prog X.w X.K X.mg X.base k x st ps sp f fd) (hr:tm k X.A)
  (hstk:X.stack=X.env::X.outer) (hfr:X.env.frame=some X.env.locals) (hh:PH X (h₀::hs) th) (I1:Inv X nA σ H1 s1) (r:oN vs us)
  (q:sp vs H1 Q λv _ H2=>∀e,v = .ref e->∃C od,H2 e=some (FD e C od)/\th e C od D σ H2) (hQ:∀u s',EP X nA σ Q u s'->QQ u s') :
  jb (iY X.prog X.w) X.A (call (.ref f) us) QQ (λe s₁=>jb (iY X.prog X.w) X.A (kP e X.env) (λ_ s₂=>jb (iY X.prog X.w) X.A (kx e none) (λ_ s₃ =>
   jb (iY X.prog X.w) X.A (kM e X.env (h₀::hs)) (SP X nA D) X.xe s₃) X.xe s₂) X.xe s₁) s1:=NJ G.ok G.D.b hr hstk hfr hh I1 r q hQ
def Rv(sp:Sp) (t:TA) (th:XH):TS:=λD σ H=>t σ H λvs H1=>sp vs H1 (λ_ H2=>D.nx σ H2) λv _ H2=>∀e,v = .ref e->∃C od,H2 e=some (FD e C od)/\th e C od D σ H2
theorem P6(G:Pa X.prog X.w X.K X.mg X.base k x st ps sp f fd) (hr:tm k X.A) (ha:PA X.nox (e::es) t) (hh:PH X (h₀::hs) th) (hstk:X.stack=X.env::X.outer:=by rfl) (hfr:X.env.frame=some X.env.locals:=by rfl)
  (hg:Gl X x:=by rfl) (hdb:(x == ("__debug__" : Str))=false:=by decide)
  (he:jh (e::es) X.env=(false,eval e X.env)::jh es X.env:=by rfl) (hpl:(jH pos (jh es X.env)).any (·.1)=false:=by rfl)
  (hsw:lK (.Call (.Name x p) (e::es) [] pos) none pos2.line X.env=pure false:=by rfl) :
  PS X (.Try [.Expr (.Call (.Name x p) (e::es) [] pos) pos2] (h₀::hs) [] [] pos3) (Rv sp t th):=by
 intro nA s σ H D I h;refine wpAny_Try_except (kK (wpAny_Expr_any (jJ (BI I hg G.D.m ?_ hdb)) I.quiet hsw));refine W.callWith_K (h₀:=X.base) I.ok.mod.kin G.D.F.kp (jk (ha pos nA s σ H _ (I.wish _) h) (λus s1 hz1=>?_) λ_ _ z=>z.elim) he hpl
 obtain⟨vs,H1,I1,r,q⟩:=hz1;refine⟨I1.kIn,?_⟩;refine QG G hr hstk hfr hh I1.unwish r q λu s' hz1=>?_
 obtain⟨v,H2,I2,rv,q2⟩:=hz1;exact jK (jK ⟨σ,H2,I2,q2⟩)
end
end Xe
namespace Xe
open PySem
section
variable {prog:je}{w:jf}{A:Around}{E:Value->iV->Prop}{h:Heap}{g:Array GenState}{d:Drawn}{t:Nat}{os:OsState}
variable {nm q:Str}{C N:Addr}{bs bm:List Value}{hdct:Bool}{sn:List Str}{sub:List Value}{ab:Bool}{col:Option Bool}{dd:Option Addr}{k0 k1 k2 k3 k5:Option Value}
theorem Bf(T:OwnTail h Dd bm) {rest:List Value}{Q:Fin->iV->Prop}
  (hC:h.get? C=some (kc nm q C N bs bm hdct sn sub ab col dd k0 k1 k2 k3 k5 "ValueError.__new__"))
  (hi:Lk (iY prog w) h (kE (.ref C) "__init__") (some (.builtin "ValueError.__init__")))
  (hq:∀h' e,iE h h' e (.ref C) rest->h.objs.size<=e->Q (.done (.ret (.ref e))) ⟨h',g,d,t,os⟩) (hrest:rest.length<=jc) :
  jb (iY prog w) A (Builtin.«type.__call__» ⟨.ref C::rest,[]⟩) Q E ⟨h,g,d,t,os⟩:=by
 have F:=PySem.F.excBase_ValueError
 repeat (first|with_reducible refine jr hC ?_|with_reducible refine wpAny_madeBy_exc hC ?_|wp_step)
 refine codeAny_call_builtin_code (Code.quiet_builtin _ F.quiet) (wpAny_check_new_subT F T hC ?_);refine codeAny_exc_new_subT F T hC ?_ hrest;show jb _ _ _ _ _ _;have hC₁:=aj { cls:=.ref C,data:=.fields #[.ref h.objs.size,.none,.none,.none,.bool false,.none] }
  (aj { cls:=.type "tuple", data:=.seq rest.toArray } hC)
 have hget:((h.push { cls:=.type "tuple", data:=.seq rest.toArray }).push
   { cls:=.ref C,data:=.fields #[.ref h.objs.size,.none,.none,.none,.bool false,.none] }).get? (h.objs.size+1)=some
   { cls:=.ref C,data:=.fields #[.ref h.objs.size,.none,.none,.none,.bool false,.none] }:=by heap_get
 have hcC:(aE C::bm).contains (.ref C)=true:=by simp
 have kk:∀b o,h.get? b=some o->((h.push { cls:=.type "tuple", data:=.seq rest.toArray }).push { cls:=.ref C,data:=.fields #[.ref h.objs.size,.none,.none,.none,.bool false,.none] }).get? b=some o:=λb o e=>aj _ (aj _ e)
 have T₁:=T.keeps (h':=(h.push { cls:=.type "tuple", data:=.seq rest.toArray }).push { cls:=.ref C,data:=.fields #[.ref h.objs.size,.none,.none,.none,.bool false,.none] })
  λb o e=>aj _ (aj _ e)
 unfold isInstance
 repeat (first|with_reducible refine jr hget ?_|(with_reducible refine jB hC₁ ?_;rw[hcC])|wp_step)
 show jb _ _ (kE (.ref C) _) _ _ _;refine hi _ _ _ _ kk ?_;refine jI (ja (wpAny_of_eq (F.init.bind _) ?_));refine ja (lD (codeAny_call_builtin F.init.plain F.initEntry (wpAny_check_init_subT F T₁ hC₁ hget rfl ?_)))
 wp_walk
 refine hq _ _ ⟨λb o hb=>?_,dO (bO _),h.objs.size+2,?_,dO (by lia),?_⟩ (bO _)
 .rw [bz _ _ (cZ (cu (aq hb)))];exact aj _ (aj _ (aj _ hb))
 .rw [dD _ (aj _ hget) rfl];simp only[gI];rfl
 .rw [bz _ _ (show h.objs.size+1≠h.objs.size+2 by lia)]
  exact Heap.get?_push_at (by simp only[gI]) rfl
theorem Hs(T:OwnTail h Dd bm) {rest:List Value}{Q:Value->iV->Prop}
  (hC:h.get? C=some (kc nm q C N bs bm hdct sn sub ab col dd k0 k1 k2 k3 k5 "ValueError.__new__"))
  (hi:Lk (iY prog w) h (kE (.ref C) "__init__") (some (.builtin "ValueError.__init__")))
  (hq:∀h' e,iE h h' e (.ref C) rest->h.objs.size<=e->Q (.ref e) ⟨h',g,d,t,os⟩) (hrest:rest.length<=jc) :
  jb (iY prog w) A (call (.ref C) rest) Q E ⟨h,g,d,t,os⟩:=by
 have f1:=tc_lookup;have f2:=tc_bind (.ref C);have hT:(⟨h,g,d,t,os⟩:iV).TypeIs (.ref C) "type" := ⟨_,hC,rfl⟩;refine lD (codeAny_of_tree ?_);show jb _ _ (callAny (.ref C) _) _ _ _
 repeat (any_goals (first|assumption|with_reducible refine jr hC ?_|wp_step))
 refine⟨rfl,?_⟩;refine codeAny_call_builtin_at (Code.quiet_builtin _ (by decide +kernel)) entry_typeCall (wpAny_check_type_call_sub hC (Bf (hrest:=hrest) T hC hi λh' e hm hs=>?_))
 exact hq h' e hm hs
end
end Xe
namespace Xe
open PySem PySem.Spec PySem.W PyProof.Rows L2 Mr
def Vf(K:Frag) (c:Str):TE:=λ_ H Q=>∃C M,Ea K c C M/\∀e,H e=none->Q (.ref e) (upd H e (Vq e C none))
structure VC (K:Frag) (mg:Str->Option Value) (c:Str) (C M:Addr):Prop where
 rf:Ea K c C M
 ini:findIn K (.ref C) "__init__" = some (some (.builtin "ValueError.__init__"))
 kp:keepIn K (.ref C)=true
 m:mg c=some (.ref C)
section
variable {X:Cx}{c:Str}{C M:Addr}{p pos:Pos}
theorem R7(G:VC X.K X.mg c C M) (hg:Gl X c:=by rfl) (hdb:(c == ("__debug__" : Str))=false:=by decide):PE X (.Call (.Name c p) [] [] pos) (Vf X.K c):=by
 intro nA s σ H Q I h;refine jJ (BI I hg G.m ?_ hdb);refine W.callWith_K0 I.kIn G.kp ?_;obtain⟨C',M',rf',q⟩:=h;obtain⟨rfl,rfl⟩:=G.rf.one rf';obtain⟨⟨N,q',bs,sn,sub,ab,col,dd,k0,k1,k2,k3,k5,hC⟩,_,T⟩:=Cq G.rf.xc;obtain⟨hh,g,d,tk,os⟩:=s;refine Hs (rest:=[]) (T _ I.kIn) (I.kIn _ _ hC) (looks_findIn I.kIn G.ini) (λh' e hm hs=>?_) (by rw[jt];simp)
 obtain⟨t0,hx,_,_⟩:=hm.there;exact⟨.ref e,_,I.laid (t':=tk) hm.keeps hs (Ui hx),rfl,q e (I.hok.fresh hs)⟩
end
end Xe
namespace Mr
open PySem PySem.Calls PySem.Spec PyProof.Rows L2
section
variable {X:Cx}
def RI(K:W.Frag) (x:V) (H:Hp) (T:String):Prop:=match x with
 | .int _=>T = "list" ∨ T = "tuple" ∨ T = "str"
 | .str _=>T = "list" ∨ T = "tuple"
 | .non=>T = "list" ∨ T = "tuple"
 | .ref p=>(T = "tuple" /\ ∃xs,qC K H p xs)∨(T = "list" /\ ∃xs,Bh K H p xs)
 |_=>False
theorem B3:sv X (.builtin "isinstance") (λxs H Q=>∃x T,xs=[x,.ty T]/\RI X.K x H T/\Q (.bl false) H):=by
 intro nA s σ H xs us Q I r h;obtain⟨x,T,rfl,e,q⟩:=h;obtain⟨u,v,rfl,rx,rT⟩:=MN r;cases rT;cases x with
 |int i =>
  obtain⟨t,rfl⟩:=rx;rcases e with rfl|rfl|rfl
  .exact ji (jO (by decide +kernel) F.isi_meta_list F.sub_int_list) (show EP X nA σ Q (.bool false) { s with toks:=s.toks+1 } from ⟨.bl false,H,I.tok _,rfl,q⟩)
  .exact ji (jO (by decide +kernel) F.isi_meta_tuple F.sub_int_tuple) (show EP X nA σ Q (.bool false) { s with toks:=s.toks+1 } from ⟨.bl false,H,I.tok _,rfl,q⟩)
  .exact ji (jO (by decide +kernel) F.isi_meta_str F.sub_int_str) (show EP X nA σ Q (.bool false) { s with toks:=s.toks+1 } from ⟨.bl false,H,I.tok _,rfl,q⟩)
 |str i =>
  obtain⟨t,rfl⟩:=rx;rcases e with rfl|rfl
  .exact ji (lC (by decide +kernel) F.isi_meta_list F.sub_str_list) (show EP X nA σ Q (.bool false) { s with toks:=s.toks+1 } from ⟨.bl false,H,I.tok _,rfl,q⟩)
  .exact ji (lC (by decide +kernel) F.isi_meta_tuple F.sub_str_tuple) (show EP X nA σ Q (.bool false) { s with toks:=s.toks+1 } from ⟨.bl false,H,I.tok _,rfl,q⟩)
 |non =>
  cases rx;rcases e with rfl|rfl
  .exact ji (kW (by decide +kernel) F.isi_meta_list F.sub_NoneType_list) (show EP X nA σ Q (.bool false) { s with toks:=s.toks+1 } from ⟨.bl false,H,I.tok _,rfl,q⟩)
  .exact ji (kW (by decide +kernel) F.isi_meta_tuple F.sub_NoneType_tuple) (show EP X nA σ Q (.bool false) { s with toks:=s.toks+1 } from ⟨.bl false,H,I.tok _,rfl,q⟩)
 |ref p =>
  cases rx;rcases e with ⟨rfl,xs,hS⟩|⟨rfl,xs,hS⟩
  .obtain ⟨its,rv,pl,hz⟩:=I.list hS;exact ji (isinstance_false_list (by decide +kernel) F.isi_meta_tuple F.sub_list_tuple) ⟨pl.isList.typeIs,⟨.bl false,H,I.tok _,rfl,q⟩⟩
  .obtain ⟨its,rv,⟨o,ho,hc,_⟩,hz⟩:=I.tuple hS;exact ji (isinstance_false_tuple (by decide +kernel) F.isi_meta_list F.sub_tuple_list) ⟨⟨o,ho,hc⟩,⟨.bl false,H,I.tok _,rfl,q⟩⟩
 |_=>exact(show False from e).elim
end
end Mr
namespace MrS
open PySem PySem.W PyProof.Rows
section
variable {prog:je}{w:jf}{A:Around}{E:Value->iV->Prop}{s:iV}{Pk:iW->Prop}{lt:iW->iW->Bool}{T:String}{r d:Addr}{n:Nat}{P:Nat->Value->Prop}{OK:Heap->Prop}
theorem FR{Q:List Value->iV->Prop}(K:KdlSrc prog w T r d n P OK) (hh:A.handled=none) (hok:OK s.heap) (hn:n<=jc)
  (h:∀h' tk (acc:Array Value),(∀b o,s.heap.get? b=some o->h'.get? b=some o)->s.heap.objs.size<h'.objs.size->ItemsOf P acc n->Q acc.toList { s with heap:=h',toks:=tk }) :
  jb (iY prog w) A (collect (.ref r)) Q E s:=by
 unfold collect;refine ja (wpAny_runValue (jL entry_proto_collect' ?_));show jb _ _ (do again (.builtin "list.__iadd__" ⟨[←newList [],.ref r],[]⟩)) _ _ s
 refine ja (kA (jj ⟨Code.quiet_builtin _ (by decide +kernel),jL entry_list_iadd' ?_⟩))
 show jb _ _ (Builtin.List.listExtendWith (.ref s.heap.objs.size) (.ref r) (.ref s.heap.objs.size)) _ _ { s with heap:=s.heap.push (jm "list" #[] 0) }
 have hlt:=K.there _ hok;have hS0:(s.heap.push (jm "list" #[] 0)).get? s.heap.objs.size=some (jm "list" #[] 0):=bh _ rfl;refine kdl_extend (A:=A) (R:=λr s'=>match r with
   | .ok (.ret v)=>jb (iY prog w) A (match v with
    | .ref a=>do
     let o ←load a
     match o.data with
     | .seq xs _=>pure xs.toList
     |_=>jZ "internal:collect"
    |_=>jZ "internal:collect") Q E s'
   | .ok _=>False
   | .error e=>E e s') (s:={ s with heap:=s.heap.push (jm "list" #[] 0) }) K hh (K.keep _ _ hok λb _ o e=>aj _ e) s.heap.objs.size (cZ hlt.1) (cZ hlt.2) (.ref s.heap.objs.size) 0 hS0 (λh' tk acc c hk hS hi=>?_) hn
 show jb (iY prog w) A (do
   let o ←load s.heap.objs.size
   match o.data with
   | .seq xs _=>pure xs.toList
   |_=>jZ "internal:collect") Q E { s with heap:=h',toks:=tk }
 refine ja (wpAny_load hS ?_);exact jj (h h' tk acc (λb o e=>hk b o (aS (aq e)) (aj _ e)) (aq hS) hi)
theorem HH{Q:Value->iV->Prop}(K:KdlSrc prog w T r d n P OK) (hh:A.handled=none) (hok:OK s.heap) (hn:n<=jc)
  (hC:∀(vs:List Value),vs.length=n->(∀j v,vs[j]?=some v->P j v)->∀s':iV,(2<=vs.length->∀Q:jz->iV->Prop,Q jN s'->jb (iY prog w) A.in1.in1 (keyKind' vs.toArray) Q E s')/\xq prog w A.in1.in1 s' jN Pk lt/\∀v∈vs,Pk (v,v))
  (h:∀(vs out:List Value) (h':Heap) (p:Addr) (tk n':Nat),vs.length=n->(∀j v,vs[j]?=some v->P j v)->out.Perm vs->out.Pairwise (λx y=>lt (y,y) (x,x)=false)->(∀b o,s.heap.get? b=some o->h'.get? b=some o)->s.heap.objs.size<=p ->
   h'.get? p=some (jm "list" out.toArray n')->Q (.ref p) { s with heap:=h',toks:=tk }) :
  jb (iY prog w) A (call (.builtin "sorted") [.ref r]) Q E s:=by
 refine Calls.call_function_entry kind_sorted plain_sorted entry_sorted (args_sorted1 _) ?_;unfold Builtin.«sorted»;refine ja (m:=checkCount "sorted" 1 1 _) (jj ?_);refine ja (FR K hh hok hn λh0 tk acc hk0 hsz0 hi=>?_)
 have hl:acc.toList.length=n:=by rw[aw];exact hi.1
 have hP:∀j v,acc.toList[j]?=some v->P j v:=λj v e=>hi.2 j v (by rw[←aF];exact e)
 have hs:acc.toList.length<=jc:=by rw[hl];exact hn
 generalize acc.toList=vs at hl hP hs;refine ja (kA ?_ hs);have hoL:(h0.push (jm "list" vs.toArray 0)).get? h0.objs.size=some (jm "list" vs.toArray 0):=bh _ rfl;show jb _ _ _ _ _ { s with heap:=h0.push (jm "list" vs.toArray 0),toks:=tk }
 have hsz:s.heap.objs.size<=h0.objs.size:=cJ hsz0;have k1:∀b o,s.heap.get? b=some o->(h0.push (jm "list" vs.toArray 0)).get? b=some o:=λb o e=>aj _ (hk0 b o e)
 have hlt:∀b o,s.heap.get? b=some o->b≠h0.objs.size:=λb o e=>aS (aq (hk0 b o e))
 generalize h0.push (jm "list" vs.toArray 0)=G at hoL k1 ⊢
 clear hsz0
 generalize h0.objs.size=p at hoL hsz hlt ⊢;have k2:∀b o,s.heap.get? b=some o->(tI G p vs).get? b=some o:=λb o e=>by
  refine aj _ (aj _ ?_);rw[cV _ _ _ _ (hlt b o e)];exact k1 b o e
 obtain⟨q1,q2,q3⟩:=hC vs hl hP { s with heap:=tI G p vs,toks:=tk }
 refine ja (jI (wpAny_call_entry slot_list_sort ⟨_,hoL,rfl⟩ entry_list_sort (yG (s:={ s with heap:=G,toks:=tk }) (Pk:=Pk) (lt:=lt) hoL hs q1 q2 (λx hx=>?_) λxs a1 a2=>⟨_,rfl,?_⟩) (args_list_sort _)))
 .obtain ⟨m1,m2⟩:=va hx;have:x=(x.1,x.1):=iw rfl m2;rw[this];exact q3 _ m1
 .obtain ⟨v1,v2⟩:=A4 a1 a2;obtain⟨e1,ho1⟩:=JG vs hoL;obtain⟨n1,g1⟩:=J0 (xs.map (·.2)) ho1;refine jj ⟨_,rfl,h vs _ (kF G p vs (xs.map (·.2))) p tk n1 hl hP v1 v2 (λb o e=>?_) hsz ?_⟩
  .unfold kF;rw[cV _ _ _ _ (hlt b o e)];exact k2 b o e
  .rw [show (xs.map (·.2)).toList.toArray=xs.map (·.2) from gL]
   exact g1
end
end MrS
namespace Mr
open PySem PySem.W PySem.Spec PyProof.Rows L2
section
variable {X:Cx}
theorem JE:∀{us:List Value}{ns:List Int},us.length=ns.length->(∀(j:Nat) (v:Value) (n:Int),us[j]?=some v->ns[j]?=some n->∃t,v=gE n t)->ju us ns
 | [],[],_,_=>.nil
 | [],_::_,h,_=>by simp at h
 |_::_,[],h,_=>by simp at h
 |u::us,n::ns,h,g=>by
  obtain⟨t,rfl⟩:=g 0 u n rfl rfl;exact .cons n t (JE (by simpa using h) λj v m e1 e2=>g (j+1) v m (by simpa using e1) (by simpa using e2))
theorem P7:∀{kvs:List (oD×V)}{ws:List (oD×Value)},KV kvs ws->kvs.map (·.1)=ws.map (·.1):=λ{kvs ws} r=>by
 induction r with
 |nil=>rfl
 |cons a b ih=>rw[au,au,ih,a.1]
theorem Fy(hc:X.calm=true):sv X (.builtin "sorted") (λxs H Q=>∃(a:Addr) (kvs:List (oD×V)) (ns:List Int),xs=[.ref a]/\H a=some (.dK kvs)/\kvs.map (·.1)=ns.map aO/\∀p,H p=none->Q (.ref p) (upd H p (.lst ((vE ns).map V.int)))):=by
 intro nA s σ H xs us Q I r h;obtain⟨a,kvs,ns,rfl,ha,hk,q⟩:=h;obtain⟨u,rfl,ru⟩:=yF r;cases ru;obtain⟨hz,sa,vs,kv,d⟩:=(show qv X.prog X.w H s.heap a (.dK kvs) from I.hok a _ ha)
 obtain⟨ep,da⟩:=d.dictAt;have hl:=Paired.length kv;have hlen:ns.length=vs.length:=by
  have:=congrArg bo hk;rw[lMq,lMq]at this;rw[←this,hl]
 have hkv:vs.map (·.1)=ns.map aO:=by rw[←P7 kv,hk]
 have hI:∀us:List Value,us.length=vs.length->(∀(j:Nat) (v:Value),us[j]?=some v->∃k x,vs[j]?=some (k,x)/\(qp X.prog X.w).is k v=true)->ju us ns:=λus h1 h2=>JE (by rw[h1,hlen]) λj v m e1 e2=>by
  obtain⟨k,x,g1,g2⟩:=h2 j v e1;have e3:(vs.map (·.1))[j]?=some k:=by rw[gMq,g1];rfl
  rw[hkv,gMq,e2]at e3;have e4:(aO m:oD)=k:=by simpa using e3
  subst e4;rcases qk (k:=aO m) (v:=v) g2 with ⟨i,t,e5,e6⟩|⟨z,t,e5,_⟩
  .cases e5;exact⟨t,e6⟩
  .cases e5
 refine MrS.HH (kdl_dict (knd:=qp X.prog X.w) (d:=a) (kvs:=vs) (ep:=ep) sa) (I.ok.hd hc) da (by rw[←hl];exact hz) (Pk:=λx:iW=>∃a t,x.1=gE a t) (lt:=XW) (λus h1 h2 s'=>⟨λh3 Q q=>?_,Xf _ _ _ _,λv m=>(Jj (hI us h1 h2)).2 v m⟩) λus out h' p tk n' h1 h2 o1 o2 o3 op o4=>?_
 .have hi:=hI us h1 h2
  match us,hi,h3 with
  | [],_,h3=>simp at h3
  | [_],_,h3=>simp at h3
  |v₁::v₂::rest,hi,_ =>
   rw[keyKind_ints hi];exact jj q
 .obtain ⟨en,hv⟩:=Jj (hI us h1 h2);have ho:∀v∈out,∃a t,v = .int a t:=λv m=>hv v (o1.mem_iff.mp m)
  have e:out.map intOf=vE ns:=by
   refine QU (by rw[en];exact o1.map _) ?_
   rw[bq];refine o2.imp_of_mem λ{x y} mx my h=>?_
   obtain⟨a,t,rfl⟩:=ho x mx;obtain⟨b,u,rfl⟩:=ho y my;have h':¬ b<a:=of_decide_eq_false h;show a<=b;lia
  have hp:H p=none:=I.hok.fresh op;refine⟨.ref p,_,I.laid (t':=tk) o3 op (show qv X.prog X.w _ h' _ (.lst ((vE ns).map V.int)) from ⟨?_,out,n',?_,o4⟩),rfl,q _ hp⟩
  .rw [lMq,(Ad ns).length_eq,hlen,←hl];exact hz
  .rw [←e];exact vals_ints ho
end
end Mr
namespace Z
open PySem L2 Mr
abbrev St:=L2.St
inductive D where
 |non|bl (b:Bool)|int (i:Int)|str (x:Str)|ty (n:String)|list (xs:List D)|tup (xs:List D)|dict (kvs:List (oD×D))|scr (ns:List Int)|exc (c:Str) (fs:List (Str×Int))|cls (c:Str)|fd (kvs:List (oD×D))|ins (c:Str) (fs:List (Str×D))
inductive qb (K:W.Frag) (H:Hp):D->V->Prop
 |non:qb K H .non .non
 |bl {b:Bool}:qb K H (.bl b) (.bl b)
 |int {i:Int}:qb K H (.int i) (.int i)
 |str {x:Str}:qb K H (.str x) (.str x)
 |ty {n:String}:qb K H (.ty n) (.ty n)
 |list {p:Addr}{vs:List V}{ds:List D}(h:H p=some (.lst vs)) (l:ds.length=vs.length) (e:∀(i:Nat) (d:D) (v:V),ds[i]?=some d->vs[i]?=some v->qb K H d v):qb K H (.list ds) (.ref p)
 |tup {p:Addr}{vs:List V}{ds:List D}(h:H p=some (.tup vs)) (l:ds.length=vs.length) (e:∀(i:Nat) (d:D) (v:V),ds[i]?=some d->vs[i]?=some v->qb K H d v):qb K H (.tup ds) (.ref p)
 |dict {p:Addr}{kvs:List (oD×V)}{ds:List (oD×D)}(h:H p=some (.dK kvs)) (l:ds.map (·.1)=kvs.map (·.1)) (e:∀(i:Nat) (d:oD×D) (v:oD×V),ds[i]?=some d->kvs[i]?=some v->qb K H d.2 v.2):qb K H (.dict ds) (.ref p)
 |scr {p:Addr}{ns:List Int}(h:qC K H p (ns.map V.int)):qb K H (.scr ns) (.ref p)
 |exc {c:Str}{fs:List (Str×Int)}{e C M dx:Addr}(rf:Xe.Ea K c C M) (nf:∀p∈fs,W.findIn K (.ref C) p.1=some none) (h:H e=some (Xe.FD e C (some dx))) (hx:H dx=some (.xd (fs.map λp=>(p.1,V.int p.2)))):qb K H (.exc c fs) (.ref e)
 |exc0 {c:Str}{e C M:Addr}(rf:Xe.Ea K c C M) (h:H e=some (Xe.FD e C none)):qb K H (.exc c []) (.ref e)
 |cls {c:Str}{C:Addr}(h:Xe.VM K c C):qb K H (.cls c) (.ref C)
 |fd {p:Addr}{o:Obj}{kvs:List (oD×V)}{ds:List (oD×D)}(h:H p=some (.frz o (.dK kvs))) (l:ds.map (·.1)=kvs.map (·.1)) (e:∀(i:Nat) (d:oD×D) (v:oD×V),ds[i]?=some d->kvs[i]?=some v->qb K H d.2 v.2):qb K H (.fd ds) (.ref p)
 |ins {c:Str}{a C dx:Addr}{gs:List (Str×V)}{fs:List (Str×D)}(rf:W.nsIn K jd c=some (some (.ref C))) (h:H a=some (.ins C dx gs)) (l:fs.map (·.1)=gs.map (·.1)) (e:∀(i:Nat) (d:Str×D) (v:Str×V),fs[i]?=some d->gs[i]?=some v->qb K H d.2 v.2):qb K H (.ins c fs) (.ref a)
def oX(K:W.Frag) (H:Hp) (ds:List D) (vs:List V):Prop:=ds.length=vs.length/\∀(i:Nat) (d:D) (v:V),ds[i]?=some d->vs[i]?=some v->qb K H d v
def uc(K:W.Frag) (H:Hp) (ds:List (oD×D)) (kvs:List (oD×V)):Prop:=ds.map (·.1)=kvs.map (·.1)/\∀(i:Nat) (d:oD×D) (v:oD×V),ds[i]?=some d->kvs[i]?=some v->qb K H d.2 v.2
section
variable {K:W.Frag}{H H':Hp}
theorem qb.mono{d:D}{v:V}(h:qb K H d v) (s:ot H H'):qb K H' d v:=by
 induction h with
 |non=>exact .non
 |bl=>exact .bl
 |int=>exact .int
 |str=>exact .str
 |ty=>exact .ty
 |list h l _ ih=>exact .list (s _ _ h) l ih
 |tup h l _ ih=>exact .tup (s _ _ h) l ih
 |dict h l _ ih=>exact .dict (s _ _ h) l ih
 |scr h=>exact .scr (s.seq h)
 |exc rf nf h hx=>exact .exc rf nf (s _ _ h) (s _ _ hx)
 |exc0 rf h=>exact .exc0 rf (s _ _ h)
 |cls h=>exact .cls h
 |fd h l _ ih=>exact .fd (s _ _ h) l ih
 |ins rf h l _ ih=>exact .ins rf (s _ _ h) l ih
theorem oX.mono{ds:List D}{vs:List V}(h:oX K H ds vs) (s:ot H H'):oX K H' ds vs:=⟨h.1,λi d v a b=>(h.2 i d v a b).mono s⟩
theorem uc.mono{ds:List (oD×D)}{vs:List (oD×V)}(h:uc K H ds vs) (s:ot H H'):uc K H' ds vs:=⟨h.1,λi d v a b=>(h.2 i d v a b).mono s⟩
theorem oX.nil:oX K H [] []:=⟨rfl,λi d v a=>by simp at a⟩
theorem oX.cons{d:D}{v:V}{ds:List D}{vs:List V}(h:qb K H d v) (t:oX K H ds vs):oX K H (d::ds) (v::vs):=⟨by simp[t.1],λi e w a b=>by
 cases i with
 |zero =>
  simp at a b;subst a b;exact h
 |succ i=>exact t.2 i e w (by simpa using a) (by simpa using b)⟩
theorem oX.cons_iff{d:D}{v:V}{ds:List D}{vs:List V}:oX K H (d::ds) (v::vs)↔qb K H d v/\oX K H ds vs :=
 ⟨λh=>⟨h.2 0 d v rfl rfl,by have:=h.1;simpa using this,λi e w a b=>h.2 (i+1) e w (by simpa using a) (by simpa using b)⟩,λh=>.cons h.1 h.2⟩
theorem oX.nil_inv{vs:List V}(h:oX K H [] vs):vs=[]:=by
 have:=h.1;cases vs with
 |nil=>rfl
 |cons _ _=>simp at this
theorem oX.cons_inv{d:D}{ds:List D}{vs:List V}(h:oX K H (d::ds) vs):∃v ws,vs=v::ws/\qb K H d v/\oX K H ds ws:=by
 cases vs with
 |nil=>have:=h.1;simp at this
 |cons v ws=>exact⟨v,ws,rfl,oX.cons_iff.mp h⟩
theorem oX.append:∀{ds es:List D}{vs ws:List V},oX K H ds vs->oX K H es ws->oX K H (ds++es) (vs++ws)
 | [],es,vs,ws,h,g=>by rw[h.nil_inv];exact g
 |d::ds,es,vs,ws,h,g=>by
  obtain⟨v,us,rfl,h1,h2⟩:=h.cons_inv;exact .cons h1 (oX.append h2 g)
theorem oX.take{ds:List D}{vs:List V}(h:oX K H ds vs) (n:Nat):oX K H (ds.take n) (vs.take n):=⟨by rw[lTq,lTq,h.1],λi d v a b=>by
 rw[List.getElem?_take]at a b;split at a
 .rename_i hi;rw[oq hi]at b;exact h.2 i d v a b
 .cases a⟩
theorem oX.drop{ds:List D}{vs:List V}(h:oX K H ds vs) (n:Nat):oX K H (ds.drop n) (vs.drop n):=⟨by rw[aG,aG,h.1],λi d v a b=>by
 rw[cH]at a b;exact h.2 _ d v a b⟩
theorem oX.get{ds:List D}{vs:List V}(h:oX K H ds vs) {i:Nat}{d:D}(e:ds[i]?=some d):∃v,vs[i]?=some v/\qb K H d v:=by
 have hi:i<ds.length:=(gSq.mp e).1;have hj:i<vs.length:=h.1 ▸ hi;exact⟨vs[i],gEg hj,h.2 i d _ e (gEg hj)⟩
theorem oX.get'{ds:List D}{vs:List V}(h:oX K H ds vs) {i:Nat}{v:V}(e:vs[i]?=some v):∃d,ds[i]?=some d/\qb K H d v:=by
 have hi:i<vs.length:=(gSq.mp e).1;have hj:i<ds.length:=h.1.symm ▸ hi;exact⟨ds[i],gEg hj,h.2 i _ v (gEg hj) e⟩
theorem qb.list_inv{ds:List D}{v:V}(h:qb K H (.list ds) v):∃p vs,v = .ref p/\H p=some (.lst vs)/\oX K H ds vs:=by
 cases h with
 |list h l e=>exact⟨_,_,rfl,h,l,e⟩
theorem qb.tup_inv{ds:List D}{v:V}(h:qb K H (.tup ds) v):∃p vs,v = .ref p/\H p=some (.tup vs)/\oX K H ds vs:=by
 cases h with
 |tup h l e=>exact⟨_,_,rfl,h,l,e⟩
theorem qb.dict_inv{ds:List (oD×D)}{v:V}(h:qb K H (.dict ds) v):∃p kvs,v = .ref p/\H p=some (.dK kvs)/\uc K H ds kvs:=by
 cases h with
 |dict h l e=>exact⟨_,_,rfl,h,l,e⟩
theorem qb.mk_list{ds:List D}{p:Addr}{vs:List V}(h:H p=some (.lst vs)) (r:oX K H ds vs):qb K H (.list ds) (.ref p):=.list h r.1 r.2
theorem qb.mk_tup{ds:List D}{p:Addr}{vs:List V}(h:H p=some (.tup vs)) (r:oX K H ds vs):qb K H (.tup ds) (.ref p):=.tup h r.1 r.2
theorem qb.mk_dict{ds:List (oD×D)}{p:Addr}{vs:List (oD×V)}(h:H p=some (.dK vs)) (r:uc K H ds vs):qb K H (.dict ds) (.ref p):=.dict h r.1 r.2
end
def D.scal:D->Bool
 | .non=>true
 | .bl _=>true
 | .int _=>true
 | .str _=>true
 | .ty _=>true
 |_=>false
theorem qb.scal{K:W.Frag}{H H':Hp}{d:D}{v:V}(h:qb K H d v) (s:d.scal=true):qb K H' d v:=by
 cases h with
 |non=>exact .non
 |bl=>exact .bl
 |int=>exact .int
 |str=>exact .str
 |ty=>exact .ty
 |_=>cases s
inductive AV where
 |sh (d:D)|ow (avs:List AV)|owd (kvs:List (oD×D))|owl (kvs:List (oD×List Int))
mutual
def nM:AV->D
 | .sh d=>d
 | .ow avs=>.list (CP avs)
 | .owd kvs=>.dict kvs
 | .owl kvs=>.dict (kvs.map λx=>(x.1,.list (x.2.map .int)))
def CP:List AV->List D
 | []=>[]
 |a::as=>nM a::CP as
end
theorem DU:∀avs:List AV,CP avs=avs.map nM
 | []=>by simp[CP]
 |a::as=>by simp[CP,DU as]
@[simp] theorem pJ (d:D):nM (.sh d)=d:=by simp[nM]
@[simp] theorem rS (avs:List AV):nM (.ow avs) = .list (avs.map nM):=by simp[nM,DU]
@[simp] theorem Am (kvs:List (oD×D)):nM (.owd kvs) = .dict kvs:=by simp[nM]
theorem D0(kvs:List (oD×List Int)):nM (.owl kvs) = .dict (kvs.map λx=>(x.1,.list (x.2.map .int))):=by simp[nM]
inductive oE (K:W.Frag) (Hf H:Hp):AV->V->List Addr->Prop
 |sh {d:D}{v:V}(r:qb K Hf d v):oE K Hf H (.sh d) v []
 |ow {p:Addr}{vs:List V}{avs:List AV}{Fs:List (List Addr)}(h:H p=some (.lst vs)) (n:Hf p=none) (l:avs.length=vs.length) (lf:avs.length=Fs.length)
   (e:∀(i:Nat) (a:AV) (v:V) (F:List Addr),avs[i]?=some a->vs[i]?=some v->Fs[i]?=some F->oE K Hf H a v F):oE K Hf H (.ow avs) (.ref p) (p::Fs.flatten)
 |owd {p:Addr}{kvs:List (oD×V)}{ds:List (oD×D)}(h:H p=some (.dK kvs)) (n:Hf p=none) (r:uc K Hf ds kvs):oE K Hf H (.owd ds) (.ref p) [p]
 |owl {p:Addr}{kvs:List (oD×List Int)}{qs:List Addr}(h:H p=some (.dK (iK (λx q=>(x.1,V.ref q)) kvs qs))) (n:Hf p=none) (l:kvs.length=qs.length) (e:∀(i:Nat) (q:Addr) (x:oD×List Int),qs[i]?=some q->kvs[i]?=some x->H q=some (.lst (x.2.map V.int))/\Hf q=none):oE K Hf H (.owl kvs) (.ref p) (p::qs)
theorem Ja{K:W.Frag}{H:Hp}{p:Addr}{kvs:List (oD×List Int)}{qs:List Addr}(h:H p=some (.dK (iK (λx q=>(x.1,V.ref q)) kvs qs))) (l:kvs.length=qs.length) (e:∀(i:Nat) (q:Addr) (x:oD×List Int),qs[i]?=some q->kvs[i]?=some x->H q=some (.lst (x.2.map V.int))):qb K H (.dict (kvs.map λx=>(x.1,.list (x.2.map .int)))) (.ref p):=by
 refine .dict h ?_ λi d v h1 h2=>?_
 .refine dF λi=>?_
  rw[gMq,gMq,gMq,gG]
  by_cases c:i<kvs.length
  .rw [gEg c,gEg (l ▸ c)];rfl
  .rw [bR (gn c)];rfl
 .rw [gMq]at h1;rw[gG]at h2;cases hk:kvs[i]? with
  |none=>rw[hk]at h1;cases h1
  |some x =>
   cases hq:qs[i]? with
   |none=>rw[hk,hq]at h2;cases h2
   |some q =>
    rw[hk]at h1 h2;rw[hq]at h2;cases h1;cases h2;refine .list (e i q x hq hk) (by rw[lMq,lMq]) λj d v e1 e2=>?_
    rw[gMq]at e1 e2;cases hj:x.2[j]? with
    |none=>rw[hj]at e1;cases e1
    |some m =>
     rw[hj]at e1 e2;cases e1;cases e2;exact .int
theorem Tj{kvs:List (oD×List Int)}{qs:List Addr}(l:kvs.length=qs.length) {q:Addr}(hq:q∈qs):∃(i:Nat) (x:oD×List Int),qs[i]?=some q/\kvs[i]?=some x:=by
 obtain⟨i,hi⟩:=aV.mp hq;have hl:=(gSq.mp hi).1;exact⟨i,_,hi,gEg (l ▸ hl)⟩
section
variable {K:W.Frag}{Hf Hf' H H':Hp}{av:AV}{v:V}{F:List Addr}
theorem oE.owned(h:oE K Hf H av v F):∀q∈F,H q≠none/\Hf q=none:=by
 induction h with
 |sh _=>intro q hq;cases hq
 | @ow p vs avs Fs h n l lf e ih =>
  intro q hq;rcases ah.mp hq with rfl|hq
  .exact ⟨by rw[h];simp,n⟩
  .obtain ⟨F,hF,hq⟩:=mFq.mp hq;obtain⟨i,hi,rfl⟩:=cc.mp hF;exact ih i avs[i] vs[i] Fs[i] (by simp) (by simp) (by simp) q hq
 |owd h n r =>
  intro q hq;have:=mSq.mp hq;subst this;exact⟨by rw[h];simp,n⟩
 |owl h n l e =>
  intro q hq;rcases ah.mp hq with z|z
  .rw [z];exact⟨by rw[h];simp,n⟩
  .obtain ⟨i,x,h1,h2⟩:=Tj l z;obtain⟨e1,e2⟩:=e i q x h1 h2;exact⟨by rw[e1];simp,e2⟩
theorem oE.keep(h:oE K Hf H av v F) (s:ot Hf Hf') (hk:∀q∈F,H' q=H q) (hn:∀q∈F,Hf' q=none):oE K Hf' H' av v F:=by
 induction h with
 |sh r=>exact .sh (r.mono s)
 | @ow p vs avs Fs h n l lf e ih =>
  refine .ow (by rw[hk p (by simp)];exact h) (hn p (by simp)) l lf λi a v F h1 h2 h3=>ih i a v F h1 h2 h3 (λq hq=>hk q ?_) λq hq=>hn q ?_
  all_goals exact mCo _ (mFq.mpr ⟨F,mGq h3,hq⟩)
 |owd h n r=>exact .owd (by rw[hk _ (by simp)];exact h) (hn _ (by simp)) (r.mono s)
 | @owl p kvs qs h n l e =>
  refine .owl (by rw[hk _ (ai ..)];exact h) (hn _ (ai ..)) l λi q x h1 h2=>?_
  have m:q∈p::qs:=mCo _ (mGq h1);exact⟨by rw[hk q m];exact(e i q x h1 h2).1,hn q m⟩
theorem oE.rep(h:oE K Hf H av v F) (s:ot Hf H):qb K H (nM av) v:=by
 induction h with
 |sh r=>rw[pJ];exact r.mono s
 | @ow p vs avs Fs h n l lf e ih =>
  rw[rS];refine .list h (by simp[l]) λi d v h1 h2=>?_
  rw[gMq]at h1;cases ea:avs[i]? with
  |none=>rw[ea]at h1;cases h1
  |some a =>
   rw[ea]at h1;cases h1;have hi:i<Fs.length:=lf ▸ (gSq.mp ea).1;exact ih i a v Fs[i] ea h2 (gEg hi)
 |owd h n r=>rw[Am];exact .mk_dict h (r.mono s)
 |owl h n l e=>rw[D0];exact Ja h l λi q x h1 h2=>(e i q x h1 h2).1
def frz(Hf H:Hp) (F:List Addr):Hp:=λb=>if b∈F then H b else Hf b
theorem As{b:Addr}(h:b∈F):frz Hf H F b=H b:=oq h
theorem tH{b:Addr}(h:b∉F):frz Hf H F b=Hf b:=oz h
theorem rE(h:∀q∈F,Hf q=none):ot Hf (frz Hf H F):=λb o e=>by
 rw[tH λm=>by rw[h b m]at e;cases e]
 exact e
theorem QV(s:ot Hf H):ot (frz Hf H F) H:=λb o e=>by
 by_cases m:b∈F
 .rw [As m]at e;exact e
 .rw [tH m]at e;exact s b o e
theorem oE.frozen(h:oE K Hf H av v F) (s:ot Hf Hf') (hk:∀q∈F,Hf' q=H q):qb K Hf' (nM av) v:=by
 induction h with
 |sh r=>rw[pJ];exact r.mono s
 | @ow p vs avs Fs h n l lf e ih =>
  rw[rS];refine .list (by rw[hk p (by simp)];exact h) (by simp[l]) λi d v h1 h2=>?_
  rw[gMq]at h1;cases ea:avs[i]? with
  |none=>rw[ea]at h1;cases h1
  |some a =>
   rw[ea]at h1;cases h1;have hi:i<Fs.length:=lf ▸ (gSq.mp ea).1;exact ih i a v Fs[i] ea h2 (gEg hi) λq hq=>hk q (mCo _ (mFq.mpr ⟨Fs[i],gRq hi,hq⟩))
 |owd h n r=>rw[Am];exact .mk_dict (by rw[hk _ (by simp)];exact h) (r.mono s)
 |owl h n l e=>rw[D0];exact Ja (by rw[hk _ (ai ..)];exact h) l λi q x h1 h2=>by rw[hk q (mCo _ (mGq h1))];exact(e i q x h1 h2).1
end
abbrev AS:=List (Option AV)
structure oH (K:W.Frag) (H₀ Hf₀ Hf:Hp) (S:AS) (σ:St) (H:Hp) (Fs:List (List Addr)):Prop where
 len:S.length=σ.length
 lenF:Fs.length=S.length
 rep:∀(i:Nat) (av:AV),S[i]?=some (some av)->∃v F,σ[i]?=some (some v)/\Fs[i]?=some F/\oE K Hf H av v F
 emp:∀i:Nat,S[i]?=some none->Fs[i]?=some []
 nd:Fs.flatten.Nodup
 fresh:∀p∈Fs.flatten,H₀ p=none
 sub:ot Hf H
 fr:ot H₀ H
 lim:∀b,Hf₀ b=none->H₀ b≠none->Hf b=none
 sf:ot Hf₀ Hf
structure xy (Hf H:Hp) (Fs:List (List Addr)) (Hf' H':Hp) (Fs':List (List Addr)):Prop where
 sf:ot Hf Hf'
 sh:ot H H'
 own:∀p∈Fs'.flatten,p∈Fs.flatten
 gr:∀b,Hf b=none->Hf' b≠none->H b=none∨b∈Fs.flatten
theorem xy.refl{Hf H:Hp}{Fs:List (List Addr)}:xy Hf H Fs Hf H Fs:=⟨.refl _,.refl _,λ_ h=>h,λb h g=>absurd h g⟩
theorem En{H H':Hp}(s:ot H H') {b:Addr}(h:H b≠none):H' b≠none:=by
 cases e:H b with
 |none=>exact absurd e h
 |some o=>rw[s b o e];simp
theorem xy.trans{Hf H Hf1 H1 Hf2 H2:Hp}{Fs Fs1 Fs2:List (List Addr)}(a:xy Hf H Fs Hf1 H1 Fs1) (b:xy Hf1 H1 Fs1 Hf2 H2 Fs2):xy Hf H Fs Hf2 H2 Fs2 :=
 ⟨a.sf.trans b.sf,a.sh.trans b.sh,λp h=>a.own p (b.own p h),λc h g=>by
  by_cases e:Hf1 c=none
  .rcases b.gr c e g with q|q
   .exact .inl (a.sh.free q)
   .exact .inr (a.own c q)
  .exact a.gr c h e⟩
section
variable {K:W.Frag}{H₀ Hf₀ Hf Hf' H H':Hp}{S:AS}{σ:St}{Fs Fs':List (List Addr)}
theorem JF{b:Addr}(s:ot H H') (h:H b≠none):H' b=H b:=by
 cases e:H b with
 |none=>exact absurd e h
 |some o=>exact s b o e
theorem oH.mem(R:oH K H₀ Hf₀ Hf S σ H Fs) {q:Addr}(h:q∈Fs.flatten):H q≠none/\Hf q=none:=by
 obtain⟨F,hF,hq⟩:=mFq.mp h;obtain⟨i,hi,rfl⟩:=cc.mp hF;have hiS:i<S.length:=R.lenF ▸ hi;cases e:S[i] with
 |none =>
  have:=R.emp i (by rw[gEg hiS,e])
  rw[gEg hi]at this;rw[aT.inj this]at hq;cases hq
 |some av =>
  obtain⟨v,F,_,e2,r⟩:=R.rep i av (by rw[gEg hiS,e])
  rw[gEg hi]at e2;rw[aT.inj e2]at hq;exact r.owned q hq
theorem oH.more(R:oH K H₀ Hf₀ Hf S σ H Fs) (s:ot H H') (sf:ot Hf Hf') (sub:ot Hf' H') (hn:∀q∈Fs.flatten,Hf' q=none) (lim:∀b,Hf₀ b=none->H₀ b≠none->Hf' b=none):oH K H₀ Hf₀ Hf' S σ H' Fs where
 len:=R.len
 lenF:=R.lenF
 rep:=λi av e=>by
  obtain⟨v,F,e1,e2,r⟩:=R.rep i av e;refine⟨v,F,e1,e2,r.keep sf (λq hq=>JF s (r.owned q hq).1) λq hq=>hn q (mFq.mpr ⟨F,mGq e2,hq⟩)⟩
 emp:=R.emp
 nd:=R.nd
 fresh:=R.fresh
 sub:=sub
 fr:=R.fr.trans s
 lim:=lim
 sf:=R.sf.trans sf
theorem oH.laid(R:oH K H₀ Hf₀ Hf S σ H Fs) (s:ot H H'):oH K H₀ Hf₀ Hf S σ H' Fs:=R.more s (.refl _) (R.sub.trans s) (λq h=>(R.mem h).2) R.lim
theorem qe{F:List Addr}{i:Nat}{p:Addr}(h:p∈(Fs.set i F).flatten):p∈F∨p∈Fs.flatten:=by
 obtain⟨G,hG,hp⟩:=mFq.mp h;rcases List.mem_or_eq_of_mem_set hG with q|q
 .exact .inr (mFq.mpr ⟨G,q,hp⟩)
 .subst q;exact .inl hp
theorem ql:∀{Fs:List (List Addr)}{F:List Addr}(i:Nat),Fs.flatten.Nodup->F.Nodup->(∀p∈F,p∉Fs.flatten)->(Fs.set i F).flatten.Nodup
 | [],F,i,h,_,_=>by simp
 |G::Gs,F,0,h,hF,hd=>by
  rw[df,fCq,nAq];rw[fCq,nAq]at h;refine⟨hF,h.2.1,λa ha b hb e=>hd a ha ?_⟩
  rw[fCq];exact ar _ (e ▸ hb)
 |G::Gs,F,i+1,h,hF,hd=>by
  rw[eD,fCq,nAq];rw[fCq,nAq]at h;refine⟨h.1,ql i h.2.1 hF λp hp m=>hd p hp (by rw[fCq];exact ar _ m),λa ha b hb e=>?_⟩
  rcases qe hb with q|q
  .exact hd b q (by rw[fCq];exact aD _ (e ▸ ha))
  .exact h.2.2 a ha b q e
theorem oH.set(R:oH K H₀ Hf₀ Hf S σ H Fs) {av:AV}{v:V}{F:List Addr}(i:Nat) (r:oE K Hf H av v F) (nd:F.Nodup) (hf:∀q∈F,H₀ q=none/\q∉Fs.flatten) :
  oH K H₀ Hf₀ Hf (S.set i (some av)) (σ.set i (some v)) H (Fs.set i F) where
 len:=by simp[R.len]
 lenF:=by simp[R.lenF]
 rep:=λj a e=>by
  rw[bf]at e
  by_cases hij:i=j
  .subst hij;rw[oq rfl]at e;split at e
   .rename_i hi;cases e;exact⟨v,F,by rw[aC (R.len ▸ hi)],by rw[aC (R.lenF.symm ▸ hi)],r⟩
   .cases e
  .rw [oz hij]at e;obtain⟨w,G,e1,e2,q⟩:=R.rep j a e;exact⟨w,G,by rw[ao hij];exact e1,by rw[ao hij];exact e2,q⟩
 emp:=λj e=>by
  rw[bf]at e
  by_cases hij:i=j
  .subst hij;rw[oq rfl]at e;split at e <;> cases e
  .rw [oz hij]at e;rw[ao hij];exact R.emp j e
 nd:=ql i R.nd nd λp hp=>(hf p hp).2
 fresh:=λp hp=>by
  rcases qe hp with q|q
  .exact (hf p q).1
  .exact R.fresh p q
 sub:=R.sub
 fr:=R.fr
 lim:=R.lim
 sf:=R.sf
theorem oQ{i:Nat}{p:Addr}(h:p∈(Fs.set i []).flatten):p∈Fs.flatten:=by
 rcases qe h with q|q
 .cases q
 .exact q
theorem sQ:∀{Fs:List (List Addr)}{F:List Addr}{i:Nat}{p:Addr},Fs.flatten.Nodup->Fs[i]?=some F->p∈F->p∉(Fs.set i []).flatten
 | [],F,i,p,_,e,_,_=>by simp at e
 |G::Gs,F,0,p,h,e,hp,m=>by
  simp at e;subst e;rw[df,fCq,bQ]at m;rw[fCq,nAq]at h;exact h.2.2 p hp p m rfl
 |G::Gs,F,i+1,p,h,e,hp,m=>by
  rw[eD,fCq]at m;rw[fCq,nAq]at h;have e':Gs[i]?=some F:=by simpa using e
  rcases mAq.mp m with q|q
  .exact h.2.2 p q p (mFq.mpr ⟨F,mGq e',hp⟩) rfl
  .exact sQ h.2.1 e' hp q
theorem oH.move(R:oH K H₀ Hf₀ Hf S σ H Fs) {i:Nat}{av:AV}(e:S[i]?=some (some av)):∃v F,σ[i]?=some (some v)/\Fs[i]?=some F/\oE K Hf H av v F/\F.Nodup/\(∀q∈F,H₀ q=none/\q∉(Fs.set i []).flatten) /\
  oH K H₀ Hf₀ Hf (S.set i none) σ H (Fs.set i []):=by
 obtain⟨v,F,e1,e2,r⟩:=R.rep i av e;have hin:∀q∈F,q∈Fs.flatten:=λq hq=>mFq.mpr ⟨F,mGq e2,hq⟩
 refine⟨v,F,e1,e2,r,bj.sublist (aU (mGq e2)) R.nd,λq hq=>⟨R.fresh q (hin q hq),sQ R.nd e2 hq⟩,?_⟩
 refine⟨by simp[R.len],by simp[R.lenF],λj a ej=>?_,λj ej=>?_,ql i R.nd aZ (λp hp=>by cases hp),λp hp=>R.fresh p (oQ hp),R.sub,R.fr,R.lim,R.sf⟩
 .rw [bf]at ej
  by_cases hij:i=j
  .subst hij;rw[oq rfl]at ej;split at ej <;> cases ej
  .rw [oz hij]at ej;obtain⟨w,G,f1,f2,q⟩:=R.rep j a ej;exact⟨w,G,f1,by rw[ao hij];exact f2,q⟩
 .rw [bf]at ej
  by_cases hij:i=j
  .subst hij;rw[oq rfl]at ej;split at ej
   .rename_i hi;rw[aC (R.lenF.symm ▸ hi)]
   .cases ej
  .rw [oz hij]at ej;rw[ao hij];exact R.emp j ej
theorem oH.frz(R:oH K H₀ Hf₀ Hf S σ H Fs) {F:List Addr}(hf:∀q∈F,H₀ q=none/\q∉Fs.flatten) (hn:∀q∈F,Hf q=none):oH K H₀ Hf₀ (frz Hf H F) S σ H Fs:=by
 refine R.more (.refl _) (rE hn) (QV R.sub) (λq hq=>?_) λb h1 h2=>?_
 .rw [tH λm=>(hf q m).2 hq]
  exact(R.mem hq).2
 .rw [tH λm=>h2 (hf b m).1]
  exact R.lim b h1 h2
end
abbrev ME:=AS->Option (D×AS)
abbrev MK:=AS->Option (AV×AS)
abbrev ML:=AS->Option (List D×AS)
abbrev MT:=AS->Option (Bool×AS)
abbrev MA:=AS->Option (List AV×AS)
def oJ(K:W.Frag) (Hf H:Hp) (avs:List AV) (vs:List V) (Gs:List (List Addr)):Prop :=
 avs.length=vs.length/\avs.length=Gs.length/\∀(i:Nat) (a:AV) (v:V) (F:List Addr),avs[i]?=some a->vs[i]?=some v->Gs[i]?=some F->oE K Hf H a v F
structure xk (H₀ H:Hp) (Fs Fs':List (List Addr)) (F:List Addr):Prop where
 nd:F.Nodup
 fr:∀q∈F,H₀ q=none
 out:∀q∈F,q∉Fs'.flatten
 new:∀q∈F,H q=none∨q∈Fs.flatten
theorem xk.nil{H₀ H:Hp}{Fs Fs':List (List Addr)}:xk H₀ H Fs Fs' []:=⟨aZ,λq h=>(by cases h),λq h=>(by cases h),λq h=>(by cases h)⟩
section
variable (K:W.Frag)
def SR(te:TE) (m:ME):Prop:=∀{H₀ Hf₀ Hf:Hp}{S:AS}{σ:St}{H:Hp}{Fs:List (List Addr)}{d:D}{S':AS},oH K H₀ Hf₀ Hf S σ H Fs->m S=some (d,S')->∀Q:VK,
 (∀Hf' H' Fs' v,xy Hf H Fs Hf' H' Fs'->oH K H₀ Hf₀ Hf' S' σ H' Fs'->qb K H' d v->Q v H')->te σ H Q
def SK(te:TE) (m:MK):Prop:=∀{H₀ Hf₀ Hf:Hp}{S:AS}{σ:St}{H:Hp}{Fs:List (List Addr)}{a:AV}{S':AS},oH K H₀ Hf₀ Hf S σ H Fs->m S=some (a,S')->∀Q:VK,
 (∀Hf' H' Fs' v F,xy Hf H Fs Hf' H' Fs'->oH K H₀ Hf₀ Hf' S' σ H' Fs'->oE K Hf' H' a v F->xk H₀ H Fs Fs' F->Q v H')->te σ H Q
def SL(te:TE) (m:ML):Prop:=∀{H₀ Hf₀ Hf:Hp}{S:AS}{σ:St}{H:Hp}{Fs:List (List Addr)}{ds:List D}{S':AS},oH K H₀ Hf₀ Hf S σ H Fs->m S=some (ds,S')->∀Q:VK,
 (∀Hf' H' Fs' p vs,xy Hf H Fs Hf' H' Fs'->oH K H₀ Hf₀ Hf' S' σ H' Fs'->H' p=some (.lst vs)->oX K Hf' ds vs->Q (.ref p) H')->te σ H Q
def BQ(tt:TT) (m:MT):Prop:=∀{H₀ Hf₀ Hf:Hp}{S:AS}{σ:St}{H:Hp}{Fs:List (List Addr)}{b:Bool}{S':AS},oH K H₀ Hf₀ Hf S σ H Fs->m S=some (b,S')->∀Q:Bool->Hp->Prop,
 (∀Hf' H' Fs',xy Hf H Fs Hf' H' Fs'->oH K H₀ Hf₀ Hf' S' σ H' Fs'->Q b H')->tt σ H Q
def SA(ta:TA) (m:MA):Prop:=∀{H₀ Hf₀ Hf:Hp}{S:AS}{σ:St}{H:Hp}{Fs:List (List Addr)}{as:List AV}{S':AS},oH K H₀ Hf₀ Hf S σ H Fs->m S=some (as,S')->∀Q:List V->Hp->Prop,
 (∀Hf' H' Fs' vs Gs,xy Hf H Fs Hf' H' Fs'->oH K H₀ Hf₀ Hf' S' σ H' Fs'->oJ K Hf' H' as vs Gs->xk H₀ H Fs Fs' Gs.flatten->Q vs H')->ta σ H Q
def Ra(ta:TA) (m:ML):Prop:=∀{H₀ Hf₀ Hf:Hp}{S:AS}{σ:St}{H:Hp}{Fs:List (List Addr)}{ds:List D}{S':AS},oH K H₀ Hf₀ Hf S σ H Fs->m S=some (ds,S')->∀Q:List V->Hp->Prop,
 (∀Hf' H' Fs' vs,xy Hf H Fs Hf' H' Fs'->oH K H₀ Hf₀ Hf' S' σ H' Fs'->oX K H' ds vs->Q vs H')->ta σ H Q
end
section
variable {K:W.Frag}{H₀ Hf₀ Hf Hf' H H':Hp}{S S':AS}{σ:St}{Fs Fs':List (List Addr)}
theorem oE.stp{av:AV}{v:V}{F:List Addr}(r:oE K Hf H av v F) (ho:∀q∈F,q∉Fs.flatten) (t:xy Hf H Fs Hf' H' Fs'):oE K Hf' H' av v F :=
 r.keep t.sf (λq hq=>JF t.sh (r.owned q hq).1) λq hq=>by
  by_cases e:Hf' q=none
  .exact e
  .rcases t.gr q (r.owned q hq).2 e with z|z
   .exact absurd z (r.owned q hq).1
   .exact absurd z (ho q hq)
theorem oH.new(R:oH K H₀ Hf₀ Hf S σ H Fs) {p:Addr}{o:HO}(hp:H p=none):xy Hf H Fs Hf (upd H p o) Fs/\oH K H₀ Hf₀ Hf S σ (upd H p o) Fs/\Hf p=none/\H₀ p=none/\p∉Fs.flatten :=
 ⟨⟨.refl _,sJ hp,λ_ h=>h,λb h g=>absurd h g⟩,R.laid (sJ hp),R.sub.free hp,R.fr.free hp,λm=>(R.mem m).1 hp⟩
theorem qS(n:Nat):(aQ n ([]:List Addr)).flatten=[]:=by
 induction n with
 |zero=>rfl
 |succ n ih=>rw[List.replicate_succ,fCq,ih];rfl
theorem oE.new{p:Addr}{vs:List V}{ds:List D}(h:H p=some (.lst vs)) (n:Hf p=none) (r:oX K Hf ds vs):oE K Hf H (.ow (ds.map .sh)) (.ref p) [p]:=by
 have e:[p]=p::(aQ ds.length ([]:List Addr)).flatten:=by rw[qS]
 rw[e];refine .ow h n (by simp[r.1]) (by simp) λi a v F h1 h2 h3=>?_
 rw[gMq]at h1;cases q:ds[i]? with
 |none=>rw[q]at h1;cases h1
 |some d =>
  rw[q]at h1;cases h1;have:F=[]:=bZ (mGq h3);subst this;exact .sh (r.2 i d v q h2)
theorem oE.news{p:Addr}{vs:List V}{avs:List AV}{Gs:List (List Addr)}(h:H p=some (.lst vs)) (n:Hf p=none) (r:oJ K Hf H avs vs Gs):oE K Hf H (.ow avs) (.ref p) (p::Gs.flatten):=.ow h n r.1 r.2.1 r.2.2
theorem oE.ow_inv{avs:List AV}{v:V}{F:List Addr}(h:oE K Hf H (.ow avs) v F):∃p vs Gs,v = .ref p/\F=p::Gs.flatten/\H p=some (.lst vs)/\Hf p=none/\oJ K Hf H avs vs Gs:=by
 cases h with
 |ow h n l lf e=>exact⟨_,_,_,rfl,rfl,h,n,l,lf,e⟩
theorem oE.owd_inv{ds:List (oD×D)}{v:V}{F:List Addr}(h:oE K Hf H (.owd ds) v F):∃p kvs,v = .ref p/\F=[p]/\H p=some (.dK kvs)/\Hf p=none/\uc K Hf ds kvs:=by
 cases h with
 |owd h n r=>exact⟨_,_,rfl,rfl,h,n,r⟩
theorem oE.sh_inv{d:D}{v:V}{F:List Addr}(h:oE K Hf H (.sh d) v F):F=[]/\qb K Hf d v:=by
 cases h with
 |sh r=>exact⟨rfl,r⟩
theorem oH.give{H1:Hp}{Fs1:List (List Addr)}(R:oH K H₀ Hf₀ Hf' S σ H1 Fs1) (t:xy Hf H Fs Hf' H1 Fs1) {av:AV}{v:V}{F:List Addr}(r:oE K Hf' H1 av v F) (o:xk H₀ H Fs Fs1 F) :
  oH K H₀ Hf₀ (Z.frz Hf' H1 F) S σ H1 Fs1/\qb K (Z.frz Hf' H1 F) (nM av) v/\xy Hf H Fs (Z.frz Hf' H1 F) H1 Fs1:=by
 have n:∀q∈F,Hf' q=none:=λq hq=>(r.owned q hq).2
 refine⟨R.frz (λq hq=>⟨o.fr q hq,o.out q hq⟩) n,r.frozen (rE n) λq hq=>As hq,t.sf.trans (rE n),t.sh,t.own,λb h g=>?_⟩
 by_cases m:b∈F
 .exact o.new b m
 .rw [tH m]at g;exact t.gr b h g
theorem oJ.nil:oJ K Hf H [] [] []:=⟨rfl,rfl,λi a v F h=>by simp at h⟩
theorem oJ.cons{a:AV}{v:V}{F:List Addr}{as:List AV}{vs:List V}{Gs:List (List Addr)}(h:oE K Hf H a v F) (t:oJ K Hf H as vs Gs):oJ K Hf H (a::as) (v::vs) (F::Gs) :=
 ⟨by simp[t.1],by simp[t.2.1],λi b w G h1 h2 h3=>by
  cases i with
  |zero =>
   simp at h1 h2 h3;subst h1 h2 h3;exact h
  |succ i=>exact t.2.2 i b w G (by simpa using h1) (by simpa using h2) (by simpa using h3)⟩
theorem oJ.frozen(h:oJ K Hf H as vs Gs) (s:ot Hf Hf') (hk:∀q∈Gs.flatten,Hf' q=H q):oX K Hf' (as.map nM) vs :=
 ⟨by simp[h.1],λi d v h1 h2=>by
  rw[gMq]at h1;cases ea:as[i]? with
  |none=>rw[ea]at h1;cases h1
  |some a =>
   rw[ea]at h1;cases h1;have hi:i<Gs.length:=h.2.1 ▸ (gSq.mp ea).1;exact(h.2.2 i a v Gs[i] ea h2 (gEg hi)).frozen s λq hq=>hk q (mFq.mpr ⟨Gs[i],gRq hi,hq⟩)⟩
theorem oJ.owned(h:oJ K Hf H as vs Gs):∀q∈Gs.flatten,H q≠none/\Hf q=none:=λq hq=>by
 obtain⟨F,hF,hq⟩:=mFq.mp hq;obtain⟨i,hi,rfl⟩:=cc.mp hF;have h1:i<as.length:=h.2.1.symm ▸ hi;have h2:i<vs.length:=h.1 ▸ h1;exact(h.2.2 i as[i] vs[i] Gs[i] (gEg h1) (gEg h2) (gEg hi)).owned q hq
theorem oH.gives{H1:Hp}{Fs1:List (List Addr)}(R:oH K H₀ Hf₀ Hf' S σ H1 Fs1) (t:xy Hf H Fs Hf' H1 Fs1) {as:List AV}{vs:List V}{Gs:List (List Addr)}(r:oJ K Hf' H1 as vs Gs) (o:xk H₀ H Fs Fs1 Gs.flatten) :
  oH K H₀ Hf₀ (Z.frz Hf' H1 Gs.flatten) S σ H1 Fs1/\oX K (Z.frz Hf' H1 Gs.flatten) (as.map nM) vs/\xy Hf H Fs (Z.frz Hf' H1 Gs.flatten) H1 Fs1:=by
 have n:∀q∈Gs.flatten,Hf' q=none:=λq hq=>(r.owned q hq).2
 refine⟨R.frz (λq hq=>⟨o.fr q hq,o.out q hq⟩) n,r.frozen (rE n) λq hq=>As hq,t.sf.trans (rE n),t.sh,t.own,λb h g=>?_⟩
 by_cases m:b∈Gs.flatten
 .exact o.new b m
 .rw [tH m]at g;exact t.gr b h g
theorem xk.stp{Hf1 H1 Hf2 H2:Hp}{Fs1 Fs2:List (List Addr)}{F:List Addr}(o:xk H₀ H Fs Fs1 F) (t:xy Hf1 H1 Fs1 Hf2 H2 Fs2):xk H₀ H Fs Fs2 F:=⟨o.nd,o.fr,λq h m=>o.out q h (t.own q m),o.new⟩
theorem xk.back{Hf1 H1:Hp}{Fs1 Fs2:List (List Addr)}{F:List Addr}(t:xy Hf H Fs Hf1 H1 Fs1) (o:xk H₀ H1 Fs1 Fs2 F):xk H₀ H Fs Fs2 F:=⟨o.nd,o.fr,o.out,λq h=>(o.new q h).elim (λe=>.inl (t.sh.free e)) λm=>.inr (t.own q m)⟩
theorem xk.app{F G:List Addr}(a:xk H₀ H Fs Fs' F) (b:xk H₀ H Fs Fs' G) (d:∀q∈F,q∉G):xk H₀ H Fs Fs' (F++G) :=
 ⟨nAq.mpr ⟨a.nd,b.nd,λx hx y hy e=>d x hx (e ▸ hy)⟩,λq h=>(mAq.mp h).elim (a.fr q) (b.fr q),λq h=>(mAq.mp h).elim (a.out q) (b.out q),λq h=>(mAq.mp h).elim (a.new q) (b.new q)⟩
theorem xk.apart{Hf1 H1:Hp}{Fs1 Fs2:List (List Addr)}{F G:List Addr}(a:xk H₀ H Fs Fs1 F) (ha:∀q∈F,H1 q≠none) (b:xk H₀ H1 Fs1 Fs2 G):∀q∈F,q∉G:=λq h m=>by
 rcases b.new q m with e|e
 .exact ha q h e
 .exact a.out q h e
theorem xk.one(R:oH K H₀ Hf₀ Hf S σ H Fs) {p:Addr}(hp:H p=none):xk H₀ H Fs Fs [p] :=
 ⟨by simp,λq h=>by rw[mSq.mp h];exact R.fr.free hp,λq h m=>by rw[mSq.mp h]at m;exact(R.mem m).1 hp,λq h=>by rw[mSq.mp h];exact .inl hp⟩
end
def nI(i:Nat):ME:=λS=>(S[i]?.join).map λa=>(nM a,S)
def pV(i:Nat):MK:=λS=>(S[i]?.join).map λa=>(.sh (nM a),S.set i (some (.sh (nM a))))
def E1(i:Nat):MK:=λS=>(S[i]?.join).map λa=>(a,S.set i none)
def HK(i:Nat):ML:=λS=>match S[i]?.join with
 |some (.sh (.list ds))=>some (ds,S)
 |some (.ow avs)=>some (avs.map nM,S.set i (some (.ow ((avs.map nM).map .sh))))
 |_=>none
def rOf(k:MK):ME:=λS=>(k S).map λx=>(nM x.1,x.2)
def kSc(m:ME):MK:=λS=>(m S).bind λx=>if x.1.scal then some (.sh x.1,x.2) else none
def lOf(k:MK):ML:=λS=>(k S).bind λx=>match x.1 with
 | .sh (.list ds)=>some (ds,x.2)
 | .ow avs=>some (avs.map nM,x.2)
 |_=>none
def rh(k:MK):MK:=λS=>(k S).map λx=>(.sh (nM x.1),x.2)
def rC(d:D):ME:=λS=>if d.scal then some (d,S) else none
section
variable {K:W.Frag}
theorem oO{S:AS}{i:Nat}{a:AV}(h:S[i]?.join=some a):S[i]?=some (some a):=by
 cases e:S[i]? with
 |none=>rw[e]at h;cases h
 |some z=>rw[e]at h;exact congrArg some h
theorem nD(i:Nat):SR K (uY i) (nI i):=by
 intro H₀ Hf₀ Hf S σ H Fs d S' R e Q q;obtain⟨a,ea,e⟩:=oMq.mp e;cases e;obtain⟨v,F,s1,s2,r⟩:=R.rep i a (oO ea);exact⟨v,s1,q _ _ _ v .refl R (r.rep R.sub)⟩
theorem ye(i:Nat):SK K (uY i) (E1 i):=by
 intro H₀ Hf₀ Hf S σ H Fs a S' R e Q q;obtain⟨b,ea,e⟩:=oMq.mp e;cases e;obtain⟨v,F,s1,s2,r,nd,o,R1⟩:=R.move (oO ea);exact⟨v,s1,q _ _ _ v F ⟨.refl _,.refl _,λp hp=>oQ hp,λb h g=>absurd h g⟩ R1 r ⟨nd,λq hq=>(o q hq).1,λq hq=>(o q hq).2,λq hq=>.inr (mFq.mpr ⟨F,mGq s2,hq⟩)⟩⟩
theorem oH.again{H₀ Hf₀ Hf H:Hp}{S:AS}{σ:St}{Fs:List (List Addr)}{i:Nat}{av:AV}{v:V}{F G:List Addr}(R:oH K H₀ Hf₀ Hf (S.set i none) σ H (Fs.set i [])) (s1:σ[i]?=some (some v)) (r:oE K Hf H av v G) (nd:G.Nodup) (hf:∀q∈G,H₀ q=none/\q∉(Fs.set i []).flatten) :
  oH K H₀ Hf₀ Hf (S.set i (some av)) σ H (Fs.set i G):=by
 have R2:=R.set i r nd hf;rw[eI,eI]at R2;have e:σ.set i (some v)=σ:=by
  obtain⟨hk,ev⟩:=gSq.mp s1;rw[←ev];exact fj hk
 rw[e]at R2;exact R2
theorem nY(i:Nat):SK K (uY i) (pV i):=by
 intro H₀ Hf₀ Hf S σ H Fs a S' R e Q q;obtain⟨b,ea,e⟩:=oMq.mp e;cases e;obtain⟨v,F,s1,s2,r,nd,o,R1⟩:=R.move (oO ea);have n:∀q∈F,Hf q=none:=λq hq=>(r.owned q hq).2
 have R2:=R1.frz o n;have r2:=r.frozen (rE (H:=H) n) λq hq=>As hq
 have R3:=R2.again (F:=F) (G:=[]) s1 (.sh r2) aZ λq h=>(by cases h)
 refine⟨v,s1,q _ _ _ v [] ⟨rE n,.refl _,λp hp=>oQ hp,λb h g=>?_⟩ R3 (.sh r2) .nil⟩
 by_cases m:b∈F
 .exact .inr (mFq.mpr ⟨F,mGq s2,m⟩)
 .rw [tH m]at g;exact absurd h g
theorem IF(i:Nat):SL K (uY i) (HK i):=by
 intro H₀ Hf₀ Hf S σ H Fs ds S' R e Q q;unfold HK at e;split at e
 .rename_i ds' ea;cases e;obtain⟨v,F,s1,s2,r⟩:=R.rep i _ (oO ea);obtain⟨p,vs,rfl,h1,h2⟩:=r.sh_inv.2.list_inv;exact⟨_,s1,q _ _ _ p vs .refl R (R.sub _ _ h1) h2⟩
 .rename_i avs ea;cases e;obtain⟨v,F,s1,s2,r,nd,o,R1⟩:=R.move (oO ea);obtain⟨p,vs,Gs,rfl,rfl,h1,h2,h3⟩:=r.ow_inv;have n:∀q∈Gs.flatten,Hf q=none:=λq hq=>(h3.owned q hq).2
  have R2:=R1.frz (F:=Gs.flatten) (λq hq=>o q (mCo _ hq)) n
  have r2:=h3.frozen (rE (H:=H) n) λq hq=>As hq
  have np:p∉Gs.flatten:=(ax.mp nd).1;have r3:oE K (Z.frz Hf H Gs.flatten) H (.ow ((avs.map nM).map .sh)) (.ref p) [p]:=oE.new h1 (by rw[tH np];exact h2) r2
  have R3:=R2.again (F:=p::Gs.flatten) (G:=[p]) s1 r3 (by simp) λq hq=>by rw[mSq.mp hq];exact o p (by simp)
  refine⟨_,s1,q _ _ _ p vs ⟨rE n,.refl _,λb hb=>?_,λb h g=>?_⟩ R3 h1 r2⟩
  .rcases qe hb with z|z
   .rw [mSq.mp z];exact mFq.mpr ⟨_,mGq s2,by simp⟩
   .exact z
  .by_cases m:b∈Gs.flatten
   .exact .inr (mFq.mpr ⟨_,mGq s2,mCo _ m⟩)
   .rw [tH m]at g;exact absurd h g
 .cases e
theorem SK.rOf{te:TE}{k:MK}(h:SK K te k):SR K te (rOf k):=by
 intro H₀ Hf₀ Hf S σ H Fs d S' R e Q q;obtain⟨x,ea,e⟩:=oMq.mp e;cases e;exact h R (a:=x.1) (S':=x.2) ea Q λHf' H' Fs' v F t R' r o=>q _ _ _ v t R' (r.rep R'.sub)
theorem SR.kSc{te:TE}{m:ME}(h:SR K te m):SK K te (kSc m):=by
 intro H₀ Hf₀ Hf S σ H Fs a S' R e Q q;obtain⟨x,ea,e⟩:=oBq.mp e;split at e
 .rename_i hs;cases e;exact h R (d:=x.1) (S':=x.2) ea Q λHf' H' Fs' v t R' r=>q _ _ _ v [] t R' (.sh (r.scal hs)) .nil
 .cases e
theorem SK.frz{te:TE}{k:MK}(h:SK K te k):SK K te (rh k):=by
 intro H₀ Hf₀ Hf S σ H Fs a S' R e Q q;obtain⟨x,ea,e⟩:=oMq.mp e;cases e;refine h R (a:=x.1) (S':=x.2) ea Q λHf' H' Fs' v F t R' r o=>?_
 obtain⟨R2,r2,t2⟩:=R'.give t r o;exact q _ _ _ v [] t2 R2 (.sh r2) .nil
theorem SK.lOf{te:TE}{k:MK}(h:SK K te k):SL K te (lOf k):=by
 intro H₀ Hf₀ Hf S σ H Fs ds S' R e Q q;obtain⟨x,ea,e⟩:=oBq.mp e;refine h R (a:=x.1) (S':=x.2) ea Q λHf' H' Fs' v F t R' r o=>?_
 split at e
 .rename_i ds' hx;cases e;rw[hx]at r;obtain⟨p,vs,rfl,h1,h2⟩:=r.sh_inv.2.list_inv;exact q _ _ _ p vs t R' (R'.sub _ _ h1) h2
 .rename_i avs hx;cases e;obtain⟨R2,r2,t2⟩:=R'.give t r o;rw[hx,rS]at r2;obtain⟨p,vs,rfl,h1,h2⟩:=r2.list_inv;exact q _ _ _ p vs t2 R2 (R2.sub _ _ h1) h2
 .cases e
theorem MJ{v:V}{d:D}(h:∀H,qb K H d v):SR K (tC v) (rC d):=by
 intro H₀ Hf₀ Hf S σ H Fs d' S' R e Q q;unfold rC at e;split at e
 .cases e;exact q _ _ _ v .refl R (h _)
 .cases e
theorem nK{i:Int}:SR K (tC (.int i)) (rC (.int i)):=MJ λ_=>.int
theorem vB{i:Str}:SR K (tC (.str i)) (rC (.str i)):=MJ λ_=>.str
theorem xU{i:Bool}:SR K (tC (.bl i)) (rC (.bl i)):=MJ λ_=>.bl
theorem vJ:SR K (tC .non) (rC .non):=MJ λ_=>.non
theorem NS{T:String}:SR K (tC (.ty T)) (rC (.ty T)):=MJ λ_=>.ty
end
def tP{α:Type}(p:Prop) (x:Option α):Option α:=@ite (Option α) p (de p) x none
theorem ud{α:Type}{p:Prop}(h:p) (x:Option α):tP p x=x:=oq h
theorem vP{α:Type}(x:Option α):tP True x=x:=oq trivial
theorem oj{α:Type}{p:Prop}{x y:Option α}(h:tP p x=y):(p/\x=y)∨none=y:=by
 by_cases c:p
 .rw [ud c]at h;exact .inl ⟨c,h⟩
 .exact .inr ((@if_neg p (de p) c _ x none).symm.trans h)
def oU(f:D->D->Option D) (a b:ME):ME:=λS=>(a S).bind λx=>(b x.2).bind λy=>(f x.1 y.1).map λd=>(d,y.2)
def CW(f:D->Option D) (a:ME):ME:=λS=>(a S).bind λx=>(f x.1).map λd=>(d,x.2)
def Bx(K:W.Frag) (r:R2) (f:D->D->Option D):Prop:=∀{x y:V}{H:Hp}{Q:VK}{dx dy d:D},qb K H dx x->qb K H dy y->f dx dy=some d->(∀v,qb K H d v->Q v H)->r x y H Q
def XB(K:W.Frag) (r:V->Hp->VK->Prop) (f:D->Option D):Prop:=∀{x:V}{H:Hp}{Q:VK}{dx d:D},qb K H dx x->f dx=some d->(∀v,qb K H d v->Q v H)->r x H Q
section
variable {K:W.Frag}{r:R2}{f:D->D->Option D}{ta tb:TE}{a b:ME}
theorem nO(hr:Bx K r f) (ha:SR K ta a) (hb:SR K tb b):SR K (OT r ta tb) (oU f a b):=by
 intro H₀ Hf₀ Hf S σ H Fs d S' R e Q q;obtain⟨x,e1,e⟩:=oBq.mp e;obtain⟨y,e2,e⟩:=oBq.mp e;obtain⟨z,e3,e⟩:=oMq.mp e;cases e;refine ha R (d:=x.1) (S':=x.2) e1 _ λHf1 H1 Fs1 v1 t1 R1 r1=>hb R1 (d:=y.1) (S':=y.2) e2 _ λHf2 H2 Fs2 v2 t2 R2 r2=>?_
 exact hr (r1.mono t2.sh) r2 e3 λv rv=>q _ _ _ v (t1.trans t2) R2 rv
theorem uD{r:V->Hp->VK->Prop}{f:D->Option D}(hr:XB K r f) (ha:SR K ta a):SR K (WR r ta) (CW f a):=by
 intro H₀ Hf₀ Hf S σ H Fs d S' R e Q q;obtain⟨x,e1,e⟩:=oBq.mp e;obtain⟨z,e3,e⟩:=oMq.mp e;cases e;exact ha R (d:=x.1) (S':=x.2) e1 _ λHf1 H1 Fs1 v1 t1 R1 r1=>hr r1 e3 λv rv=>q _ _ _ v t1 R1 rv
end
def Jc(c:Int->Int->Prop) (g:Int->Int->D):D->D->Option D
 | .int i,.int j=>tP (c i j) (some (g i j))
 |_,_=>none
def Ya(g:Int->D):D->Option D
 | .int i=>some (g i)
 |_=>none
abbrev yD:=Jc (λ_ _=>True) λi j=>.int (i+j)
abbrev Du:=Jc (λ_ _=>True) λi j=>.int (i-j)
abbrev yQ:=Jc N8 λi j=>.int (i*j)
abbrev sY:=Jc (λ_ j=>0<j) λi j=>.int (i % j)
abbrev C1:=Jc Sf λi j=>.int (i / j)
abbrev NZ:=Jc R6 λi j=>.int (i ^ j.toNat)
abbrev Fw:=Jc (λ_ _=>True) λi j=>.bl (decide (i<j))
abbrev Zs:=Jc (λ_ _=>True) λi j=>.bl (decide (i<=j))
abbrev Lb:=Jc (λ_ _=>True) λi j=>.bl (decide (j<i))
abbrev Zt:=Jc (λ_ _=>True) λi j=>.bl (decide (j<=i))
abbrev tD:=Ya λi=>.int (-i)
def Le(b:Bool):Option D:=some (.bl b)
def HQ(x y:D):Option D:=match x with
 | .int i=>(match y with|.int j=>Le (decide (i=j))|.non=>Le false|.str _=>Le false|_=>none)
 | .str i=>(match y with|.str j=>Le (decide (i=j))|.non=>Le false|.int _=>Le false|_=>none)
 | .bl i=>(match y with|.bl j=>Le (decide (i=j))|.non=>Le false|_=>none)
 | .non=>(match y with|.non=>Le true|.int _=>Le false|.str _=>Le false|.bl _=>Le false|_=>none)
 |_=>none
def Kn:D->Option D
 | .bl b=>some (.bl (!b))
 |_=>none
def FC(x y:D):Option D:=(HQ x y).bind Kn
section
variable {K:W.Frag}
theorem IY{C:Int->Int->Prop}{g:Int->Int->V}{g':Int->Int->D}(hg:∀H i j,qb K H (g' i j) (g i j)):Bx K (rI C g) (Jc C g'):=by
 intro x y H Q dx dy d rx ry e q;unfold Jc at e;split at e
 .rename_i i j;cases rx;cases ry;rcases oj e with ⟨h,e⟩|e
  .cases e;exact⟨i,j,rfl,rfl,h,q _ (hg H i j)⟩
  .cases e
 .cases e
theorem FB{g:Int->Int->V}{g':Int->Int->D}(hg:∀H i j,qb K H (g' i j) (g i j)):Bx K (Nh g) (Jc (λ_ _=>True) g'):=by
 intro x y H Q dx dy d rx ry e q;unfold Jc at e;split at e
 .rename_i i j;cases rx;cases ry;rw[vP]at e;cases e;exact⟨i,j,rfl,rfl,q _ (hg H i j)⟩
 .cases e
theorem xO:Bx K (Nh λi j=>.int (i+j)) yD:=FB λ_ _ _=>.int
theorem ET:Bx K (Nh λi j=>.int (i-j)) Du:=FB λ_ _ _=>.int
theorem ED:Bx K (rI N8 λi j=>.int (i*j)) yQ:=IY λ_ _ _=>.int
theorem qV:Bx K (rI (λ_ j=>0<j) λi j=>.int (i % j)) sY:=IY λ_ _ _=>.int
theorem Ck:Bx K (rI Sf λi j=>.int (i / j)) C1:=IY λ_ _ _=>.int
theorem LK:Bx K (rI R6 λi j=>.int (i ^ j.toNat)) NZ:=IY λ_ _ _=>.int
theorem CA:Bx K (Nh λi j=>.bl (decide (i<j))) Fw:=FB λ_ _ _=>.bl
theorem DW:Bx K (Nh λi j=>.bl (decide (j<i))) Lb:=FB λ_ _ _=>.bl
theorem rA:XB K (rU λi=>.int (-i)) tD:=by
 intro x H Q dx d rx e q;cases rx <;> simp only[Ya]at e
 all_goals first|(exfalso;simp at e;done)|skip
 rename_i i;cases e;exact⟨i,rfl,q _ .int⟩
theorem AK:Bx K Yd HQ:=by
 intro x y H Q dx dy d rx ry e q;unfold HQ at e;cases rx <;> first|(cases e;done)|(cases ry <;> first|(cases e;done)|skip)
 all_goals (cases e;refine⟨rfl,q _ ?_⟩;simp only[reduceCtorEq,decide_false,decide_true,V.int.injEq,V.str.injEq,V.bl.injEq];exact .bl)
theorem zX:Bx K Yj FC:=by
 intro x y H Q dx dy d rx ry e q;obtain⟨b,e1,e2⟩:=oBq.mp e;obtain⟨h1,h2⟩:=AK rx ry e1 (Q:=λv _=>qb K H b v) λv h=>h
 cases h2;cases e2;exact⟨h1,q _ .bl⟩
end
def FZ(a b:ME):ME:=λS=>(a S).bind λx=>match x.1 with
 | .bl true=>b x.2
 | .bl false=>some (.bl false,x.2)
 |_=>none
def Zm(a b:ME):ME:=λS=>(a S).bind λx=>match x.1 with
 | .bl true=>some (.bl true,x.2)
 | .bl false=>b x.2
 |_=>none
def Tq(a:ME):ME:=CW Kn a
def tU(a:ME):MT:=λS=>(a S).bind λx=>match x.1 with
 | .bl b=>some (b,x.2)
 |_=>none
def yN(a b:MT):MT:=λS=>(a S).bind λx=>if x.1=true then b x.2 else some (false,x.2)
def QE(a b:MT):MT:=λS=>(a S).bind λx=>if x.1=true then some (true,x.2) else b x.2
def LH(a:MT):MT:=λS=>(a S).map λx=>(!x.1,x.2)
def Zi(c:MT) (a b:ME):ME:=λS=>(c S).bind λx=>if x.1=true then a x.2 else b x.2
def Zn(c:MT) (a b:MK):MK:=λS=>(c S).bind λx=>if x.1=true then a x.2 else b x.2
section
variable {K:W.Frag}{ta tb:TE}{a b:ME}{ca cb:TT}{ma mb:MT}
theorem AB(ha:SR K ta a) (hb:SR K tb b):SR K (Rf ta tb) (FZ a b):=by
 intro H₀ Hf₀ Hf S σ H Fs d S' R e Q q;obtain⟨x,e1,e⟩:=oBq.mp e;refine ha R (d:=x.1) (S':=x.2) e1 _ λHf1 H1 Fs1 v1 t1 R1 r1=>?_
 split at e
 .rename_i hx;rw[hx]at r1;cases r1;exact⟨true,rfl,Dc (hb R1 e Q λHf2 H2 Fs2 v2 t2 R2 r2=>q _ _ _ v2 (t1.trans t2) R2 r2)⟩
 .rename_i hx;rw[hx]at r1;cases r1;cases e;exact⟨false,rfl,CT (q _ _ _ _ t1 R1 .bl)⟩
 .cases e
theorem Sl(ha:SR K ta a):SR K (Q6 ta) (Tq a):=by
 intro H₀ Hf₀ Hf S σ H Fs d S' R e Q q;obtain⟨x,e1,e⟩:=oBq.mp e;obtain⟨z,e3,e⟩:=oMq.mp e;cases e;refine ha R (d:=x.1) (S':=x.2) e1 _ λHf1 H1 Fs1 v1 t1 R1 r1=>?_
 cases hx:x.1 <;> rw[hx]at e3 r1 <;> simp only[Kn]at e3
 all_goals first|(exfalso;simp at e3;done)|skip
 cases r1;cases e3;exact⟨_,rfl,q _ _ _ _ t1 R1 .bl⟩
theorem CY(ha:SR K ta a):BQ K (tB ta) (tU a):=by
 intro H₀ Hf₀ Hf S σ H Fs d S' R e Q q;obtain⟨x,e1,e⟩:=oBq.mp e;refine ha R (d:=x.1) (S':=x.2) e1 _ λHf1 H1 Fs1 v1 t1 R1 r1=>?_
 split at e
 .rename_i b hx;rw[hx]at r1;cases r1;cases e;exact⟨_,rfl,q _ _ _ t1 R1⟩
 .cases e
theorem oK(ha:SR K ta a):BQ K (Oj ta) (tU a):=CY ha
theorem Fp(ha:BQ K ca ma) (hb:BQ K cb mb):BQ K (UN ca cb) (yN ma mb):=by
 intro H₀ Hf₀ Hf S σ H Fs d S' R e Q q;obtain⟨x,e1,e⟩:=oBq.mp e;refine ha R (b:=x.1) (S':=x.2) e1 _ λHf1 H1 Fs1 t1 R1=>?_
 split at e
 .rename_i hx;rw[hx];exact Dc (hb R1 e Q λHf2 H2 Fs2 t2 R2=>q _ _ _ (t1.trans t2) R2)
 .rename_i hx;cases e;rw[bS]at hx;rw[hx];exact CT (q _ _ _ t1 R1)
theorem Rk(ha:BQ K ca ma) (hb:BQ K cb mb):BQ K (Yt ca cb) (QE ma mb):=by
 intro H₀ Hf₀ Hf S σ H Fs d S' R e Q q;obtain⟨x,e1,e⟩:=oBq.mp e;refine ha R (b:=x.1) (S':=x.2) e1 _ λHf1 H1 Fs1 t1 R1=>?_
 split at e
 .rename_i hx;cases e;rw[hx];exact Dc (q _ _ _ t1 R1)
 .rename_i hx;rw[bS]at hx;rw[hx];exact CT (hb R1 e Q λHf2 H2 Fs2 t2 R2=>q _ _ _ (t1.trans t2) R2)
theorem TZ(ha:BQ K ca ma):BQ K (Vt ca) (LH ma):=by
 intro H₀ Hf₀ Hf S σ H Fs d S' R e Q q;obtain⟨x,e1,e⟩:=oMq.mp e;cases e;exact ha R (b:=x.1) (S':=x.2) e1 _ λHf1 H1 Fs1 t1 R1=>q _ _ _ t1 R1
end
abbrev qW:Nat:=16777216
theorem tF:jc=qW:=jt
def SQ(K:W.Frag) (te:TE) (m:ML):Prop:=∀{H₀ Hf₀ Hf:Hp}{S:AS}{σ:St}{H:Hp}{Fs:List (List Addr)}{ds:List D}{S':AS},oH K H₀ Hf₀ Hf S σ H Fs->m S=some (ds,S')->∀Q:VK,
 (∀Hf' H' Fs' p vs,xy Hf H Fs Hf' H' Fs'->oH K H₀ Hf₀ Hf' S' σ H' Fs'->qC K H' p vs->oX K Hf' ds vs->Q (.ref p) H')->te σ H Q
theorem SL.q{K:W.Frag}{te:TE}{m:ML}(h:SL K te m):SQ K te m:=by
 intro H₀ Hf₀ Hf S σ H Fs ds S' R e Q q;exact h R e Q λHf' H' Fs' p vs t R' hp r=>q _ _ _ p vs t R' (qC.of hp) r
def vx(i:Nat):ML:=λS=>match S[i]?.join with
 |some (.sh (.scr ns))=>some (ns.map .int,S)
 |some (.sh (.list ds))=>some (ds,S)
 |some (.ow avs)=>some (avs.map nM,S.set i (some (.ow ((avs.map nM).map .sh))))
 |_=>none
theorem uA{K:W.Frag}{H:Hp}:∀ns:List Int,oX K H (ns.map .int) (ns.map V.int)
 | []=>.nil
 |n::ns=>.cons .int (uA ns)
theorem sr{K:W.Frag}(i:Nat):SQ K (uY i) (vx i):=by
 intro H₀ Hf₀ Hf S σ H Fs ds S' R e Q q;unfold vx at e;split at e
 .rename_i ns ea;cases e;obtain⟨v,F,s1,s2,r⟩:=R.rep i _ (oO ea);cases r.sh_inv.2 with
  |scr h=>exact⟨_,s1,q _ _ _ _ _ .refl R (R.sub.seq h) (uA ns)⟩
 .rename_i ds' ea;cases e;refine IF i R (ds:=ds) (S':=S) ?_ Q λHf' H' Fs' p vs t R' hp r=>q _ _ _ p vs t R' (qC.of hp) r
  unfold HK;rw[ea]
 .rename_i avs ea;refine IF i R (ds:=ds) (S':=S') ?_ Q λHf' H' Fs' p vs t R' hp r=>q _ _ _ p vs t R' (qC.of hp) r
  unfold HK;rw[ea];exact e
 .cases e
section
variable {K:W.Frag}{H₀ Hf₀ Hf Hf' H H':Hp}{S S':AS}{σ:St}{Fs Fs':List (List Addr)}
theorem oJ.stp{as:List AV}{vs:List V}{Gs:List (List Addr)}(r:oJ K Hf H as vs Gs) (ho:∀q∈Gs.flatten,q∉Fs.flatten) (t:xy Hf H Fs Hf' H' Fs'):oJ K Hf' H' as vs Gs :=
 ⟨r.1,r.2.1,λi a v F h1 h2 h3=>(r.2.2 i a v F h1 h2 h3).stp (λq hq=>ho q (mFq.mpr ⟨F,mGq h3,hq⟩)) t⟩
theorem oH.layF(R:oH K H₀ Hf₀ Hf S σ H Fs) {p:Addr}{o:HO}(hp:H p=none):xy Hf H Fs (upd Hf p o) (upd H p o) Fs/\oH K H₀ Hf₀ (upd Hf p o) S σ (upd H p o) Fs:=by
 have hf:Hf p=none:=R.sub.free hp;refine⟨⟨sJ hf,sJ hp,λ_ h=>h,λb h g=>?_⟩,R.more (sJ hp) (sJ hf) (λb u e=>?_) (λq hq=>?_) λb h1 h2=>?_⟩
 .by_cases m:b=p
  .subst m;exact .inl hp
  .rw [nV m]at g;exact absurd h g
 .by_cases m:b=p
  .subst m;rw[nZ]at e ⊢;exact e
  .rw [nV m]at e ⊢;exact R.sub b u e
 .rw [nV λe=>(R.mem hq).1 (by rw[e];exact hp)]
  exact(R.mem hq).2
 .rw [nV λe=>h2 (by rw[e];exact R.fr.free hp)]
  exact R.lim b h1 h2
end
def pX:MA:=λS=>some ([],S)
def oC(k:MK) (r:MA):MA:=λS=>(k S).bind λx=>(r x.2).map λy=>(x.1::y.1,y.2)
def oI:ML:=λS=>some ([],S)
def nU(k:ME) (r:ML):ML:=λS=>(k S).bind λx=>(r x.2).map λy=>(x.1::y.1,y.2)
section
variable {K:W.Frag}{te ta tb:TE}{tr:TA}
theorem oi:SA K vw pX:=by
 intro H₀ Hf₀ Hf S σ H Fs as S' R e Q q;cases e;exact q _ _ _ [] [] .refl R .nil .nil
theorem nS{k:MK}{r:MA}(hk:SK K te k) (hr:SA K tr r):SA K (rM te tr) (oC k r):=by
 intro H₀ Hf₀ Hf S σ H Fs as S' R e Q q;obtain⟨x,e1,e⟩:=oBq.mp e;obtain⟨y,e2,e⟩:=oMq.mp e;cases e;refine hk R (a:=x.1) (S':=x.2) e1 _ λHf1 H1 Fs1 v F t1 R1 r1 o1=>hr R1 (as:=y.1) (S':=y.2) e2 _ λHf2 H2 Fs2 vs Gs t2 R2 r2 o2=>?_
 refine q _ _ _ (v::vs) (F::Gs) (t1.trans t2) R2 (.cons (r1.stp o1.out t2) r2) ?_;rw[fCq];exact(o1.stp t2).app (o2.back t1) (o1.apart (Hf1:=Hf1) (λq hq=>(r1.owned q hq).1) o2)
theorem om:Ra K vw oI:=by
 intro H₀ Hf₀ Hf S σ H Fs as S' R e Q q;cases e;exact q _ _ _ [] .refl R .nil
theorem nQ{k:ME}{r:ML}(hk:SR K te k) (hr:Ra K tr r):Ra K (rM te tr) (nU k r):=by
 intro H₀ Hf₀ Hf S σ H Fs as S' R e Q q;obtain⟨x,e1,e⟩:=oBq.mp e;obtain⟨y,e2,e⟩:=oMq.mp e;cases e;refine hk R (d:=x.1) (S':=x.2) e1 _ λHf1 H1 Fs1 v t1 R1 r1=>hr R1 (ds:=y.1) (S':=y.2) e2 _ λHf2 H2 Fs2 vs t2 R2 r2=>?_
 exact q _ _ _ (v::vs) (t1.trans t2) R2 (.cons (r1.mono t2.sh) r2)
end
def uK(a:MA):MK:=λS=>(a S).bind λx=>tP (x.1.length<=qW) (some (.ow x.1,x.2))
def Dg(a:MA):MK:=λS=>(a S).bind λx=>tP (x.1.length<=qW) (some (.sh (.tup (x.1.map nM)),x.2))
section
variable {K:W.Frag}{ta:TA}{a:MA}
theorem qN(ha:SA K ta a):SK K (Th ta) (uK a):=by
 intro H₀ Hf₀ Hf S σ H Fs av S' R e Q q;obtain⟨x,e1,e⟩:=oBq.mp e;rcases oj e with ⟨hl,e⟩|e
 .skip
  cases e;refine ha R (as:=x.1) (S':=x.2) e1 _ λHf1 H1 Fs1 vs Gs t1 R1 r1 o1=>⟨by rw[tF,←r1.1];exact hl,λp hp=>?_⟩
  obtain⟨t2,R2,n1,n2,n3⟩:=R1.new (o:=.lst vs) hp;refine q _ _ _ (.ref p) (p::Gs.flatten) (t1.trans t2) R2 (oE.news nZ n1 (r1.stp o1.out t2)) ?_;have o2:=(xk.one R1 hp).back t1;refine(show xk _ _ _ _ ([p]++Gs.flatten) from o2.app o1 λq hq m=>?_)
  rw[mSq.mp hq]at m;exact(r1.owned p m).1 hp
 .cases e
theorem xH(ha:SA K ta a):SK K (Wa ta) (Dg a):=by
 intro H₀ Hf₀ Hf S σ H Fs av S' R e Q q;obtain⟨x,e1,e⟩:=oBq.mp e;rcases oj e with ⟨hl,e⟩|e
 .skip
  cases e;refine ha R (as:=x.1) (S':=x.2) e1 _ λHf1 H1 Fs1 vs Gs t1 R1 r1 o1=>⟨by rw[tF,←r1.1];exact hl,λp hp=>?_⟩
  obtain⟨R2,r2,t2⟩:=R1.gives t1 r1 o1;obtain⟨t3,R3⟩:=R2.layF (o:=.tup vs) hp;exact q _ _ _ (.ref p) [] (t2.trans t3) R3 (.sh (.mk_tup nZ (r2.mono t3.sf))) .nil
 .cases e
end
def PL(a b:ML):MK:=λS=>(a S).bind λx=>(b x.2).bind λy=>tP (x.1.length+y.1.length<=qW) (some (.ow ((x.1++y.1).map .sh),y.2))
section
variable {K:W.Frag}{ta tb:TE}{a b:ML}
theorem M7(ha:SL K ta a) (hb:SL K tb b):SK K (OT UJ ta tb) (PL a b):=by
 intro H₀ Hf₀ Hf S σ H Fs av S' R e Q q;obtain⟨x,e1,e⟩:=oBq.mp e;obtain⟨y,e2,e⟩:=oBq.mp e;rcases oj e with ⟨hl,e⟩|e
 .skip
  cases e;refine ha R (ds:=x.1) (S':=x.2) e1 _ λHf1 H1 Fs1 p1 vs1 t1 R1 h1 r1=>hb R1 (ds:=y.1) (S':=y.2) e2 _ λHf2 H2 Fs2 p2 vs2 t2 R2 h2 r2=>?_
  refine⟨p1,p2,vs1,vs2,rfl,rfl,t2.sh _ _ h1,h2,by rw[tF,←r1.1,←r2.1];exact hl,λp hp=>?_⟩
  obtain⟨t3,R3,n1,n2,n3⟩:=R2.new (o:=.lst (vs1++vs2)) hp;exact q _ _ _ (.ref p) [p] ((t1.trans t2).trans t3) R3 (oE.new nZ n1 ((r1.mono t2.sf).append r2)) ((xk.one R2 hp).back (t1.trans t2))
 .cases e
end
abbrev MO:=AS->Option (Option Int×AS)
def SO(K:W.Frag) (to:TO) (m:MO):Prop:=∀{H₀ Hf₀ Hf:Hp}{S:AS}{σ:St}{H:Hp}{Fs:List (List Addr)}{o:Option Int}{S':AS},oH K H₀ Hf₀ Hf S σ H Fs->m S=some (o,S')->∀Q:Option Int->Hp->Prop,
 (∀Hf' H' Fs',xy Hf H Fs Hf' H' Fs'->oH K H₀ Hf₀ Hf' S' σ H' Fs'->Q o H')->to σ H Q
def zA:MO:=λS=>some (none,S)
def xo(m:ME):MO:=λS=>(m S).bind λx=>match x.1 with
 | .int i=>some (some i,x.2)
 |_=>none
def wL{α:Type}(xs:List α) (lo hi:Option Int):List α:=(xs.drop (HT.DA xs.length 0 lo)).take (HT.DA xs.length xs.length hi-HT.DA xs.length 0 lo)
def OX(l:ML) (lo hi:MO):MK:=λS=>(l S).bind λx=>(lo x.2).bind λy=>(hi y.2).map λz=>(.ow ((wL x.1 y.1 z.1).map .sh),z.2)
section
variable {K:W.Frag}{te:TE}{tl th:TO}{l:ML}{lo hi:MO}{m:ME}
theorem wK:SO K Jm zA:=by
 intro H₀ Hf₀ Hf S σ H Fs o S' R e Q q;cases e;exact q _ _ _ .refl R
theorem uh(h:SR K te m):SO K (Rq te) (xo m):=by
 intro H₀ Hf₀ Hf S σ H Fs o S' R e Q q;obtain⟨x,e1,e⟩:=oBq.mp e;refine h R (d:=x.1) (S':=x.2) e1 _ λHf1 H1 Fs1 v t1 R1 r1=>?_
 split at e
 .rename_i i hx;rw[hx]at r1;cases r1;cases e;exact⟨i,rfl,q _ _ _ t1 R1⟩
 .cases e
theorem oX.cut{H:Hp}{ds:List D}{vs:List V}(r:oX K H ds vs) (lo hi:Option Int):oX K H (wL ds lo hi) (IL vs lo hi):=by
 unfold wL IL;rw[r.1];exact(r.drop _).take _
theorem AI(hl:SQ K te l) (hlo:SO K tl lo) (hhi:SO K th hi):SK K (Yb (Vj K) te tl th) (OX l lo hi):=by
 intro H₀ Hf₀ Hf S σ H Fs av S' R e Q q;obtain⟨x,e1,e⟩:=oBq.mp e;obtain⟨y,e2,e⟩:=oBq.mp e;obtain⟨z,e3,e⟩:=oMq.mp e;cases e;refine hl R (ds:=x.1) (S':=x.2) e1 _ λHf1 H1 Fs1 p1 vs1 t1 R1 h1 r1=>hlo R1 (o:=y.1) (S':=y.2) e2 _ λHf2 H2 Fs2 t2 R2=>hhi R2 (o:=z.1) (S':=z.2) e3 _ λHf3 H3 Fs3 t3 R3=>?_
 refine⟨p1,vs1,rfl,(t2.sh.trans t3.sh).seq h1,λp hp=>?_⟩
 obtain⟨t4,R4,n1,n2,n3⟩:=R3.new (o:=.lst (IL vs1 y.1 z.1)) hp;exact q _ _ _ (.ref p) [p] (((t1.trans t2).trans t3).trans t4) R4 (oE.new nZ n1 ((r1.mono (t2.sf.trans t3.sf)).cut _ _)) ((xk.one R3 hp).back ((t1.trans t2).trans t3))
end
def zY:D->D->Option D
 | .list ds,.int i=>atI ds i
 | .scr ns,.int i=>(atI ns i).map .int
 |_,_=>none
def BW:D->D->Option D
 | .tup ds,.int i=>atI ds i
 |_,_=>none
def UC(l:ML) (b:ME):MK:=λS=>(l S).bind λx=>(b x.2).bind λy=>match y.1 with
 | .int i=>(atI x.1 i).map λd=>(.sh d,y.2)
 |_=>none
section
variable {K:W.Frag}{ta tb:TE}
theorem oX.atI{H:Hp}{ds:List D}{vs:List V}{i:Int}{d:D}(r:oX K H ds vs) (h:L2.atI ds i=some d):∃v,L2.atI vs i=some v/\qb K H d v:=by
 unfold L2.atI at h ⊢;rw[r.1]at h;obtain⟨j,h1,h2⟩:=oBq.mp h;rw[h1];exact r.get h2
theorem si:Bx K (K1 K) zY:=by
 intro x y H Q dx dy d rx ry e q;unfold zY at e;split at e
 .rename_i ds i;cases ry;obtain⟨p,vs,rfl,h,r⟩:=rx.list_inv;obtain⟨l,e'⟩:=r;obtain⟨v,h1,h2⟩:=oX.atI (K:=K) (H:=H) (ds:=ds) (vs:=vs) ⟨l,e'⟩ e;exact⟨p,vs,i,v,rfl,rfl,qC.of h,h1,q v h2⟩
 .rename_i ns i;cases ry;cases rx;rename_i p h;obtain⟨n,h1,h2⟩:=oMq.mp e;subst h2;obtain⟨v,h3,h4⟩:=oX.atI (K:=K) (H:=H) (uA ns) (i:=i) (d:=.int n) (by
   unfold L2.atI at h1 ⊢;rw[lMq];obtain⟨j,g1,g2⟩:=oBq.mp h1;rw[g1];show (ns.map D.int)[j]?=_;rw[gMq,g2];rfl)
  exact⟨p,_,i,v,rfl,rfl,h,h3,q v h4⟩
 .cases e
theorem yR:Bx K (SX K) BW:=by
 intro x y H Q dx dy d rx ry e q;unfold BW at e;split at e
 .rename_i ds i;cases ry;obtain⟨p,vs,rfl,h,r⟩:=rx.tup_inv;obtain⟨v,h1,h2⟩:=oX.atI (K:=K) (H:=H) (ds:=ds) (vs:=vs) r e;exact⟨p,vs,i,v,rfl,rfl,Bh.of h,h1,q v h2⟩
 .cases e
theorem Rr{l:ML}{b:ME}(hl:SQ K ta l) (hb:SR K tb b):SK K (OT (K1 K) ta tb) (UC l b):=by
 intro H₀ Hf₀ Hf S σ H Fs av S' R e Q q;obtain⟨x,e1,e⟩:=oBq.mp e;obtain⟨y,e2,e⟩:=oBq.mp e;refine hl R (ds:=x.1) (S':=x.2) e1 _ λHf1 H1 Fs1 p1 vs1 t1 R1 h1 r1=>hb R1 (d:=y.1) (S':=y.2) e2 _ λHf2 H2 Fs2 v2 t2 R2 r2=>?_
 split at e
 .rename_i i hy;rw[hy]at r2;cases r2;obtain⟨d,e3,e⟩:=oMq.mp e;cases e;obtain⟨v,g1,g2⟩:=(r1.mono t2.sf).atI e3;exact⟨p1,vs1,i,v,rfl,rfl,t2.sh.seq h1,g1,q _ _ _ v [] (t1.trans t2) R2 (.sh g2) .nil⟩
 .cases e
end
def RA(K:W.Frag) (r:List V->Hp->VK->Prop) (f:List D->Option D):Prop:=∀{vs:List V}{H:Hp}{Q:VK}{ds:List D}{d:D},oX K H ds vs->f ds=some d->(∀v,qb K H d v->Q v H)->r vs H Q
def wg(f:List D->Option D) (a:ML):ME:=λS=>(a S).bind λx=>(f x.1).map λd=>(d,x.2)
theorem qL{K:W.Frag}{r:List V->Hp->VK->Prop}{f:List D->Option D}{ta:TA}{a:ML}(hr:RA K r f) (ha:Ra K ta a):SR K (T2 r ta) (wg f a):=by
 intro H₀ Hf₀ Hf S σ H Fs d S' R e Q q;obtain⟨x,e1,e⟩:=oBq.mp e;obtain⟨z,e3,e⟩:=oMq.mp e;cases e;exact ha R (ds:=x.1) (S':=x.2) e1 _ λHf1 H1 Fs1 vs t1 R1 r1=>hr r1 e3 λv rv=>q _ _ _ v t1 R1 rv
def rL:List D->Option D
 | [.list ds]=>some (.int ds.length)
 | [.tup ds]=>some (.int ds.length)
 | [.scr ns]=>some (.int ns.length)
 | [.str x]=>tP (x.length<=qW) (some (.int x.length))
 |_=>none
def FQ:List D->Option D
 | [.dict ds]=>some (.int ds.length)
 |_=>none
def J8:List D->Option D
 | [.int i]=>some (.int (if i<0 then -i else i))
 |_=>none
def X0:List D->Option D
 | [.int i,.int j]=>some (.int (if j>i then j else i))
 |_=>none
def X9:List D->Option D
 | [.int i,.int j]=>some (.int (if j<i then j else i))
 |_=>none
def YA:List D->Option D
 | [.int i]=>some (.int i)
 | [.bl k]=>some (.int (if k then 1 else 0))
 |_=>none
def Wq:D->String->Option D
 | .int _,T=>if T = "int" then some (.bl true) else if T = "bool" then some (.bl false) else none
 | .bl _,T=>if T = "bool" ∨ T = "int" then some (.bl true) else none
 | .str _,T=>if T = "str" then some (.bl true) else none
 | .list _,T=>if T = "list" then some (.bl true) else none
 | .tup _,T=>if T = "tuple" then some (.bl true) else none
 | .dict _,T=>if T = "dict" then some (.bl true) else none
 |_,_=>none
def Lv:List D->Option D
 | [x,.ty T]=>Wq x T
 |_=>none
def sL:List D->Option (List Int)
 | []=>some []
 | .int i::ds=>(sL ds).map (i :: ·)
 |_=>none
theorem yA:∀{ds:List D}{ns:List Int},sL ds=some ns->ds=ns.map .int
 | [],ns,h=>by cases h;rfl
 |d::ds,ns,h=>by
  cases d with
  |int i =>
   obtain⟨ms,h1,h2⟩:=oMq.mp (show (sL ds).map (i :: ·)=some ns from h)
   subst h2;rw[yA h1];rfl
  |_=>cases h
@[simp] theorem wR (ns:List Int):sL (ns.map .int)=some ns:=by
 induction ns with
 |nil=>rfl
 |cons n ns ih=>show (sL (ns.map .int)).map (n :: ·)=_;rw[ih];rfl
theorem tJ{K:W.Frag}{H:Hp}:∀{ns:List Int}{vs:List V},oX K H (ns.map .int) vs->vs=ns.map V.int
 | [],vs,h=>h.nil_inv
 |n::ns,vs,h=>by
  obtain⟨v,ws,rfl,h1,h2⟩:=oX.cons_inv (d:=.int n) (ds:=ns.map .int) h;cases h1;rw[tJ h2];rfl
def JL:List Int->Option Int
 | []=>none
 |n::ns=>some (ns.foldl min n)
theorem vH:∀(ns:List Int) (n:Int),ns.foldl min n∈n::ns
 | [],n=>by simp
 |m::ns,n=>by
  have h:=vH ns (min n m);rw[cz];rcases ah.mp h with e|e
  .rw [e]
   by_cases c:n<=m
   .rw [Int.min_eq_left c];simp
   .rw [Int.min_eq_right (by lia)];simp
  .exact mCo _ (mCo _ e)
theorem ug:∀(ns:List Int) (n:Int),(ns.foldl min n<=n)/\∀x∈ns,ns.foldl min n<=x
 | [],n=>⟨Int.le_refl _,λx h=>by cases h⟩
 |m::ns,n=>by
  obtain⟨h1,h2⟩:=ug ns (min n m);rw[cz];refine⟨by lia,λx hx=>?_⟩
  rcases ah.mp hx with e|e
  .subst e;lia
  .exact h2 x e
def Qn:List D->Option D
 | [.list ds]=>(sL ds).bind λns=>(JL ns).map .int
 |_=>none
section
variable {K:W.Frag}
theorem qU:RA K (λxs H Q=>∃x n,xs=[x]/\UU K x H n/\Q (.int n) H) rL:=by
 intro vs H Q ds d r e q;unfold rL at e;split at e
 .obtain ⟨v,ws,rfl,h1,h2⟩:=r.cons_inv;rw[h2.nil_inv];obtain⟨p,us,rfl,h3,h4⟩:=h1.list_inv;cases e;exact⟨_,_,rfl,.inl ⟨us,qC.of h3,h4.1⟩,q _ .int⟩
 .obtain ⟨v,ws,rfl,h1,h2⟩:=r.cons_inv;rw[h2.nil_inv];obtain⟨p,us,rfl,h3,h4⟩:=h1.tup_inv;cases e;exact⟨_,_,rfl,.inr ⟨us,Bh.of h3,h4.1⟩,q _ .int⟩
 .obtain ⟨v,ws,rfl,h1,h2⟩:=r.cons_inv;rw[h2.nil_inv];cases e;cases h1 with
  |scr h=>exact⟨_,_,rfl,.inl ⟨_,h,(lMq _).symm⟩,q _ .int⟩
 .rcases oj e with ⟨hl,e⟩|e
  .skip
   obtain⟨v,ws,rfl,h1,h2⟩:=r.cons_inv;rw[h2.nil_inv];cases e;cases h1;exact⟨_,_,rfl,⟨by rw[tF];exact hl,rfl⟩,q _ .int⟩
  .cases e
 .cases e
theorem O6:RA K (λxs H Q=>∃a kvs,xs=[V.ref a]/\H a=some (.dK kvs)/\Q (.int kvs.length) H) FQ:=by
 intro vs H Q ds d r e q;unfold FQ at e;split at e
 .obtain ⟨v,ws,rfl,h1,h2⟩:=r.cons_inv;rw[h2.nil_inv];obtain⟨p,us,rfl,h3,h4⟩:=h1.dict_inv;cases e;have hl:=congrArg bo h4.1;rw[lMq,lMq]at hl;rw[hl]at q;exact⟨_,_,rfl,h3,q _ .int⟩
 .cases e
theorem Hr:RA K (λxs H Q=>∃i,xs=[.int i]/\Q (.int (if i<0 then -i else i)) H) J8:=by
 intro vs H Q ds d r e q;unfold J8 at e;split at e
 .obtain ⟨v,ws,rfl,h1,h2⟩:=r.cons_inv;rw[h2.nil_inv];cases h1;cases e;exact⟨_,rfl,q _ .int⟩
 .cases e
theorem Tb:RA K (λxs H Q=>∃(a:Addr) (ns:List Int),xs=[.ref a]/\qC K H a (ns.map V.int)/\0<ns.length/\∀M,M∈ns->(∀x,x∈ns->M<=x)->Q (.int M) H) Qn:=by
 intro vs H Q ds d r e q;unfold Qn at e;split at e
 .obtain ⟨v,ws,rfl,h1,h2⟩:=r.cons_inv;rw[h2.nil_inv];obtain⟨ns,e1,e⟩:=oBq.mp e;obtain⟨m,e2,e⟩:=oMq.mp e;cases e;rw[yA e1]at h1;obtain⟨p,us,rfl,h3,h4⟩:=h1.list_inv;rw[tJ h4]at h3;cases ns with
  |nil=>cases e2
  |cons n ns =>
   cases e2;refine⟨p,_,rfl,qC.of h3,by simp,λM hM hm=>?_⟩
   have e3:M=ns.foldl min n:=by
    have a1:=hm _ (vH ns n);have a2:=ug ns n;have a3:ns.foldl min n<=M:=by
     rcases ah.mp hM with z|z
     .subst z;exact a2.1
     .exact a2.2 M z
    lia
   rw[e3];exact q _ .int
 .cases e
theorem Ur:RA K (λxs H Q=>∃x T b,xs=[x,.ty T]/\Tz K x H T b/\Q (.bl b) H) Lv:=by
 intro vs H Q ds d r e q;unfold Lv at e;split at e
 rotate_left
 .cases e
 rename_i x T;obtain⟨v,ws,rfl,h1,h2⟩:=r.cons_inv;obtain⟨u,zs,rfl,h3,h4⟩:=h2.cons_inv;rw[h4.nil_inv];cases h3;unfold Wq at e;cases x <;> first|(cases e;done)|dsimp only at e
 case int =>
  cases h1;split at e
  .rename_i hT;cases e;exact⟨_,_,_,rfl,.inl ⟨hT,rfl⟩,q _ .bl⟩
  .split at e
   .rename_i hT;cases e;exact⟨_,_,_,rfl,.inr ⟨hT,rfl⟩,q _ .bl⟩
   .cases e
 case bl =>
  cases h1;split at e
  .rename_i hT;cases e;rcases hT with hT|hT
   .exact ⟨_,_,_,rfl,.inl ⟨hT,rfl⟩,q _ .bl⟩
   .exact ⟨_,_,_,rfl,.inr ⟨hT,rfl⟩,q _ .bl⟩
  .cases e
 case str =>
  cases h1;split at e
  .rename_i hT;cases e;exact⟨_,_,_,rfl,⟨hT,rfl⟩,q _ .bl⟩
  .cases e
 case list =>
  obtain⟨p,us,rfl,g3,g4⟩:=h1.list_inv;split at e
  .rename_i hT;cases e;exact⟨_,_,_,rfl,.inl ⟨hT,rfl,us,qC.of g3⟩,q _ .bl⟩
  .cases e
 case tup =>
  obtain⟨p,us,rfl,g3,g4⟩:=h1.tup_inv;split at e
  .rename_i hT;cases e;exact⟨_,_,_,rfl,.inr (.inr ⟨hT,rfl,us,Bh.of g3⟩),q _ .bl⟩
  .cases e
 case dict =>
  obtain⟨p,us,rfl,g3,g4⟩:=h1.dict_inv;split at e
  .rename_i hT;cases e;exact⟨_,_,_,rfl,.inr (.inl ⟨hT,rfl,us,g3⟩),q _ .bl⟩
  .cases e
end
abbrev MF:=List D->Option AV
def qr(K:W.Frag) (f:MF):Sp:=λvs H Q _=>∃(Hf:Hp) (ds:List D) (a:AV),ot Hf H/\oX K Hf ds vs/\f ds=some a /\
 ∀Hf' H' v F,ot Hf Hf'->ot H H'->ot Hf' H'->(∀b,Hf b=none->H b≠none->Hf' b=none)->oE K Hf' H' a v F->F.Nodup->(∀q∈F,H q=none)->Q v H'
def rR(f:MF) (a:MA):MK:=λS=>(a S).bind λx=>(f (x.1.map nM)).map λr=>(r,x.2)
theorem qg{K:W.Frag}{f:MF}{ta:TA}{a:MA}(ha:SA K ta a):SK K (A7 (qr K f) [] E0 ta) (rR f a):=by
 intro H₀ Hf₀ Hf S σ H Fs av S' R e Q q;obtain⟨x,e1,e⟩:=oBq.mp e;obtain⟨z,e3,e⟩:=oMq.mp e;cases e;refine ha R (as:=x.1) (S':=x.2) e1 _ λHf1 H1 Fs1 vs Gs t1 R1 r1 o1=>?_
 obtain⟨R2,r2,t2⟩:=R1.gives t1 r1 o1;rw[aNq];refine⟨_,_,av,R2.sub,r2,e3,λHf' H' v F s1 s2 s3 l r nd fr=>?_⟩
 have t3:xy (Z.frz Hf1 H1 Gs.flatten) H1 Fs1 Hf' H' Fs1:=⟨s1,s2,λ_ h=>h,λb h g=>.inl (by
  by_cases e:H1 b=none
  .exact e
  .exact absurd (l b h e) g)⟩
 have hn:∀q∈Fs1.flatten,Hf' q=none:=λq hq=>l q (R2.mem hq).2 (R2.mem hq).1
 have R3:oH K H₀ Hf₀ Hf' x.2 σ H' Fs1:=R2.more s2 s1 s3 hn λb h1 h2=>l b (R2.lim b h1 h2) (En R2.fr h2)
 refine q _ _ _ v F (t2.trans t3) R3 r ⟨nd,λq hq=>R2.fr.free (fr q hq),λq hq m=>(R2.mem m).1 (fr q hq),λq hq=>.inl (t1.sh.free (fr q hq))⟩
inductive A6 where
 |nx (S:AS)|rt (a:AV)|bk (S:AS)|ct (S:AS)
abbrev MS:=AS->Option A6
def zk(K:W.Frag) (H₀ Hf₀ Hf:Hp) (D:tY):A6->Prop
 | .nx S=>∀Hf' σ' H' Fs',ot Hf Hf'->oH K H₀ Hf₀ Hf' S σ' H' Fs'->D.nx σ' H'
 | .bk S=>∀Hf' σ' H' Fs',ot Hf Hf'->oH K H₀ Hf₀ Hf' S σ' H' Fs'->D.bk σ' H'
 | .ct S=>∀Hf' σ' H' Fs',ot Hf Hf'->oH K H₀ Hf₀ Hf' S σ' H' Fs'->D.ct σ' H'
 | .rt a=>∀Hf' H' v F,ot Hf₀ Hf'->ot H₀ H'->ot Hf' H'->(∀b,Hf₀ b=none->H₀ b≠none->Hf' b=none)->oE K Hf' H' a v F->F.Nodup->(∀q∈F,H₀ q=none)->D.rt v H'
def SS(K:W.Frag) (t:TS) (m:MS):Prop:=∀{H₀ Hf₀ Hf:Hp}{S:AS}{σ:St}{H:Hp}{Fs:List (List Addr)}{o:A6},oH K H₀ Hf₀ Hf S σ H Fs->m S=some o->∀D:tY,zk K H₀ Hf₀ Hf D o->t D σ H
theorem zk.mono{K:W.Frag}{H₀ Hf₀ Hf Hf':Hp}{D:tY}{o:A6}(s:ot Hf Hf') (h:zk K H₀ Hf₀ Hf D o):zk K H₀ Hf₀ Hf' D o:=by
 cases o with
 |nx S=>exact λHf2 σ' H' Fs' s2 R=>h Hf2 σ' H' Fs' (s.trans s2) R
 |bk S=>exact λHf2 σ' H' Fs' s2 R=>h Hf2 σ' H' Fs' (s.trans s2) R
 |ct S=>exact λHf2 σ' H' Fs' s2 R=>h Hf2 σ' H' Fs' (s.trans s2) R
 |rt a=>exact h
def qd:MS:=λS=>some (.nx S)
def Xw:MS:=λS=>some (.bk S)
def Yk:MS:=λS=>some (.ct S)
def WZ:MS:=λ_=>none
def ox(a b:MS):MS:=λS=>(a S).bind λo=>match o with
 | .nx S'=>b S'
 |o=>some o
def pd(i:Nat) (k:MK):MS:=λS=>(k S).map λx=>.nx (x.2.set i (some x.1))
def X6(k:MK):MS:=λS=>(k S).map λx=>.nx x.2
def sq(k:MK):MS:=λS=>(k S).map λx=>.rt x.1
def xK(c:MT) (a b:MS):MS:=λS=>(c S).bind λx=>if x.1=true then a x.2 else b x.2
section
variable {K:W.Frag}{t u:TS}{a b:MS}{te:TE}{k:MK}
theorem pY:SS K Jg qd:=by
 intro H₀ Hf₀ Hf S σ H Fs o R e D h;cases e;exact h _ _ _ _ (.refl _) R
theorem nP(ha:SS K t a) (hb:SS K u b):SS K (xQ t u) (ox a b):=by
 intro H₀ Hf₀ Hf S σ H Fs o R e D h;obtain⟨x,e1,e⟩:=oBq.mp e;refine ha R e1 _ ?_;cases x with
 |nx S'=>exact λHf' σ' H' Fs' s R'=>hb R' e D (h.mono s)
 |rt a=>cases e;exact h
 |bk a=>cases e;exact h
 |ct a=>cases e;exact h
theorem oa{i:Nat}(hk:SK K te k):SS K (Au te (qt i)) (pd i k):=by
 intro H₀ Hf₀ Hf S σ H Fs o R e D h;obtain⟨x,e1,e⟩:=oMq.mp e;cases e;refine hk R (a:=x.1) (S':=x.2) e1 _ λHf1 H1 Fs1 v F t1 R1 r1 o1=>?_
 exact h _ _ _ _ t1.sf (R1.set i r1 o1.nd λq hq=>⟨o1.fr q hq,o1.out q hq⟩)
theorem pO(hk:SK K te k):SS K (LN te) (sq k):=by
 intro H₀ Hf₀ Hf S σ H Fs o R e D h;obtain⟨x,e1,e⟩:=oMq.mp e;cases e;exact hk R (a:=x.1) (S':=x.2) e1 _ λHf1 H1 Fs1 v F t1 R1 r1 o1=>h _ _ v F R1.sf R1.fr R1.sub R1.lim r1 o1.nd o1.fr
theorem qO{c:TT}{m:MT}(hc:BQ K c m) (ha:SS K t a) (hb:SS K u b):SS K (Hw c t u) (xK m a b):=by
 intro H₀ Hf₀ Hf S σ H Fs o R e D h;obtain⟨x,e1,e⟩:=oBq.mp e;refine hc R (b:=x.1) (S':=x.2) e1 _ λHf1 H1 Fs1 t1 R1=>?_
 split at e
 .rename_i hx;rw[hx];exact Dc (ha R1 e D (h.mono t1.sf))
 .rename_i hx;rw[bS]at hx;rw[hx];exact CT (hb R1 e D (h.mono t1.sf))
end
def pM(S:AS) (i:Nat):Option (List AV):=match S[i]?.join with
 |some (.ow avs)=>some avs
 |_=>none
def xf(S:AS) (i:Nat):Option (List (oD×D)):=match S[i]?.join with
 |some (.owd kvs)=>some kvs
 |_=>none
def tR(i:Nat) (k:MK):MS:=λS=>(pM S i).bind λ_=>(k S).bind λx=>(pM x.2 i).bind λavs =>
 tP (avs.length<qW) (some (.nx (x.2.set i (some (.ow (avs++[x.1]))))))
def Tp(i:Nat) (l:ML):MS:=λS=>(pM S i).bind λ_=>(l S).bind λx=>(pM x.2 i).bind λavs =>
 tP (avs.length+x.1.length<=qW) (some (.nx (x.2.set i (some (.ow (avs++x.1.map .sh))))))
def intOf:D->Option Int
 | .int i=>some i
 |_=>none
def YL(i:Nat) (b:ME) (k:MK):MS:=λS=>(rh k S).bind λx=>(pM x.2 i).bind λ_=>(b x.2).bind λy=>(pM y.2 i).bind λavs=>(intOf y.1).bind λj=>(AO avs.length j).map λn =>
 .nx (y.2.set i (some (.ow (((avs.map nM).set n (nM x.1)).map .sh))))
def tZ:D->Option oD
 | .int i=>some (.inl i)
 | .str x=>some (.inr x)
 |_=>none
def xj(kvs:List (oD×D)) (k:oD) (d:D):List (oD×D):=if kvs.any (λkv=>decide (kv.1=k)) then kvs.map (λkv=>if kv.1=k then (kv.1,d) else kv) else kvs++[(k,d)]
def getD(kvs:List (oD×D)) (k:oD):Option D:=(kvs.find? λkv=>decide (kv.1=k)).map (·.2)
def A8(i:Nat) (b:ME) (k:MK):MS:=λS=>(rh k S).bind λx=>(xf x.2 i).bind λ_=>(b x.2).bind λy=>(xf y.2 i).bind λkvs=>(tZ y.1).bind λkey =>
 tP (kvs.length<qW) (some (.nx (y.2.set i (some (.owd (xj kvs key (nM x.1)))))))
section
variable {K:W.Frag}{H₀ Hf₀ Hf H:Hp}{S:AS}{σ:St}{Fs:List (List Addr)}
theorem oH.turn(R:oH K H₀ Hf₀ Hf S σ H Fs) {i:Nat}{av:AV}{p:Addr}{o:HO}{F F':List Addr}(s1:σ[i]?=some (some (.ref p))) (s2:Fs[i]?=some F) (hp:p∈F) (r:oE K Hf (upd H p o) av (.ref p) F') (nd:F'.Nodup)
  (hf:∀q∈F',H₀ q=none/\q∉(Fs.set i []).flatten):oH K H₀ Hf₀ Hf (S.set i (some av)) σ (upd H p o) (Fs.set i F'):=by
 have hin:p∈Fs.flatten:=mFq.mpr ⟨F,mGq s2,hp⟩;have pn:Hf p=none:=(R.mem hin).2;have p0:H₀ p=none:=R.fresh p hin;have out:=sQ R.nd s2 hp;have R1:oH K H₀ Hf₀ Hf (S.set i none) σ (upd H p o) (Fs.set i []):=by
  refine⟨by simp[R.len],by simp[R.lenF],λj a ej=>?_,λj ej=>?_,ql i R.nd aZ (λp hp=>by cases hp),λp hp=>R.fresh p (oQ hp),λb u e=>?_,λb u e=>?_,R.lim,R.sf⟩
  .rw [bf]at ej
   by_cases hij:i=j
   .subst hij;rw[oq rfl]at ej;split at ej <;> cases ej
   .rw [oz hij]at ej;obtain⟨w,G,f1,f2,q⟩:=R.rep j a ej;refine⟨w,G,f1,by rw[ao hij];exact f2,q.keep (.refl _) (λc hc=>nV λe=>out ?_) λc hc=>(q.owned c hc).2⟩
    subst e;exact mFq.mpr ⟨G,mGq (i:=j) (by rw[ao hij];exact f2),hc⟩
  .rw [bf]at ej
   by_cases hij:i=j
   .subst hij;rw[oq rfl]at ej;split at ej
    .rename_i hi;rw[aC (R.lenF.symm ▸ hi)]
    .cases ej
   .rw [oz hij]at ej;rw[ao hij];exact R.emp j ej
  .rw [nV λz=>by rw[z,pn]at e;cases e]
   exact R.sub b u e
  .rw [nV λz=>by rw[z,p0]at e;cases e]
   exact R.fr b u e
 exact R1.again (F:=F) s1 r nd hf
theorem og{i:Nat}{F:List Addr}{q:Addr}(s2:Fs[i]?=some F) (h:q∈F):q∈Fs.flatten:=mFq.mpr ⟨F,mGq s2,h⟩
theorem oJ.snoc{as:List AV}{vs:List V}{Gs:List (List Addr)}{a:AV}{v:V}{F:List Addr}(r:oJ K Hf H as vs Gs) (s:oE K Hf H a v F):oJ K Hf H (as++[a]) (vs++[v]) (Gs++[F]):=by
 obtain⟨h1,h2,h3⟩:=r;refine⟨by simp[h1],by simp[h2],λi b w G e1 e2 e3=>?_⟩
 by_cases hi:i<as.length
 .rw [gZq hi]at e1;rw[gZq (h1 ▸ hi)]at e2;rw[gZq (h2 ▸ hi)]at e3;exact h3 i b w G e1 e2 e3
 .have hi':i=as.length:=by
   have:=(gSq.mp e1).1;rw[lAq,lSq]at this;lia
  subst hi';rw[gYq (ae _),bp]at e1;rw[h1,gYq (ae _),bp]at e2;rw[h2,gYq (ae _),bp]at e3;cases e1;cases e2;cases e3;exact s
theorem oJ.keepUpd{as:List AV}{vs:List V}{Gs:List (List Addr)}{p:Addr}{o:HO}(r:oJ K Hf H as vs Gs) (hp:p∉Gs.flatten):oJ K Hf (upd H p o) as vs Gs :=
 ⟨r.1,r.2.1,λi a v F h1 h2 h3=>by
  have q:=r.2.2 i a v F h1 h2 h3;refine q.keep (.refl _) (λc hc=>nV λe=>hp ?_) λc hc=>(q.owned c hc).2
  subst e;exact mFq.mpr ⟨F,mGq h3,hc⟩⟩
theorem oE.keepUpd{a:AV}{v:V}{F:List Addr}{p:Addr}{o:HO}(q:oE K Hf H a v F) (hp:p∉F):oE K Hf (upd H p o) a v F :=
 q.keep (.refl _) (λc hc=>nV λe=>hp (e ▸ hc)) λc hc=>(q.owned c hc).2
theorem Jy{ds:List D}{vs:List V}(r:oX K Hf ds vs):oJ K Hf H (ds.map .sh) vs (aQ ds.length []) :=
 ⟨by simp[r.1],by simp,λi a v F h1 h2 h3=>by
  rw[gMq]at h1;cases q:ds[i]? with
  |none=>rw[q]at h1;cases h1
  |some d =>
   rw[q]at h1;cases h1;have:F=[]:=bZ (mGq h3);subst this;exact .sh (r.2 i d v q h2)⟩
theorem oJ.append{as bs:List AV}{vs ws:List V}{Gs Es:List (List Addr)}(r:oJ K Hf H as vs Gs) (s:oJ K Hf H bs ws Es):oJ K Hf H (as++bs) (vs++ws) (Gs++Es):=by
 obtain⟨h1,h2,h3⟩:=r;refine⟨by simp[h1,s.1],by simp[h2,s.2.1],λi b w G e1 e2 e3=>?_⟩
 by_cases hi:i<as.length
 .rw [gZq hi]at e1;rw[gZq (h1 ▸ hi)]at e2;rw[gZq (h2 ▸ hi)]at e3;exact h3 i b w G e1 e2 e3
 .rw [gYq (by lia)]at e1
  rw[gYq (by lia),←h1]at e2
  rw[gYq (by lia),←h2]at e3
  exact s.2.2 _ b w G e1 e2 e3
end
section
variable {K:W.Frag}{te ta tb:TE}{k:MK}{b:ME}{l:ML}
theorem nW{S:AS}{i:Nat}{avs:List AV}(h:pM S i=some avs):S[i]?=some (some (.ow avs)):=by
 unfold pM at h;split at h
 .rename_i z e;cases h;exact oO e
 .cases h
theorem Cz{S:AS}{i:Nat}{kvs:List (oD×D)}(h:xf S i=some kvs):S[i]?=some (some (.owd kvs)):=by
 unfold xf at h;split at h
 .rename_i z e;cases h;exact oO e
 .cases h
theorem oH.ow{H₀ Hf₀ Hf H:Hp}{S:AS}{σ:St}{Fs:List (List Addr)}(R:oH K H₀ Hf₀ Hf S σ H Fs) {i:Nat}{avs:List AV}(h:S[i]?=some (some (.ow avs))):∃p vs Gs,σ[i]?=some (some (.ref p))/\Fs[i]?=some (p::Gs.flatten)/\H p=some (.lst vs)/\Hf p=none/\oJ K Hf H avs vs Gs /\
  p∉Gs.flatten/\Gs.flatten.Nodup/\∀q∈p::Gs.flatten,H₀ q=none/\q∉(Fs.set i []).flatten:=by
 obtain⟨v,F,s1,s2,r,nd,o,_⟩:=R.move h;obtain⟨p,vs,Gs,rfl,rfl,h1,h2,h3⟩:=r.ow_inv;exact⟨p,vs,Gs,s1,s2,h1,h2,h3,(ax.mp nd).1,(ax.mp nd).2,o⟩
theorem tj{i:Nat}(hk:SK K te k):SS K (vV (KN K "list" vi (uY i) (rM te vw))) (tR i k):=by
 intro H₀ Hf₀ Hf S σ H Fs o R e D h;obtain⟨a0,e0,e⟩:=oBq.mp e;obtain⟨x,e1,e⟩:=oBq.mp e;obtain⟨avs,e2,e⟩:=oBq.mp e;rcases oj e with ⟨hl,e⟩|e
 .skip
  cases e;obtain⟨p,vs,Gs,s1,_,h1,_⟩:=R.ow (nW e0);refine⟨.ref p,s1,.inl ⟨rfl,vs,qC.of h1⟩,hk R (a:=x.1) (S':=x.2) e1 _ λHf1 H1 Fs1 v F t1 R1 r1 o1=>?_⟩
  obtain⟨p',vs',Gs',s1',s2',h1',h2',h3',h4',h5',h6'⟩:=R1.ow (nW e2);rw[s1]at s1';cases s1';have pF:p∉F:=λm=>o1.out p m (og s2' (by simp))
  refine⟨p,vs',v,rfl,rfl,h1',by rw[tF,←h3'.1];exact hl,h _ _ _ _ t1.sf (R1.turn s1 s2' (by simp) (F':=p::(Gs'++[F]).flatten) (oE.news nZ h2' ((h3'.keepUpd h4').snoc (r1.keepUpd pF))) ?_ λq hq=>?_)⟩
  .rw [fAq,aL];refine ax.mpr ⟨λm=>(mAq.mp m).elim h4' pF,nAq.mpr ⟨h5',o1.nd,λa ha b hb e=>o1.out b hb (og s2' (mCo _ (e ▸ ha)))⟩⟩
  .rw [fAq,aL]at hq;rcases ah.mp hq with z|z
   .exact h6' q (by rw[z];simp)
   .rcases mAq.mp z with z|z
    .exact h6' q (mCo _ z)
    .exact ⟨o1.fr q z,λm=>o1.out q z (oQ m)⟩
 .cases e
theorem R5{i:Nat}(hl:SL K te l):SS K (vV (KN K "list" IT (uY i) (rM te vw))) (Tp i l):=by
 intro H₀ Hf₀ Hf S σ H Fs o R e D h;obtain⟨a0,e0,e⟩:=oBq.mp e;obtain⟨x,e1,e⟩:=oBq.mp e;obtain⟨avs,e2,e⟩:=oBq.mp e;rcases oj e with ⟨hle,e⟩|e
 .skip
  cases e;obtain⟨p,vs,Gs,s1,_,h1,_⟩:=R.ow (nW e0);refine⟨.ref p,s1,.inl ⟨rfl,vs,qC.of h1⟩,hl R (ds:=x.1) (S':=x.2) e1 _ λHf1 H1 Fs1 b ws t1 R1 hb r1=>?_⟩
  obtain⟨p',vs',Gs',s1',s2',h1',h2',h3',h4',h5',h6'⟩:=R1.ow (nW e2);rw[s1]at s1';cases s1';refine⟨p,b,vs',ws,rfl,rfl,h1',hb,by rw[tF,←h3'.1,←r1.1];exact hle,h _ _ _ _ t1.sf (R1.turn s1 s2' (by simp) (F':=p::(Gs'++aQ x.1.length []).flatten) (oE.news nZ h2' ((h3'.keepUpd h4').append (Jy r1))) ?_ λq hq=>?_)⟩
  .rw [fAq,qS,aNq];exact ax.mpr ⟨h4',h5'⟩
  .rw [fAq,qS,aNq]at hq;exact h6' q hq
 .cases e
theorem B5{H:Hp}:∀{ds:List (oD×D)}{kvs:List (oD×V)}{key:oD},uc K H ds kvs->match getD ds key with
  |some d=>∃v,zR kvs key=some v/\qb K H d v
  |none=>zR kvs key=none
 | [],kvs,key,h=>by
  have:kvs=[]:=by
   have:=congrArg bo h.1;simpa using this.symm
  subst this;rfl
 |d::ds,[],key,h=>by
  have:=congrArg bo h.1;simp at this
 |d::ds,v::kvs,key,h=>by
  have h1:d.1=v.1/\ds.map (·.1)=kvs.map (·.1):=by
   have:=h.1;simpa using this
  have h2:qb K H d.2 v.2:=h.2 0 d v rfl rfl;have ht:uc K H ds kvs:=⟨h1.2,λi a b e1 e2=>h.2 (i+1) a b (by simpa using e1) (by simpa using e2)⟩
  unfold getD zR
  by_cases c:d.1=key
  .rw [dr (by simp[c]),dr (by simp[←h1.1,c])]
   exact⟨v.2,rfl,h2⟩
  .rw [cF (by simp[c]),cF (by simp[←h1.1,c])]
   exact B5 ht
theorem vS{H:Hp}{d:D}{v:V}{key:oD}(h:tZ d=some key) (r:qb K H d v):v=kV key:=by
 cases r <;> simp only[tZ]at h
 all_goals first|(exfalso;simp at h;done)|skip
 all_goals (cases h;rfl)
theorem uc.key{H:Hp}{ds:List (oD×D)}{kvs:List (oD×V)}(h:uc K H ds kvs) {i:Nat}{d:oD×D}{v:oD×V}(e1:ds[i]?=some d) (e2:kvs[i]?=some v):d.1=v.1:=by
 have:=congrArg (λl=>l[i]?) h.1
 simp only[gMq,e1,e2,fJ]at this;exact aT.inj this
theorem uc.len{H:Hp}{ds:List (oD×D)}{kvs:List (oD×V)}(h:uc K H ds kvs):ds.length=kvs.length:=by
 have:=congrArg bo h.1;simpa using this
theorem L3{H:Hp}{ds:List (oD×D)}{kvs:List (oD×V)}{key:oD}{d:D}{v:V}(h:uc K H ds kvs) (r:qb K H d v):uc K H (xj ds key d) (yj kvs key v):=by
 have ha:(ds.any λkv=>decide (kv.1=key))=kvs.any λkv=>decide (kv.1=key):=by
  have e1:(ds.any λkv=>decide (kv.1=key))=(ds.map (·.1)).any λk=>decide (k=key):=by rw[iM];rfl
  have e2:(kvs.any λkv=>decide (kv.1=key))=(kvs.map (·.1)).any λk=>decide (k=key):=by rw[iM];rfl
  rw[e1,e2,h.1]
 unfold xj yj;rw[ha];split
 .refine ⟨?_,λi a b e1 e2=>?_⟩
  .rw [mPq,mPq];have e1:((λkv:oD×D=>kv.1)∘λkv:oD×D=>if kv.1=key then (kv.1,d) else kv)=λkv=>kv.1:=by
    funext kv;show (if kv.1=key then (kv.1,d) else kv).1=kv.1
    split <;> rfl
   have e2:((λkv:oD×V=>kv.1)∘λkv:oD×V=>if kv.1=key then (kv.1,v) else kv)=λkv=>kv.1:=by
    funext kv;show (if kv.1=key then (kv.1,v) else kv).1=kv.1
    split <;> rfl
   rw[e1,e2];exact h.1
  .rw [gMq]at e1 e2;obtain⟨a',f1,rfl⟩:=oMq.mp e1;obtain⟨b',f2,rfl⟩:=oMq.mp e2;have hk:=h.key f1 f2
   by_cases c:a'.1=key
   .rw [oq c,oq (hk ▸ c)];exact r
   .rw [oz c,oz (hk ▸ c)];exact h.2 i a' b' f1 f2
 .refine ⟨by rw[mBq,mBq,h.1];rfl,λi a b e1 e2=>?_⟩
  by_cases hi:i<ds.length
  .rw [gZq hi]at e1;rw[gZq (h.len ▸ hi)]at e2;exact h.2 i a b e1 e2
  .have hi':i=ds.length:=by
    have:=(gSq.mp e1).1;rw[lAq,lSq]at this;lia
   subst hi';rw[gYq (ae _),bp]at e1;rw[h.len,gYq (ae _),bp]at e2;cases e1;cases e2;exact r
def GW:MK:=λS=>some (.owd [],S)
theorem BG:SK K MB GW:=by
 intro H₀ Hf₀ Hf S σ H Fs av S' R e Q q;cases e;intro p hp;obtain⟨t,R2,n1,n2,n3⟩:=R.new (o:=.dK []) hp;exact q _ _ _ (.ref p) [p] t R2 (.owd nZ n1 ⟨rfl,λi d v h=>by simp at h⟩) (xk.one R hp)
theorem oH.owd{H₀ Hf₀ Hf H:Hp}{S:AS}{σ:St}{Fs:List (List Addr)}(R:oH K H₀ Hf₀ Hf S σ H Fs) {i:Nat}{ds:List (oD×D)}(h:S[i]?=some (some (.owd ds))):∃p kvs,σ[i]?=some (some (.ref p))/\Fs[i]?=some [p]/\H p=some (.dK kvs)/\Hf p=none/\uc K Hf ds kvs /\
  H₀ p=none/\p∉(Fs.set i []).flatten:=by
 obtain⟨v,F,s1,s2,r,nd,o,_⟩:=R.move h;obtain⟨p,kvs,rfl,rfl,h1,h2,h3⟩:=r.owd_inv;exact⟨p,kvs,s1,s2,h1,h2,h3,(o p (by simp)).1,(o p (by simp)).2⟩
theorem wJ{i:Nat}(hk:SK K te k) (hb:SR K tb b):SS K (RC (uY i) tb te) (A8 i b k):=by
 intro H₀ Hf₀ Hf S σ H Fs o R e D h;obtain⟨x,e1,e⟩:=oBq.mp e;obtain⟨a0,e0,e⟩:=oBq.mp e;obtain⟨y,e2,e⟩:=oBq.mp e;obtain⟨kvs,e3,e⟩:=oBq.mp e;obtain⟨key,e4,e⟩:=oBq.mp e;rcases oj e with ⟨hl,e⟩|e
 .skip
  cases e;have hk':SK K te (rh k):=SK.frz hk;refine hk' R (a:=x.1) (S':=x.2) e1 _ λHf1 H1 Fs1 v F t1 R1 r1 o1=>?_
  obtain⟨p',_,s1,_⟩:=R1.owd (Cz e0);refine⟨_,s1,hb R1 (d:=y.1) (S':=y.2) e2 _ λHf2 H2 Fs2 w t2 R2 r2=>?_⟩
  obtain⟨q',kv,s1',s2',h1',h2',h3',h4',h5'⟩:=R2.owd (Cz e3);rw[s1]at s1';cases s1';obtain⟨x1,hx1⟩:∃d,x.1 = .sh d:=by
   obtain⟨w,_,e⟩:=oMq.mp e1;rw[←e];exact⟨_,rfl⟩
  rw[hx1]at r1;have rv:=(r1.sh_inv.2).mono t2.sf;have hw:=vS e4 r2;subst hw;refine⟨p',_,rfl,Nl.k h1' (by rw[tF,←h3'.len];exact hl),h _ _ _ _ (t1.sf.trans t2.sf) (R2.turn s1 s2' (by simp) (F':=[p']) (.owd nZ h2' ?_) (by simp) λq hq=>by rw[mSq.mp hq];exact⟨h4',h5'⟩)⟩
  rw[hx1,pJ];exact L3 h3' rv
 .cases e
def S4(a b:ME):ME:=λS=>(a S).bind λx=>(b x.2).bind λy=>match y.1 with
 | .dict kvs=>(tZ x.1).map λkey=>(.bl (getD kvs key).isSome,y.2)
 |_=>none
def zJ(a b:ME):ME:=λS=>(a S).bind λx=>(b x.2).bind λy=>match y.1 with
 | .dict kvs=>(tZ x.1).map λkey=>(.bl (!(getD kvs key).isSome),y.2)
 |_=>none
def yL(a b:ME):ME:=λS=>(a S).bind λx=>(b x.2).bind λy=>match x.1 with
 | .dict kvs=>(tZ y.1).bind λkey=>(getD kvs key).map λd=>(d,y.2)
 |_=>none
theorem KR{H:Hp}{kvs:List (oD×D)}{x:V}{key:oD}{d:D}(r:qb K H (.dict kvs) x) (e:getD kvs key=some d):∃a v,x = .ref a/\AH H a (kV key) (some v)/\qb K H d v:=by
 obtain⟨p,vs,rfl,h1,h2⟩:=r.dict_inv;have g:=B5 (key:=key) h2;rw[e]at g;obtain⟨v,g1,g2⟩:=g;exact⟨p,v,rfl,by rw[←g1];exact AH.k h1,g2⟩
theorem GH{H:Hp}{kvs:List (oD×D)}{x:V}{key:oD}(r:qb K H (.dict kvs) x):∃a o,x = .ref a/\AH H a (kV key) o/\o.isSome=(getD kvs key).isSome:=by
 obtain⟨p,vs,rfl,h1,h2⟩:=r.dict_inv;have g:=B5 (key:=key) h2;refine⟨p,_,rfl,AH.k h1,?_⟩;cases e:getD kvs key with
 |none=>rw[e]at g;rw[g];rfl
 |some d=>rw[e]at g;obtain⟨v,g1,_⟩:=g;rw[g1];rfl
theorem Tv{a:ME}(ha:SR K ta a) (hb:SR K tb b):SR K (V6 ta tb) (S4 a b):=by
 intro H₀ Hf₀ Hf S σ H Fs d S' R e Q q;obtain⟨x,e1,e⟩:=oBq.mp e;obtain⟨y,e2,e⟩:=oBq.mp e;refine ha R (d:=x.1) (S':=x.2) e1 _ λHf1 H1 Fs1 v1 t1 R1 r1=>hb R1 (d:=y.1) (S':=y.2) e2 _ λHf2 H2 Fs2 v2 t2 R2 r2=>?_
 split at e
 .rename_i kvs hy;rw[hy]at r2;obtain⟨key,e3,e⟩:=oMq.mp e;cases e;obtain⟨p,o,rfl,g1,g2⟩:=GH (key:=key) r2;refine⟨p,o,rfl,by rw[vS e3 r1];exact g1,?_⟩
  rw[g2];exact q _ _ _ _ (t1.trans t2) R2 .bl
 .cases e
theorem Av{a:ME}(ha:SR K ta a) (hb:SR K tb b):SR K (Jn ta tb) (zJ a b):=by
 intro H₀ Hf₀ Hf S σ H Fs d S' R e Q q;obtain⟨x,e1,e⟩:=oBq.mp e;obtain⟨y,e2,e⟩:=oBq.mp e;refine ha R (d:=x.1) (S':=x.2) e1 _ λHf1 H1 Fs1 v1 t1 R1 r1=>hb R1 (d:=y.1) (S':=y.2) e2 _ λHf2 H2 Fs2 v2 t2 R2 r2=>?_
 split at e
 .rename_i kvs hy;rw[hy]at r2;obtain⟨key,e3,e⟩:=oMq.mp e;cases e;obtain⟨p,o,rfl,g1,g2⟩:=GH (key:=key) r2;refine⟨p,o,rfl,by rw[vS e3 r1];exact g1,?_⟩
  rw[g2];exact q _ _ _ _ (t1.trans t2) R2 .bl
 .cases e
theorem vf{a:ME}(ha:SR K ta a) (hb:SR K tb b):SR K (Rb ta tb) (yL a b):=by
 intro H₀ Hf₀ Hf S σ H Fs d S' R e Q q;obtain⟨x,e1,e⟩:=oBq.mp e;obtain⟨y,e2,e⟩:=oBq.mp e;refine ha R (d:=x.1) (S':=x.2) e1 _ λHf1 H1 Fs1 v1 t1 R1 r1=>hb R1 (d:=y.1) (S':=y.2) e2 _ λHf2 H2 Fs2 v2 t2 R2 r2=>?_
 split at e
 .rename_i kvs hy;rw[hy]at r1;obtain⟨key,e3,e⟩:=oBq.mp e;obtain⟨d',e4,e⟩:=oMq.mp e;cases e;obtain⟨p,v,rfl,g1,g2⟩:=KR (r1.mono t2.sh) e4;exact⟨p,v,rfl,by rw[vS e3 r2];exact g1,q _ _ _ _ (t1.trans t2) R2 g2⟩
 .cases e
end
def se(x:Nat) (body:MS):List D->AS->Option A6
 | [],S=>some (.nx S)
 |d::ds,S=>(body (S.set x (some (.sh d)))).bind λo=>match o with
  | .nx S'=>se x body ds S'
  | .ct S'=>se x body ds S'
  | .bk S'=>some (.nx S')
  | .rt a=>some (.rt a)
def qo:D->Option (List D)
 | .list ds=>some ds
 | .scr ns=>some (ns.map .int)
 |_=>none
def C7(x:Nat) (k:MK) (body:MS):MS:=λS=>(rh k S).bind λy=>(qo (nM y.1)).bind λds=>se x body ds y.2
def qf(lo:Int) (n:Nat):List D:=(bK n).map λi:Nat=>.int (lo+i)
def El:List D->Option (List D)
 | [.int j]=>tP (-(2 ^ 62)<=j/\j<2 ^ 62) (some (qf 0 j.toNat))
 |_=>none
def Xd:List D->Option (List D)
 | [.int i,.int j]=>tP (-(2 ^ 62)<=i/\i<2 ^ 62/\-(2 ^ 62)<=j/\j<2 ^ 62) (some (qf i (j-i).toNat))
 |_=>none
def Hy(x:Nat) (a:ML) (body:MS):MS:=λS=>(a S).bind λy=>(El y.1).bind λds=>se x body ds y.2
def Xr(x:Nat) (a:ML) (body:MS):MS:=λS=>(a S).bind λy=>(Xd y.1).bind λds=>se x body ds y.2
def Aj(x y:Nat) (body:MS):Nat->List D->AS->Option A6
 |_,[],S=>some (.nx S)
 |i,d::ds,S=>(body ((S.set x (some (.sh (.int i)))).set y (some (.sh d)))).bind λo=>match o with
  | .nx S'=>Aj x y body (i+1) ds S'
  | .ct S'=>Aj x y body (i+1) ds S'
  | .bk S'=>some (.nx S')
  | .rt a=>some (.rt a)
def LP(x y:Nat) (k:MK) (body:MS):MS:=λS=>(rh k S).bind λz=>(qo (nM z.1)).bind λds=>Aj x y body 0 ds z.2
def za(x y:Nat) (body:MS):List D->List D->AS->Option A6
 |d::ds,e::es,S=>(body ((S.set x (some (.sh d))).set y (some (.sh e)))).bind λo=>match o with
  | .nx S'=>za x y body ds es S'
  | .ct S'=>za x y body ds es S'
  | .bk S'=>some (.nx S')
  | .rt a=>some (.rt a)
 |_,_,S=>some (.nx S)
def Nu(x y:Nat) (k l:MK) (body:MS):MS:=λS=>(rh k S).bind λz=>(rh l z.2).bind λw=>(qo (nM z.1)).bind λds=>(qo (nM w.1)).bind λes =>
 if ds.length=es.length then za x y body ds es w.2 else none
def rp(c:MT) (body:MS):Nat->MS
 |0,_=>none
 |n+1,S=>(c S).bind λx=>if x.1=true then (body x.2).bind λo=>match o with
   | .nx S'=>rp c body n S'
   | .ct S'=>rp c body n S'
   | .bk S'=>some (.nx S')
   | .rt a=>some (.rt a)
  else some (.nx x.2)
section
variable {K:W.Frag}{te tf:TE}{k l:MK}{tb:TS}{body:MS}{x y:Nat}
theorem tx{H:Hp}{d:D}{ds:List D}{v:V}(e:qo d=some ds) (r:qb K H d v):∃a vs,v = .ref a/\qC K H a vs/\oX K H ds vs:=by
 cases d with
 |list es =>
  cases e;obtain⟨p,vs,rfl,h1,h2⟩:=r.list_inv;exact⟨p,vs,rfl,qC.of h1,h2⟩
 |scr ns =>
  cases e;cases r with
  |scr h=>exact⟨_,_,rfl,h,uA ns⟩
 |_=>cases e
theorem tK{te:TE}{S:AS}{z:AV×AS}(e:rh k S=some z):∃d,z.1 = .sh d:=by
 obtain⟨w,_,e⟩:=oMq.mp e;rw[←e];exact⟨_,rfl⟩
theorem oH.setD{H₀ Hf₀ Hf H:Hp}{S:AS}{σ:St}{Fs:List (List Addr)}{d:D}{v:V}(R:oH K H₀ Hf₀ Hf S σ H Fs) (i:Nat) (r:qb K Hf d v):oH K H₀ Hf₀ Hf (S.set i (some (.sh d))) (σ.set i (some v)) H (Fs.set i []) :=
 R.set i (.sh r) aZ λq h=>(by cases h)
theorem vF(hk:SK K te k) (hb:SS K tb body):SS K (G2 (Dy K te) (qt x) tb) (C7 x k body):=by
 intro H₀ Hf₀ Hf S σ H Fs o R e D h;obtain⟨z,e1,e⟩:=oBq.mp e;obtain⟨ds,e2,e⟩:=oBq.mp e;have hk':SK K te (rh k):=SK.frz hk;refine hk' R (a:=z.1) (S':=z.2) e1 _ λHf1 H1 Fs1 v F t1 R1 r1 o1=>?_
 obtain⟨d,hd⟩:=tK (te:=te) e1;rw[hd]at r1;rw[hd,pJ]at e2;obtain⟨a,vs,rfl,g1,g2⟩:=tx e2 r1.sh_inv.2;refine⟨a,rfl,⟨vs,R1.sub.seq g1⟩,CO (xs:=vs) (λi σ' H'=>∃Hf' S' Fs',oH K H₀ Hf₀ Hf' S' σ' H' Fs'/\ot Hf1 Hf'/\se x body (ds.drop i) S'=some o) ⟨Hf1,z.2,Fs1,R1,.refl _,e⟩
  (λi σ' H' _ ⟨Hf',S',Fs',R',s',_⟩=>R'.sub.seq (s'.seq g1)) ?_ ?_⟩
 .rintro i w σ' H' hw ⟨Hf',S',Fs',R',s',e'⟩;obtain⟨di,hdi,rw'⟩:=g2.get' hw;have hlt:i<ds.length:=(gSq.mp hdi).1;rw[aB hlt]at e';have hdi':ds[i]=di:=(gSq.mp hdi).2;rw[hdi']at e';obtain⟨ob,e3,e4⟩:=oBq.mp e';refine hb (R'.setD x (rw'.mono s')) e3 _ ?_;cases ob with
  |nx S2=>exact λHf2 σ2 H2 Fs2 s2 R2=>⟨Hf2,S2,Fs2,R2,s'.trans s2,e4⟩
  |ct S2=>exact λHf2 σ2 H2 Fs2 s2 R2=>⟨Hf2,S2,Fs2,R2,s'.trans s2,e4⟩
  |bk S2=>cases e4;exact λHf2 σ2 H2 Fs2 s2 R2=>h _ _ _ _ ((t1.sf.trans s').trans s2) R2
  |rt a=>cases e4;exact h
 .rintro σ' H' ⟨Hf',S',Fs',R',s',e'⟩;rw[←g2.1,bX]at e';cases e';exact h _ _ _ _ (t1.sf.trans s') R'
theorem Kk{H₀ Hf₀ Hf1 H1:Hp}{S1:AS}{σ:St}{Fs1:List (List Addr)}{o:A6}{D:tY}{lo:Int}{n:Nat}(hb:SS K tb body) (R1:oH K H₀ Hf₀ Hf1 S1 σ H1 Fs1) (e:se x body (qf lo n) S1=some o) (h:zk K H₀ Hf₀ Hf1 D o) :
  ∃W:Nat->Nat->St->Hp->Prop,(∃m,W 0 m σ H1)/\∀i m σ H,W i m σ H ->
   ((Qp lo n).stop i H/\D.nx σ H)∨((Qp lo n).go i H/\∃N:St->Hp->Prop,(∀σ' H',N σ' H'->∃m',m'<m/\W (i+1) m' σ' H')/\∀v H',(Qp lo n).yld i H v H'->qt x v σ H' λσ2 H2=>tb { D with nx:=N,ct:=N,bk:=D.nx } σ2 H2):=by
 refine K4 (λi σ' H'=>∃Hf' S' Fs',oH K H₀ Hf₀ Hf' S' σ' H' Fs'/\ot Hf1 Hf'/\se x body ((qf lo n).drop i) S'=some o) ⟨Hf1,S1,Fs1,R1,.refl _,e⟩ ?_ ?_
 .rintro i σ' H' hi ⟨Hf',S',Fs',R',s',e'⟩;have hlt:i<(qf lo n).length:=by unfold qf;rw[lMq,cP];exact hi
  rw[aB hlt]at e';have hdi:(qf lo n)[i] = .int (lo+i):=by simp[qf]
  rw[hdi]at e';obtain⟨ob,e3,e4⟩:=oBq.mp e';refine hb (R'.setD x .int) e3 _ ?_;cases ob with
  |nx S2=>exact λHf2 σ2 H2 Fs2 s2 R2=>⟨Hf2,S2,Fs2,R2,s'.trans s2,e4⟩
  |ct S2=>exact λHf2 σ2 H2 Fs2 s2 R2=>⟨Hf2,S2,Fs2,R2,s'.trans s2,e4⟩
  |bk S2=>cases e4;exact λHf2 σ2 H2 Fs2 s2 R2=>h _ _ _ _ (s'.trans s2) R2
  |rt a=>cases e4;exact h
 .rintro σ' H' ⟨Hf',S',Fs',R',s',e'⟩;have hl:(qf lo n).length=n:=by unfold qf;rw[lMq,cP]
  rw[bJ (fL hl)]at e';cases e';exact h _ _ _ _ s' R'
theorem Mn{ta:TA}{a:ML}(ha:Ra K ta a) (hb:SS K tb body):SS K (G2 (Nb ta) (qt x) tb) (Hy x a body):=by
 intro H₀ Hf₀ Hf S σ H Fs o R e D h;obtain⟨z,e1,e⟩:=oBq.mp e;obtain⟨ds,e2,e⟩:=oBq.mp e;refine ha R (ds:=z.1) (S':=z.2) e1 _ λHf1 H1 Fs1 vs t1 R1 r1=>?_
 unfold El at e2;split at e2
 .rename_i j hz;rcases oj e2 with ⟨hj,e2⟩|e2
  .skip
   cases e2;rw[hz]at r1;obtain⟨v,ws,rfl,h1,h2⟩:=r1.cons_inv;rw[h2.nil_inv];cases h1;exact⟨j,rfl,hj.1,hj.2,Kk hb R1 e (h.mono t1.sf)⟩
  .cases e2
 .cases e2
theorem J4(hk:SK K te k) (hb:SS K tb body):SS K (G2 (Ri K (rM te vw)) (Il K 2 (wc (qt x) (wc (qt y) HG))) tb) (LP x y k body):=by
 intro H₀ Hf₀ Hf S σ H Fs o R e D h;obtain⟨z,e1,e⟩:=oBq.mp e;obtain⟨ds,e2,e⟩:=oBq.mp e;have hk':SK K te (rh k):=SK.frz hk;refine hk' R (a:=z.1) (S':=z.2) e1 _ λHf1 H1 Fs1 v F t1 R1 r1 o1=>?_
 obtain⟨d,hd⟩:=tK (te:=te) e1;rw[hd]at r1;rw[hd,pJ]at e2;obtain⟨a,vs,rfl,g1,g2⟩:=tx e2 r1.sh_inv.2;refine⟨a,rfl,⟨vs,R1.sub.seq g1⟩,Nf (xs:=vs) (λi σ' H'=>∃Hf' S' Fs',oH K H₀ Hf₀ Hf' S' σ' H' Fs'/\ot Hf1 Hf'/\Aj x y body i (ds.drop i) S'=some o) ⟨Hf1,z.2,Fs1,R1,.refl _,e⟩
  (λi σ' H' _ ⟨Hf',S',Fs',R',s',_⟩=>R'.sub.seq (s'.seq g1)) ?_ ?_⟩
 .rintro i w σ' H' T hw ⟨Hf',S',Fs',R',s',e'⟩ hT;obtain⟨di,hdi,rw'⟩:=g2.get' hw;have hlt:i<ds.length:=(gSq.mp hdi).1;rw[aB hlt]at e';have hdi':ds[i]=di:=(gSq.mp hdi).2;rw[hdi']at e';obtain⟨ob,e3,e4⟩:=oBq.mp e';have R2:=(R'.new (o:=.tup [.int i,w]) hT).2.1;refine hb ((R2.setD x .int).setD y (rw'.mono s')) e3 _ ?_;cases ob with
  |nx S2=>exact λHf2 σ2 H2 Fs2 s2 R2=>⟨Hf2,S2,Fs2,R2,s'.trans s2,e4⟩
  |ct S2=>exact λHf2 σ2 H2 Fs2 s2 R2=>⟨Hf2,S2,Fs2,R2,s'.trans s2,e4⟩
  |bk S2=>cases e4;exact λHf2 σ2 H2 Fs2 s2 R2=>h _ _ _ _ ((t1.sf.trans s').trans s2) R2
  |rt a=>cases e4;exact h
 .rintro σ' H' ⟨Hf',S',Fs',R',s',e'⟩;rw[←g2.1,bX]at e';cases e';exact h _ _ _ _ (t1.sf.trans s') R'
theorem Qd(hk:SK K te k) (hl:SK K tf l) (hb:SS K tb body):SS K (G2 (U9 K (rM te (rM tf vw))) (Il K 2 (wc (qt x) (wc (qt y) HG))) tb) (Nu x y k l body):=by
 intro H₀ Hf₀ Hf S σ H Fs o R e D h;obtain⟨z,e1,e⟩:=oBq.mp e;obtain⟨w,e1',e⟩:=oBq.mp e;obtain⟨ds,e2,e⟩:=oBq.mp e;obtain⟨es,e2',e⟩:=oBq.mp e;split at e
 .rename_i hlen;have hk':SK K te (rh k):=SK.frz hk;have hl':SK K tf (rh l):=SK.frz hl;refine hk' R (a:=z.1) (S':=z.2) e1 _ λHf1 H1 Fs1 v F t1 R1 r1 o1=>hl' R1 (a:=w.1) (S':=w.2) e1' _ λHf2 H2 Fs2 v2 F2 t2 R2 r2 o2=>?_
  obtain⟨d,hd⟩:=tK (te:=te) e1;obtain⟨d2,hd2⟩:=tK (te:=te) e1';rw[hd]at r1;rw[hd,pJ]at e2;rw[hd2]at r2;rw[hd2,pJ]at e2';obtain⟨a,vs,rfl,g1,g2⟩:=tx e2 (r1.sh_inv.2.mono t2.sf);obtain⟨b,ws,rfl,g3,g4⟩:=tx e2' r2.sh_inv.2;refine⟨a,b,rfl,⟨vs,R2.sub.seq g1⟩,⟨ws,R2.sub.seq g3⟩,PY (xs:=vs) (ys:=ws) (λi σ' H'=>∃Hf' S' Fs',oH K H₀ Hf₀ Hf' S' σ' H' Fs'/\ot Hf2 Hf'/\za x y body (ds.drop i) (es.drop i) S'=some o) ⟨Hf2,w.2,Fs2,R2,.refl _,e⟩ (by rw[←g2.1,←g4.1,hlen])
   (λi σ' H' _ ⟨Hf',S',Fs',R',s',_⟩=>⟨R'.sub.seq (s'.seq g1),R'.sub.seq (s'.seq g3)⟩) ?_ ?_⟩
  .rintro i u u' σ' H' T hu hu' ⟨Hf',S',Fs',R',s',e'⟩ hT;obtain⟨di,hdi,rw'⟩:=g2.get' hu;obtain⟨ei,hei,rw2⟩:=g4.get' hu';have hlt:i<ds.length:=(gSq.mp hdi).1;have hlt2:i<es.length:=(gSq.mp hei).1;rw[aB hlt,aB hlt2,(gSq.mp hdi).2,(gSq.mp hei).2]at e';obtain⟨ob,e3,e4⟩:=oBq.mp e';have R3:=(R'.new (o:=.tup [u,u']) hT).2.1;refine hb ((R3.setD x (rw'.mono s')).setD y (rw2.mono s')) e3 _ ?_;cases ob with
   |nx S2=>exact λHf2 σ2 H2 Fs2 s2 R2=>⟨Hf2,S2,Fs2,R2,s'.trans s2,e4⟩
   |ct S2=>exact λHf2 σ2 H2 Fs2 s2 R2=>⟨Hf2,S2,Fs2,R2,s'.trans s2,e4⟩
   |bk S2=>cases e4;exact λHf2 σ2 H2 Fs2 s2 R2=>h _ _ _ _ (((t1.sf.trans t2.sf).trans s').trans s2) R2
   |rt a=>cases e4;exact h
  .rintro σ' H' ⟨Hf',S',Fs',R',s',e'⟩;have e0:ds.drop vs.length=[]:=by rw[←g2.1,bX]
   rw[e0]at e';have e0':za x y body [] (es.drop vs.length) S'=some (.nx S'):=by
    cases es.drop vs.length <;> rfl
   rw[e0']at e';cases e';exact h _ _ _ _ ((t1.sf.trans t2.sf).trans s') R'
 .cases e
theorem C8{c:TT}{m:MT}(n:Nat) (hc:BQ K c m) (hb:SS K tb body):SS K (Ib c tb) (rp m body n):=by
 intro H₀ Hf₀ Hf S σ H Fs o R e D h;refine⟨λn σ' H'=>∃Hf' S' Fs',oH K H₀ Hf₀ Hf' S' σ' H' Fs'/\ot Hf Hf'/\rp m body n S'=some o,⟨n,Hf,S,Fs,R,.refl _,e⟩,?_⟩
 rintro n σ' H' ⟨Hf',S',Fs',R',s',e'⟩;cases n with
 |zero=>cases e'
 |succ n =>
  obtain⟨z,e1,e2⟩:=oBq.mp e';refine hc R' (b:=z.1) (S':=z.2) e1 _ λHf1 H1 Fs1 t1 R1=>?_
  split at e2
  .rename_i hz;rw[hz];refine Dc ⟨λσ2 H2=>∃Hf' S' Fs',oH K H₀ Hf₀ Hf' S' σ2 H2 Fs'/\ot Hf Hf'/\rp m body n S'=some o,λσ2 H2 w=>⟨n,dR n,w⟩,?_⟩
   obtain⟨ob,e3,e4⟩:=oBq.mp e2;refine hb R1 e3 _ ?_;cases ob with
   |nx S2=>exact λHf2 σ2 H2 Fs2 s2 R2=>⟨Hf2,S2,Fs2,R2,(s'.trans t1.sf).trans s2,e4⟩
   |ct S2=>exact λHf2 σ2 H2 Fs2 s2 R2=>⟨Hf2,S2,Fs2,R2,(s'.trans t1.sf).trans s2,e4⟩
   |bk S2=>cases e4;exact λHf2 σ2 H2 Fs2 s2 R2=>h _ _ _ _ ((s'.trans t1.sf).trans s2) R2
   |rt a=>cases e4;exact h
  .rename_i hz;rw[bS]at hz;rw[hz];cases e2;exact CT (h _ _ _ _ (s'.trans t1.sf) R1)
end
def uZ(np n:Nat) (m:MS):MF:=λds=>if ds.length=np then (m (ds.map (λd=>some (.sh d))++aQ (n-ds.length) none)).bind λo=>match o with
  | .rt a=>some a
  | .nx _=>some (.sh .non)
  |_=>none
 else none
theorem Eh{K:W.Frag}{Hf H:Hp}{ds:List D}{vs:List V}(N:List Str) (s:ot Hf H) (r:oX K Hf ds vs) :
  oH K H Hf Hf (ds.map (λd=>some (.sh d))++aQ (N.length-ds.length) none) (L2.rN N vs) H (aQ (ds.length+(N.length-ds.length)) []):=by
 have fl:=qS (ds.length+(N.length-ds.length));refine⟨by simp[L2.rN,r.1],by simp,λi av e=>?_,λi e=>?_,by rw[fl];exact aZ,λp hp=>(by rw[fl]at hp;cases hp),s,ot.refl _,λb h _=>h,ot.refl _⟩
 .by_cases hi:i<ds.length
  .rw [gZq (by simpa using hi),gMq]at e
   obtain⟨d,e1,e2⟩:=oMq.mp e;cases e2;obtain⟨v,e3,rv⟩:=r.get e1;refine⟨v,[],?_,?_,.sh rv⟩
   .unfold L2.rN;rw[gZq (by simpa [←r.1] using hi),gMq,e3]
    rfl
   .rw [bH,oq (by lia)]
  .rw [gYq (by simpa using hi)]at e
   have:=mGq e;rw[bZ this]at e;have h2:=bZ this;cases h2
 .rw [bH];have hi:=(gSq.mp e).1;rw[lAq,lMq,dC]at hi;rw[oq hi]
theorem pS{K:W.Frag}{t:TS}{m:MS}{np:Nat}(N:List Str) (h:SS K t m) {vs:List V}{H:Hp}{Q:VK}{E:XK}(hs:qr K (uZ np N.length m) vs H Q E):t { nx:=λ_ H'=>Q .non H',rt:=Q } (L2.rN N vs) H:=by
 obtain⟨Hf,ds,a,s,r,e,q⟩:=hs;unfold uZ at e;split at e
 .obtain ⟨o,e1,e2⟩:=oBq.mp e;refine h (Eh N s r) e1 _ ?_;cases o with
  |rt a' =>
   cases e2;exact λHf' H' v F s1 s2 s3 l r nd fr=>q Hf' H' v F s1 s2 s3 l r nd fr
  |nx S' =>
   cases e2;exact λHf' σ' H' Fs' s1 R=>q Hf' H' .non [] R.sf R.fr R.sub R.lim (.sh .non) aZ λq h=>(by cases h)
  |bk S'=>cases e2
  |ct S'=>cases e2
 .cases e
theorem qX{K:W.Frag}{m:MS}{np n:Nat}{vs:List V}{H:Hp}{Q:VK}{E:XK}(hs:qr K (uZ np n m) vs H Q E):vs.length=np:=by
 obtain⟨Hf,ds,a,s,r,e,q⟩:=hs;unfold uZ at e;split at e
 .rename_i h;rw[←r.1,h]
 .cases e
def fzAll:List Nat->AS->Option AS
 | [],S=>some S
 |j::js,S=>(S[j]?.join).bind λa=>fzAll js (S.set j (some (.sh (nM a))))
def Tt:Option AV->Option AV
 |some (.sh d)=>some (.sh d)
 |_=>none
def Ew(S:AS):List Nat->Option AS
 | []=>some []
 |j::js=>(Tt S[j]?.join).bind λa=>(Ew S js).map (some a :: ·)
def vG(tf:MT) (te:MK) (cap:AS):List D->Option (List AV)
 | []=>some []
 |d::ds=>(tf (some (.sh d)::cap)).bind λb=>if b.1=true then (te b.2).bind λa=>(vG tf te cap ds).map (a.1 :: ·) else vG tf te cap ds
abbrev MI:=AS->Option (List D×AS)
def Qi(k:MK):MI:=λS=>(rh k S).bind λy=>(qo (nM y.1)).map λds=>(ds,y.2)
def Xa(a:ML):MI:=λS=>(a S).bind λy=>(El y.1).map λds=>(ds,y.2)
def DP(src:MI) (fr:List Nat) (tf:MT) (te:MK):MK:=λS=>(src S).bind λy=>(fzAll fr y.2).bind λS2=>(Ew S2 fr).bind λcap=>tP (y.1.length<=qW) ((vG tf te cap y.1).map λavs=>(.ow avs,S2))
def AL:MT:=λS=>some (true,S)
section
variable {K:W.Frag}{H₀ Hf₀ Hf Hf' H H':Hp}{S S':AS}{σ:St}{Fs Fs':List (List Addr)}
theorem oH.fz(R:oH K H₀ Hf₀ Hf S σ H Fs) {j:Nat}{a:AV}(e:S[j]?.join=some a):∃Hf' Fs',xy Hf H Fs Hf' H Fs'/\oH K H₀ Hf₀ Hf' (S.set j (some (.sh (nM a)))) σ H Fs':=by
 obtain⟨v,F,s1,s2,r,nd,o,R1⟩:=R.move (oO e);have n:∀q∈F,Hf q=none:=λq hq=>(r.owned q hq).2
 have R2:=R1.frz o n;have r2:=r.frozen (rE (H:=H) n) λq hq=>As hq
 have R3:=R2.again (F:=F) (G:=[]) s1 (.sh r2) aZ λq h=>(by cases h)
 refine⟨_,_,⟨rE n,.refl _,λp hp=>oQ hp,λb h g=>?_⟩,R3⟩
 by_cases m:b∈F
 .exact .inr (mFq.mpr ⟨F,mGq s2,m⟩)
 .rw [tH m]at g;exact absurd h g
theorem oH.fzAll:∀{fr:List Nat}{Hf:Hp}{S S':AS}{Fs:List (List Addr)},oH K H₀ Hf₀ Hf S σ H Fs->fzAll fr S=some S'->∃Hf' Fs',xy Hf H Fs Hf' H Fs'/\oH K H₀ Hf₀ Hf' S' σ H Fs'
 | [],Hf,S,S',Fs,R,e=>by
  cases e;exact⟨Hf,Fs,.refl,R⟩
 |j::js,Hf,S,S',Fs,R,e=>by
  obtain⟨a,e1,e2⟩:=oBq.mp e;obtain⟨Hf1,Fs1,t1,R1⟩:=R.fz e1;obtain⟨Hf2,Fs2,t2,R2⟩:=oH.fzAll R1 e2;exact⟨Hf2,Fs2,t1.trans t2,R2⟩
theorem Ge(R:oH K H₀ Hf₀ Hf S σ H Fs):∀{fr:List Nat}{cap:AS},Ew S fr=some cap->cap.length=fr.length/\∀(k:Nat) (a:AV),cap[k]?=some (some a)->∃d v,a = .sh d/\(slots σ fr)[k]?=some (some v)/\qb K Hf d v
 | [],cap,e=>by
  cases e;exact⟨rfl,λk a h=>by simp at h⟩
 |j::js,cap,e=>by
  obtain⟨a,e1,e2⟩:=oBq.mp e;obtain⟨cap',e3,e4⟩:=oMq.mp e2;subst e4;obtain⟨h1,h2⟩:=Ge R e3;refine⟨by simp[h1],λk b hk=>?_⟩
  cases k with
  |zero =>
   cases hk;cases ej:S[j]?.join with
   |none=>rw[ej]at e1;cases e1
   |some c =>
    rw[ej]at e1;cases c with
    |sh d =>
     cases e1;obtain⟨v,F,s1,s2,r⟩:=R.rep j _ (oO ej);refine⟨d,v,rfl,?_,r.sh_inv.2⟩;show some ((σ[j]?).join)=_;rw[s1];rfl
    |_=>cases e1
  |succ k=>exact h2 k b (by simpa using hk)
theorem Kg(R:oH K H₀ Hf₀ Hf S σ H Fs) {fr:List Nat}{cap:AS}(e:Ew S fr=some cap) {d:D}{x:V}(rx:qb K Hf d x) :
  oH K H₀ Hf₀ Hf (some (.sh d)::cap) (some x::slots σ fr) H (aQ (cap.length+1) []):=by
 obtain⟨h1,h2⟩:=Ge R e;have fl:=qS (cap.length+1);refine⟨by simp[slots,h1],by simp,λi av ei=>?_,λi ei=>?_,by rw[fl];exact aZ,λp hp=>(by rw[fl]at hp;cases hp),R.sub,R.fr,R.lim,R.sf⟩
 .cases i with
  |zero =>
   cases ei;exact⟨x,[],rfl,by simp,.sh rx⟩
  |succ k =>
   have hk:k<cap.length:=(gSq.mp (by simpa using ei)).1
   obtain⟨d',v,rfl,s1,r⟩:=h2 k av (by simpa using ei)
   exact⟨v,[],by simpa using s1,by rw[bH,oq (by lia)],.sh r⟩
 .rw [bH];have hi:=(gSq.mp ei).1;rw[oq (by simpa using hi)]
theorem oH.updOut(R:oH K H₀ Hf₀ Hf S σ H Fs) {p:Addr}{o:HO}(h1:p∉Fs.flatten) (h2:Hf p=none) (h3:H₀ p=none):oH K H₀ Hf₀ Hf S σ (upd H p o) Fs where
 len:=R.len
 lenF:=R.lenF
 rep:=λi av e=>by
  obtain⟨v,F,s1,s2,r⟩:=R.rep i av e;exact⟨v,F,s1,s2,r.keepUpd λm=>h1 (og s2 m)⟩
 emp:=R.emp
 nd:=R.nd
 fresh:=R.fresh
 sub:=λb u e=>by
  rw[nV λz=>by rw[z,h2]at e;cases e]
  exact R.sub b u e
 fr:=λb u e=>by
  rw[nV λz=>by rw[z,h3]at e;cases e]
  exact R.fr b u e
 lim:=R.lim
 sf:=R.sf
theorem oH.outer{σ2:St}{Fs2 Fs3:List (List Addr)}{Hf3 H3:Hp}{S3:AS}(R:oH K H₀ Hf₀ Hf S σ H Fs) (R3:oH K H₀ Hf₀ Hf3 S3 σ2 H3 Fs3) (t:xy Hf H Fs2 Hf3 H3 Fs3) (h0:Fs2.flatten=[]):xy Hf H Fs Hf3 H3 Fs/\oH K H₀ Hf₀ Hf3 S σ H3 Fs:=by
 have g:∀b,Hf b=none->H b≠none->Hf3 b=none:=λb h1 h2=>by
  by_cases e:Hf3 b=none
  .exact e
  .rcases t.gr b h1 e with z|z
   .exact absurd z h2
   .rw [h0]at z;cases z
 exact⟨⟨t.sf,t.sh,λ_ h=>h,λb h1 h2=>.inl (by
  by_cases e:H b=none
  .exact e
  .exact absurd (g b h1 e) h2)⟩,R.more t.sh t.sf R3.sub (λq hq=>g q (R.mem hq).2 (R.mem hq).1) R3.lim⟩
end
section
variable {K:W.Frag}{tf:TT}{te:TE}{mf:MT}{me:MK}{fr:List Nat}
theorem DF{H₀ Hf₀ Hf1 H1:Hp}{S1:AS}{σ:St}{Fs1:List (List Addr)}{cap:AS}{ds:List D}{avs:List AV}{J:It}{Q:VK}(hf:BQ K tf mf) (he:SK K te me)
  (R1:oH K H₀ Hf₀ Hf1 S1 σ H1 Fs1) (ec:Ew S1 fr=some cap) (hl:ds.length<=qW) (e:vG mf me cap ds=some avs)
  (hgo:∀i H,ot Hf1 H->i<ds.length->J.go i H) (hst:∀H,ot Hf1 H->J.stop ds.length H) (hy:∀i H x H',ot Hf1 H->i<ds.length->J.yld i H x H'->H'=H/\∃d,ds[i]?=some d/\qb K Hf1 d x)
  (q:∀Hf' H' v F,xy Hf1 H1 Fs1 Hf' H' Fs1->oH K H₀ Hf₀ Hf' S1 σ H' Fs1->oE K Hf' H' (.ow avs) v F->xk H₀ H1 Fs1 Fs1 F->Q v H') :
  ∀acc,H1 acc=none->∃W:Nat->Nat->Hp->Prop,(∃m,W 0 m (upd H1 acc (.lst [])))/\∀i m H,W i m H ->
   (J.stop i H/\Q (.ref acc) H) ∨
   (J.go i H/\∃N:Hp->Prop,(∀H',N H'->∃m',m'<m/\W (i+1) m' H')/\∀x H',J.yld i H x H'->tf (some x::slots σ fr) H' λb H2 =>
    if b=true then te (some x::slots σ fr) H2 λy H3=>∃ys,H3 acc=some (.lst ys)/\ys.length<jc/\N (upd H3 acc (.lst (ys++[y]))) else N H2):=by
 intro acc hacc;obtain⟨t0,R0,n1,n2,n3⟩:=R1.new (o:=.lst []) hacc
 let P:Nat->Hp->Prop:=λi H=>∃Hf as vs Gs rest,oH K H₀ Hf₀ Hf S1 σ H Fs1/\xy Hf1 H1 Fs1 Hf H Fs1/\H acc=some (.lst vs)/\Hf acc=none/\oJ K Hf H as vs Gs/\xk H₀ H1 Fs1 Fs1 (acc::Gs.flatten)/\as.length<=i /\
  vG mf me cap (ds.drop i)=some rest/\avs=as++rest
 refine⟨λi m H=>m=ds.length-i/\i<=ds.length/\P i H,⟨ds.length,by simp,bg _,Hf1,[],[],[],avs,R0,t0,nZ,n1,.nil,xk.one R1 hacc,bg _,e,rfl⟩,?_⟩
 rintro i m H ⟨rfl,hi,Hf,as,vs,Gs,rest,R,t,ha,hfa,ra,ow,la,er,ea⟩;have hs:ot Hf1 H:=t.sf.trans R.sub
 by_cases hlt:i<ds.length
 .refine .inr ⟨hgo i H hs hlt,P (i+1),λH' p=>⟨ds.length-(i+1),by lia,rfl,hlt,p⟩,λx H' y=>?_⟩
  obtain⟨rfl,d,hd,rx⟩:=hy i H x H' hs hlt y;rw[aB hlt,(gSq.mp hd).2]at er;obtain⟨b,e1,e2⟩:=oBq.mp er;have fl:=qS (cap.length+1);refine hf (Kg R ec (rx.mono t.sf)) (b:=b.1) (S':=b.2) e1 _ λHf2 H2 Fs2 t2 R2=>?_
  obtain⟨t2',R2'⟩:=R.outer R2 t2 fl;have ha2:H2 acc=some (.lst vs):=t2.sh _ _ ha;have hfa2:Hf2 acc=none:=by
   by_cases z:Hf2 acc=none
   .exact z
   .rcases t2.gr acc hfa z with z|z
    .rw [ha]at z;cases z
    .rw [fl]at z;cases z
  have ra2:=ra.stp (λq hq=>ow.out q (mCo _ hq)) t2'
  split at e2
  .rename_i hb;rw[hb];refine Dc ?_;obtain⟨a,e3,e4⟩:=oBq.mp e2;obtain⟨rest',e5,e6⟩:=oMq.mp e4;subst e6;refine he R2 (a:=a.1) (S':=a.2) e3 _ λHf3 H3 Fs3 v F t3 R3 r3 o3=>?_
   have fl2:Fs2.flatten=[]:=by
    cases hz:Fs2.flatten with
    |nil=>rfl
    |cons z zs =>
     have:=t2.own z (by rw[hz];simp)
     rw[fl]at this;cases this
   obtain⟨t3',R3'⟩:=R2'.outer R3 t3 fl2;have ha3:H3 acc=some (.lst vs):=t3.sh _ _ ha2;have hfa3:Hf3 acc=none:=by
    by_cases z:Hf3 acc=none
    .exact z
    .rcases t3.gr acc hfa2 z with z|z
     .rw [ha2]at z;cases z
     .rw [fl2]at z;cases z
   have ra3:=ra2.stp (λq hq=>ow.out q (mCo _ hq)) t3'
   have newF:∀q∈F,H2 q=none:=λq hq=>(o3.new q hq).elim id λz=>by rw[fl2]at z;cases z
   have accF:acc∉F:=λm=>by rw[newF acc m]at ha2;cases ha2
   have accG:acc∉Gs.flatten:=(ax.mp ow.nd).1;have tt:=(t.trans t2').trans t3';refine⟨vs,ha3,?_,?_⟩
   .rw [tF,←ra.1];lia
   .refine ⟨Hf3,as++[a.1],vs++[v],Gs++[F],rest',R3'.updOut n3 hfa3 n2,⟨tt.sf,λb o eb=>?_,λ_ h=>h,tt.gr⟩,nZ,hfa3,(ra3.keepUpd accG).snoc (r3.keepUpd accF),?_,by rw[lAq,lSq];lia,e5,by rw[ea];simp⟩
    .rw [nV λz=>by rw[z,hacc]at eb;cases eb]
     exact tt.sh b o eb
    .rw [fAq,aL];have oF:xk H₀ H1 Fs1 Fs1 F:=⟨o3.nd,o3.fr,λq hq m=>(R2'.mem m).1 (newF q hq),λq hq=>.inl ((t.trans t2').sh.free (newF q hq))⟩
     refine(show xk H₀ H1 Fs1 Fs1 ((acc::Gs.flatten)++F) from ow.app oF λq hq m=>?_)
     rcases ah.mp hq with z|z
     .rw [z]at m;exact accF m
     .exact (ra2.owned q z).1 (newF q m)
  .rename_i hb;rw[bS]at hb;rw[hb];exact CT ⟨Hf2,as,vs,Gs,rest,R2',t.trans t2',ha2,hfa2,ra2,ow,by lia,e2,ea⟩
 .have e0:i=ds.length:=by lia
  subst e0;rw[bX]at er;cases er;rw[aNq]at ea;subst ea;exact .inl ⟨hst H hs,q Hf H (.ref acc) _ t R (oE.news ha hfa ra) ow⟩
theorem GV{tl:TE}{k:MK}(hk:SK K tl k) (hf:BQ K tf mf) (he:SK K te me):SK K (LI (Dy K tl) fr tf te) (DP (Qi k) fr mf me):=by
 intro H₀ Hf₀ Hf S σ H Fs av S' R e Q q;obtain⟨y,e1,e⟩:=oBq.mp e;obtain⟨z,e0,e1⟩:=oBq.mp e1;obtain⟨ds,e2,e1⟩:=oMq.mp e1;subst e1;obtain⟨S2,e3,e⟩:=oBq.mp e;obtain⟨cap,e4,e⟩:=oBq.mp e;rcases oj e with ⟨hl,e⟩|e
 .obtain ⟨avs,e5,e⟩:=oMq.mp e;cases e;have hk':SK K tl (rh k):=SK.frz hk;refine hk' R (a:=z.1) (S':=z.2) e0 _ λHf1 H1 Fs1 v F t1 R1 r1 o1=>?_
  obtain⟨d,hd⟩:=tK (te:=tl) e0;rw[hd]at r1;rw[hd,pJ]at e2;obtain⟨Hf2,Fs2,t2,R2⟩:=R1.fzAll e3;obtain⟨a,vs,rfl,g1,g2⟩:=tx e2 (r1.sh_inv.2.mono t2.sf);refine⟨a,rfl,⟨vs,R2.sub.seq g1⟩,DF (K:=K) hf he R2 e4 hl e5 (λi H s hi=>⟨vs,vs[i]'(g2.1 ▸ hi),s.seq g1,gEg (g2.1 ▸ hi)⟩) (λH s=>⟨vs,s.seq g1,fL g2.1.symm⟩) (λi H x H' s hi y=>?_) λHf' H' v F t R' r o=>q _ _ _ v F ((t1.trans t2).trans t) R' r (o.back (t1.trans t2))⟩
  obtain⟨y1,y2⟩:=y;obtain⟨di,h1,h2⟩:=g2.get' (y2 vs (s.seq g1));exact⟨y1,di,h1,h2⟩
 .cases e
theorem zb{lo:Int}{n i:Nat}(h:i<n):(qf lo n)[i]?=some (.int (lo+i)):=by
 unfold qf;rw[gMq,fP h];rfl
theorem rB(lo:Int) (n:Nat):(qf lo n).length=n:=by unfold qf;rw[lMq,cP]
theorem La{ta:TA}{a:ML}(ha:Ra K ta a) (hf:BQ K tf mf) (he:SK K te me):SK K (LI (Nb ta) fr tf te) (DP (Xa a) fr mf me):=by
 intro H₀ Hf₀ Hf S σ H Fs av S' R e Q q;obtain⟨y,e1,e⟩:=oBq.mp e;obtain⟨z,e0,e1⟩:=oBq.mp e1;obtain⟨ds,e2,e1⟩:=oMq.mp e1;subst e1;obtain⟨S2,e3,e⟩:=oBq.mp e;obtain⟨cap,e4,e⟩:=oBq.mp e;rcases oj e with ⟨hl,e⟩|e
 .obtain ⟨avs,e5,e⟩:=oMq.mp e;cases e;refine ha R (ds:=z.1) (S':=z.2) e0 _ λHf1 H1 Fs1 vs t1 R1 r1=>?_
  unfold El at e2;split at e2
  .rename_i j hz;rcases oj e2 with ⟨hj,e2⟩|e2
   .skip
    cases e2;rw[hz]at r1;obtain⟨v,ws,rfl,h1,h2⟩:=r1.cons_inv;rw[h2.nil_inv];cases h1;obtain⟨Hf2,Fs2,t2,R2⟩:=R1.fzAll e3;refine⟨j,rfl,hj.1,hj.2,DF (K:=K) hf he R2 e4 hl e5 (λi H s hi=>(by rw[rB]at hi;exact hi)) (λH s=>(by rw[rB];exact ae _)) (λi H x H' s hi y=>?_) λHf' H' v F t R' r o=>q _ _ _ v F ((t1.trans t2).trans t) R' r (o.back (t1.trans t2))⟩
    obtain⟨y1,y2⟩:=y;rw[rB]at hi;exact⟨y1,_,zb hi,by rw[y2];exact .int⟩
   .cases e2
  .cases e2
 .cases e
theorem HW:BQ K Vn AL:=by
 intro H₀ Hf₀ Hf S σ H Fs b S' R e Q q;cases e;exact q _ _ _ .refl R
end
mutual
def py:D->Option PyData
 | .non=>some .none
 | .bl b=>some (.bool b)
 | .int i=>some (.int i)
 | .str x=>some (.str x)
 | .list ds=>(Kr ds).map .list
 | .tup ds=>(Kr ds).map .tuple
 |_=>none
def Kr:List D->Option (List PyData)
 | []=>some []
 |d::ds=>(py d).bind λx=>(Kr ds).map (x :: ·)
end
section
variable {X:Cx}
theorem yf{h:Heap}:∀{ds:List D}{vs:List V}{its:List Value}{xs:List PyData},(∀(i:Nat) (d:D) (v:V),ds[i]?=some d->vs[i]?=some v->∀u x,pI v u->py d=some x->∃as,Reads h u x as)->ds.length=vs.length->oN vs its->Kr ds=some xs->∃as,ReadsAll h its xs as
 | [],vs,its,xs,_,hl,hv,e=>by
  have:vs=[]:=cC.mp hl.symm;subst this;cases hv;simp only[Kr]at e;cases e;exact⟨_,.nil⟩
 |d::ds,vs,its,xs,ih,hl,hv,e=>by
  cases vs with
  |nil=>simp at hl
  |cons v vs =>
   cases hv with
   |cons r t =>
    simp only[Kr]at e;obtain⟨x,e1,e2⟩:=oBq.mp e;obtain⟨ys,e3,e4⟩:=oMq.mp e2;subst e4;obtain⟨as,h1⟩:=ih 0 d v rfl rfl _ x r e1;obtain⟨bs,h2⟩:=yf (λi d' v' q1 q2=>ih (i+1) d' v' (by simpa using q1) (by simpa using q2)) (by simpa using hl) t e3
    exact⟨_,.cons h1 h2⟩
theorem Gy{nA:List (Addr×Obj)}{σ:St}{H:Hp}{s:iV}(I:Inv X nA σ H s) {d:D}{v:V}(r:qb X.K H d v):∀(u:Value) (x:PyData),pI v u->py d=some x->∃as,Reads s.heap u x as:=by
 induction r with
 |non=>intro u x ru e;cases ru;simp only[py]at e;cases e;exact⟨_,.none⟩
 |bl=>intro u x ru e;cases ru;simp only[py]at e;cases e;exact⟨_,.bool _⟩
 |int=>intro u x ru e;obtain⟨t,rfl⟩:=ru;simp only[py]at e;cases e;exact⟨_,.int _ _⟩
 |str=>intro u x ru e;obtain⟨t,rfl⟩:=ru;simp only[py]at e;cases e;exact⟨_,.str _ _⟩
 |ty=>intro u x ru e;simp only[py]at e;cases e
 |list h l _ ih =>
  intro u x ru e;cases ru;simp only[py]at e;obtain⟨xs,e1,rfl⟩:=oMq.mp e;obtain⟨its,rv,hl,hz⟩:=I.list (qC.of h);obtain⟨o,ho,hc,n,hd⟩:=hl.isList;obtain⟨as,e2⟩:=yf ih l rv e1;exact⟨_,Reads.list ho hc hd (by simpa using e2)⟩
 |tup h l _ ih =>
  intro u x ru e;cases ru;simp only[py]at e;obtain⟨xs,e1,rfl⟩:=oMq.mp e;obtain⟨its,rv,⟨o,ho,hc,n,hd⟩,hz⟩:=I.tuple (Bh.of h);obtain⟨as,e2⟩:=yf ih l rv e1;exact⟨_,Reads.tuple ho hc hd (by simpa using e2)⟩
 |dict h l _ ih=>intro u x ru e;simp only[py]at e;cases e
 |fd h l _ ih=>intro u x ru e;simp only[py]at e;cases e
 |scr h=>intro u x ru e;simp only[py]at e;cases e
 |exc rf nf h hx=>intro u x ru e;simp only[py]at e;cases e
 |exc0 rf h=>intro u x ru e;simp only[py]at e;cases e
 |cls h=>intro u x ru e;simp only[py]at e;cases e
 |ins rf h l _ ih=>intro u x ru e;simp only[py]at e;cases e
def Vw(K:W.Frag) (neg:Bool):R2:=λx y H Q=>∃(d e:D) (a b:PyData),qb K H d x/\qb K H e y/\py d=some a/\py e=some b/\SeqAt.shaped a=true/\SeqAt.shaped b=true/\SeqAt.noMix a b=true /\
 Q (.bl (if neg then !(PySem.Spec.same a b) else PySem.Spec.same a b)) H
theorem T8(hu:X.A.units+64<jv):Bg X (jq .NotEq) (Vw X.K true):=by
 intro nA s σ H x y v u Q I rx ry h;obtain⟨d,e,a,b,h1,h2,p1,p2,s1,s2,nm,q⟩:=h;obtain⟨as,r1⟩:=Gy I h1 _ _ rx p1;obtain⟨bs,r2⟩:=Gy I h2 _ _ ry p2;exact iF r1 r2 s1 s2 hu nm (oZ I q rfl)
end
def Mq(d e:D):Option D:=(py d).bind λa=>(py e).bind λb=>if SeqAt.shaped a=true/\SeqAt.shaped b=true/\SeqAt.noMix a b=true then some (.bl (PySem.Spec.same a b)) else none
def N3(d e:D):Option D:=(Mq d e).bind Kn
section
variable {K:W.Frag}
theorem Us:Bx K (Vw K true) N3:=by
 intro x y H Q dx dy d rx ry e q;obtain⟨c,e,e'⟩:=oBq.mp e;obtain⟨a,e1,e⟩:=oBq.mp e;obtain⟨b,e2,e⟩:=oBq.mp e;split at e
 .rename_i h;cases e;cases e';exact⟨dx,dy,a,b,rx,ry,e1,e2,h.1,h.2.1,h.2.2,q _ .bl⟩
 .cases e
end
abbrev dI(ns:List Int):D:=.list (ns.map .int)
abbrev dM(rs:List (List Int)):D:=.list (rs.map dI)
theorem Oy(ns:List Int):Kr (ns.map .int)=some (ns.map PyData.int):=by
 induction ns with
 |nil=>simp[Kr]
 |cons n ns ih=>simp[Kr,py,ih]
theorem T4(ns:List Int):py (dI ns)=some (rV ns):=by
 show py (.list _)=_;simp only[py,Oy];rfl
theorem Mg(rs:List (List Int)):Kr (rs.map dI)=some (rs.map rV):=by
 induction rs with
 |nil=>simp[Kr]
 |cons r rs ih =>
  show Kr (dI r::rs.map dI)=_;simp only[Kr,T4,ih];rfl
theorem VR(rs:List (List Int)):py (dM rs)=some (zE rs):=by
 show py (.list _)=_;simp only[py,Mg];rfl
theorem CB(r:List Int):SeqAt.shaped (rV r)=true:=by
 have h2:=W.depthAll_ints r;have h3:PyData.depth (rV r)<=64:=by simp only[rV,PyData.depth];lia
 show (PyData.canLay0 (rV r) && decide (PyData.depth (rV r)<=64))=true;rw[dQ];exact⟨by simp only[rV,PyData.canLay0];exact W.canLayAll0_ints r,decide_eq_true h3⟩
@[simp] theorem Xx (ns ms:List Int):Mq (dI ns) (dI ms)=some (.bl (decide (ns=ms))):=by
 unfold Mq;rw[T4,T4];show (if _ then _ else _)=_
 rw[oq ⟨CB ns,CB ms,by simp only[rV,SeqAt.noMix];exact W.noMix_ints ns ms⟩]
 simp only[rV,PySem.Spec.same,W.same_ints]
@[simp] theorem TX (rs ts:List (List Int)):Mq (dM rs) (dM ts)=some (.bl (decide (rs=ts))):=by
 unfold Mq;rw[VR,VR];show (if _ then _ else _)=_
 rw[oq ⟨AU rs,AU ts,by simp only[zE,SeqAt.noMix];exact C5 rs ts⟩]
 simp only[zE,PySem.Spec.same,Ec]
@[simp] theorem SC (rs ts:List (List Int)):N3 (dM rs) (dM ts)=some (.bl (!decide (rs=ts))):=by unfold N3;rw[TX];rfl
def C6(l:ML):MK:=λS=>(l S).map λx=>(.ow (x.1.map .sh),x.2)
def W0(l:ML):MK:=λS=>(l S).bind λx=>(sL x.1).map λns=>(.ow ((vE ns).map λn=>.sh (.int n)),x.2)
def uE:List D->Option (List (List Int))
 | []=>some []
 | .list ds::es=>(sL ds).bind λr=>(uE es).map (r :: ·)
 |_=>none
theorem Aq:∀{ds:List D}{rs:List (List Int)},uE ds=some rs->ds=rs.map dI
 | [],rs,h=>by cases h;rfl
 |d::ds,rs,h=>by
  cases d with
  |list es =>
   obtain⟨r,h1,h⟩:=oBq.mp (show (sL es).bind (λr=>(uE ds).map (r :: ·))=some rs from h)
   obtain⟨ts,h2,h3⟩:=oMq.mp h;subst h3;rw[Aq h2,yA h1];rfl
  |_=>cases h
@[simp] theorem yS (rs:List (List Int)):uE (rs.map dI)=some rs:=by
 induction rs with
 |nil=>rfl
 |cons r rs ih =>
  show (sL (r.map .int)).bind (λr=>(uE (rs.map dI)).map (r :: ·))=_
  rw[wR,ih];rfl
def E8(l:ML):MK:=λS=>(l S).bind λx=>(uE x.1).map λrs=>(.ow ((tu rs).map λr=>.sh (dI r)),x.2)
section
variable {K:W.Frag}{te:TE}{l:ML}
theorem JO(hl:SQ K te l):SK K (T2 (λxs H Q=>∃p ys,xs=[.ref p]/\(qC K H p ys∨Bh K H p ys)/\∀l,H l=none->Q (.ref l) (upd H l (.lst ys))) (rM te vw)) (C6 l):=by
 intro H₀ Hf₀ Hf S σ H Fs av S' R e Q q;obtain⟨x,e1,e⟩:=oMq.mp e;cases e;refine hl R (ds:=x.1) (S':=x.2) e1 _ λHf1 H1 Fs1 p1 vs1 t1 R1 h1 r1=>⟨p1,vs1,rfl,.inl h1,λp hp=>?_⟩
 obtain⟨t4,R4,n1,n2,n3⟩:=R1.new (o:=.lst vs1) hp;exact q _ _ _ (.ref p) [p] (t1.trans t4) R4 (oE.new nZ n1 r1) ((xk.one R1 hp).back t1)
theorem GA(ns:List Int):(ns.map λn=>AV.sh (.int n))=(ns.map D.int).map .sh:=by rw[mPq];rfl
theorem Gc(rs:List (List Int)):(rs.map λr=>AV.sh (dI r))=(rs.map dI).map .sh:=by rw[mPq];rfl
theorem vv{H:Hp}:∀{rs:List (List Int)}{vs:List V},oX K H (rs.map dI) vs->∃ps,vs=ps.map V.ref/\qD H ps rs
 | [],vs,h=>⟨[],h.nil_inv,.nil⟩
 |r::rs,vs,h=>by
  obtain⟨v,ws,rfl,h1,h2⟩:=oX.cons_inv (d:=dI r) (ds:=rs.map dI) h;obtain⟨p,us,rfl,h3,h4⟩:=h1.list_inv;rw[tJ h4]at h3;obtain⟨ps,rfl,h5⟩:=vv h2;exact⟨p::ps,rfl,qD.cons_iff.mpr ⟨h3,h5⟩⟩
theorem zZ{H:Hp}:∀{rs:List (List Int)}{ps:List Addr},qD H ps rs->oX K H (rs.map dI) (ps.map V.ref)
 | [],[],_=>.nil
 | [],_::_,h=>by have:=h.length;simp at this
 |_::_,[],h=>by have:=h.length;simp at this
 |r::rs,p::ps,h=>by
  obtain⟨h1,h2⟩:=qD.cons_iff.mp h;exact .cons (.mk_list h1 (uA r)) (zZ h2)
theorem FI(hl:SQ K te l):SK K (T2 (λxs H Q=>∃(a:Addr) (ps:List Addr) (rs:List (List Int)),xs=[.ref a]/\qC K H a (ps.map V.ref)/\qD H ps rs /\
  ∀p qs,H p=none->qs.Perm ps->qD (upd H p (.lst (qs.map V.ref))) qs (tu rs)->Q (.ref p) (upd H p (.lst (qs.map V.ref)))) (rM te vw)) (E8 l):=by
 intro H₀ Hf₀ Hf S σ H Fs av S' R e Q q;obtain⟨x,e1,e⟩:=oBq.mp e;obtain⟨rs,e2,e⟩:=oMq.mp e;cases e;refine hl R (ds:=x.1) (S':=x.2) e1 _ λHf1 H1 Fs1 p1 vs1 t1 R1 h1 r1=>?_
 rw[Aq e2]at r1;obtain⟨ps,rfl,hE⟩:=vv r1;refine⟨p1,ps,rs,rfl,h1,hE.same R1.sub,λp qs hp hq hE2=>?_⟩
 obtain⟨t4,R4,n1,n2,n3⟩:=R1.new (o:=.lst (qs.map V.ref)) hp;have hE3:qD Hf1 qs (tu rs):=hE2.keep λb hb=>by
  obtain⟨r,_,hr⟩:=hE.mem (hq.mem_iff.mp hb);rw[hr,R4.sub b _ hr]
 rw[Gc]at q;exact q _ _ _ (.ref p) [p] (t1.trans t4) R4 (oE.new nZ n1 (zZ hE3)) ((xk.one R1 hp).back t1)
end
def Vk:String->D->Bool
 |T,.list _=>T == "list"
 |T,.scr _=>T == "list"
 |T,.str _=>T == "str"
 |_,_=>false
def Wo(T:String) (f:D->List D->Option D) (a:ME) (as:ML):ME:=λS=>(a S).bind λx=>if Vk T x.1=true then (as x.2).bind λy=>(f x.1 y.1).map λd=>(d,y.2) else none
def Yn(K:W.Frag) (r:V->List V->Hp->VK->Prop) (f:D->List D->Option D):Prop:=∀{x:V}{vs:List V}{H:Hp}{Q:VK}{dx:D}{ds:List D}{d:D},qb K H dx x->oX K H ds vs->f dx ds=some d->(∀v,qb K H d v->Q v H)->r x vs H Q
section
variable {K:W.Frag}{te:TE}{ta:TA}{a:ME}{as:ML}{r:V->List V->Hp->VK->Prop}{f:D->List D->Option D}{T:String}
theorem SJ{H:Hp}{d:D}{v:V}(h:Vk T d=true) (rv:qb K H d v):WM K T v H:=by
 cases rv <;> simp only[Vk]at h
 all_goals first|(exfalso;simp at h;done)|skip
 .exact eq_of_beq h
 .rename_i p vs ds h1 l e;exact .inl ⟨eq_of_beq h,vs,qC.of h1⟩
 .rename_i p ns h1;exact .inl ⟨eq_of_beq h,_,h1⟩
theorem Rc(hr:Yn K r f) (ha:SR K te a) (hs:Ra K ta as):SR K (KN K T r te ta) (Wo T f a as):=by
 intro H₀ Hf₀ Hf S σ H Fs d S' R e Q q;obtain⟨x,e1,e⟩:=oBq.mp e;split at e
 .rename_i hT;obtain⟨y,e2,e⟩:=oBq.mp e;obtain⟨z,e3,e⟩:=oMq.mp e;cases e;refine ha R (d:=x.1) (S':=x.2) e1 _ λHf1 H1 Fs1 v t1 R1 r1=>⟨SJ hT r1,hs R1 (ds:=y.1) (S':=y.2) e2 _ λHf2 H2 Fs2 vs t2 R2 r2=>?_⟩
  exact hr (r1.mono t2.sh) r2 e3 λv rv=>q _ _ _ v (t1.trans t2) R2 rv
 .cases e
def AF:D->List D->Option D
 | .list ds,[.int k]=>(sL ds).bind λns=>if k∈ns then some (.int (ns.idxOf k:Nat)) else none
 |_,_=>none
theorem Ha:Yn K (Nz K) AF:=by
 intro x vs H Q dx ds d rx rs e q;unfold AF at e;split at e
 .rename_i es k;obtain⟨ns,e1,e⟩:=oBq.mp e;split at e
  .rename_i hk;cases e;obtain⟨v,ws,rfl,h1,h2⟩:=rs.cons_inv;rw[h2.nil_inv];cases h1;rw[yA e1]at rx;obtain⟨p,us,rfl,h3,h4⟩:=rx.list_inv;rw[tJ h4]at h3;exact⟨p,ns,k,rfl,rfl,qC.of h3,hk,q _ .int⟩
  .cases e
 .cases e
def Ye(a:ME):ME:=λS=>(a S).bind λx=>match x.1 with
 | .list ds=>(uE ds).map λrs=>(.int (rs.countP (·=([]:List Int)):Nat),x.2)
 |_=>none
def Bj:D->Option Bool
 | .non=>some false
 | .bl b=>some b
 | .int i=>some (i != 0)
 | .list ds=>some (!ds.isEmpty)
 | .tup ds=>some (!ds.isEmpty)
 | .dict ds=>some (!ds.isEmpty)
 |_=>none
def yE(a:ME):MT:=λS=>(a S).bind λx=>(Bj x.1).map λb=>(b,x.2)
theorem xJ{α β:Type}{xs:List α}{ys:List β}(h:xs.length=ys.length):(!xs.isEmpty) = !ys.isEmpty:=by
 cases xs <;> cases ys <;> simp at h ⊢
theorem Ah(ha:SR K te a):BQ K (λσ H Q=>te σ H λx H'=>∃k,Uu K x H' k/\Q k H') (yE a):=by
 intro H₀ Hf₀ Hf S σ H Fs b S' R e Q q;obtain⟨x,e1,e⟩:=oBq.mp e;obtain⟨c,e2,e⟩:=oMq.mp e;cases e;refine ha R (d:=x.1) (S':=x.2) e1 _ λHf1 H1 Fs1 v t1 R1 r1=>⟨_,?_,q _ _ _ t1 R1⟩
 cases hx:x.1 <;> rw[hx]at e2 r1 <;> simp only[Bj]at e2
 all_goals first|(exfalso;simp at e2;done)|skip
 .cases r1;cases e2;rfl
 .cases r1;cases e2;rfl
 .cases r1;cases e2;rfl
 .obtain ⟨p,us,rfl,h3,h4⟩:=r1.list_inv;cases e2;exact .inl ⟨us,qC.of h3,xJ h4.1⟩
 .obtain ⟨p,us,rfl,h3,h4⟩:=r1.tup_inv;cases e2;exact .inr (.inl ⟨us,Bh.of h3,xJ h4.1⟩)
 .obtain ⟨p,us,rfl,h3,h4⟩:=r1.dict_inv;cases e2;exact .inr (.inr ⟨us,h3,xJ h4.len⟩)
end
def ou:AV->List Nat->Option (List AV)
 | .ow avs,[]=>some avs
 | .ow avs,j::js=>(avs[j]?).bind λa=>ou a js
 |_,_=>none
def putAt:AV->List Nat->List AV->AV
 | .ow _,[],as=>.ow as
 | .ow avs,j::js,as=>match avs[j]? with
  |some a=>.ow (avs.set j (putAt a js as))
  |none=>.ow avs
 |a,_,_=>a
def Bk(H:Hp):V->List Nat->V->Prop
 |v,[],w=>v=w
 |v,j::js,w=>∃p vs u,v = .ref p/\H p=some (.lst vs)/\vs[j]?=some u/\Bk H u js w
section
variable {K:W.Frag}{H₀ Hf₀ Hf Hf' H H':Hp}{S S':AS}{σ:St}{Fs Fs':List (List Addr)}
theorem xg:∀{Fs:List (List Addr)}{F G:List Addr}(i:Nat),Fs.flatten.Nodup->Fs[i]?=some G->F.Nodup->(∀p∈F,p∈G∨p∉Fs.flatten)->(Fs.set i F).flatten.Nodup
 | [],F,G,i,h,e,_,_=>by simp at e
 |E::Gs,F,G,0,h,e,hF,hd=>by
  simp at e;subst e;rw[df,fCq,nAq];rw[fCq,nAq]at h;refine⟨hF,h.2.1,λa ha b hb e=>?_⟩
  subst e;rcases hd a ha with z|z
  .exact h.2.2 a z a hb rfl
  .exact z (by rw[fCq];exact ar _ hb)
 |E::Gs,F,G,i+1,h,e,hF,hd=>by
  rw[eD,fCq,nAq];rw[fCq,nAq]at h;have e':Gs[i]?=some G:=by simpa using e
  refine⟨h.1,xg i h.2.1 e' hF λp hp=>(hd p hp).imp id λz m=>z (by rw[fCq];exact ar _ m),λa ha b hb e=>?_⟩
  subst e;rcases qe hb with q|q
  .rcases hd a q with z|z
   .exact h.2.2 a ha a (mFq.mpr ⟨G,mGq e',z⟩) rfl
   .exact z (by rw[fCq];exact aD _ ha)
  .exact h.2.2 a ha a q rfl
theorem BR:∀{Fs:List (List Addr)}{F G:List Addr}{i j:Nat}{p:Addr},Fs.flatten.Nodup->Fs[i]?=some F->Fs[j]?=some G->i≠j->p∈F->p∉G
 | [],F,G,i,j,p,_,e,_,_,_,_=>by simp at e
 |E::Es,F,G,0,0,p,h,e,f,n,_,_=>n rfl
 |E::Es,F,G,0,j+1,p,h,e,f,n,hp,m=>by
  simp at e;subst e;rw[fCq,nAq]at h;exact h.2.2 p hp p (mFq.mpr ⟨G,mGq (i:=j) (by simpa using f),m⟩) rfl
 |E::Es,F,G,i+1,0,p,h,e,f,n,hp,m=>by
  simp at f;subst f;rw[fCq,nAq]at h;exact h.2.2 p m p (mFq.mpr ⟨F,mGq (i:=i) (by simpa using e),hp⟩) rfl
 |E::Es,F,G,i+1,j+1,p,h,e,f,n,hp,m=>by
  rw[fCq,nAq]at h;exact BR h.2.1 (i:=i) (j:=j) (by simpa using e) (by simpa using f) (λz=>n (by rw[z])) hp m
theorem oE.path:∀{path:List Nat}{av:AV}{v:V}{F:List Addr}{as:List AV},oE K Hf H av v F->F.Nodup->ou av path=some as->∃p vs Gs,Bk H v path (.ref p)/\H p=some (.lst vs)/\Hf p=none/\oJ K Hf H as vs Gs/\p∈F/\p∉Gs.flatten/\Gs.flatten.Nodup/\(∀q∈Gs.flatten,q∈F) /\
  ∀as' vs' Gs',oJ K Hf (upd H p (.lst vs')) as' vs' Gs'->(p::Gs'.flatten).Nodup->(∀q∈Gs'.flatten,q∈Gs.flatten∨q∉F)->∃F',oE K Hf (upd H p (.lst vs')) (putAt av path as') v F'/\F'.Nodup/\∀q∈F',q∈F∨q∈Gs'.flatten
 | [],av,v,F,as,r,nd,e=>by
  cases av with
  |ow avs =>
   cases e;obtain⟨p,vs,Gs,rfl,rfl,h1,h2,h3⟩:=r.ow_inv;have n:=ax.mp nd;refine⟨p,vs,Gs,rfl,h1,h2,h3,by simp,n.1,n.2,λq hq=>mCo _ hq,λas' vs' Gs' r' nd' _=>⟨p::Gs'.flatten,oE.news nZ h2 r',nd',λq hq=>?_⟩⟩
   rcases ah.mp hq with z|z
   .exact .inl (by rw[z];simp)
   .exact .inr z
  |_=>cases e
 |j::js,av,v,F,as,r,nd,e=>by
  cases av with
  |ow avs =>
   obtain⟨a,e1,e2⟩:=oBq.mp (show (avs[j]?).bind (λa=>ou a js)=some as from e)
   obtain⟨p0,vs0,Gs0,rfl,rfl,h1,h2,h3⟩:=r.ow_inv;have n:=ax.mp nd;have hj:j<avs.length:=(gSq.mp e1).1;have hv:vs0[j]?=some (vs0[j]'(h3.1 ▸ hj)):=gEg _;have hg:Gs0[j]?=some (Gs0[j]'(h3.2.1 ▸ hj)):=gEg _;generalize vs0[j]'(h3.1 ▸ hj)=vj at hv;generalize Gs0[j]'(h3.2.1 ▸ hj)=Fj at hg;have rj:=h3.2.2 j a vj Fj e1 hv hg;have ndj:Fj.Nodup:=bj.sublist (aU (mGq hg)) n.2;have sub:∀q∈Fj,q∈Gs0.flatten:=λq hq=>og hg hq
   obtain⟨p,vs,Gs,g1,g2,g3,g4,g5,g6,g6',g7,g8⟩:=oE.path rj ndj e2;have pne:p0≠p:=λz=>n.1 (z ▸ sub p g5)
   refine⟨p,vs,Gs,⟨p0,vs0,vj,rfl,h1,hv,g1⟩,g2,g3,g4,mCo _ (sub p g5),g6,g6',λq hq=>mCo _ (sub q (g7 q hq)),λas' vs' Gs' r' nd' hd=>?_⟩
   obtain⟨F',k1,k2,k3⟩:=g8 as' vs' Gs' r' nd' λq hq=>(hd q hq).imp id λz m=>z (mCo _ (sub q m))
   have hF':∀q∈F',q∈Fj∨q∉Gs0.flatten:=λq hq=>by
    rcases k3 q hq with z|z
    .exact .inl z
    .rcases hd q z with y|y
     .exact .inl (g7 q y)
     .exact .inr λm=>y (mCo _ m)
   refine⟨p0::(Gs0.set j F').flatten,?_,ax.mpr ⟨λm=>?_,xg j n.2 hg k2 hF'⟩,λq hq=>?_⟩
   .show oE K Hf (upd H p (.lst vs')) (match avs[j]? with|some a=>.ow (avs.set j (putAt a js as'))|none=>.ow avs) (.ref p0) _
    rw[e1];refine .ow (vs:=vs0) (by rw[nV pne];exact h1) h2 (by rw[lZq];exact h3.1) (by rw[lZq,lZq];exact h3.2.1) λi b w G q1 q2 q3=>?_
    rw[bf]at q1 q3
    by_cases hij:j=i
    .subst hij;rw[oq rfl,oq hj]at q1;rw[oq rfl,oq (h3.2.1 ▸ hj)]at q3;rw[hv]at q2;cases q1;cases q2;cases q3;exact k1
    .rw [oz hij]at q1 q3;exact(h3.2.2 i b w G q1 q2 q3).keepUpd λm=>BR n.2 hg q3 hij g5 m
   .rcases qe m with z|z
    .rcases k3 p0 z with y|y
     .exact n.1 (sub p0 y)
     .rcases hd p0 y with x|x
      .exact n.1 (sub p0 (g7 p0 x))
      .exact x (by simp)
    .exact n.1 z
   .rcases ah.mp hq with z|z
    .exact .inl (by rw[z];simp)
    .rcases qe z with z|z
     .exact (k3 q z).imp (λy=>mCo _ (sub q y)) id
     .exact .inl (mCo _ z)
  |_=>cases e
theorem oH.turnAny(R:oH K H₀ Hf₀ Hf S σ H Fs) {i:Nat}{av:AV}{p:Addr}{o:HO}{v:V}{F F':List Addr}(s1:σ[i]?=some (some v)) (s2:Fs[i]?=some F) (hp:p∈F) (r:oE K Hf (upd H p o) av v F') (nd:F'.Nodup)
  (hf:∀q∈F',H₀ q=none/\q∉(Fs.set i []).flatten):oH K H₀ Hf₀ Hf (S.set i (some av)) σ (upd H p o) (Fs.set i F'):=by
 have hin:p∈Fs.flatten:=mFq.mpr ⟨F,mGq s2,hp⟩;have pn:Hf p=none:=(R.mem hin).2;have p0:H₀ p=none:=R.fresh p hin;have out:=sQ R.nd s2 hp;have R1:oH K H₀ Hf₀ Hf (S.set i none) σ (upd H p o) (Fs.set i []):=by
  refine⟨by simp[R.len],by simp[R.lenF],λj a ej=>?_,λj ej=>?_,ql i R.nd aZ (λp hp=>by cases hp),λp hp=>R.fresh p (oQ hp),λb u e=>?_,λb u e=>?_,R.lim,R.sf⟩
  .rw [bf]at ej
   by_cases hij:i=j
   .subst hij;rw[oq rfl]at ej;split at ej <;> cases ej
   .rw [oz hij]at ej;obtain⟨w,G,f1,f2,q⟩:=R.rep j a ej;refine⟨w,G,f1,by rw[ao hij];exact f2,q.keep (.refl _) (λc hc=>nV λe=>out ?_) λc hc=>(q.owned c hc).2⟩
    subst e;exact mFq.mpr ⟨G,mGq (i:=j) (by rw[ao hij];exact f2),hc⟩
  .rw [bf]at ej
   by_cases hij:i=j
   .subst hij;rw[oq rfl]at ej;split at ej
    .rename_i hi;rw[aC (R.lenF.symm ▸ hi)]
    .cases ej
   .rw [oz hij]at ej;rw[ao hij];exact R.emp j ej
  .rw [nV λz=>by rw[z,pn]at e;cases e]
   exact R.sub b u e
  .rw [nV λz=>by rw[z,p0]at e;cases e]
   exact R.fr b u e
 exact R1.again (F:=F) s1 r nd hf
theorem oH.kill(R:oH K H₀ Hf₀ Hf S σ H Fs) (x:Nat):oH K H₀ Hf₀ Hf (S.set x none) σ H (Fs.set x []):=by
 refine⟨by simp[R.len],by simp[R.lenF],λj a ej=>?_,λj ej=>?_,ql x R.nd aZ (λp hp=>by cases hp),λp hp=>R.fresh p (oQ hp),R.sub,R.fr,R.lim,R.sf⟩
 .rw [bf]at ej
  by_cases hij:x=j
  .subst hij;rw[oq rfl]at ej;split at ej <;> cases ej
  .rw [oz hij]at ej;obtain⟨w,G,f1,f2,q⟩:=R.rep j a ej;exact⟨w,G,f1,by rw[ao hij];exact f2,q⟩
 .rw [bf]at ej
  by_cases hij:x=j
  .subst hij;rw[oq rfl]at ej;split at ej
   .rename_i hi;rw[aC (R.lenF.symm ▸ hi)]
   .cases ej
  .rw [oz hij]at ej;rw[ao hij];exact R.emp j ej
theorem oH.any(R:oH K H₀ Hf₀ Hf (S.set x none) σ H Fs) (v:V):oH K H₀ Hf₀ Hf (S.set x none) (σ.set x (some v)) H Fs where
 len:=by rw[R.len,lZq]
 lenF:=R.lenF
 rep:=λi av e=>by
  by_cases hij:x=i
  .subst hij;rw[bf]at e;rw[oq rfl]at e;split at e <;> cases e
  .obtain ⟨w,G,f1,f2,q⟩:=R.rep i av e;exact⟨w,G,by rw[ao hij];exact f1,f2,q⟩
 emp:=R.emp
 nd:=R.nd
 fresh:=R.fresh
 sub:=R.sub
 fr:=R.fr
 lim:=R.lim
 sf:=R.sf
end
abbrev aI(ns:List Int):AV:=.ow (ns.map λn=>.sh (.int n))
def JA:List AV->Option (List Int)
 | []=>some []
 | .sh (.int i)::r=>(JA r).map (i :: ·)
 |_=>none
def Rz:List AV->Option (List (List Int))
 | []=>some []
 | .ow as::r=>(JA as).bind λns=>(Rz r).map (ns :: ·)
 |_=>none
@[simp] theorem UD (ns:List Int):JA (ns.map λn=>.sh (.int n))=some ns:=by
 induction ns with
 |nil=>rfl
 |cons n ns ih=>show (JA (ns.map λn=>.sh (.int n))).map (n :: ·)=_;rw[ih];rfl
def Wk(k:MK):MK:=λS=>(k S).bind λx=>match x.1 with
 | .ow avs=>(Rz avs).map λrs=>(.ow ((tu rs).map aI),x.2)
 |_=>none
section
variable {K:W.Frag}{Hf H:Hp}
def OO:AV->Option D
 | .sh d=>if d.scal=true then some d else none
 |_=>none
def xI(f:MF) (a:ML):ME:=λS=>(a S).bind λx=>(f x.1).bind λr=>(OO r).map λd=>(d,x.2)
theorem uu{f:MF}{ta:TA}{a:ML}(ha:Ra K ta a):SR K (A7 (qr K f) [] E0 ta) (xI f a):=by
 intro H₀ Hf₀ Hf S σ H Fs d S' R e Q q;obtain⟨x,e1,e⟩:=oBq.mp e;obtain⟨r,e2,e⟩:=oBq.mp e;obtain⟨z,e3,e⟩:=oMq.mp e;cases e;refine ha R (ds:=x.1) (S':=x.2) e1 _ λHf1 H1 Fs1 vs t1 R1 r1=>?_
 rw[aNq];refine⟨H1,x.1,r,.refl _,r1,e2,λHf' H' v F s1 s2 s3 l rv nd fr=>?_⟩
 have t2:xy Hf1 H1 Fs1 Hf1 H' Fs1:=⟨.refl _,s2,λ_ h=>h,λb h g=>absurd h g⟩
 cases r with
 |sh d' =>
  simp only[OO]at e3;split at e3
  .rename_i hs;cases e3;exact q _ _ _ v (t1.trans t2) (R1.laid s2) (rv.sh_inv.2.scal hs)
  .cases e3
 |_=>cases e3
end
section
variable (S:AS)
@[simp] theorem UH (i:Nat):nI i S=(S[i]?.join).map λa=>(nM a,S):=rfl
@[simp] theorem UG (i:Nat):pV i S=(S[i]?.join).map λa=>(.sh (nM a),S.set i (some (.sh (nM a)))):=rfl
@[simp] theorem UF (i:Nat):E1 i S=(S[i]?.join).map λa=>(a,S.set i none):=rfl
@[simp] theorem XS (k:MK):rOf k S=(k S).map λx=>(nM x.1,x.2):=rfl
@[simp] theorem Xk (m:ME):kSc m S=(m S).bind λx=>if x.1.scal then some (.sh x.1,x.2) else none:=rfl
@[simp] theorem VI (k:MK):rh k S=(k S).map λx=>(.sh (nM x.1),x.2):=rfl
@[simp] theorem Y6 (d:D):rC d S=if d.scal then some (d,S) else none:=rfl
@[simp] theorem XN (f:D->D->Option D) (a b:ME):oU f a b S=(a S).bind λx=>(b x.2).bind λy=>(f x.1 y.1).map λd=>(d,y.2):=rfl
@[simp] theorem Xs (f:D->Option D) (a:ME):CW f a S=(a S).bind λx=>(f x.1).map λd=>(d,x.2):=rfl
@[simp] theorem Vx (a:ME):Tq a S=(a S).bind λx=>(Kn x.1).map λd=>(d,x.2):=rfl
@[simp] theorem T3 (a b:MT):yN a b S=(a S).bind λx=>if x.1=true then b x.2 else some (false,x.2):=rfl
@[simp] theorem UI (a b:MT):QE a b S=(a S).bind λx=>if x.1=true then some (true,x.2) else b x.2:=rfl
@[simp] theorem RF (a:MT):LH a S=(a S).map λx=>(!x.1,x.2):=rfl
def S7:D->Option Bool
 | .bl b=>some b
 |_=>none
@[simp] theorem Xj (a:ME):tU a S=(a S).bind λx=>(S7 x.1).map λb=>(b,x.2):=by
 show (a S).bind _=_;congr 1;funext x;obtain⟨d,S'⟩:=x;cases d <;> rfl
@[simp] theorem UQ (a b:ME):FZ a b S=(a S).bind λx=>(S7 x.1).bind λc=>if c=true then b x.2 else some (.bl false,x.2):=by
 show (a S).bind _=_;congr 1;funext x;obtain⟨d,S'⟩:=x;cases d <;> try rfl
 rename_i c;cases c <;> rfl
@[simp] theorem QN (b:Bool):S7 (.bl b)=some b:=rfl
@[simp] theorem UP:pX S=some ([],S):=rfl
@[simp] theorem Ut (k:MK) (r:MA):oC k r S=(k S).bind λx=>(r x.2).map λy=>(x.1::y.1,y.2):=rfl
@[simp] theorem Sj:oI S=some ([],S):=rfl
@[simp] theorem Qv (k:ME) (r:ML):nU k r S=(k S).bind λx=>(r x.2).map λy=>(x.1::y.1,y.2):=rfl
@[simp] theorem VU (a:MA):uK a S=(a S).bind λx=>tP (x.1.length<=qW) (some (.ow x.1,x.2)):=rfl
@[simp] theorem Vy (a:MA):Dg a S=(a S).bind λx=>tP (x.1.length<=qW) (some (.sh (.tup (x.1.map nM)),x.2)):=rfl
@[simp] theorem Vs (a b:ML):PL a b S=(a S).bind λx=>(b x.2).bind λy=>tP (x.1.length+y.1.length<=qW) (some (.ow ((x.1++y.1).map .sh),y.2)):=rfl
@[simp] theorem Sv:zA S=some (none,S):=rfl
@[simp] theorem Se (m:ME):xo m S=(m S).bind λx=>(intOf x.1).map λi=>(some i,x.2):=by
 show (m S).bind _=_;congr 1;funext x;obtain⟨d,S'⟩:=x;cases d <;> rfl
@[simp] theorem J6 (i:Int):intOf (.int i)=some i:=rfl
@[simp] theorem XF (l:ML) (lo hi:MO):OX l lo hi S=(l S).bind λx=>(lo x.2).bind λy=>(hi y.2).map λz=>(.ow ((wL x.1 y.1 z.1).map .sh),z.2):=rfl
@[simp] theorem XR (l:ML) (b:ME):UC l b S=(l S).bind λx=>(b x.2).bind λy=>(intOf y.1).bind λi=>(atI x.1 i).map λd=>(.sh d,y.2):=by
 show (l S).bind _=_;congr 1;funext x;show (b x.2).bind _=_;congr 1;funext y;obtain⟨d,S'⟩:=y;cases d <;> rfl
@[simp] theorem WQ (f:List D->Option D) (a:ML):wg f a S=(a S).bind λx=>(f x.1).map λd=>(d,x.2):=rfl
@[simp] theorem RK (f:MF) (a:MA):rR f a S=(a S).bind λx=>(f (x.1.map nM)).map λr=>(r,x.2):=rfl
@[simp] theorem Sk (f:MF) (a:ML):xI f a S=(a S).bind λx=>(f x.1).bind λr=>(OO r).map λd=>(d,x.2):=rfl
@[simp] theorem TY:qd S=some (.nx S):=rfl
def MD(o:Option A6) (b:MS):Option A6:=o.bind λo=>match o with
 | .nx S'=>b S'
 |o=>some o
@[simp] theorem Lz (b:MS):MD (some (.nx S)) b=b S:=rfl
@[simp] theorem Ol (a:AV) (b:MS):MD (some (.rt a)) b=some (.rt a):=rfl
@[simp] theorem Vr (a b:MS):ox a b S=MD (a S) b:=rfl
@[simp] theorem VG (i:Nat) (k:MK):pd i k S=(k S).map λx=>.nx (x.2.set i (some x.1)):=rfl
@[simp] theorem VP (k:MK):sq k S=(k S).map λx=>.rt x.1:=rfl
@[simp] theorem W5 (c:MT) (a b:MS):xK c a b S=(c S).bind λx=>if x.1=true then a x.2 else b x.2:=rfl
@[simp] theorem UR (i:Nat) (k:MK):tR i k S=(pM S i).bind λ_=>(k S).bind λx=>(pM x.2 i).bind λavs=>tP (avs.length<qW) (some (.nx (x.2.set i (some (.ow (avs++[x.1])))))):=rfl
@[simp] theorem V9 (i:Nat) (l:ML):Tp i l S=(pM S i).bind λ_=>(l S).bind λx=>(pM x.2 i).bind λavs=>tP (avs.length+x.1.length<=qW) (some (.nx (x.2.set i (some (.ow (avs++x.1.map .sh)))))):=rfl
@[simp] theorem SG (i:Nat) (b:ME) (k:MK):A8 i b k S=(rh k S).bind λx=>(xf x.2 i).bind λ_=>(b x.2).bind λy=>(xf y.2 i).bind λkvs=>(tZ y.1).bind λkey =>
 tP (kvs.length<qW) (some (.nx (y.2.set i (some (.owd (xj kvs key (nM x.1))))))):=rfl
def AA:D->Option (List (oD×D))
 | .dict kvs=>some kvs
 |_=>none
@[simp] theorem GK (kvs:List (oD×D)):AA (.dict kvs)=some kvs:=rfl
@[simp] theorem Kt (i:Int):tZ (.int i)=some (.inl i):=rfl
@[simp] theorem U0 (a b:ME):S4 a b S=(a S).bind λx=>(b x.2).bind λy=>(AA y.1).bind λkvs=>(tZ x.1).map λkey=>(.bl (getD kvs key).isSome,y.2):=by
 show (a S).bind _=_;congr 1;funext x;show (b x.2).bind _=_;congr 1;funext y;obtain⟨d,S'⟩:=y;cases d <;> rfl
@[simp] theorem NX (a b:ME):zJ a b S=(a S).bind λx=>(b x.2).bind λy=>(AA y.1).bind λkvs=>(tZ x.1).map λkey=>(.bl (!(getD kvs key).isSome),y.2):=by
 show (a S).bind _=_;congr 1;funext x;show (b x.2).bind _=_;congr 1;funext y;obtain⟨d,S'⟩:=y;cases d <;> rfl
@[simp] theorem SD (a b:ME):yL a b S=(a S).bind λx=>(b x.2).bind λy=>(AA x.1).bind λkvs=>(tZ y.1).bind λkey=>(getD kvs key).map λd=>(d,y.2):=by
 show (a S).bind _=_;congr 1;funext x;show (b x.2).bind _=_;congr 1;funext y;obtain⟨d,S'⟩:=x;cases d <;> rfl
@[simp] theorem Su:GW S=some (.owd [],S):=rfl
@[simp] theorem UO (x:Nat) (k:MK) (body:MS):C7 x k body S=(rh k S).bind λy=>(qo (nM y.1)).bind λds=>se x body ds y.2:=rfl
@[simp] theorem P3 (x:Nat) (a:ML) (body:MS):Hy x a body S=(a S).bind λy=>(El y.1).bind λds=>se x body ds y.2:=rfl
@[simp] theorem Ta (x y:Nat) (k:MK) (body:MS):LP x y k body S=(rh k S).bind λz=>(qo (nM z.1)).bind λds=>Aj x y body 0 ds z.2:=rfl
@[simp] theorem SB (x y:Nat) (k l:MK) (body:MS):Nu x y k l body S=(rh k S).bind λz=>(rh l z.2).bind λw=>(qo (nM z.1)).bind λds=>(qo (nM w.1)).bind λes =>
 if ds.length=es.length then za x y body ds es w.2 else none:=rfl
@[simp] theorem TC (src:MI) (fr:List Nat) (tf:MT) (te:MK):DP src fr tf te S=(src S).bind λy=>(fzAll fr y.2).bind λS2=>(Ew S2 fr).bind λcap=>tP (y.1.length<=qW) ((vG tf te cap y.1).map λavs=>(.ow avs,S2)):=rfl
@[simp] theorem VE (k:MK):Qi k S=(rh k S).bind λy=>(qo (nM y.1)).map λds=>(ds,y.2):=rfl
@[simp] theorem W9 (a:ML):Xa a S=(a S).bind λy=>(El y.1).map λds=>(ds,y.2):=rfl
@[simp] theorem KS:fzAll [] S=some S:=rfl
@[simp] theorem Ht (j:Nat) (js:List Nat):fzAll (j::js) S=(S[j]?.join).bind λa=>fzAll js (S.set j (some (.sh (nM a)))):=rfl
@[simp] theorem OI:Ew S []=some []:=rfl
@[simp] theorem K3 (j:Nat) (js:List Nat):Ew S (j::js)=(Tt S[j]?.join).bind λa=>(Ew S js).map (some a :: ·):=rfl
@[simp] theorem RU (l:ML):C6 l S=(l S).map λx=>(.ow (x.1.map .sh),x.2):=rfl
@[simp] theorem Ph (l:ML):E8 l S=(l S).bind λx=>(uE x.1).map λrs=>(.ow ((tu rs).map λr=>.sh (dI r)),x.2):=rfl
def Ve:AV->Option (List AV)
 | .ow avs=>some avs
 |_=>none
@[simp] theorem QO (avs:List AV):Ve (.ow avs)=some avs:=rfl
@[simp] theorem W8 (T:String) (f:D->List D->Option D) (a:ME) (as:ML):Wo T f a as S=(a S).bind λx=>if Vk T x.1=true then (as x.2).bind λy=>(f x.1 y.1).map λd=>(d,y.2) else none:=rfl
def X7:D->Option (List D)
 | .list ds=>some ds
 |_=>none
@[simp] theorem V1 (a:ME):yE a S=(a S).bind λx=>(Bj x.1).map λb=>(b,x.2):=rfl
def Vu:AV->Option (List D)
 | .sh (.list ds)=>some ds
 | .ow avs=>some (avs.map nM)
 |_=>none
@[simp] theorem Sq (ds:List D):Vu (.sh (.list ds))=some ds:=rfl
@[simp] theorem Uc (avs:List AV):Vu (.ow avs)=some (avs.map nM):=rfl
@[simp] theorem XU (k:MK):lOf k S=(k S).bind λx=>(Vu x.1).map λds=>(ds,x.2):=by
 show (k S).bind _=_;congr 1;funext x;obtain⟨a,S'⟩:=x;cases a with
 |sh d=>cases d <;> rfl
 |_=>rfl
end
def Wp:AV->AV
 | .ow avs=>.ow ((avs.map nM).map .sh)
 |a=>a
@[simp] theorem Td (d:D):Wp (.sh d) = .sh d:=rfl
@[simp] theorem RW (avs:List AV):Wp (.ow avs) = .ow ((avs.map nM).map .sh):=rfl
theorem Cu{S:AS}{i:Nat}{a:AV}(h:S[i]?=some (some a)):S.set i (some a)=S:=by
 obtain⟨hk,ev⟩:=gSq.mp h;rw[←ev];exact fj hk
@[simp] theorem VQ (S:AS) (i:Nat):HK i S=(S[i]?.join).bind λa=>(Vu a).map λds=>(ds,S.set i (some (Wp a))):=by
 unfold HK;cases e:S[i]?.join with
 |none=>rfl
 |some a =>
  cases a with
  |sh d =>
   cases d with
   |list ds =>
    show some (ds,S)=some (ds,S.set i (some (.sh (.list ds))));rw[Cu (oO e)]
   |_=>rfl
  |ow avs=>rfl
  |owd kvs=>rfl
  |owl kvs=>rfl
def Wz:AV->Option (List D)
 | .sh (.scr ns)=>some (ns.map .int)
 |a=>Vu a
@[simp] theorem P9 (ns:List Int):Wz (.sh (.scr ns))=some (ns.map .int):=rfl
@[simp] theorem Tn (ds:List D):Wz (.sh (.list ds))=some ds:=rfl
@[simp] theorem TN (avs:List AV):Wz (.ow avs)=some (avs.map nM):=rfl
@[simp] theorem VJ (S:AS) (i:Nat):vx i S=(S[i]?.join).bind λa=>(Wz a).map λds=>(ds,S.set i (some (Wp a))):=by
 unfold vx;cases e:S[i]?.join with
 |none=>rfl
 |some a =>
  cases a with
  |sh d =>
   cases d with
   |list ds =>
    show some (ds,S)=some (ds,S.set i (some (.sh (.list ds))));rw[Cu (oO e)]
   |scr ns =>
    show some (ns.map D.int,S)=some (ns.map D.int,S.set i (some (.sh (.scr ns))));rw[Cu (oO e)]
   |_=>rfl
  |ow avs=>rfl
  |owd kvs=>rfl
  |owl kvs=>rfl
@[simp] theorem Mx (i:Int):(D.int i).scal=true:=rfl
@[simp] theorem Qy (i:Bool):(D.bl i).scal=true:=rfl
@[simp] theorem N7 (i:Str):(D.str i).scal=true:=rfl
@[simp] theorem Nn:D.non.scal=true:=rfl
@[simp] theorem QT (i:String):(D.ty i).scal=true:=rfl
@[simp] theorem N9 (i:Int):OO (.sh (.int i))=some (.int i):=rfl
@[simp] theorem Pq (i:Bool):OO (.sh (.bl i))=some (.bl i):=rfl
@[simp] theorem Ft (i j:Int):HQ (.int i) (.int j)=some (.bl (decide (i=j))):=rfl
@[simp] theorem PU (i j:Str):HQ (.str i) (.str j)=some (.bl (decide (i=j))):=rfl
@[simp] theorem Qt (b:Bool):Kn (.bl b)=some (.bl (!b)):=rfl
@[simp] theorem wV (i j:Int):FC (.int i) (.int j)=some (.bl (!decide (i=j))):=rfl
@[simp] theorem KM (ds:List D):rL [.list ds]=some (.int ds.length):=rfl
@[simp] theorem OQ (ns:List Int):rL [.scr ns]=some (.int ns.length):=rfl
@[simp] theorem M9 (i:Int):J8 [.int i]=some (.int (if i<0 then -i else i)):=rfl
@[simp] theorem E6 (ds:List D):qo (.list ds)=some ds:=rfl
@[simp] theorem Og (ds:List D) (i:Int):zY (.list ds) (.int i)=atI ds i:=rfl
@[simp] theorem Pt (ns:List Int) (i:Int):zY (.scr ns) (.int i)=(atI ns i).map .int:=rfl
@[simp] theorem Qw (d:D):Tt (some (.sh d))=some (.sh d):=rfl
@[simp] theorem Na (ds:List D):Vk "list" (.list ds)=true:=rfl
theorem O8(S:AS) (i:Nat):pM S i=(S[i]?.join).bind Ve:=by
 unfold pM;cases S[i]?.join with
 |none=>rfl
 |some a=>cases a <;> rfl
def Oo:AV->Option (List (oD×D))
 | .owd kvs=>some kvs
 |_=>none
@[simp] theorem Kx (kvs:List (oD×D)):Oo (.owd kvs)=some kvs:=rfl
theorem Nr(S:AS) (i:Nat):xf S i=(S[i]?.join).bind Oo:=by
 unfold xf;cases S[i]?.join with
 |none=>rfl
 |some a=>cases a <;> rfl
theorem GS{x:Nat}{body:MS}(P:Nat->AS->Prop):∀{ds:List D}{S:AS}{k:Nat},P k S->(∀i d S,ds[i]?=some d->P (k+i) S->∃S',(body (S.set x (some (.sh d)))=some (.nx S')∨body (S.set x (some (.sh d)))=some (.ct S'))/\P (k+i+1) S')->∃S',se x body ds S=some (.nx S')/\P (k+ds.length) S'
 | [],S,k,h0,_=>⟨S,rfl,h0⟩
 |d::ds,S,k,h0,hs=>by
  obtain⟨S',e,h1⟩:=hs 0 d S rfl h0;have hs':∀i d S,ds[i]?=some d->P (k+1+i) S->∃S',(body (S.set x (some (.sh d)))=some (.nx S')∨body (S.set x (some (.sh d)))=some (.ct S'))/\P (k+1+i+1) S':=λi d S h p=>by
   have:=hs (i+1) d S (by simpa using h) (by rw[show k+(i+1)=k+1+i by lia];exact p)
   rw[show k+(i+1)=k+1+i by lia]at this
   exact this
  obtain⟨S2,e2,h2⟩:=GS P (k:=k+1) h1 hs';refine⟨S2,?_,by rw[lCq,show k+(ds.length+1)=k+1+ds.length by lia];exact h2⟩
  show (body _).bind _=_;rcases e with e|e <;> (rw[e];exact e2)
theorem AW{x:Nat}{body:MS}(P:Nat->AS->Prop) {ds:List D}{S:AS}(h0:P 0 S) (hs:∀i d S,ds[i]?=some d->P i S->∃S',body (S.set x (some (.sh d)))=some (.nx S')/\P (i+1) S'):∃S',se x body ds S=some (.nx S')/\P ds.length S':=by
 have:=GS (x:=x) (body:=body) P (ds:=ds) (k:=0) h0 λi d S h p=>by
  rw[bU]at p ⊢;obtain⟨S',e,q⟩:=hs i d S h p;exact⟨S',.inl e,q⟩
 rw[bU]at this;exact this
theorem Ry{x y:Nat}{body:MS}(P:Nat->AS->Prop):∀{ds:List D}{S:AS}{k:Nat},P k S->(∀i d S,ds[i]?=some d->P (k+i) S->∃S',body ((S.set x (some (.sh (.int (k+i:Nat))))).set y (some (.sh d)))=some (.nx S')/\P (k+i+1) S')->∃S',Aj x y body k ds S=some (.nx S')/\P (k+ds.length) S'
 | [],S,k,h0,_=>⟨S,rfl,h0⟩
 |d::ds,S,k,h0,hs=>by
  obtain⟨S',e,h1⟩:=hs 0 d S rfl h0;have hs':∀i d S,ds[i]?=some d->P (k+1+i) S->∃S',body ((S.set x (some (.sh (.int (k+1+i:Nat))))).set y (some (.sh d)))=some (.nx S')/\P (k+1+i+1) S':=λi d S h p=>by
   have:=hs (i+1) d S (by simpa using h) (by rw[show k+(i+1)=k+1+i by lia];exact p)
   rw[show k+(i+1)=k+1+i by lia]at this
   exact this
  obtain⟨S2,e2,h2⟩:=Ry P (k:=k+1) h1 hs';refine⟨S2,?_,by rw[lCq,show k+(ds.length+1)=k+1+ds.length by lia];exact h2⟩
  show (body ((S.set x (some (.sh (.int (k:Nat))))).set y (some (.sh d)))).bind _=_;rw[fM]at e;rw[e];exact e2
theorem RB{x y:Nat}{body:MS}(P:Nat->AS->Prop):∀{ds es:List D}{S:AS}{k:Nat},ds.length=es.length->P k S->(∀i d e S,ds[i]?=some d->es[i]?=some e->P (k+i) S->∃S',body ((S.set x (some (.sh d))).set y (some (.sh e)))=some (.nx S')/\P (k+i+1) S')->∃S',za x y body ds es S=some (.nx S')/\P (k+ds.length) S'
 | [],[],S,k,_,h0,_=>⟨S,rfl,h0⟩
 | [],_::_,S,k,hl,_,_=>by simp at hl
 |_::_,[],S,k,hl,_,_=>by simp at hl
 |d::ds,b::es,S,k,hl,h0,hs=>by
  obtain⟨S',e,h1⟩:=hs 0 d b S rfl rfl h0;have hs':∀i d e S,ds[i]?=some d->es[i]?=some e->P (k+1+i) S->∃S',body ((S.set x (some (.sh d))).set y (some (.sh e)))=some (.nx S')/\P (k+1+i+1) S':=λi d e S h h' p=>by
   have:=hs (i+1) d e S (by simpa using h) (by simpa using h') (by rw[show k+(i+1)=k+1+i by lia];exact p)
   rw[show k+(i+1)=k+1+i by lia]at this
   exact this
  obtain⟨S2,e2,h2⟩:=RB P (k:=k+1) (by simpa using hl) h1 hs'
  refine⟨S2,?_,by rw[lCq,show k+(ds.length+1)=k+1+ds.length by lia];exact h2⟩
  show (body _).bind _=_;rw[e];exact e2
theorem zG{te:MK}{cap:AS}(g:D->AV):∀{ds:List D},(∀d∈ds,∃S',te (some (.sh d)::cap)=some (g d,S'))->vG AL te cap ds=some (ds.map g)
 | [],_=>rfl
 |d::ds,h=>by
  obtain⟨S',e⟩:=h d (by simp)
  show (te (some (.sh d)::cap)).bind (λa=>(vG AL te cap ds).map (a.1 :: ·))=_
  rw[e,zG g λx hx=>h x (mCo _ hx)]
  rfl
theorem sG{α β:Type}(f:α->β) (xs:List α) (lo hi:Option Int):wL (xs.map f) lo hi=(wL xs lo hi).map f:=by
 unfold wL;rw[lMq,gR,List.map_drop]
theorem Ay{α:Type}(xs:List α) (i:Nat) (h:i<=xs.length):wL xs (some (i:Int)) none=xs.drop i:=by
 unfold wL;rw[HT.Bz,HT.Ga,dm h,cE (by rw[aG];exact ae _)]
theorem BE{α:Type}(xs:List α) (i:Nat) (h:i<=xs.length):wL xs none (some (i:Int))=xs.take i:=by
 unfold wL;rw[HT.Bz,HT.Ga,dm h,eK,Nat.sub_zero]
theorem NU{α:Type}(xs:List α) (i j:Nat):wL xs (some (i:Int)) (some (j:Int))=(xs.drop i).take (j-i):=by
 unfold wL;rw[HT.Bz,HT.Bz]
 by_cases h:i<=xs.length
 .rw [dm h]
  by_cases h2:j<=xs.length
  .rw [dm h2]
  .rw [ij (by lia),cE (by rw[aG];exact ae _),cE (by rw[aG];lia)]
 .have e:min i xs.length=xs.length:=ij (by lia)
  rw[e,eV (ae xs.length),eV (show xs.length<=i by lia)]
  simp
theorem IR{α:Type}{xs:List α}{i:Int}(h0:0<=i):atI xs i=xs[i.toNat]?:=by
 unfold atI AO;rw[oq h0]
 by_cases h:i<xs.length
 .rw [oq h];rfl
 .rw [oz h,bR (by lia)]
  rfl
theorem O2{α β:Type}(f:α->β) (xs:List α) (i:Int):atI (xs.map f) i=(atI xs i).map f:=by
 unfold atI;rw[lMq];cases AO xs.length i with
 |none=>rfl
 |some j=>show (xs.map f)[j]?=_;rw[gMq];rfl
theorem JB{n:Nat}{i:Nat}(h:i<n):AO n (i:Int)=some i:=by
 unfold AO;rw[oq (by lia),oq (by lia)]
 simp
theorem Jr(ns:List Int):(ns.map D.int).map AV.sh=ns.map λn=>AV.sh (.int n):=by rw[mPq];rfl
theorem Et(ns:List Int):(ns.map λn=>AV.sh (.int n)).map nM=ns.map D.int:=by rw[mPq];exact mCq λn _=>by simp
theorem Pb(rs:List (List Int)):(rs.map aI).map nM=rs.map dI:=by
 rw[mPq];refine mCq λr _=>?_
 show nM (.ow (r.map λn=>AV.sh (.int n)))=_
 rw[rS,Et]
theorem QH(rs:List (List Int)):(rs.map dI).map AV.sh=rs.map λr=>AV.sh (dI r):=by rw[mPq];rfl
theorem pT(ns:List Int):nM (aI ns)=dI ns:=by
 show nM (.ow (ns.map λn=>AV.sh (.int n)))=_
 rw[rS,Et]
theorem PD(i j:Int):yD (.int i) (.int j)=some (.int (i+j)):=vP _
theorem PB(i j:Int):Du (.int i) (.int j)=some (.int (i-j)):=vP _
theorem Sg(i j:Int):Fw (.int i) (.int j)=some (.bl (decide (i<j))):=vP _
theorem Ud(i j:Int):Lb (.int i) (.int j)=some (.bl (decide (j<i))):=vP _
theorem T1(i:Int):tD (.int i)=some (.int (-i)):=rfl
theorem Yg:NZ (.int 10) (.int 59)=some (.int (10 ^ 59)):=ud ⟨by decide,by decide,by decide⟩ _
theorem X8:NZ (.int 10) (.int 57)=some (.int (10 ^ 57)):=ud ⟨by decide,by decide,by decide⟩ _
theorem Q1{i j:Int}(h1:-(2 ^ 64)<i) (h2:i<2 ^ 64):yQ (.int i) (.int j)=some (.int (i*j)):=ud (.inl ⟨h1,h2⟩) _
theorem Rh{i j:Int}(h1:-(2 ^ 64)<j) (h2:j<2 ^ 64):yQ (.int i) (.int j)=some (.int (i*j)):=ud (.inr ⟨h1,h2⟩) _
theorem sC{i j:Int}(h:0<j):sY (.int i) (.int j)=some (.int (i % j)):=ud h _
theorem CV{i j:Int}(h:0<j) (h2:j<1073741824):C1 (.int i) (.int j)=some (.int (i / j)):=ud ⟨h,h2⟩ _
theorem UY:(0:Nat)<=qW:=by decide
theorem We:(1:Nat)<=qW:=by decide
theorem UZ:(2:Nat)<=qW:=by decide
theorem Wf:(3:Nat)<=qW:=by decide
theorem OB{n:Nat}(h:n<=16777216):n<=qW:=h
theorem NO{n:Nat}(h:n<16777216):n<qW:=h
theorem EB{n:Nat}(h:n<1000000):El [.int (n:Int)]=some (qf 0 n):=by
 have e:El [.int (n:Int)]=some (qf 0 (n:Int).toNat):=ud ⟨by lia,by lia⟩ _
 rw[e,cM]
theorem Ba(n:Nat):qf 0 n=(bK n).map λi:Nat=>D.int i:=by
 unfold qf;exact mCq λi _=>by rw[gV]
theorem V4(np n:Nat) (m:MS) (ds:List D):uZ np n m ds=if ds.length=np then (m (ds.map (λd=>some (.sh d))++aQ (n-ds.length) none)).bind λo=>match o with
  | .rt a=>some a
  | .nx _=>some (.sh .non)
  |_=>none
 else none:=rfl
theorem Zg{α:Type}{a b:α}{l:List α}:(a::b::l)[1]?=some b:=rfl
theorem WA{α:Type}{a b v:α}{l:List α}:(a::b::l).set 1 v=a::v::l:=rfl
theorem YJ{α:Type}{a b c:α}{l:List α}:(a::b::c::l)[2]?=some c:=rfl
theorem Hb{α:Type}{a b c v:α}{l:List α}:(a::b::c::l).set 2 v=a::b::v::l:=rfl
theorem YS{α:Type}{a b c d:α}{l:List α}:(a::b::c::d::l)[3]?=some d:=rfl
theorem WK{α:Type}{a b c d v:α}{l:List α}:(a::b::c::d::l).set 3 v=a::b::c::v::l:=rfl
theorem YE{α:Type}{a b c d:α}{l:List α}{n:Nat}:(a::b::c::d::l)[n+4]?=l[n]?:=rfl
theorem WE{α:Type}{a b c d v:α}{l:List α}{n:Nat}:(a::b::c::d::l).set (n+4) v=a::b::c::d::l.set n v:=rfl
def zq:=aa @Z.vP (aa @Z.UY (aa @Z.We (aa @Z.UZ (aa @Z.Wf (aa @Z.UH (aa @Z.UG (aa @Z.UF (aa @Z.XS (aa @Z.Xk (aa @Z.VI (aa @Z.Y6 (aa @Z.XN (aa @Z.Xs (aa @Z.Vx (aa @Z.T3 (aa @Z.UI (aa @Z.RF (aa @Z.Xj (aa @Z.UQ (aa @Z.QN (aa @Z.UP (aa @Z.Ut (aa @Z.Sj (aa @Z.Qv (aa @Z.VU (aa @Z.Vy (aa @Z.Vs (aa @Z.Sv (aa @Z.Se (aa @Z.J6 (aa @Z.XF (aa @Z.XR (aa @Z.WQ (aa @Z.RK (aa @Z.Sk (aa @Z.TY (aa @Z.Lz (aa @Z.Ol (aa @Z.Vr (aa @Z.VG (aa @Z.VP (aa @Z.W5 (aa @Z.UR (aa @Z.V9 (aa @Z.SG (aa @Z.GK (aa @Z.Kt (aa @Z.U0 (aa @Z.NX (aa @Z.SD (aa @Z.Su (aa @Z.UO (aa @Z.P3 (aa @Z.Ta (aa @Z.SB (aa @Z.TC (aa @Z.VE (aa @Z.W9 (aa @Z.KS (aa @Z.Ht (aa @Z.OI (aa @Z.K3 (aa @Z.RU (aa @Z.Ph (aa @Z.QO (aa @Z.W8 (aa @Z.V1 (aa @Z.Sq (aa @Z.Uc (aa @Z.XU (aa @Z.Td (aa @Z.RW (aa @Z.VQ (aa @Z.P9 (aa @Z.Tn (aa @Z.TN (aa @Z.VJ (aa @Z.Mx (aa @Z.Qy (aa @Z.N7 (aa @Z.Nn (aa @Z.QT (aa @Z.N9 (aa @Z.Pq (aa @Z.PD (aa @Z.PB (aa @Z.Sg (aa @Z.Ud (aa @Z.T1 (aa @Z.X8 (aa @Z.Yg (aa @Z.Jr (aa @Z.Et (aa @Z.Pb (aa @Z.QH (aa @Z.Ft (aa @Z.PU (aa @Z.Qt (aa @Z.wV (aa @Z.KM (aa @Z.OQ (aa @Z.M9 (aa @Z.E6 (aa @Z.Og (aa @Z.Pt (aa @Z.Qw (aa @Z.Na (aa @Z.O8 (aa @Z.Nr (aa @Z.Kx (aa @Z.pJ (aa @Z.rS (aa @Z.Am (aa @Z.V4 (aa @Z.yS (aa @List.getElem?_cons_zero.{0} (aa @Z.Zg (aa @Z.YJ (aa @Z.YS (aa @Z.YE (aa @List.set_cons_zero.{0} (aa @Z.WA (aa @Z.Hb (aa @Z.WK (aa @Z.WE (aa @Option.join_some.{0} (aa @Option.map_some.{0, 0} (aa @Option.bind_some.{0, 0} (aa @List.length_cons.{0} (aa @List.length_nil.{0} (aa @List.map_cons.{0, 0} (aa @List.map_nil.{0, 0} (aa @List.nil_append.{0} (aa @List.cons_append.{0} (aa @List.length_map.{0, 0} (aa @Bool.not_true (aa @Bool.not_false (aa @Bool.false_eq_true (aa @decide_true (aa @decide_false (aa @Nat.zero_add (aa @List.replicate_zero.{0} @List.append_nil.{0}))))))))))))))))))))))))))))))))))))))))))))))))))))))))))))))))))))))))))))))))))))))))))))))))))))))))))))))))))))))))))))))))))))))))))))))
theorem QB{K:W.Frag}{f:MF}(h:∀ns:List Int,ns.length<=63->f [.scr ns]=some (.sh (.bl true))):∀vs H Q E,JY K vs H Q E->qr K f vs H Q E:=by
 rintro vs H Q E ⟨a,ns,rfl,hS,hl,q⟩;refine⟨H,[.scr ns],_,.refl _,.cons (.scr hS) .nil,h ns hl,λHf' H' v F _ _ _ _ r _ _=>?_⟩
 cases r.sh_inv.2;exact q H'
end Z
namespace Mr
open PySem PySem.Spec PyProof.Rows L2
section
variable {X:Cx}{tg:Expr}
def HR{α:Type}(P:α->Prop):List α->Prop
 | []=>True
 |a::l=>P a/\HR P l
theorem HR.mem{α:Type}{P:α->Prop}:∀{l:List α},HR P l->∀a∈l,P a
 | [],_,a,h=>by cases h
 |b::l,hp,a,h=>(ah.mp h).elim (λe=>e ▸ hp.1) (HR.mem hp.2 a)
theorem zQ.of{scope:jU}{cl:List (Str×Addr)}{x:Str}{N:List Str}{fr:List Nat}(h1:N.Nodup) (h2:N[0]?=some x) (h3:N.length=fr.length+1)
  (h4:HR (λp=>X.env.cells.lookup p.1=some p.2) cl) (h5:HR (λp=>(p.2 = .cell∨p.2 = .free)->∃c,cl.lookup p.1=some c) (ku scope X.env).names)
  (h6:HR (λp=>X.N[p.1]?=some p.2/\X.env.scope.names.lookup p.2=some .cell/\(ku scope X.env).names.lookup p.2=some .cell) (fr.zip (N.drop 1))):zQ X scope cl x N fr where
 names:=h1
 own:=h2
 len:=h3
 sub:=λy c e=>h4.mem (y,c) (PySem.mem_of_lookup e)
 has:=λy e=>by
  rcases e with e|e
  .exact h5.mem _ (PySem.mem_of_lookup e) (.inl rfl)
  .exact h5.mem _ (PySem.mem_of_lookup e) (.inr rfl)
 get:=λk j y e1 e2=>by
  have hm:(j,y)∈fr.zip (N.drop 1):=by
   refine mGq (i:=k) ?_;rw[gf];exact⟨e1,by rw[cH,gW];exact e2⟩
  exact h6.mem _ hm
end
end Mr
namespace Z
open PySem L2 Mr
def Zq(k:MK):MI:=λS=>(rh k S).bind λy=>(qo (nM y.1)).map λds=>(ds.reverse,y.2)
section
variable {K:W.Frag}{tf:TT}{te:TE}{mf:MT}{me:MK}{fr:List Nat}
def Xu(a b:ME):ME:=λS=>(a S).bind λx=>(b x.2).bind λy=>(AA x.1).bind λkvs=>(tZ y.1).map λkey=>((getD kvs key).getD .non,y.2)
end
theorem Uk(ds:List (oD×D)):FQ [.dict ds]=some (.int ds.length):=rfl
def YD:=@Uk
end Z
namespace Mr
open PySem PySem.W PySem.Spec PyProof.Rows L2
abbrev g2(K:W.Frag):TG:=Il K 2 (wc (qt 0) (wc (qt 1) HG))
end Mr
namespace Z
open PySem L2 Mr
theorem PV(c:MT) (body:MS) (n:Nat) (S:AS):rp c body (n+1) S=(c S).bind λx=>if x.1=true then (body x.2).bind λo=>match o with
   | .nx S'=>rp c body n S'
   | .ct S'=>rp c body n S'
   | .bk S'=>some (.nx S')
   | .rt a=>some (.rt a)
  else some (.nx x.2):=rfl
end Z
namespace Z
open PySem L2 Mr Xe
inductive P5 where
 |ok (a:AV)|ex (c:Str) (fs:List (Str×Int))
abbrev FE:=List D->Option P5
def Rj(K:W.Frag) (Hf H:Hp) (Q:VK) (E:XK):P5->Prop
 | .ok a=>∀Hf' H' v F,ot Hf Hf'->ot H H'->ot Hf' H'->(∀b,Hf b=none->H b≠none->Hf' b=none)->oE K Hf' H' a v F->F.Nodup->(∀q∈F,H q=none)->Q v H'
 | .ex c fs=>∀Hf' H' e od,ot Hf Hf'->ot H H'->ot Hf' H'->(∀b,Hf b=none->H b≠none->Hf' b=none)->qb K Hf' (.exc c fs) (.ref e)->E (.ref e) od H'
def K8(K:W.Frag) (f:FE):Sp:=λvs H Q E=>∃(Hf:Hp) (ds:List D) (r:P5),ot Hf H/\oX K Hf ds vs/\f ds=some r/\Rj K Hf H Q E r
def WG:P5->Option AV
 | .ok a=>some a
 |_=>none
def okX(f:FE):MF:=λds=>(f ds).bind WG
theorem Tg{K:W.Frag}{f:FE}{vs:List V}{H:Hp}{Q:VK}{E:XK}(h:qr K (okX f) vs H Q E):K8 K f vs H Q E:=by
 obtain⟨Hf,ds,a,s,r,e,q⟩:=h;obtain⟨z,e1,e2⟩:=oBq.mp e;cases z with
 |ok b=>cases e2;exact⟨Hf,ds,_,s,r,e1,q⟩
 |ex c fs=>cases e2
inductive zf where
 |ok (o:A6)|ex (c:Str) (fs:List (Str×Int))
abbrev MX:=AS->Option zf
def Co(K:W.Frag) (H₀ Hf₀ Hf:Hp) (D:tY) (E:XK):zf->Prop
 | .ok o=>zk K H₀ Hf₀ Hf D o
 | .ex c fs=>∀Hf' H' e od,ot Hf₀ Hf'->ot H₀ H'->ot Hf' H'->(∀b,Hf₀ b=none->H₀ b≠none->Hf' b=none)->qb K Hf' (.exc c fs) (.ref e)->E (.ref e) od H'
theorem Co.mono{K:W.Frag}{H₀ Hf₀ Hf Hf':Hp}{D:tY}{E:XK}{o:zf}(s:ot Hf Hf') (h:Co K H₀ Hf₀ Hf D E o):Co K H₀ Hf₀ Hf' D E o:=by
 cases o with
 |ok o=>exact zk.mono s h
 |ex c fs=>exact h
def OV(K:W.Frag) (E:XK) (t:TS) (m:MX):Prop:=∀{H₀ Hf₀ Hf:Hp}{S:AS}{σ:St}{H:Hp}{Fs:List (List Addr)}{o:zf},oH K H₀ Hf₀ Hf S σ H Fs->m S=some o->∀D:tY,Co K H₀ Hf₀ Hf D E o->t D σ H
def Mm(m:MS):MX:=λS=>(m S).map .ok
def Dp(a b:MX):MX:=λS=>(a S).bind λo=>match o with
 | .ok (.nx S')=>b S'
 |o=>some o
def WS(c:MT) (a b:MX):MX:=λS=>(c S).bind λx=>if x.1=true then a x.2 else b x.2
def Xc(c fld:Str) (a:ML):MX:=λS=>(a S).bind λx=>match x.1 with
 | [.int n]=>some (.ex c [(fld,n)])
 |_=>none
section
variable {K:W.Frag}{E:XK}{t u:TS}{m n:MS}{a b:MX}{tt:TT}{c:MT}{ta:TA}
theorem wB(h:SS K t m):OV K E t (Mm m):=by
 intro H₀ Hf₀ Hf S σ H Fs o R e D q;obtain⟨z,e1,e2⟩:=oMq.mp e;subst e2;exact h R e1 D q
theorem vc(ha:OV K E t a) (hb:OV K E u b):OV K E (xQ t u) (Dp a b):=by
 intro H₀ Hf₀ Hf S σ H Fs o R e D q;obtain⟨z,e1,e2⟩:=oBq.mp e;refine ha R e1 { D with nx:=u D } ?_
 cases z with
 |ok z =>
  cases z with
  |nx S'=>exact λHf' σ' H' Fs' s R'=>hb R' e2 D (q.mono s)
  |bk S'=>cases e2;exact q
  |ct S'=>cases e2;exact q
  |rt a=>cases e2;exact q
 |ex c fs=>cases e2;exact q
theorem Tu(hc:BQ K tt c) (ha:OV K E t a) (hb:OV K E u b):OV K E (Hw tt t u) (WS c a b):=by
 intro H₀ Hf₀ Hf S σ H Fs o R e D q;obtain⟨x,e1,e2⟩:=oBq.mp e;refine hc R (b:=x.1) (S':=x.2) e1 _ λHf1 H1 Fs1 t1 R1=>?_
 split at e2
 .rename_i hx;rw[oq hx];exact ha R1 e2 D (q.mono t1.sf)
 .rename_i hx;rw[oz hx];exact hb R1 e2 D (q.mono t1.sf)
end
def Hc(np n:Nat) (m:MX):FE:=λds=>if ds.length=np then (m (ds.map (λd=>some (.sh d))++aQ (n-ds.length) none)).bind λo=>match o with
  | .ok (.rt a)=>some (.ok a)
  | .ok (.nx _)=>some (.ok (.sh .non))
  | .ex c fs=>some (.ex c fs)
  |_=>none
 else none
theorem Dx{K:W.Frag}{t:TS}{m:MX}{np:Nat}(N:List Str) {E:XK}(h:OV K E t m) {vs:List V}{H:Hp}{Q:VK}(hs:K8 K (Hc np N.length m) vs H Q E):t { nx:=λ_ H'=>Q .non H',rt:=Q } (L2.rN N vs) H:=by
 obtain⟨Hf,ds,r,s,rr,e,q⟩:=hs;unfold Hc at e;split at e
 .obtain ⟨o,e1,e2⟩:=oBq.mp e;refine h (Eh N s rr) e1 _ ?_;cases o with
  |ok o =>
   cases o with
   |rt a'=>cases e2;exact λHf' H' v F s1 s2 s3 l r nd fr=>q Hf' H' v F s1 s2 s3 l r nd fr
   |nx S'=>cases e2;exact λHf' σ' H' Fs' s1 R=>q Hf' H' .non [] R.sf R.fr R.sub R.lim (.sh .non) aZ λq h=>(by cases h)
   |bk S'=>cases e2
   |ct S'=>cases e2
  |ex c fs=>cases e2;exact q
 .cases e
theorem Jq{K:W.Frag}{m:MX}{np n:Nat}{vs:List V}{H:Hp}{Q:VK}{E:XK}(hs:K8 K (Hc np n m) vs H Q E):vs.length=np:=by
 obtain⟨Hf,ds,a,s,r,e,q⟩:=hs;unfold Hc at e;split at e
 .rename_i h;rw[←r.1,h]
 .cases e
abbrev MH:=Str->List (Str×Int)->MS
def SH(K:W.Frag) (th:XH) (hm:MH):Prop:=∀{H₀ Hf₀ Hf:Hp}{S:AS}{σ:St}{H:Hp}{Fs:List (List Addr)}{o:A6}{c:Str}{fs:List (Str×Int)}{e:Addr},oH K H₀ Hf₀ Hf S σ H Fs->hm c fs S=some o ->
 qb K Hf (.exc c fs) (.ref e)->∀D:tY,zk K H₀ Hf₀ Hf D o->∀C M od,Ea K c C M->H e=some (FD e C od)->th e C od D σ H
def AR(c c':Str):Bool:=decide (c'=c∨c' = "MapError")
def Zf(i:Nat):A6->A6
 | .nx S=>.nx (S.set i none)
 | .bk S=>.bk (S.set i none)
 | .ct S=>.ct (S.set i none)
 | .rt a=>.rt a
def Zp(c':Str) (i:Nat) (mb:MS) (rest:MH):MH:=λc fs S=>if AR c c'=true then (mb (S.set i (some (.sh (.exc c fs))))).map (Zf i) else rest c fs S
def WD(c':Str) (mb:MS) (rest:MH):MH:=λc fs S=>if AR c c'=true then mb S else rest c fs S
def VD:MH:=λ_ _ _=>none
theorem Ea.mro{K:W.Frag}{c c':Str}{C M C':Addr}(rf:Ea K c C M) (h:VM K c' C'):W.mroIn K C (.ref C')=some (AR c c'):=by
 obtain⟨_,⟨cd,hcd,hm,hn⟩,_⟩:=Cq rf.xc;unfold W.mroIn;rw[hcd,fh,hm];simp only[hU,eC,if_false,aT.injEq];have key:(aE C::aE M::Dd).contains (aE C')=decide (C'=C∨C'=M):=by
  have e1:Dd.contains (aE C')=false:=by simp[Dd]
  rw[cI,cI,e1]
  by_cases h1:C'=C
  .simp [h1]
  .by_cases h2:C'=M
   .simp [h2]
   .have a1:(aE C' == aE C)=false:=by simp[h1]
    have a2:(aE C' == aE M)=false:=by simp[h2]
    rw[a1,a2];simp[h1,h2]
 rw[key];unfold AR;rcases h with ⟨hnm,⟨M',rf'⟩|⟨hc,hx⟩⟩
 .obtain rfl:M=M':=by have z:=rf.nmM.symm.trans rf'.nmM;simpa using z
  have n1:C'≠M:=λz=>by subst z;have y:=(IZ rf'.xc rf.xm).2;simp at y
  have n2:c' ≠ "MapError" := λz=>by subst z;have y:=rf'.nm.symm.trans rf.nmM;simp at y;exact n1 y
  by_cases hc:c'=c
  .subst hc;have y:=(rf.one rf').1;simp[y]
  .have n3:C'≠C:=λz=>by subst z;exact hc ((IZ rf'.xc rf.xc).1)
   simp[n1,n2,n3,hc]
 .subst hc;obtain rfl:M=C':=by have z:=rf.nmM.symm.trans hnm;simpa using z
  simp
section
variable {K:W.Frag}{tb:TS}{mb:MS}{tr:XH}{mr:MH}{c':Str}{C':Addr}{i:Nat}
theorem PK{H:Hp}{c:Str}{fs:List (Str×Int)}{e:Addr}(r:qb K H (.exc c fs) (.ref e)):∃C M od,Ea K c C M/\H e=some (FD e C od):=by
 cases r with
 |exc rf nf h hx=>exact⟨_,_,_,rf,h⟩
 |exc0 rf h=>exact⟨_,_,_,rf,h⟩
theorem VA(hC:VM K c' C') (hb:SS K tb mb) (hr:SH K tr mr):SH K (X1 K C' tb tr) (WD c' mb mr):=by
 intro H₀ Hf₀ Hf S σ H Fs o c fs e R eq rx D q C M od rf hA;unfold WD at eq;split at eq
 .rename_i hu;refine⟨c,M,true,rf,by rw[Ea.mro rf hC,hu],?_⟩
  rw[oq rfl];exact hb R eq D q
 .rename_i hu;refine⟨c,M,false,rf,by rw[Ea.mro rf hC,hV.mpr hu],?_⟩
  rw[oz (by decide)]
  exact hr R eq rx D q C M od rf hA
theorem TK:SH K UE VD:=by
 intro H₀ Hf₀ Hf S σ H Fs o c fs e R eq rx D q;cases eq
end
def M8(f:FE) (a:MA) (hm:MH):MS:=λS=>(a S).bind λx=>(f (x.1.map nM)).bind λr=>match r with
 | .ok _=>some (.nx x.2)
 | .ex c fs=>hm c fs x.2
def Yx(i:Nat) (f:FE) (a:MA) (hm:MH):MS:=λS=>(a S).bind λx=>(f (x.1.map nM)).bind λr=>match r with
 | .ok r=>some (.nx (x.2.set i (some r)))
 | .ex c fs=>hm c fs x.2
section
variable {K:W.Frag}{ta:TA}{a:MA}{f:FE}{th:XH}{hm:MH}{i:Nat}
theorem yx{H₀ Hf₀ Hf1 H1 Hf' H':Hp}{S:AS}{σ:St}{Fs1:List (List Addr)}(R2:oH K H₀ Hf₀ Hf1 S σ H1 Fs1) (s1:ot Hf1 Hf') (s2:ot H1 H') (s3:ot Hf' H') (l:∀b,Hf1 b=none->H1 b≠none->Hf' b=none):oH K H₀ Hf₀ Hf' S σ H' Fs1 :=
 R2.more s2 s1 s3 (λq hq=>l q (R2.mem hq).2 (R2.mem hq).1) λb h1 h2=>l b (R2.lim b h1 h2) (En R2.fr h2)
theorem PR(ha:SA K ta a) (hh:SH K th hm):SS K (Rv (K8 K f) ta th) (M8 f a hm):=by
 intro H₀ Hf₀ Hf S σ H Fs o R e D q;obtain⟨x,e1,e⟩:=oBq.mp e;obtain⟨r,e2,e⟩:=oBq.mp e;refine ha R (as:=x.1) (S':=x.2) e1 _ λHf1 H1 Fs1 vs Gs t1 R1 r1 o1=>?_
 obtain⟨R2,r2,t2⟩:=R1.gives t1 r1 o1;refine⟨_,_,r,R2.sub,r2,e2,?_⟩;cases r with
 |ok av=>cases e;exact λHf' H' v F s1 s2 s3 l ra nd fr=>q _ _ _ _ (t2.sf.trans s1) (yx R2 s1 s2 s3 l)
 |ex c fs =>
  intro Hf' H' ex od s1 s2 s3 l rx e0 he;cases he;have R3:=yx R2 s1 s2 s3 l;obtain⟨C,M,od',rf,hA⟩:=PK rx;exact⟨C,od',R3.sub _ _ hA,hh R3 e rx D (q.mono (t2.sf.trans s1)) C M od' rf (R3.sub _ _ hA)⟩
end
def Yp(f:Str):D->Option D
 | .exc _ fs=>(fs.lookup f).map .int
 |_=>none
section
variable {K:W.Frag}{te:TE}{m:ME}{f:Str}
def YY(c:Str):ME:=λS=>some (.cls c,S)
def NQ(c:Str):D->Option Bool
 | .cls c'=>some (AR c c')
 | .ty T=>if T = "ValueError" then some true else none
 |_=>none
def GF(c:Str):List D->Option Bool
 | []=>some false
 |d::ds=>(NQ c d).bind λb=>(GF c ds).map λb2=>b || b2
def YZ:List D->Option D
 | [.exc c _,.tup ds]=>(GF c ds).map .bl
 | [.exc c _,d]=>(NQ c d).map .bl
 |_=>none
end
def kD:oD->D
 | .inl i=>.int i
 | .inr x=>.str x
def HX(x y:Nat) (body:MS):List (oD×D)->AS->Option A6
 | [],S=>some (.nx S)
 |p::ps,S=>(body ((S.set x (some (.sh (kD p.1)))).set y (some (.sh p.2)))).bind λo=>match o with
  | .nx S'=>HX x y body ps S'
  | .ct S'=>HX x y body ps S'
  | .bk S'=>some (.nx S')
  | .rt a=>some (.rt a)
def X2(x y:Nat) (k:MK) (body:MS):MS:=λS=>(k S).bind λz=>(Oo z.1).bind λkvs=>HX x y body kvs z.2
section
variable {K:W.Frag}{te tf:TE}{k:MK}{tb:TS}{body:MS}{x y:Nat}
def Xg(a:ME):MK:=λS=>(a S).bind λx=>(AA x.1).map λkvs=>(.ow (kvs.map λp=>.sh (kD p.1)),x.2)
end
structure Xb (K:W.Frag) (mg:Str->Option Value) (cn:Str) (C:Addr) (bm:List Value):Prop where
 c:VM K cn C
 xc:yC K cn C bm=true
 base:bm.contains (.type "BaseException")=true
 mgc:mg cn=some (.ref C)
theorem Uo(M:Addr):(aE M::Dd).contains (.type "BaseException")=true:=by rw[cI,show Dd.contains (eU "BaseException")=true by decide,gv]
section
variable {K:W.Frag}{h:Heap}{mg:Str->Option Value}{c:Str}{C M:Addr}
theorem TQ(a:W.nsIn K jd c=some (some (.ref C))) (aM:W.nsIn K jd "MapError" = some (some (.ref M))) (x:yC K c C (.ref M::Dd)=true) (xM:yC K "MapError" M Dd=true) (l:WV K C=true):Ea K c C M:=⟨a,aM,x,xM,l⟩
theorem PM(X:K.In h) (G:h.Ns jd mg) (aM:W.nsIn K jd "MapError" = some (some (.ref M))) (xM:yC K "MapError" M Dd=true):Xb K mg "MapError" M Dd:=⟨⟨aM,.inr ⟨rfl,xM⟩⟩,xM,by decide,W.mg_of X G aM⟩
end
theorem Tr{X:Cx}{k:Nat}{f:Addr}{fd:jl}{ps:List Str}{x:Str}{p pos:Pos}{e:Expr}{es:List Expr}{t:TA}{st:Stmt}{g:FE}(G:Pa X.prog X.w X.K X.mg X.base k x st ps (K8 X.K g) f fd) (hr:tm k X.A) (ha:PA X (e::es) t) (hg:Gl X x:=by rfl) (hdb:(x == ("__debug__" : Str))=false:=by decide)
  (he:jh (e::es) X.env=(false,eval e X.env)::jh es X.env:=by rfl) (hpl:(jH pos (jh es X.env)).any (·.1)=false:=by rfl) :
  PE X (.Call (.Name x p) (e::es) [] pos) (A7 (qr X.K (okX g)) [] E0 t):=Fi (G.ok.imp λ_ _ _ _ h=>Tg h) hr hg G.D.m G.D.F.kp G.D.b .nil Uw ha hdb he hpl
def YR(c:Str):MK:=λS=>some (.sh (.cls c),S)
def Ju:Option zf->MX->Option zf
 |none,_=>none
 |some (.ok (.nx S)),b=>b S
 |some o,_=>some o
def Wx(c fld:Str):List D->Option zf
 | [.int n]=>some (.ex c [(fld,n)])
 |_=>none
def JZ:zf->Option P5
 | .ok (.rt a)=>some (.ok a)
 | .ok (.nx _)=>some (.ok (.sh .non))
 | .ex c fs=>some (.ex c fs)
 |_=>none
def S9(hm:MH) (S:AS):P5->Option A6
 | .ok _=>some (.nx S)
 | .ex c fs=>hm c fs S
def Y7(i:Nat) (hm:MH) (S:AS):P5->Option A6
 | .ok r=>some (.nx (S.set i (some r)))
 | .ex c fs=>hm c fs S
variable (S:AS)
theorem WU(m:MS):Mm m S=(m S).map .ok:=rfl
theorem LW(b:MX):Ju (some (.ok (.nx S))) b=b S:=rfl
theorem MZ(a:AV) (b:MX):Ju (some (.ok (.rt a))) b=some (.ok (.rt a)):=rfl
theorem MM(c:Str) (fs:List (Str×Int)) (b:MX):Ju (some (.ex c fs)) b=some (.ex c fs):=rfl
theorem V7(a b:MX):Dp a b S=Ju (a S) b:=by
 show (a S).bind _=_;cases a S with
 |none=>rfl
 |some o =>
  cases o with
  |ok o=>cases o <;> rfl
  |ex c fs=>rfl
theorem Xn(c:MT) (a b:MX):WS c a b S=(c S).bind λx=>if x.1=true then a x.2 else b x.2:=rfl
theorem Nq(a:AV):JZ (.ok (.rt a))=some (.ok a):=rfl
theorem NR:JZ (.ok (.nx S))=some (.ok (.sh .non)):=rfl
theorem Lw(c:Str) (fs:List (Str×Int)):JZ (.ex c fs)=some (.ex c fs):=rfl
theorem V0(np n:Nat) (m:MX) (ds:List D):Hc np n m ds=if ds.length=np then (m (ds.map (λd=>some (.sh d))++aQ (n-ds.length) none)).bind JZ else none:=by
 show (if ds.length=np then (m _).bind _ else none)=_
 first|rfl|(congr 2;funext o;cases o with
 |ok o=>cases o <;> rfl
 |ex c fs=>rfl)
theorem RO(f:FE) (ds:List D):okX f ds=(f ds).bind WG:=rfl
theorem Qh(hm:MH) (a:AV):S9 hm S (.ok a)=some (.nx S):=rfl
theorem Pl(hm:MH) (c:Str) (fs:List (Str×Int)):S9 hm S (.ex c fs)=hm c fs S:=rfl
theorem Sa(f:FE) (a:MA) (hm:MH):M8 f a hm S=(a S).bind λx=>(f (x.1.map nM)).bind (S9 hm x.2):=by
 show (a S).bind _=_;congr 1
theorem W4(c':Str) (mb:MS) (rest:MH) (c:Str) (fs:List (Str×Int)):WD c' mb rest c fs S=if AR c c'=true then mb S else rest c fs S:=rfl
theorem HA(c:Str):AR c c=true:=by simp[AR]
def Y3:=aa @WU (aa @LW (aa @MZ (aa @MM (aa @V7 (aa @Xn (aa @Nq (aa @NR (aa @Lw (aa @V0 (aa @RO (aa @Qh (aa @Pl (aa @Sa (aa @W4 @HA))))))))))))))
def Mz(x:Nat) (body:MX):List D->AS->Option zf
 | [],S=>some (.ok (.nx S))
 |d::ds,S=>(body (S.set x (some (.sh d)))).bind λo=>match o with
  | .ok (.nx S')=>Mz x body ds S'
  | .ok (.ct S')=>Mz x body ds S'
  | .ok (.bk S')=>some (.ok (.nx S'))
  | .ok (.rt a)=>some (.ok (.rt a))
  | .ex c fs=>some (.ex c fs)
def Za(x:Nat) (k:MK) (body:MX):MX:=λS=>(rh k S).bind λy=>(qo (nM y.1)).bind λds=>Mz x body ds y.2
def CD(f:AV->Option zf):P5->Option zf
 | .ok r=>f r
 | .ex c fs=>some (.ex c fs)
def OM(f:FE) (a:MA):MX:=λS=>(a S).bind λx=>(f (x.1.map nM)).bind (CD λ_=>some (.ok (.nx x.2)))
def Y5(i:Nat) (f:FE) (a:MA):MX:=λS=>(a S).bind λx=>(f (x.1.map nM)).bind (CD λr=>some (.ok (.nx (x.2.set i (some r)))))
def EF(c:Str):MX:=λ_=>some (.ex c [])
section
variable {K:W.Frag}{E:XK}{te:TE}{tb:TS}{k:MK}{body:MX}{x:Nat}{ta:TA}{a:MA}{f:FE}
theorem QR{H₀ Hf₀ Hf:Hp}{S':AS}{σ:St}{o:zf}{D:tY}{Hf1 H1:Hp}{Fs1:List (List Addr)}{r:P5}{g:AV->Option zf}{Q:VK}(R2:oH K H₀ Hf₀ Hf1 S' σ H1 Fs1) (e:CD g r=some o) (s0:ot Hf Hf1)
  (q:Co K H₀ Hf₀ Hf D E o) (hg:∀av,g av=some o->∀Hf' H' v F,ot Hf1 Hf'->oH K H₀ Hf₀ Hf' S' σ H' Fs1->oE K Hf' H' av v F->F.Nodup->(∀p∈F,H1 p=none)->Q v H'):Rj K Hf1 H1 Q E r:=by
 cases r with
 |ok av=>exact λHf' H' v F s1 s2 s3 l ra nd fr=>hg av e Hf' H' v F s1 (yx R2 s1 s2 s3 l) ra nd fr
 |ex c fs =>
  cases e;intro Hf' H' ex od s1 s2 s3 l rx;have R3:=yx R2 s1 s2 s3 l;exact q Hf' H' ex od R3.sf R3.fr R3.sub R3.lim rx
theorem Nc(ha:SA K ta a):OV K E (vV (A7 (K8 K f) [] E ta)) (OM f a):=by
 intro H₀ Hf₀ Hf S σ H Fs o R e D q;obtain⟨x,e1,e⟩:=oBq.mp e;obtain⟨r,e2,e⟩:=oBq.mp e;refine ha R (as:=x.1) (S':=x.2) e1 _ λHf1 H1 Fs1 vs Gs t1 R1 r1 o1=>?_
 obtain⟨R2,r2,t2⟩:=R1.gives t1 r1 o1;rw[aNq];exact⟨_,_,r,R2.sub,r2,e2,QR R2 e t2.sf q λav z Hf' H' v F s1 R' ra nd fr=>by cases z;exact q _ _ _ _ (t2.sf.trans s1) R'⟩
theorem Iu{cn:Str}{C M:Addr}(rf:Ea K cn C M):OV K E (Yy E C (Vf K cn)) (EF cn):=by
 intro H₀ Hf₀ Hf S σ H Fs o R e D q;cases e;refine⟨C,M,rf,λex n1=>⟨ex,none,rfl,nZ,?_⟩⟩
 rw[Pe];have nf1:Hf ex=none:=R.sub.free n1;refine q (upd Hf ex (FD ex C none)) _ ex none (R.sf.trans (sJ nf1)) (R.fr.trans (sJ n1)) (λb o' z=>?_) (λb z1 z2=>?_) (.exc0 rf nZ)
 .by_cases hb:b=ex
  .subst hb;rw[nZ]at z ⊢;exact z
  .rw [nV hb]at z ⊢;exact R.sub b o' z
 .have h1:b≠ex:=λz=>z2 (by rw[z];exact R.fr.free n1)
  rw[nV h1];exact R.lim b z1 z2
def Xp(c fld:Str) (S:AS):List D->Option (D×AS)
 | [.int n]=>some (.exc c [(fld,n)],S)
 |_=>none
def Zj(c fld:Str) (a:ML):ME:=λS=>(a S).bind λx=>Xp c fld x.2 x.1
def Xi(c f1 f2:Str) (S:AS):List D->Option (D×AS)
 | [.int n,.int m]=>some (.exc c [(f1,n),(f2,m)],S)
 |_=>none
def YV(c f1 f2:Str) (a:ML):ME:=λS=>(a S).bind λx=>Xi c f1 f2 x.2 x.1
def Zd:D->D->Option D
 | .tup [.str u,.int i],.tup [.str v,.int j]=>some (.bl (decide (u=v/\i=j)))
 |_,_=>none
def YG:D->D->Option D
 | .tup [.str u,.int i],.tup [.str v,.int j]=>some (.bl (!decide (u=v/\i=j)))
 |_,_=>none
end
theorem T7{X:Cx}{E:XK}{k:Nat}{f:Addr}{fd:jl}{ps:List Str}{x:Str}{p pos:Pos}{e:Expr}{es:List Expr}{t:TA}{st:Stmt}{g:FE}(G:Pa X.prog X.w X.K X.mg X.base k x st ps (K8 X.K g) f fd) (hr:tm k X.A) (hx:An (Qe X.prog X.w) X E) (ha:PA X (e::es) t) (hg:Gl X x:=by rfl) (hdb:(x == ("__debug__" : Str))=false:=by decide)
  (he:jh (e::es) X.env=(false,eval e X.env)::jh es X.env:=by rfl) (hpl:(jH pos (jh es X.env)).any (·.1)=false:=by rfl) :
  PE X (.Call (.Name x p) (e::es) [] pos) (A7 (K8 X.K g) [] E t):=Fi G.ok hr hg G.D.m G.D.F.kp G.D.b .nil hx ha hdb he hpl
structure Lj (K:W.Frag) (mg:Str->Option Value) (cn:Str) (C M:Addr):Prop where
 c:VM K cn C
 xc:yC K cn C (.ref M::Dd)=true
 base:(aE M::Dd).contains (.type "BaseException")=true
 mgc:mg cn=some (.ref C)
 i:VC K mg cn C M
theorem Po{K:W.Frag}{h:Heap}{mg:Str->Option Value}{c:Str}{C M:Addr}(X:K.In h) (G:h.Ns jd mg) (r:Ea K c C M) (ini:W.findIn K (.ref C) "__init__" = some (some (.builtin "ValueError.__init__"))) (kp:W.keepIn K (.ref C)=true):Lj K mg c C M :=
 ⟨⟨r.nm,.inl ⟨M,r⟩⟩,r.xc,Uo M,W.mg_of X G r.nm,⟨r,ini,kp,W.mg_of X G r.nm⟩⟩
theorem My(g:AV->Option zf) (r:AV):CD g (.ok r)=g r:=rfl
theorem MY(g:AV->Option zf) (c:Str) (fs:List (Str×Int)):CD g (.ex c fs)=some (.ex c fs):=rfl
theorem SI(S:AS) (f:FE) (a:MA):OM f a S=(a S).bind λx=>(f (x.1.map nM)).bind (CD λ_=>some (.ok (.nx x.2))):=rfl
theorem MU(S:AS) (c:Str):EF c S=some (.ex c []):=rfl
def YI:=aa @My (aa @MY (aa @SI @MU))
def Ij(x y:D):Option D:=match y with
 | .non=>(match x with|.non=>some (.bl true)|.int _=>some (.bl false)|.str _=>some (.bl false)|.bl _=>some (.bl false)|.list _=>some (.bl false)|.tup _=>some (.bl false)|_=>none)
 |_=>none
section
variable {K:W.Frag}
theorem Ie:Bx K (λx y H Q=>y = .non/\Q (.bl (decide (x = .non))) H) Ij:=by
 intro x y H Q dx dy d rx ry e q;unfold Ij at e;cases ry <;> first|(cases e;done)|skip
 cases rx <;> first|(cases e;done)|(cases e;exact⟨rfl,q _ (by simpa using qb.bl)⟩)
end
def SM(K:W.Frag) (te:TE) (m:ME):Prop:=∀{H₀ Hf₀ Hf:Hp}{S:AS}{σ:St}{H:Hp}{Fs:List (List Addr)}{d:D}{S':AS},oH K H₀ Hf₀ Hf S σ H Fs->m S=some (d,S')->∀Q:VK,
 (∀Hf' H' Fs' v,ot Hf Hf'->oH K H₀ Hf₀ Hf' S' σ H' Fs'->qb K Hf' d v->Q v H')->te σ H Q
def Sy:AV->Option D
 | .sh d=>some d
 |_=>none
theorem Lr{a:AV}{d:D}(h:Sy a=some d):a = .sh d:=by
 unfold Sy at h;split at h <;> cases h
 rfl
def zK(i:Nat) (b:ME):ME:=λS=>(pM S i).bind λ_=>(b S).bind λy=>(intOf y.1).bind λz=>(pM y.2 i).bind λavs=>tP (0<=z/\z<avs.length/\avs.length<=qW) ((avs[z.toNat]?.bind Sy).map λd=>(d,y.2.set i (some (.ow (avs.eraseIdx z.toNat)))))
def vg(i:Nat):ME:=λS=>(pM S i).bind λavs=>(avs[avs.length-1]?.bind Sy).map λd=>(d,S.set i (some (.ow avs.dropLast)))
def Vd(kvs:List (oD×D)) (k:oD):List (oD×D):=kvs.filter λkv=>decide (kv.1≠k)
def Yu(i:Nat) (b:ME):ME:=λS=>(xf S i).bind λ_=>(b S).bind λy=>(tZ y.1).bind λkey=>(xf y.2 i).bind λkvs=>(getD kvs key).map λd=>(d,y.2.set i (some (.owd (Vd kvs key))))
section
variable {K:W.Frag}
theorem oJ.erase{Hf H:Hp}{as:List AV}{vs:List V}{Gs:List (List Addr)}(r:oJ K Hf H as vs Gs) (k:Nat):oJ K Hf H (as.eraseIdx k) (vs.eraseIdx k) (Gs.eraseIdx k):=by
 obtain⟨h1,h2,h3⟩:=r;refine⟨by rw[dP,dP,h1],by rw[dP,dP,h2],λi b w G e1 e2 e3=>?_⟩
 rw[List.getElem?_eraseIdx]at e1 e2 e3;split at e1
 .rename_i q;rw[oq q]at e2 e3;exact h3 i b w G e1 e2 e3
 .rename_i q;rw[oz q]at e2 e3;exact h3 (i+1) b w G e1 e2 e3
theorem HV{Gs:List (List Addr)}{k:Nat}(h:Gs[k]?=some []):(Gs.eraseIdx k).flatten=Gs.flatten:=by
 induction Gs generalizing k with
 |nil=>cases h
 |cons g r ih =>
  cases k with
  |zero =>
   simp at h;subst h;rfl
  |succ k =>
   rw[cB,fCq,fCq,ih (by simpa using h)]
theorem oH.lose{H₀ Hf₀ Hf H:Hp}{S:AS}{σ:St}{Fs:List (List Addr)}(R:oH K H₀ Hf₀ Hf S σ H Fs) {i k:Nat}{avs:List AV}{d:D}(h:S[i]?=some (some (.ow avs))) (hk:avs[k]?=some (.sh d)) :
  ∃p vs y F',σ[i]?=some (some (.ref p))/\H p=some (.lst vs)/\avs.length=vs.length/\vs[k]?=some y/\qb K Hf d y/\oH K H₀ Hf₀ Hf (S.set i (some (.ow (avs.eraseIdx k)))) σ (upd H p (.lst (vs.eraseIdx k))) (Fs.set i F'):=by
 obtain⟨p,vs,Gs,s1,s2,h1,h2,h3,h4,h5,h6⟩:=R.ow h;have lk:k<avs.length:=(gSq.mp hk).1;obtain⟨y,hy⟩:∃y,vs[k]?=some y:=⟨_,gEg (by rw[←h3.1];exact lk)⟩
 obtain⟨G,hG⟩:∃G,Gs[k]?=some G:=⟨_,gEg (by rw[←h3.2.1];exact lk)⟩
 obtain⟨hG0,ry⟩:=(h3.2.2 k _ _ _ hk hy hG).sh_inv;subst hG0;have hf:=HV hG;refine⟨p,vs,y,p::(Gs.eraseIdx k).flatten,s1,h1,h3.1,hy,ry,R.turn s1 s2 (by simp) (oE.news nZ h2 ((h3.keepUpd h4).erase k)) ?_ ?_⟩
 .rw [hf];exact ax.mpr ⟨h4,h5⟩
 .rw [hf];exact h6
theorem LU{i:Nat}{tb:TE}{b:ME}(hb:SR K tb b):SM K (KN K "list" MC (uY i) (rM tb vw)) (zK i b):=by
 intro H₀ Hf₀ Hf S σ H Fs d S' R e Q q;obtain⟨a0,e0,e⟩:=oBq.mp e;obtain⟨y,e1,e⟩:=oBq.mp e;obtain⟨z,e2,e⟩:=oBq.mp e;obtain⟨avs,e3,e⟩:=oBq.mp e;rcases oj e with ⟨⟨z0,z1,z2⟩,e⟩|e
 .obtain ⟨d',e4,e⟩:=oMq.mp e;cases e;obtain⟨a,e4,e5⟩:=oBq.mp e4;have e5:=Lr e5;subst e5;obtain⟨p,vs,Gs,s1,_,h1,_⟩:=R.ow (nW e0);refine⟨.ref p,s1,.inl ⟨rfl,vs,qC.of h1⟩,hb R (d:=y.1) (S':=y.2) e1 _ λHf1 H1 Fs1 v t1 R1 r1=>?_⟩
  obtain⟨p',vs',w,F',s1',hp,hl,hw,rw',R2⟩:=R1.lose (nW e3) e4;rw[s1]at s1';cases s1';have hv:v = .int z:=by
   have:y.1 = .int z:=by
    revert e2
    unfold intOf;split <;> intro e2 <;> cases e2
    assumption
   rw[this]at r1;cases r1;rfl
  subst hv;have hz:(avs.length:Int)<=16777216:=by
   have:avs.length<=16777216:=z2;lia
  refine⟨p,vs',z,z.toNat,w,rfl,rfl,hp,by lia,by lia,?_,hw,q _ _ _ _ t1.sf R2 rw'⟩
  rw[←hl];unfold lN;have n1:¬ z<0:=by lia
  have n2:(decide (0<=z) && decide (z<(avs.length:Int)))=true:=by
   rw[decide_eq_true z0,decide_eq_true z1];rfl
  simp only[n1,if_false];exact oq n2
 .cases e
theorem RD{i:Nat}:SM K (KN K "list" Qm (uY i) vw) (vg i):=by
 intro H₀ Hf₀ Hf S σ H Fs d S' R e Q q;obtain⟨avs,e0,e⟩:=oBq.mp e;obtain⟨d',e4,e⟩:=oMq.mp e;cases e;obtain⟨a,e4,e5⟩:=oBq.mp e4;have e5:=Lr e5;subst e5;obtain⟨p,vs,w,F',s1,hp,hl,hw,rw',R2⟩:=R.lose (nW e0) e4;refine⟨.ref p,s1,.inl ⟨rfl,vs,qC.of hp⟩,p,vs,w,rfl,rfl,hp,by rw[←hl];exact hw,?_⟩
 rw[uU,hl,uU]at R2;exact q _ _ _ _ (.refl _) R2 rw'
def AZ(i:Nat) (m:ME):MS:=λS=>(m S).map λx=>.nx (x.2.set i (some (.sh x.1)))
theorem Jb{i:Nat}{te:TE}{m:ME}(h:SM K te m):SS K (Au te (qt i)) (AZ i m):=by
 intro H₀ Hf₀ Hf S σ H Fs o R e D hd;obtain⟨x,e1,e⟩:=oMq.mp e;cases e;refine h R (d:=x.1) (S':=x.2) e1 _ λHf1 H1 Fs1 v t1 R1 r1=>?_
 exact hd _ _ _ _ t1 (R1.setD i r1)
def Yc(i:Nat) (m:ME):MS:=λS=>(pM S i).bind λ_=>(m S).bind λx=>(pM x.2 i).bind λavs=>tP (avs.length<qW) (some (.nx (x.2.set i (some (.ow (avs++[.sh x.1]))))))
def XO(i:Nat) (b:ME) (m:ME):MS:=λS=>(m S).bind λx=>(xf x.2 i).bind λ_=>(b x.2).bind λy=>(xf y.2 i).bind λkvs=>(tZ y.1).bind λkey =>
 tP (kvs.length<qW) (some (.nx (y.2.set i (some (.owd (xj kvs key x.1))))))
end
theorem RY(d:D):Sy (.sh d)=some d:=rfl
theorem NA(S:AS) (i:Nat) (b:ME):zK i b S=(pM S i).bind λ_=>(b S).bind λy=>(intOf y.1).bind λz=>(pM y.2 i).bind λavs=>tP (0<=z/\z<avs.length/\avs.length<=qW) ((avs[z.toNat]?.bind Sy).map λd=>(d,y.2.set i (some (.ow (avs.eraseIdx z.toNat))))):=rfl
theorem Uj(S:AS) (i:Nat):vg i S=(pM S i).bind λavs=>(avs[avs.length-1]?.bind Sy).map λd=>(d,S.set i (some (.ow avs.dropLast))):=rfl
theorem Uh(S:AS) (i:Nat) (m:ME):AZ i m S=(m S).map λx=>.nx (x.2.set i (some (.sh x.1))):=rfl
def YW:=aa @RY (aa @NA (aa @Uj @Uh))
def J9(x y:D):Option D:=match x with
 | .tup _=>BW x y
 |_=>zY x y
section
variable {K:W.Frag}
theorem NM:Bx K (λx y H Q=>K1 K x y H Q∨SX K x y H Q) J9:=by
 intro x y H Q dx dy d rx ry e q;unfold J9 at e;split at e
 .exact .inr (yR rx ry e q)
 .exact .inl (si rx ry e q)
theorem oJ.ins{Hf H:Hp}{as:List AV}{vs:List V}{Gs:List (List Addr)}{d:D}{v:V}(r:oJ K Hf H as vs Gs) (rv:qb K Hf d v) (n:Nat) (hn:n<=as.length):oJ K Hf H (as.take n ++ .sh d::as.drop n) (vs.take n++v::vs.drop n) (Gs.take n++[]::Gs.drop n):=by
 obtain⟨h1,h2,h3⟩:=r;have e1:(as.take n).length=n:=by rw[lTq];lia
 have e2:(vs.take n).length=n:=by rw[lTq];lia
 have e3:(Gs.take n).length=n:=by rw[lTq];lia
 refine⟨by simp[h1],by simp[h2],λi b w G g1 g2 g3=>?_⟩
 by_cases hi:i<n
 .rw [gZq (by lia),bD hi]at g1
  rw[gZq (by lia),bD hi]at g2
  rw[gZq (by lia),bD hi]at g3
  exact h3 i b w G g1 g2 g3
 .rw [gYq (by lia),e1]at g1
  rw[gYq (by lia),e2]at g2
  rw[gYq (by lia),e3]at g3
  cases hj:i-n with
  |zero =>
   rw[hj]at g1 g2 g3;simp at g1 g2 g3;subst g1;subst g2;subst g3;exact .sh rv
  |succ j =>
   rw[hj,List.getElem?_cons_succ,cH]at g1 g2 g3;exact h3 (n+j) b w G g1 g2 g3
end
def Wn:D->String->Option D
 | .int _,T=>if T = "list" ∨ T = "tuple" ∨ T = "str" then some (.bl false) else none
 | .str _,T=>if T = "list" ∨ T = "tuple" then some (.bl false) else none
 | .non,T=>if T = "list" ∨ T = "tuple" then some (.bl false) else none
 | .list _,T=>if T = "tuple" then some (.bl false) else none
 | .tup _,T=>if T = "list" then some (.bl false) else none
 |_,_=>none
def Oi:List D->Option D
 | [x,.ty T]=>Wn x T
 |_=>none
def Dr(ds:List D):Option D:=match Lv ds with
 |some d=>some d
 |none=>Oi ds
section
variable {K:W.Frag}
theorem SV:RA K (λxs H Q=>∃x T,xs=[x,.ty T]/\RI K x H T/\Q (.bl false) H) Oi:=by
 intro vs H Q ds d r e q;unfold Oi at e;split at e
 rotate_left
 .cases e
 rename_i x T;obtain⟨v,ws,rfl,h1,h2⟩:=r.cons_inv;obtain⟨u,zs,rfl,h3,h4⟩:=h2.cons_inv;rw[h4.nil_inv];cases h3;unfold Wn at e;cases x <;> first|(cases e;done)|dsimp only at e
 all_goals
  split at e
  rotate_left
  .cases e
  rename_i hT;cases e
 .cases h1;exact⟨_,_,rfl,hT,q _ .bl⟩
 .cases h1;exact⟨_,_,rfl,hT,q _ .bl⟩
 .cases h1;exact⟨_,_,rfl,hT,q _ .bl⟩
 .obtain ⟨p,xs,rfl,h,_⟩:=h1.list_inv;exact⟨_,_,rfl,.inl ⟨hT,xs,qC.of h⟩,q _ .bl⟩
 .obtain ⟨p,xs,rfl,h,_⟩:=h1.tup_inv;exact⟨_,_,rfl,.inr ⟨hT,xs,Bh.of h⟩,q _ .bl⟩
theorem II:RA K (λxs H Q=>(∃x T b,xs=[x,.ty T]/\Tz K x H T b/\Q (.bl b) H)∨∃x T,xs=[x,.ty T]/\RI K x H T/\Q (.bl false) H) Dr:=by
 intro vs H Q ds d r e q;unfold Dr at e;split at e
 .rename_i e';cases e;exact .inl (Ur r e' q)
 .exact .inr (SV r e q)
end
theorem Sb(i:Int):Dr [.int i,.ty "int"]=some (.bl true):=by simp[Dr,Lv,Oi,Wq,Wn]
theorem Tw(i:Int):Dr [.int i,.ty "bool"]=some (.bl false):=by simp[Dr,Lv,Oi,Wq,Wn]
def Zc:=aa @Sb @Tw
section
variable {K:W.Frag}{H₀ Hf₀ Hf H:Hp}{S:AS}{σ:St}{Fs:List (List Addr)}{te tb:TE}{k:MK}{b:ME}
theorem oH.poke(R:oH K H₀ Hf₀ Hf S σ H Fs) {p:Addr}{o:HO}(pn:Hf p=none) (p0:H₀ p=none) (pf:p∉Fs.flatten):oH K H₀ Hf₀ Hf S σ (upd H p o) Fs:=by
 refine⟨R.len,R.lenF,λj a ej=>?_,R.emp,R.nd,R.fresh,λb u e=>?_,λb u e=>?_,R.lim,R.sf⟩
 .obtain ⟨w,G,f1,f2,q⟩:=R.rep j a ej;refine⟨w,G,f1,f2,q.keep (.refl _) (λc hc=>nV λe=>pf ?_) λc hc=>(q.owned c hc).2⟩
  subst e;exact og f2 hc
 .rw [nV λz=>by rw[z,pn]at e;cases e]
  exact R.sub b u e
 .rw [nV λz=>by rw[z,p0]at e;cases e]
  exact R.fr b u e
theorem xy.stays{Hf' H':Hp}{Fs':List (List Addr)}(t:xy Hf H Fs Hf' H' Fs') {p:Addr}(pn:Hf p=none) (ph:H p≠none) (pf:p∉Fs.flatten):Hf' p=none/\p∉Fs'.flatten:=by
 refine⟨?_,λm=>pf (t.own p m)⟩
 by_cases h:Hf' p=none
 .exact h
 .exact ((t.gr p pn h).elim (λe=>absurd e ph) λm=>absurd m pf)
def Cb(b:ME) (k:MK):MK:=λS=>(b S).bind λy=>(rh k y.2).bind λx=>(tZ y.1).map λkey=>(.owd [(key,nM x.1)],x.2)
theorem Ci(hb:SR K tb b) (hk:SK K te k):SK K (Rx [(tb,te)]) (Cb b k):=by
 intro H₀ Hf₀ Hf S σ H Fs av S' R e Q q;obtain⟨y,e1,e⟩:=oBq.mp e;obtain⟨x,e2,e⟩:=oBq.mp e;obtain⟨key,e3,e⟩:=oMq.mp e;cases e;have hk':SK K te (rh k):=SK.frz hk;intro p hp;obtain⟨t0,R0,n1,n2,n3⟩:=R.new (o:=.dK []) hp;have own0:=xk.one R hp;refine hb R0 (d:=y.1) (S':=y.2) e1 _ λHf1 H1 Fs1 w t1 R1 r1=>?_
 have p0:upd H p (HO.dK []) p=some (.dK []):=nZ;have p1:H1 p=some (.dK []):=t1.sh p _ p0;obtain⟨a1,a2⟩:=t1.stays n1 (by rw[p0];simp) n3
 refine hk' R1 (a:=x.1) (S':=x.2) e2 _ λHf2 H2 Fs2 v F t2 R2 r2 o2=>?_
 have p2:H2 p=some (.dK []):=t2.sh p _ p1;obtain⟨b1,b2⟩:=t2.stays a1 (by rw[p1];simp) a2
 obtain⟨x1,hx1⟩:∃d,x.1 = .sh d:=by
  obtain⟨w,_,e⟩:=oMq.mp e2;rw[←e];exact⟨_,rfl⟩
 rw[hx1]at r2;have rv:=r2.sh_inv.2;have hw:=vS e3 r1;subst hw;refine⟨p2,[(key,v)],rfl,by simp,?_⟩
 have t12:=(t0.trans t1).trans t2;have hs:ot H (upd H2 p (HO.dK (Az [] [(key,v)]))):=λc u e=>by
  rw[nV λz=>by rw[z,hp]at e;cases e]
  exact t12.sh c u e
 refine q Hf2 _ Fs2 (.ref p) [p] ⟨t12.sf,hs,t12.own,t12.gr⟩ (R2.poke b1 n2 b2) (.owd nZ b1 ⟨rfl,λi d u h1 h2=>?_⟩) ⟨by simp,λc h=>by rw[mSq.mp h];exact n2,λc h=>by rw[mSq.mp h];exact b2,λc h=>by rw[mSq.mp h];exact .inl hp⟩
 match i,h1,h2 with
 |0,h1,h2 =>
  cases h1;cases h2;rw[hx1,pJ];exact rv
 |i+1,h1,_=>simp at h1
theorem yv{i:Nat}:SM K (Vz K "list" Qm (uY i)) (vg i):=RD
def yO:List (oD×D)->Option (List Int)
 | []=>some []
 | (.inl i,_)::r=>(yO r).map (i :: ·)
 |_=>none
theorem G3:∀{kvs:List (oD×D)}{ns:List Int},yO kvs=some ns->kvs.map (·.1)=ns.map aO
 | [],ns,h=>by cases h;rfl
 | (.inl i,d)::r,ns,h=>by
  obtain⟨ms,h1,h2⟩:=oMq.mp (show (yO r).map (i :: ·)=some ns from h)
  subst h2;rw[au,au,G3 h1]
 | (.inr _,_)::_,_,h=>by cases h
def Ey(a:ME):MK:=λS=>(a S).bind λx=>match x.1 with
 | .dict kvs=>(yO kvs).map λns=>(.ow ((vE ns).map λn=>.sh (.int n)),x.2)
 |_=>none
theorem ND(hb:SR K te b):SK K (T2 (λxs H Q=>∃(a:Addr) (kvs:List (oD×V)) (ns:List Int),xs=[.ref a]/\H a=some (.dK kvs)/\kvs.map (·.1)=ns.map aO/\∀p,H p=none->Q (.ref p) (upd H p (.lst ((vE ns).map V.int)))) (rM te vw)) (Ey b):=by
 intro H₀ Hf₀ Hf S σ H Fs av S' R e Q q;obtain⟨x,e1,e⟩:=oBq.mp e;obtain⟨x1,x2⟩:=x;cases x1 with
 |dict kvs =>
  obtain⟨ns,e2,e⟩:=oMq.mp (show (yO kvs).map (λns=>(AV.ow ((vE ns).map λn=>.sh (.int n)),x2))=some (av,S') from e)
  cases e;refine hb R (d:=.dict kvs) (S':=S') e1 _ λHf1 H1 Fs1 w t1 R1 r1=>?_
  obtain⟨p1,vs,rfl,h1,h2⟩:=r1.dict_inv;refine⟨p1,vs,ns,rfl,h1,by rw[←h2.1];exact G3 e2,λp hp=>?_⟩
  obtain⟨t4,R4,n1,n2,n3⟩:=R1.new (o:=.lst ((vE ns).map V.int)) hp;rw[GA]at q;exact q _ _ _ (.ref p) [p] (t1.trans t4) R4 (oE.new nZ n1 (uA _)) ((xk.one R1 hp).back t1)
 |_=>cases e
end
theorem Pz(S:AS) (b:ME) (k:MK):Cb b k S=(b S).bind λy=>(rh k y.2).bind λx=>(tZ y.1).map λkey=>(.owd [(key,nM x.1)],x.2):=rfl
def Re:D->AS->Option (AV×AS)
 | .dict kvs,S=>(yO kvs).map λns=>(.ow ((vE ns).map λn=>.sh (.int n)),S)
 |_,_=>none
theorem Qx(S:AS) (a:ME):Ey a S=(a S).bind λx=>Re x.1 x.2:=by
 unfold Ey;congr 1;funext x;obtain⟨x1,x2⟩:=x;cases x1 <;> rfl
theorem Ua(kvs:List (oD×D)) (S:AS):Re (.dict kvs) S=(yO kvs).map λns=>(.ow ((vE ns).map λn=>.sh (.int n)),S):=rfl
theorem DR{α:Type}(f:α->Int) (g:α->D):∀l:List α,yO (l.map λx=>(aO (f x),g x))=some (l.map f)
 | []=>rfl
 |x::l=>by
  show (yO (l.map λx=>(aO (f x),g x))).map (f x :: ·)=_
  rw[DR f g l];rfl
def YM:=aa @Pz (aa @Qx @Ua)
def Ly:D->Option V
 | .non=>some .non
 | .bl b=>some (.bl b)
 | .int i=>some (.int i)
 | .str s=>some (.str s)
 |_=>none
def AD:List D->Option (List V)
 | []=>some []
 |d::ds=>(Ly d).bind λv=>(AD ds).map (v :: ·)
def SZ:D->Option (List D)
 | .list ds=>some ds
 | .tup ds=>some ds
 |_=>none
def Qr(neg:Bool) (x y:D):Option D:=(Ly x).bind λv=>(SZ y).bind λds=>(AD ds).map λvs=>.bl (if neg then !UB v vs else UB v vs)
section
variable {K:W.Frag}{te:TE}
theorem D6{H:Hp}{d:D}{v w:V}(e:Ly d=some v) (r:qb K H d w):w=v/\yM v=true:=by
 cases d <;> first|(cases e;cases r;exact⟨rfl,rfl⟩)|cases e
theorem xS{H:Hp}:∀{ds:List D}{vs ws:List V},AD ds=some vs->oX K H ds ws->ws=vs/\vs.all yM=true
 | [],vs,ws,e,r=>by
  cases e;exact⟨r.nil_inv,rfl⟩
 |d::ds,vs,ws,e,r=>by
  obtain⟨v,e1,e⟩:=oBq.mp e;obtain⟨us,e2,rfl⟩:=oMq.mp e;obtain⟨w,ws',rfl,r1,r2⟩:=r.cons_inv;obtain⟨rfl,f1⟩:=D6 e1 r1;obtain⟨rfl,f2⟩:=xS e2 r2;exact⟨rfl,by rw[gP,f1,f2];rfl⟩
theorem OE(neg:Bool):Bx K (XG K neg) (Qr neg):=by
 intro x y H Q dx dy d rx ry e q;obtain⟨v,e1,e⟩:=oBq.mp e;obtain⟨ds,e2,e⟩:=oBq.mp e;obtain⟨vs,e3,e⟩:=oMq.mp e;subst e;obtain⟨rfl,f1⟩:=D6 e1 rx;cases dy with
 |list xs =>
  cases e2;obtain⟨p,us,rfl,h1,h2⟩:=ry.list_inv;obtain⟨rfl,f2⟩:=xS e3 h2;exact⟨p,us,rfl,.inl (qC.of h1),f1,f2,q _ .bl⟩
 |tup xs =>
  cases e2;obtain⟨p,us,rfl,h1,h2⟩:=ry.tup_inv;obtain⟨rfl,f2⟩:=xS e3 h2;exact⟨p,us,rfl,.inr (Bh.of h1),f1,f2,q _ .bl⟩
 |_=>cases e2
end
theorem Gq(ns:List Int):AD (ns.map D.int)=some (ns.map V.int):=by
 induction ns with
 |nil=>rfl
 |cons n ns ih=>rw[au,AD,ih];rfl
theorem Ng(i:Int) (ns:List Int):UB (.int i) (ns.map V.int)=decide (i∈ns):=by
 unfold UB
 induction ns with
 |nil=>rfl
 |cons n ns ih =>
  rw[au,cO,ih];show (n == i || decide (i∈ns))=_
  by_cases h:i=n
  .subst h;simp
  .have h':¬ n=i:=λz=>h z.symm
   simp[h,h']
theorem Me(neg:Bool) (i:Int) (ns:List Int):Qr neg (.int i) (.list (ns.map D.int))=some (.bl (if neg then !decide (i∈ns) else decide (i∈ns))):=by
 show (AD (ns.map D.int)).map _=_;rw[Gq,fJ,Ng]
def AX:D->D->Option D
 | .non,.non=>some (.bl false)
 | .int _,.non=>some (.bl true)
 | .str _,.non=>some (.bl true)
 | .bl _,.non=>some (.bl true)
 | .list _,.non=>some (.bl true)
 | .tup _,.non=>some (.bl true)
 |_,_=>none
section
variable {K:W.Frag}
theorem Jf:Bx K (λx y H Q=>y = .non/\Q (.bl (!decide (x = .non))) H) AX:=by
 intro x y H Q dx dy d rx ry e q;unfold AX at e;split at e
 all_goals first|(cases e;done)|skip
 .cases e;cases rx;cases ry;exact⟨rfl,q _ (by simpa using qb.bl)⟩
 .cases e;cases rx;cases ry;exact⟨rfl,q _ (by simpa using qb.bl)⟩
 .cases e;cases rx;cases ry;exact⟨rfl,q _ (by simpa using qb.bl)⟩
 .cases e;cases rx;cases ry;exact⟨rfl,q _ (by simpa using qb.bl)⟩
 .cases e;cases ry;obtain⟨p,vs,rfl,_⟩:=rx.list_inv;exact⟨rfl,q _ (by simpa using qb.bl)⟩
 .cases e;cases ry;obtain⟨p,vs,rfl,_⟩:=rx.tup_inv;exact⟨rfl,q _ (by simpa using qb.bl)⟩
end
section
variable {K:W.Frag}{H₀ Hf₀ Hf Hf' H H':Hp}{S S':AS}{σ σ':St}{Fs Fs':List (List Addr)}
theorem Bk.same(s:ot H H'):∀{path:List Nat}{v w:V},Bk H v path w->Bk H' v path w
 | [],v,w,h=>h
 |j::js,v,w,⟨p,vs,u,h1,h2,h3,h4⟩=>⟨p,vs,u,h1,s _ _ h2,h3,Bk.same s h4⟩
theorem Bk.one:∀{path:List Nat}{v w w':V},Bk H v path w->Bk H v path w'->w=w'
 | [],v,w,w',h,h'=>h.symm.trans h'
 |j::js,v,w,w',hz,hy=>by
  obtain⟨p,vs,u,h1,h2,h3,h4⟩:=hz;obtain⟨p',vs',u',g1,g2,g3,g4⟩:=hy;rw[h1]at g1;cases g1;rw[h2]at g2;cases g2;rw[h3]at g3;cases g3;exact h4.one g4
theorem Bk.snoc:∀{path:List Nat}{v:V}{p:Addr}{vs:List V}{n:Nat}{u:V},Bk H v path (.ref p)->H p=some (.lst vs)->vs[n]?=some u->Bk H v (path++[n]) u
 | [],v,p,vs,n,u,h,h1,h2=>⟨p,vs,u,h,h1,h2,rfl⟩
 |j::js,v,p,vs,n,u,⟨p',vs',u',g1,g2,g3,g4⟩,h1,h2=>⟨p',vs',u',g1,g2,g3,g4.snoc h1 h2⟩
theorem Bk.kept:∀{path:List Nat}{av:AV}{v w:V}{F:List Addr}{as:List AV},oE K Hf H av v F->ou av path=some as->Bk H v path w->(∀q∈F,H' q=H q)->Bk H' v path w
 | [],av,v,w,F,as,_,_,h,_=>h
 |j::js,av,v,w,F,as,r,e,hz,hk=>by
  obtain⟨p,vs,u,h1,h2,h3,h4⟩:=hz;cases av with
  |ow avs =>
   obtain⟨p',vs',Gs,e1,e2,e3,e4,e5⟩:=r.ow_inv;rw[h1]at e1;cases e1;rw[h2]at e3;cases e3;obtain⟨a,ea,e⟩:=oBq.mp (show (avs[j]?).bind (λa=>ou a js)=some as from e)
   have hj:j<avs.length:=(gSq.mp ea).1;have hG:=gEg (e5.2.1 ▸ hj);have rj:=e5.2.2 j a u _ ea h3 hG;refine⟨p,vs,u,h1,by rw[hk p (by rw[e2];simp)];exact h2,h3,h4.kept rj e λq hq=>hk q ?_⟩
   rw[e2];exact mCo _ (og hG hq)
  |_=>cases e
def frm(H₀ H:Hp) (F:List Addr):Hp:=λb=>if b∈F then H b else H₀ b
theorem Fh{F:List Addr}{b:Addr}(h:b∈F):frm H₀ H F b=H b:=oq h
theorem yn{F:List Addr}{b:Addr}(h:b∉F):frm H₀ H F b=H₀ b:=oz h
theorem oH.frame(R:oH K H₀ Hf₀ Hf S σ H Fs) {i:Nat}{F:List Addr}(s2:Fs[i]?=some F):oH K (frm H₀ H F) Hf₀ Hf (S.set i none) σ H (Fs.set i []):=by
 have R1:=R.kill i;have hF:∀q∈F,q∈Fs.flatten:=λq hq=>og s2 hq
 refine⟨R1.len,R1.lenF,R1.rep,R1.emp,R1.nd,λp hp=>?_,R1.sub,λb u e=>?_,λb h1 h2=>?_,R1.sf⟩
 .have hn:p∉F:=λz=>sQ R.nd s2 z hp
  rw[yn hn];exact R1.fresh p hp
 .by_cases hb:b∈F
  .rw [Fh hb]at e;exact e
  .rw [yn hb]at e;exact R.fr b u e
 .by_cases hb:b∈F
  .exact (R.mem (hF b hb)).2
  .rw [yn hb]at h2;exact R.lim b h1 h2
theorem yi{α:Type}{l:List α}{i:Nat}{a:α}(h:l[i]?=some a):l.set i a=l:=by
 obtain⟨hk,ev⟩:=gSq.mp h;rw[←ev];exact fj hk
theorem oH.unframe(R:oH K H₀ Hf₀ Hf S σ H Fs) {i:Nat}{av:AV}{v:V}{F:List Addr}(s2:Fs[i]?=some F) (r:oE K Hf H av v F) (nd:F.Nodup) (h0:∀q∈F,H₀ q=none)
  (R':oH K (frm H₀ H F) Hf₀ Hf' S' σ' H' Fs') (e':S'[i]?=some none) (s1:σ'[i]?=some (some v)) (sf:ot Hf Hf') :
  (∀q∈F,H' q=H q)/\oE K Hf' H' av v F/\oH K H₀ Hf₀ Hf' (S'.set i (some av)) σ' H' (Fs'.set i F):=by
 have hk:∀q∈F,H' q=H q:=λq hq=>by
  have hn:=(R.mem (og s2 hq)).1;cases hu:H q with
  |none=>exact absurd hu hn
  |some u=>exact R'.fr q u (by rw[Fh hq];exact hu)
 have hf:∀q∈F,Hf' q=none:=λq hq=>by
  have hm:=R.mem (og s2 hq);refine R'.lim q ?_ (by rw[Fh hq];exact hm.1)
  cases hz:Hf₀ q with
  |none=>rfl
  |some u=>rw[R.sf q u hz]at hm;exact absurd hm.2 (by simp)
 have r':=r.keep sf hk hf;refine⟨hk,r',?_⟩;have R1:oH K H₀ Hf₀ Hf' (S'.set i none) σ' H' (Fs'.set i []):=by
  rw[yi e',yi (R'.emp i e')];refine⟨R'.len,R'.lenF,R'.rep,R'.emp,R'.nd,λp hp=>?_,R'.sub,λb u e=>?_,λb h1 h2=>?_,R'.sf⟩
  .have:=R'.fresh p hp
   by_cases hb:p∈F
   .exact h0 p hb
   .rwa [yn hb]at this
  .refine R'.fr b u ?_;rw[yn λz=>by rw[h0 b z]at e;cases e]
   exact e
  .refine R'.lim b h1 ?_;rw[yn λz=>h2 (h0 b z)]
   exact h2
 refine R1.again (F:=F) s1 r' nd λq hq=>⟨h0 q hq,λm=>?_⟩
 rw[yi (R'.emp i e')]at m;have:=R'.fresh q m;rw[Fh hq]at this;exact(R.mem (og s2 hq)).1 this
end
abbrev MP:=AS->Option (List Nat×AS)
def Gn(i:Nat):MP:=λS=>(pM S i).map λ_=>([],S)
def Q2(i:Nat) (pf:MP) (b:ME):MP:=λS=>(pf S).bind λx=>(b x.2).bind λy=>(intOf y.1).bind λj=>(pM y.2 i).bind λavs=>(ou (.ow avs) x.1).bind λas=>(AO as.length j).map λn=>(x.1++[n],y.2)
def UA(K:W.Frag) (i:Nat) (te:TE) (pf:MP):Prop:=∀{H₀ Hf₀ Hf:Hp}{S:AS}{σ:St}{H:Hp}{Fs:List (List Addr)}{path:List Nat}{S':AS},oH K H₀ Hf₀ Hf S σ H Fs->pf S=some (path,S')->∀Q:VK,
 (∀Hf' H' Fs' v w,xy Hf H Fs Hf' H' Fs'->oH K H₀ Hf₀ Hf' S' σ H' Fs'->σ[i]?=some (some v)->Bk H' v path w->Q w H')->te σ H Q
section
variable {K:W.Frag}
theorem Ek(i:Nat):UA K i (uY i) (Gn i):=by
 intro H₀ Hf₀ Hf S σ H Fs path S' R e Q q;obtain⟨avs,e1,e⟩:=oMq.mp e;cases e;obtain⟨p,vs,Gs,s1,_⟩:=R.ow (nW e1);exact⟨_,s1,q _ _ _ _ _ .refl R s1 rfl⟩
theorem yl{H₀ Hf₀ Hf H:Hp}{S:AS}{σ:St}{Fs:List (List Addr)}{i:Nat}{avs as:List AV}{path:List Nat}{v w:V}(R:oH K H₀ Hf₀ Hf S σ H Fs) (e:S[i]?=some (some (.ow avs))) (s1:σ[i]?=some (some v)) (en:ou (.ow avs) path=some as) (h:Bk H v path w) :
  ∃p vs,w = .ref p/\H p=some (.lst vs)/\vs.length=as.length:=by
 obtain⟨v',F,t1,t2,r,nd,_⟩:=R.move e;rw[s1]at t1;cases t1;obtain⟨p,vs,Gs,g1,g2,g3,g4,_⟩:=r.path nd en;exact⟨p,vs,h.one g1,g2,g4.1.symm⟩
theorem Iz{i:Nat}{te tb:TE}{pf:MP}{b:ME}(hp:UA K i te pf) (hb:SR K tb b):UA K i (OT (K1 K) te tb) (Q2 i pf b):=by
 intro H₀ Hf₀ Hf S σ H Fs path S' R e Q q;obtain⟨x,e1,e⟩:=oBq.mp e;obtain⟨y,e2,e⟩:=oBq.mp e;obtain⟨j,e3,e⟩:=oBq.mp e;obtain⟨avs,e4,e⟩:=oBq.mp e;obtain⟨as,e5,e⟩:=oBq.mp e;obtain⟨n,e6,e⟩:=oMq.mp e;cases e;refine hp R (path:=x.1) (S':=x.2) e1 _ λHf1 H1 Fs1 v w t1 R1 s1 a1=>hb R1 (d:=y.1) (S':=y.2) e2 _ λHf2 H2 Fs2 u t2 R2 r2=>?_
 have hy:y.1 = .int j:=by
  cases hx:y.1 <;> rw[hx]at e3 <;> first|(cases e3;rfl)|cases e3
 rw[hy]at r2;cases r2;have a2:=a1.same t2.sh;obtain⟨p,vs,rfl,h1,h2⟩:=yl R2 (nW e4) s1 e5 a2;have hix:=e6;obtain⟨_,hn,_⟩:=ER e6;have hn':n<vs.length:=by rw[h2];exact hn
 obtain⟨u,hv⟩:∃u,vs[n]?=some u:=⟨_,gEg hn'⟩;refine⟨p,vs,j,u,rfl,rfl,qC.of h1,?_,q _ _ _ v _ (t1.trans t2) R2 s1 (a2.snoc h1 hv)⟩;unfold atI;rw[h2,e6];exact hv
end
section
variable {K:W.Frag}
theorem oH.grow{H₀ Hf₀ Hf H:Hp}{S:AS}{σ:St}{Fs:List (List Addr)}{i:Nat}{avs as:List AV}{path:List Nat}{v:V}{p:Addr}(R:oH K H₀ Hf₀ Hf S σ H Fs) (e:S[i]?=some (some (.ow avs))) (s1:σ[i]?=some (some v)) (en:ou (.ow avs) path=some as) (h:Bk H v path (.ref p)) :
  ∃vs,H p=some (.lst vs)/\as.length=vs.length/\∀(bs:List AV) (ws:List V) (Gs:List (List Addr)),oJ K Hf H bs ws Gs->Gs.flatten.Nodup->(∀q∈Gs.flatten,H₀ q=none/\q∉Fs.flatten) ->
   ∃Fs',oH K H₀ Hf₀ Hf (S.set i (some (putAt (.ow avs) path (as++bs)))) σ (upd H p (.lst (vs++ws))) Fs':=by
 obtain⟨v',F,t1,t2,r,nd,oo,_⟩:=R.move e;rw[s1]at t1;cases t1;obtain⟨p',vs,Es,g1,g2,g3,g4,g5,g6,g6',g7,g8⟩:=r.path nd en;have hpp:V.ref p=V.ref p':=h.one g1;cases hpp;refine⟨vs,g2,g4.1,λbs ws Gs rb nG oG=>?_⟩
 have pG:p∉Gs.flatten:=λm=>(oG p m).2 (og t2 g5)
 have hfl:(Es++Gs).flatten=Es.flatten++Gs.flatten:=fAq;obtain⟨F',k1,k2,k3⟩:=g8 (as++bs) (vs++ws) (Es++Gs) ((g4.keepUpd g6).append (rb.keepUpd pG)) (by
  rw[hfl];refine ax.mpr ⟨λm=>(mAq.mp m).elim g6 pG,nAq.mpr ⟨g6',nG,λa ha b hb z=>(oG b hb).2 (og t2 (g7 b (z ▸ ha)))⟩⟩) (λq hq=>by
  rw[hfl]at hq;exact(mAq.mp hq).imp id λm z=>(oG q m).2 (og t2 z))
 refine⟨_,R.turnAny s1 t2 g5 k1 k2 λq hq=>?_⟩
 rcases k3 q hq with z|z
 .exact oo q z
 .rw [hfl]at z;rcases mAq.mp z with z|z
  .exact oo q (g7 q z)
  .exact ⟨(oG q z).1,λm=>(oG q z).2 (oQ m)⟩
def Yl(i:Nat) (pf:MP) (k:MK):MS:=λS=>(pf S).bind λx=>(pM x.2 i).bind λa0=>(ou (.ow a0) x.1).bind λ_=>(k x.2).bind λy=>(pM y.2 i).bind λavs=>(ou (.ow avs) x.1).bind λas=>tP (as.length<qW) (some (.nx (y.2.set i (some (putAt (.ow avs) x.1 (as++[y.1]))))))
def Ys(i:Nat) (pf:MP) (l:ML):MS:=λS=>(pf S).bind λx=>(pM x.2 i).bind λa0=>(ou (.ow a0) x.1).bind λ_=>(l x.2).bind λy=>(pM y.2 i).bind λavs=>(ou (.ow avs) x.1).bind λas=>tP (as.length+y.1.length<=qW) (some (.nx (y.2.set i (some (putAt (.ow avs) x.1 (as++y.1.map .sh))))))
def Ko(x i:Nat) (path:List Nat) (S:AS) (σ:St) (H:Hp):Prop:=∃v p avs as,S[i]?=some (some (.ow avs))/\ou (.ow avs) path=some as/\σ[x]?=some (some (.ref p))/\σ[i]?=some (some v)/\Bk H v path (.ref p)
def Lc(K:W.Frag) (x i:Nat) (t:TS) (m:List Nat->MS):Prop:=∀{path:List Nat}{H₀ Hf₀ Hf:Hp}{S:AS}{σ:St}{H:Hp}{Fs:List (List Addr)}{o:A6},oH K H₀ Hf₀ Hf S σ H Fs->Ko x i path S σ H->m path S=some o->∀D:tY,zk K H₀ Hf₀ Hf D o->t D σ H
def IH(x i:Nat) (pf:MP) (m:List Nat->MS):MS:=λS=>(pf S).bind λy=>(pM y.2 i).bind λavs=>(ou (.ow avs) y.1).bind λ_=>tP (x≠i/\x<y.2.length) (m y.1 (y.2.set x none))
theorem RG{x i:Nat}{te:TE}{pf:MP}{t:TS}{m:List Nat->MS}(hp:UA K i te pf) (hm:Lc K x i t m):SS K (xQ (Au te (qt x)) t) (IH x i pf m):=by
 intro H₀ Hf₀ Hf S σ H Fs o R e D h;obtain⟨y,e1,e⟩:=oBq.mp e;obtain⟨avs,e2,e⟩:=oBq.mp e;obtain⟨as,e3,e⟩:=oBq.mp e;rcases oj e with ⟨⟨hne,hlt⟩,e⟩|e
 .refine hp R (path:=y.1) (S':=y.2) e1 _ λHf1 H1 Fs1 v w t1 R1 s1 a1=>?_
  obtain⟨p,vs,rfl,h1,h2⟩:=yl R1 (nW e2) s1 e3 a1;have R2:=(R1.kill x).any (V.ref p);refine hm R2 ⟨v,p,avs,as,?_,e3,?_,?_,a1⟩ e D (h.mono t1.sf)
  .rw [ao hne];exact nW e2
  .exact aC (by rw[←R1.len];exact hlt)
  .rw [ao hne];exact s1
 .cases e
theorem Vi{x i:Nat}{t:TS}{m:MS}(h:SS K t m):Lc K x i t (λ_=>m):=λR _ e D o=>h R e D o
def Cj(i:Nat) (c:MT) (a b:List Nat->MS):List Nat->MS:=λpath S=>(c S).bind λy=>(pM y.2 i).bind λavs=>(ou (.ow avs) path).bind λ_=>if y.1=true then a path y.2 else b path y.2
def G8(i:Nat) (k:MK):List Nat->MS:=λpath S=>(k S).bind λy=>(pM y.2 i).bind λavs=>(ou (.ow avs) path).bind λas=>tP (as.length<qW) (some (.nx (y.2.set i (some (putAt (.ow avs) path (as++[y.1]))))))
def X3(i:Nat) (l:ML):List Nat->MS:=λpath S=>(l S).bind λy=>(pM y.2 i).bind λavs=>(ou (.ow avs) path).bind λas=>tP (as.length+y.1.length<=qW) (some (.nx (y.2.set i (some (putAt (.ow avs) path (as++y.1.map .sh))))))
def CK(i:Nat) (mm:ME):List Nat->MS:=λpath S=>(pM S i).bind λavs=>(ou (.ow avs) path).bind λas=>(mm (S.set i none)).bind λy=>tP (y.2[i]?=some none/\as.length<qW) (some (.nx (y.2.set i (some (putAt (.ow avs) path (as++[.sh y.1]))))))
def yr(K:W.Frag) (J:List Nat) (t:TS) (m:MS):Prop:=∀{H₀ Hf₀ Hf:Hp}{S:AS}{σ:St}{H:Hp}{Fs:List (List Addr)}{S':AS},oH K H₀ Hf₀ Hf S σ H Fs->m S=some (.nx S')->∀D:tY,(∀Hf' σ' H' Fs',ot Hf Hf'->oH K H₀ Hf₀ Hf' S' σ' H' Fs'->(∀j∈J,σ'[j]?=σ[j]?)->D.nx σ' H')->t D σ H
theorem FP{J:List Nat}{t:TS}(h:∀D σ H,D.nx σ H->t D σ H):yr K J t qd:=by
 intro H₀ Hf₀ Hf S σ H Fs S' R e D q;cases e;exact h _ _ _ (q _ _ _ _ (.refl _) R λ_ _=>rfl)
theorem Ep{J:List Nat}{y:Nat}{te:TE}{k:MK}(hk:SK K te k) (hJ:y∉J):yr K J (Au te (qt y)) (pd y k):=by
 intro H₀ Hf₀ Hf S σ H Fs S' R e D q;obtain⟨x,e1,e⟩:=oMq.mp e;cases e;refine hk R (a:=x.1) (S':=x.2) e1 _ λHf1 H1 Fs1 v F t1 R1 r1 o1=>?_
 exact q _ _ _ _ t1.sf (R1.set y r1 o1.nd λq hq=>⟨o1.fr q hq,o1.out q hq⟩) λj hj=>ao (show y≠j from λz=>hJ (by rw[z];exact hj))
theorem N4{J:List Nat}{y:Nat}{te:TE}{m:ME}(hk:SM K te m) (hJ:y∉J):yr K J (Au te (qt y)) (AZ y m):=by
 intro H₀ Hf₀ Hf S σ H Fs S' R e D q;obtain⟨x,e1,e⟩:=oMq.mp e;cases e;refine hk R (d:=x.1) (S':=x.2) e1 _ λHf1 H1 Fs1 v t1 R1 r1=>?_
 exact q _ _ _ _ t1 (R1.setD y r1) λj hj=>ao (show y≠j from λz=>hJ (by rw[z];exact hj))
theorem MW{J:List Nat}{c:TT}{m:MT}{t u:TS}{a b:MS}(hc:BQ K c m) (ha:yr K J t a) (hb:yr K J u b):yr K J (Hw c t u) (xK m a b):=by
 intro H₀ Hf₀ Hf S σ H Fs S' R e D q;obtain⟨x,e1,e⟩:=oBq.mp e;refine hc R (b:=x.1) (S':=x.2) e1 _ λHf1 H1 Fs1 t1 R1=>?_
 split at e
 .rename_i hx;rw[hx];exact Dc (ha R1 e D λHf' σ' H' Fs' s R' j=>q _ _ _ _ (t1.sf.trans s) R' j)
 .rename_i hx;rw[bS]at hx;rw[hx];exact CT (hb R1 e D λHf' σ' H' Fs' s R' j=>q _ _ _ _ (t1.sf.trans s) R' j)
def Bm(i:Nat) (a:MS) (m:List Nat->MS):List Nat->MS:=λpath S=>(pM S i).bind λavs=>(a (S.set i none)).bind λo=>match o with
 | .nx S1=>tP (S1[i]?=some none) (m path (S1.set i (some (.ow avs))))
 |_=>none
end
theorem V8(S:AS) (i:Nat):Gn i S=(pM S i).map λ_=>([],S):=rfl
theorem WO(S:AS) (i:Nat) (pf:MP) (b:ME):Q2 i pf b S=(pf S).bind λx=>(b x.2).bind λy=>(intOf y.1).bind λj=>(pM y.2 i).bind λavs=>(ou (.ow avs) x.1).bind λas=>(AO as.length j).map λn=>(x.1++[n],y.2):=rfl
theorem UX(S:AS) (x i:Nat) (pf:MP) (m:List Nat->MS):IH x i pf m S=(pf S).bind λy=>(pM y.2 i).bind λavs=>(ou (.ow avs) y.1).bind λ_=>tP (x≠i/\x<y.2.length) (m y.1 (y.2.set x none)):=rfl
theorem Vh(S:AS) (i:Nat) (c:MT) (a b:List Nat->MS) (path:List Nat):Cj i c a b path S=(c S).bind λy=>(pM y.2 i).bind λavs=>(ou (.ow avs) path).bind λ_=>if y.1=true then a path y.2 else b path y.2:=rfl
theorem S8(S:AS) (i:Nat) (k:MK) (path:List Nat):G8 i k path S=(k S).bind λy=>(pM y.2 i).bind λavs=>(ou (.ow avs) path).bind λas=>tP (as.length<qW) (some (.nx (y.2.set i (some (putAt (.ow avs) path (as++[y.1])))))):=rfl
theorem O9(S:AS) (i:Nat) (mm:ME) (path:List Nat):CK i mm path S=(pM S i).bind λavs=>(ou (.ow avs) path).bind λas=>(mm (S.set i none)).bind λy=>tP (y.2[i]?=some none/\as.length<qW) (some (.nx (y.2.set i (some (putAt (.ow avs) path (as++[.sh y.1])))))):=rfl
def Vp(i:Nat) (avs:List AV) (m:List Nat->MS) (path:List Nat):A6->Option A6
 | .nx S1=>tP (S1[i]?=some none) (m path (S1.set i (some (.ow avs))))
 |_=>none
theorem Va(S:AS) (i:Nat) (a:MS) (m:List Nat->MS) (path:List Nat):Bm i a m path S=(pM S i).bind λavs=>(a (S.set i none)).bind (Vp i avs m path):=by
 unfold Bm;congr 1
theorem OZ(i:Nat) (avs:List AV) (m:List Nat->MS) (path:List Nat) (S1:AS):Vp i avs m path (.nx S1)=tP (S1[i]?=some none) (m path (S1.set i (some (.ow avs)))):=rfl
theorem Hk(avs:List AV):ou (.ow avs) []=some avs:=rfl
theorem GN(avs:List AV) (j:Nat) (js:List Nat):ou (.ow avs) (j::js)=(avs[j]?).bind λa=>ou a js:=rfl
theorem wq{avs:List AV}{j:Nat}{js:List Nat}{as:List AV}{a:AV}(h:avs[j]?=some a):putAt (.ow avs) (j::js) as = .ow (avs.set j (putAt a js as)):=by
 show (match avs[j]? with|some a=>_|none=>_)=_
 rw[h]
def Y8:=aa @V8 (aa @WO (aa @UX (aa @Vh (aa @S8 (aa @O9 (aa @Va (aa @OZ @Hk)))))))
section
variable {K:W.Frag}
def yZ(m:ME):MS:=λS=>(m S).map λx=>.nx x.2
theorem Lm{te:TE}{m:ME}(h:SM K te m):SS K (vV te) (yZ m):=by
 intro H₀ Hf₀ Hf S σ H Fs o R e D hd;obtain⟨x,e1,e⟩:=oMq.mp e;cases e;exact h R (d:=x.1) (S':=x.2) e1 _ λHf1 H1 Fs1 v t1 R1 r1=>hd _ _ _ _ t1 R1
def YQ(i:Nat):MS:=λS=>(pM S i).map λavs=>.nx (S.set i (some (.ow avs.reverse)))
end
theorem Pr(S:AS) (m:ME):yZ m S=(m S).map λx=>.nx x.2:=rfl
def Y9:=@Pr
end Z
namespace HT
open PySem PyProof.Rows
open PySem.SeqAt
open PySem.AutoSeq1 (wpAny_loadPart')
open PySem.MeetsSeq PySem.MeetsSeq2 PySem.MeetsSeq3
def uj:List (List Int)->List (List Int)->Bool
 |_,[]=>false
 | [],_::_=>true
 |x::xs,y::ys=>if x=y then uj xs ys else qK x y
def Aa(h:Heap) (ps:List Addr) (rs:List (List Int)):Prop:=∀(i:Nat) (p:Addr) (r:List Int),ps[i]?=some p->rs[i]?=some r->∃vs:List Value,lz h p vs.toArray/\ju vs r
theorem LD(r t:List Int):PyData.eqv (Mr.rV r) (Mr.rV t)=decide (r=t):=by
 rw[←same_eq_eqv _ _ (by simp[Mr.rV,SeqAt.noMix,W.noMix_ints r t])]
 simp[Mr.rV,PySem.Spec.same,W.same_ints r t]
theorem row_at{h:Heap}{ps:List Addr}{rs:List (List Int)}(hr:Aa h ps rs) {items:Array Value}(hi:items.toList=ps.map aE) (hl:ps.length=rs.length) {i:Nat}(h1:i<items.size):∃p r vs,items[i]?=some (.ref p)/\rs.drop i=r::rs.drop (i+1)/\lz h p vs.toArray/\ju vs r:=by
 have z:ps.length=items.size:=by
  have:=congrArg bo hi;rw[lMq,aw]at this;exact this.symm
 obtain⟨p,hp⟩:∃p,ps[i]?=some p:=⟨_,gEg (by lia)⟩
 obtain⟨r,hr'⟩:∃r,rs[i]?=some r:=⟨_,gEg (by lia)⟩
 obtain⟨vs,a,b⟩:=hr i p r hp hr';refine⟨p,r,vs,?_,?_,a,b⟩
 .rw [←aF,hi,gMq,hp];rfl
 .obtain ⟨hlt,e⟩:=gSq.mp hr';rw[aB hlt,e]
theorem Dt(l b:Addr) (items items2:Array Value) (n n2:Nat) (dd dd2:Option Addr) (sl sl2:Array (Option Value)) (ps qs:List Addr) (rs ts:List (List Int)) (hi:items.toList=ps.map aE) (hj:items2.toList=qs.map aE) (lr:ps.length=rs.length) (ls:qs.length=ts.length) (k:Nat) :
  ∀i:Nat,min items.size items2.size-i=k->i<=items.size->i<=items2.size->Meets (Builtin.«list.__eq__.loop» ⟨[.ref l,.ref b,jX i,jX 0],[]⟩)
   (λA R s=>A.units+32<jv/\Aa s.heap ps rs/\Aa s.heap qs ts/\s.heap.get? l=some { cls:=.type "list", dict:=dd,data:=.seq items n,slots:=sl }/\s.heap.get? b=some { cls:=.type "list", dict:=dd2,data:=.seq items2 n2,slots:=sl2 } /\
    R (.ok (.ret (.bool (uj (rs.drop i) (ts.drop i))))) s):=by
 have z1:rs.length=items.size:=by
  have:=congrArg bo hi;rw[lMq,aw]at this;lia
 have z2:ts.length=items2.size:=by
  have:=congrArg bo hj;rw[lMq,aw]at this;lia
 induction k with
 |zero =>
  intro i hk h1 h2 prog w A R s h;obtain⟨hp,g,d,tk,os⟩:=s;obtain⟨hu,ra,rb,hl,hb,h⟩:=h
  wp_walk using wpAny_loadPart' hl,wpAny_loadPart' hb
  have fin:uj (rs.drop i) (ts.drop i)=decide (items.size<items2.size):=by
   by_cases c:i=items.size
   .have e1:rs.drop i=[]:=bJ (by lia)
    rw[e1]
    by_cases c2:i<items2.size
    .rw [aB (by lia:i<ts.length)]
     exact(decide_eq_true (by lia)).symm
    .rw [bJ (by lia:ts.length<=i)]
     exact(decide_eq_false (by lia)).symm
   .have c2:i=items2.size:=by lia
    rw[bJ (by lia:ts.length<=i)]
    have e0:uj (rs.drop i) []=false:=by cases rs.drop i <;> rfl
    rw[e0];exact(decide_eq_false (by lia)).symm
  rw[fin]at h
  by_cases c:i=items.size
  .have GU:items[((i:Nat):Int).toNat]?=none:=by simp;lia
   rw[GU]
   wp_walk using wpAny_loadPart' hl,wpAny_loadPart' hb
   exact h
  .have c2:i=items2.size:=by lia
   have GU:items[((i:Nat):Int).toNat]?=some (items[i]'(by lia)):=by simp
   have hi2:items2[((i:Nat):Int).toNat]?=none:=by simp;lia
   rw[GU,hi2]
   wp_walk using wpAny_loadPart' hl,wpAny_loadPart' hb
   exact h
 |succ k ih =>
  intro i hk h1 h2 prog w A R s h;obtain⟨hp,g,d,tk,os⟩:=s;obtain⟨hu,ra,rb,hl,hb,h⟩:=h
  wp_walk using wpAny_loadPart' hl,wpAny_loadPart' hb
  have hlt:i<items.size:=by lia
  have hlt2:i<items2.size:=by lia
  obtain⟨p,x,vs,ex,dx,px,ix⟩:=row_at ra hi lr hlt;obtain⟨q,y,ws,ey,dy,py,iy⟩:=row_at rb hj ls hlt2;have GU:items[((i:Nat):Int).toNat]?=some (.ref p):=by
   rw[←ex];simp
  have hi2:items2[((i:Nat):Int).toNat]?=some (.ref q):=by
   rw[←ey];simp
  have hc:((i:Int)+1)=((i+1:Nat):Int):=by push_cast;rfl
  rw[dx,dy,uj]at h;rw[GU,hi2];have he:SeqAt.EqAt A.in1 ⟨hp,g,d,tk,os⟩ (.ref p) (.ref q) (decide (x=y)):=by
   rw[←LD];refine eqAt_reads (Mr.rV x) (Mr.rV y) A.in1 ⟨hp,g,d,tk,os⟩ (.ref p) (.ref q) [p] [q] (W.reads_of_ints px.isList ix) (W.reads_of_ints py.isList iy) (by simp[Mr.rV,PyData.canLay0,W.canLayAll0_ints x]) (by simp[Mr.rV,PyData.canLay0,W.canLayAll0_ints y]) ?_
   have d1:=W.depthAll_ints x;have:(Mr.rV x).depth<=2:=by simp only[Mr.rV,PyData.depth];lia
   show A.units+1+_<jv;lia
  refine ja (he prog w _ _ ?_)
  by_cases e:x=y
  .rw [oq e]at h;rw[decide_eq_true e]
   wp_walk
   rw[hc];exact⟨kB plain_eq_loop _,jL entry_eq_loop (by
    rw[Around.under_plainId plain_eq_loop _];exact ih (i+1) (by lia) (by lia) (by lia) prog w A R _ ⟨hu,ra,rb,hl,hb,h⟩)⟩
  .rw [oz e]at h;rw[decide_eq_false e];obtain⟨⟨cls,dd3,data,sl3⟩,n3,ho,hc3,hd03,hd3⟩:=px;obtain⟨⟨cls4,dd4,data4,sl4⟩,n4,ho4,hc4,hd04,hd4⟩:=py;simp only at hc3 hd03 hd3 hc4 hd04 hd4;subst hc3 hd03 hd3 hc4 hd04 hd4;have hri:∀(E:Value->iV->Prop) (Q:Value->iV->Prop),Q (.bool (qK x y)) ⟨hp,g,d,tk,os⟩->jb (iY prog w) A.in1 (richCompare .Lt (.ref p) (.ref q)) Q E ⟨hp,g,d,tk,os⟩:=λE Q z =>
    wpAny_richCompare_same_room (op:=.Lt) (T := "list") ⟨_,ho,rfl⟩ ⟨_,ho4,rfl⟩ gM (jQ gM ⟨_,ho,rfl⟩ PySem.F.entry_list_lt (PySem.F.args_list_lt_2 _ _) (zr p q vs.toArray ws.toArray n3 n4 none none sl3 sl4 x y (by simpa using ix) (by simpa using iy)) ⟨ho,ho4,(show iz (qK x y)≠Value.notImplemented/\_ from ⟨λq=>(by cases q),z⟩)⟩) (by show A.units+1<jv;lia)
   wp_walk using wpAny_loadPart' hl,wpAny_loadPart' hb
   rw[GU,hi2]
   wp_walk using hri
   exact h
theorem OP(l b:Addr) (items items2:Array Value) (n n2:Nat) (dd dd2:Option Addr) (sl sl2:Array (Option Value)) (ps qs:List Addr) (rs ts:List (List Int)) (hi:items.toList=ps.map aE) (hj:items2.toList=qs.map aE) (lr:ps.length=rs.length) (ls:qs.length=ts.length) :
  Meets (Builtin.«list.__lt__» ⟨[.ref l,.ref b],[]⟩)
   (λA R s=>A.units+32<jv/\Aa s.heap ps rs/\Aa s.heap qs ts/\s.heap.get? l=some { cls:=.type "list", dict:=dd,data:=.seq items n,slots:=sl }/\s.heap.get? b=some { cls:=.type "list", dict:=dd2,data:=.seq items2 n2,slots:=sl2 } /\
    R (.ok (.ret (.bool (uj rs ts)))) s):=by
 intro prog w A R s h;obtain⟨hp,g,d,tk,os⟩:=s;obtain⟨hu,ra,rb,hl,hb,h⟩:=h;have f3:=AutoSeq1.sub_list_list
 wp_walk using wpAny_loadPart' hl,wpAny_loadPart' hb
 exact⟨kB plain_eq_loop _,jL entry_eq_loop (by
  rw[Around.under_plainId plain_eq_loop _];exact Dt l b items items2 n n2 dd dd2 sl sl2 ps qs rs ts hi hj lr ls _ 0 rfl (bg _) (bg _) prog w A R _ ⟨hu,ra,rb,hl,hb,h⟩)⟩
theorem G6:∀xs:List (List Int),uj xs xs=false
 | []=>rfl
 |x::xs=>by rw[uj,oq rfl];exact G6 xs
theorem Al:∀xs ys:List (List Int),uj xs ys=true->uj ys xs=false
 |xs,[],h=>by cases xs <;> cases h
 | [],y::ys,_=>rfl
 |x::xs,y::ys,h=>by
  rw[uj]at h ⊢
  by_cases e:x=y
  .rw [oq e]at h;rw[oq e.symm];exact Al xs ys h
  .rw [oz e]at h;rw[oz (λq=>e q.symm)]
   exact Mr.zL _ _ h
theorem D4:∀xs ys:List (List Int),uj xs ys=false->uj ys xs=false->xs=ys
 | [],[],_,_=>rfl
 | [],y::ys,h,_=>by cases h
 |x::xs,[],_,h=>by cases h
 |x::xs,y::ys,h1,h2=>by
  rw[uj]at h1 h2
  by_cases e:x=y
  .rw [oq e]at h1;rw[oq e.symm]at h2;rw[e,D4 xs ys h1 h2]
  .rw [oz e]at h1;rw[oz (λq=>e q.symm)]at h2
   exact absurd (Mr.zT _ _ h1 h2) e
theorem yU:∀xs ys zs:List (List Int),uj ys xs=false->uj zs ys=false->uj zs xs=false
 | [],ys,zs,_,_=>by cases zs <;> rfl
 |x::xs,[],zs,h1,_=>by cases h1
 |x::xs,y::ys,[],_,h2=>by cases h2
 |x::xs,y::ys,z::zs,h1,h2=>by
  rw[uj]at h1 h2 ⊢
  by_cases e1:y=x
  .rw [oq e1]at h1
   by_cases e2:z=y
   .rw [oq e2]at h2;rw[oq (e2.trans e1)];exact yU xs ys zs h1 h2
   .rw [oz e2]at h2;rw[oz (by rw[←e1];exact e2),←e1]
    exact h2
  .rw [oz e1]at h1
   by_cases e2:z=y
   .rw [oz (by rw[e2];exact e1),e2]
    exact h1
   .rw [oz e2]at h2
    by_cases e3:z=x
    .rw [e3]at h2;exact absurd (Mr.zT _ _ h1 h2) e1
    .rw [oz e3];exact Mr.yz _ _ _ h1 h2
end HT
namespace Mr
open PySem PySem.Spec PyProof.Rows L2
def OR(x y:List (List Int)):Bool:=!HT.uj y x
def uI(ms:List (List (List Int))):List (List (List Int)):=ms.mergeSort OR
theorem vY(ms:List (List (List Int))):(uI ms).Perm ms:=fO _ _
theorem KA(x y z:List (List Int)) (h1:OR x y=true) (h2:OR y z=true):OR x z=true:=by
 unfold OR at *;rw[eQ]at *;exact HT.yU _ _ _ h1 h2
theorem KL(x y:List (List Int)):(OR x y || OR y x)=true:=by
 unfold OR;cases h:HT.uj y x with
 |false=>rfl
 |true=>rw[HT.Al _ _ h];rfl
theorem G5(ms:List (List (List Int))):(uI ms).Pairwise (λx y=>HT.uj y x=false):=by
 have:=eG (le:=OR) (λa b c=>KA a b c) (λa b=>KL a b) ms
 exact this.imp λh=>by unfold OR at h;rwa [eQ]at h
theorem Jh{xs ms:List (List (List Int))}(hp:xs.Perm ms) (h:xs.Pairwise (λx y=>HT.uj y x=false)):xs=uI ms :=
 aW.eq_of_pairwise (λa b _ _ e1 e2=>HT.D4 a b e2 e1) h (G5 ms) (hp.trans (vY ms).symm)
def yH(H:Hp) (p:Addr) (m:List (List Int)):Prop:=∃qs,H p=some (.lst (qs.map V.ref))/\qD H qs m
def mapOf(H:Hp) (p:Addr):List (List Int):=match H p with
 |some (.lst vs)=>vs.map λv=>match v with|.ref q=>xu H q|_=>[]
 |_=>[]
theorem yH.eq{H:Hp}{p:Addr}{m:List (List Int)}(h:yH H p m):mapOf H p=m:=by
 obtain⟨qs,h1,h2⟩:=h;unfold mapOf;rw[h1];show (qs.map V.ref).map _=m;rw[mPq,h2.fn];rfl
theorem yH.same{H H':Hp}{p:Addr}{m:List (List Int)}(h:yH H p m) (s:ot H H'):yH H' p m:=by
 obtain⟨qs,h1,h2⟩:=h;exact⟨qs,s _ _ h1,h2.same s⟩
def Jk(H:Hp) (ps:List Addr) (ms:List (List (List Int))):Prop:=ms=ps.map (mapOf H)/\∀p∈ps,yH H p (mapOf H p)
def Ym(r:Addr->List (List Int)) (x y:iW):Bool:=match x.1,y.1 with
 | .ref p,.ref q=>HT.uj (r p) (r q)
 |_,_=>false
def DO(h:Heap) (p:Addr) (m:List (List Int)):Prop:=∃qs:List Addr,lz h p (qs.map aE).toArray/\HT.Aa h qs m/\qs.length=m.length
theorem XQ{prog:je}{w:jf}{A:Around}{s:iV}{ps:List Addr}{r:Addr->List (List Int)}(hu:A.units+40<jv)
  (h:∀p∈ps,DO s.heap p (r p)):MrS.xq prog w A s jN (λx=>∃p,x.1 = .ref p/\p∈ps) (Ym r) where
 ask:=by
  rintro⟨_,x⟩ ⟨_,y⟩ ⟨p,e1,hp⟩ ⟨q,e2,hq⟩ E Q k;dsimp only at e1 e2;subst e1 e2;obtain⟨us,⟨o,n,ho,hc,hd0,hd⟩,hi,li⟩:=h p hp;obtain⟨ws,⟨o2,n2,ho2,hc2,hd02,hd2⟩,hj,lj⟩:=h q hq;obtain⟨cls,dd,data,sl⟩:=o;obtain⟨cls2,dd2,data2,sl2⟩:=o2;simp only at hc hd0 hd hc2 hd02 hd2;subst hc hd0 hd hc2 hd02 hd2;rw[kZ,oneLt'_eq];simp only[if_true];refine ja (wpAny_cRoomFor (by lia) ?_)
  refine ja (kj ⟨_,ho,rfl⟩ F.slot_list_lt (jQ F.slot_list_lt ⟨_,ho,rfl⟩ F.entry_list_lt (F.args_list_lt_2 _ _)
   (HT.OP p q _ _ n n2 none none sl sl2 us ws (r p) (r q) (by simp) (by simp) li lj) ⟨?_,hi,hj,ho,ho2,?_⟩))
  .first
    | (show A.units+32<jv;lia)
    | (show A.units+1+32<jv;lia)
    | (show A.units+1+1+32<jv;lia)
  .exact jn k
 asym:=by
  rintro⟨_,x⟩ ⟨_,y⟩ ⟨a,e1,_⟩ ⟨b,e2,_⟩ h;dsimp only at e1 e2;subst e1 e2;exact HT.Al _ _ h
 trans:=by
  rintro⟨_,x⟩ ⟨_,y⟩ ⟨_,z⟩ ⟨a,e1,_⟩ ⟨b,e2,_⟩ ⟨c,e3,_⟩ h1 h2;dsimp only at e1 e2 e3;subst e1 e2 e3;exact HT.yU _ _ _ h1 h2
section
variable {X:Cx}
theorem TM{nA:List (Addr×Obj)}{σ:St}{H:Hp}{s:iV}(I:Inv X nA σ H s) {p:Addr}{m:List (List Int)}(h:yH H p m):DO s.heap p m:=by
 obtain⟨qs,h1,h2⟩:=h;obtain⟨its,rv,pl,_⟩:=I.list (qC.of h1);have ei:=yy rv;subst ei;refine⟨qs,pl,λi q r hq hr=>?_,h2.length⟩
 obtain⟨r',e1,e2⟩:=h2.get hq;rw[hr]at e1;cases e1;obtain⟨its,rv,pl,_⟩:=I.list (qC.of e2);exact⟨its,pl,wF rv⟩
theorem DO.keep{h h':Heap}(k:∀b o,h.get? b=some o->h'.get? b=some o) {p:Addr}{m:List (List Int)}(x:DO h p m):DO h' p m:=by
 obtain⟨qs,⟨o,n,ho,rest⟩,hr,hl⟩:=x;refine⟨qs,⟨o,n,k _ _ ho,rest⟩,λi q r hq hr'=>?_,hl⟩
 obtain⟨vs,⟨o2,n2,ho2,rest2⟩,hi⟩:=hr i q r hq hr';exact⟨vs,⟨o2,n2,k _ _ ho2,rest2⟩,hi⟩
theorem E5(hu:X.A.units+64<jv):sv X (.builtin "sorted") (λxs H Q=>∃(a:Addr) (ps:List Addr) (ms:List (List (List Int))),xs=[.ref a]/\qC X.K H a (ps.map V.ref)/\Jk H ps ms /\
  ∀(p:Addr) (qs:List Addr),H p=none->qs.Perm ps->qs.map (mapOf H)=uI ms->Q (.ref p) (upd H p (.lst (qs.map V.ref)))):=by
 intro nA s σ H xs us Q I r h;obtain⟨a,ps,ms,rfl,hS,⟨hm,hE⟩,q⟩:=h;obtain⟨u,rfl,ru⟩:=yF r;cases ru;obtain⟨its,rv,hl,hz⟩:=I.list hS;have ei:=yy rv;subst ei;have keepL:∀(s':iV),(∀b o,s.heap.get? b=some o->s'.heap.get? b=some o)->∀p∈ps,DO s'.heap p (mapOf H p):=λs' k p hp=>(TM I (hE p hp)).keep k
 refine MrS.CS (Pk:=λx=>∃p,x.1 = .ref p/\p∈ps) (lt:=Ym (mapOf H)) hl.isList (by simpa using hz) (λs' k=>⟨λh2 Q q=>?_,XQ (by show X.A.units+1+1+40<jv;lia) (keepL s' k)⟩) (λv m=>?_) λout h' n' o1 o2 o3 o4=>?_
 .refine JC (T := "list") h2 (λv hv=>?_) (by rfl) (by rfl) q
  obtain⟨p,hp,rfl⟩:=mMq.mp hv;obtain⟨vs,pl,_⟩:=keepL s' k p hp;intro A Q E s2 k2 q2;obtain⟨o,ho,hc,_⟩:=pl.isList;exact wpAny_typeOf (T := "list") ⟨o,k2 _ _ ho,hc⟩ q2
 .obtain ⟨p,hp,rfl⟩:=mMq.mp m;exact⟨p,rfl,hp⟩
 .have ho:∀v∈out,∃p∈ps,v = .ref p:=λv m=>by
   obtain⟨p,hp,rfl⟩:=mMq.mp (o1.mem_iff.mp m);exact⟨p,hp,rfl⟩
  have eo:out=(out.map tV).map aE:=by
   rw[mPq];have e:=mCq (l:=out) (f:=id) (g:=aE∘tV) λv hv=>by
    obtain⟨p,_,rfl⟩:=ho v hv;rfl
   rw[←e,fg]
  have hq:(out.map tV).Perm ps:=by
   have:=o1.map tV;rw[mPq,show tV∘aE=id from rfl,fg]at this
   exact this
  have hp:H (s.heap.objs.size+1)=none:=I.hok.fresh (bO _);generalize out.map tV=qs at eo hq;have es:qs.map (mapOf H)=uI ms:=by
   refine Jh (by rw[hm];exact hq.map _) ?_
   rw[bq];rw[eo,bq]at o2;exact o2
  refine⟨.ref (s.heap.objs.size+1),_,I.laid (t':=s.toks) o3 (bO _) (show qv X.prog X.w _ h' _ (.lst (qs.map V.ref)) from ⟨?_,out,n',?_,o4⟩),rfl,q _ qs hp hq es⟩
  .rw [lMq,hq.length_eq];simpa using hz
  .rw [eo];exact Ao qs
end
end Mr
namespace Z
open PySem L2 Mr
def W2:D->Option (List (List Int))
 | .list ds=>uE ds
 |_=>none
def yg:List D->Option (List (List (List Int)))
 | []=>some []
 |d::ds=>(W2 d).bind λm=>(yg ds).map (m :: ·)
theorem wI:∀ms:List (List (List Int)),yg (ms.map dM)=some ms
 | []=>rfl
 |m::ms=>by
  show (uE (m.map dI)).bind _=_;rw[yS,fh,wI ms];rfl
theorem DC:∀{ds:List D}{ms:List (List (List Int))},yg ds=some ms->ds=ms.map dM
 | [],ms,h=>by cases h;rfl
 |d::ds,ms,h=>by
  obtain⟨m,h1,h⟩:=oBq.mp h;obtain⟨r,h2,h⟩:=oMq.mp h;cases h;cases d with
  |list es =>
   rw[DC h2,Aq (show uE es=some m from h1)]
   rfl
  |_=>cases h1
def Ih(l:ML):MK:=λS=>(l S).bind λx=>(yg x.1).map λms=>(.ow ((uI ms).map λm=>.sh (dM m)),x.2)
theorem yp(l:ML) (S:AS):Ih l S=(l S).bind λx=>(yg x.1).map λms=>(.ow ((uI ms).map λm=>.sh (dM m)),x.2):=rfl
section
variable {K:W.Frag}{te:TE}{l:ML}
theorem yJ{H:Hp}:∀{ms:List (List (List Int))}{vs:List V},oX K H (ms.map dM) vs->∃ps,vs=ps.map V.ref/\Jk H ps ms
 | [],vs,h=>⟨[],h.nil_inv,rfl,λp hp=>by cases hp⟩
 |m::ms,vs,h=>by
  obtain⟨v,ws,rfl,h1,h2⟩:=h.cons_inv;obtain⟨ps,rfl,e1,e2⟩:=yJ h2;obtain⟨p,us,rfl,g1,g2⟩:=h1.list_inv;obtain⟨qs,rfl,g3⟩:=vv g2;have im:yH H p m:=⟨qs,g1,g3⟩;refine⟨p::ps,rfl,by rw[au,im.eq,e1],λq hq=>?_⟩
  rcases ah.mp hq with z|z
  .rw [z,im.eq];exact im
  .exact e2 q z
theorem D9{H:Hp}:∀{ps:List Addr},(∀p∈ps,yH H p (mapOf H p))->oX K H ((ps.map (mapOf H)).map dM) (ps.map V.ref)
 | [],_=>oX.nil
 |p::ps,h=>by
  obtain⟨qs,g1,g2⟩:=h p (ai ..);exact oX.cons (qb.mk_list g1 (zZ g2)) (D9 λq hq=>h q (mCo _ hq))
theorem Nj(hl:SQ K te l):SK K (T2 (λxs H Q=>∃(a:Addr) (ps:List Addr) (ms:List (List (List Int))),xs=[.ref a]/\qC K H a (ps.map V.ref)/\Jk H ps ms /\
  ∀(p:Addr) (qs:List Addr),H p=none->qs.Perm ps->qs.map (mapOf H)=uI ms->Q (.ref p) (upd H p (.lst (qs.map V.ref)))) (rM te vw)) (Ih l):=by
 intro H₀ Hf₀ Hf S σ H Fs av S' R e Q q;obtain⟨x,e1,e⟩:=oBq.mp e;obtain⟨ms,e2,e⟩:=oMq.mp e;cases e;refine hl R (ds:=x.1) (S':=x.2) e1 _ λHf1 H1 Fs1 p1 vs1 t1 R1 h1 r1=>?_
 rw[DC e2]at r1;obtain⟨ps,rfl,hm,hE⟩:=yJ r1;have hsame:∀p∈ps,mapOf H1 p=mapOf Hf1 p:=λp hp=>((hE p hp).same R1.sub).eq
 have hE1:Jk H1 ps ms:=⟨by rw[hm];exact mCq λp hp=>(hsame p hp).symm,λp hp=>by rw[hsame p hp];exact(hE p hp).same R1.sub⟩
 refine⟨p1,ps,ms,rfl,h1,hE1,λp qs hp hq es=>?_⟩
 obtain⟨t4,R4,n1,n2,n3⟩:=R1.new (o:=.lst (qs.map V.ref)) hp;have hq2:∀b∈qs,yH Hf1 b (mapOf Hf1 b):=λb hb=>hE b (hq.mem_iff.mp hb)
 have es2:qs.map (mapOf Hf1)=uI ms:=by rw[←es];exact mCq λb hb=>(hsame b (hq.mem_iff.mp hb)).symm
 have e3:(uI ms).map (λm=>AV.sh (dM m))=((uI ms).map dM).map AV.sh:=by rw[mPq];rfl
 rw[e3]at q;refine q _ _ _ (.ref p) [p] (t1.trans t4) R4 (oE.new nZ n1 ?_) ((xk.one R1 hp).back t1);rw[←es2];exact D9 hq2
end
end Z
namespace Z
open PySem L2 Mr Xe
def Mk(f:D->D->Option D) (m b:ME):ME:=λS=>(m S).bind λx=>(b x.2).bind λy=>(f x.1 y.1).bind λd=>if d.scal then some (d,y.2) else none
def Ze(i:Nat) (g:Int->Int->Int) (b:ME):MS:=λS=>(nI i S).bind λx=>(intOf x.1).bind λa=>(b x.2).bind λy=>(intOf y.1).map λc=>.nx (y.2.set i (some (.sh (.int (g a c)))))
def CZ(i:Nat) (pf:MP) (mm:ME):MS:=λS=>(pf S).bind λx=>(pM x.2 i).bind λavs=>(ou (.ow avs) x.1).bind λas=>(mm (x.2.set i none)).bind λy=>tP (y.2[i]?=some none/\as.length<qW) (some (.nx (y.2.set i (some (putAt (.ow avs) x.1 (as++[.sh y.1]))))))
def Yr(g:MF) (f:FE) (a:MA):MX:=λS=>(a S).bind λx=>(f (x.1.map nM)).bind (CD λr=>(g [nM r]).map λz=>.ok (.rt z))
section
variable {K:W.Frag}
theorem VN{r:R2}{f:D->D->Option D}{ta tb:TE}{m b:ME}(hr:Bx K r f) (ha:SM K ta m) (hb:SR K tb b):SM K (OT r ta tb) (Mk f m b):=by
 intro H₀ Hf₀ Hf S σ H Fs d S' R e Q q;obtain⟨x,e1,e⟩:=oBq.mp e;obtain⟨y,e2,e⟩:=oBq.mp e;obtain⟨z,e3,e⟩:=oBq.mp e;split at e
 .rename_i hs;cases e;refine ha R (d:=x.1) (S':=x.2) e1 _ λHf1 H1 Fs1 v1 t1 R1 r1=>hb R1 (d:=y.1) (S':=y.2) e2 _ λHf2 H2 Fs2 v2 t2 R2 r2=>?_
  exact hr ((r1.mono R1.sub).mono t2.sh) r2 e3 λv rv=>q _ _ _ v (t1.trans t2.sf) R2 (rv.scal hs)
 .cases e
end
theorem UM(S:AS) (f:D->D->Option D) (m b:ME):Mk f m b S=(m S).bind λx=>(b x.2).bind λy=>(f x.1 y.1).bind λd=>if d.scal then some (d,y.2) else none:=rfl
theorem QW(S:AS) (i:Nat) (pf:MP) (mm:ME):CZ i pf mm S=(pf S).bind λx=>(pM x.2 i).bind λavs=>(ou (.ow avs) x.1).bind λas=>(mm (x.2.set i none)).bind λy=>tP (y.2[i]?=some none/\as.length<qW) (some (.nx (y.2.set i (some (putAt (.ow avs) x.1 (as++[.sh y.1])))))):=rfl
def Y1:=aa @UM @QW
def Yw:=aa zq (aa YD (aa Y3 (aa YI (aa YW (aa Zc (aa YM (aa Y8 (aa Y9 (Y1)))))))))
end Z
local macro_rules | `(tactic| simp_arith [$ls,*]) => `(tactic| simp -implicitDefEqProofs only [Z.Yw,iI,iJ,ik,il,gN,↓reduceIte,reduceCtorEq,$ls,*])
namespace Z
open PySem L2 Mr Xe
def Bq(S:AS):AS:=S.map λx=>x.map λa=>.sh (nM a)
def vI(x y:Nat) (body:MS):List D->AS->Option A6
 | [],S=>some (.nx S)
 | .tup [a,b]::ds,S=>(body ((S.set x (some (.sh a))).set y (some (.sh b)))).bind λo=>match o with
  | .nx S'=>vI x y body ds S'
  | .ct S'=>vI x y body ds S'
  | .bk S'=>some (.nx S')
  | .rt a=>some (.rt a)
 |_,_=>none
def Mw(x y:Nat) (k:MK) (body:MS):MS:=λS=>(rh k S).bind λz=>(qo (nM z.1)).bind λds=>vI x y body ds z.2
section
variable {K:W.Frag}{H₀ Hf₀ Hf H:Hp}{S:AS}{σ:St}{Fs:List (List Addr)}
theorem oH.pin(R:oH K H₀ Hf₀ Hf S σ H Fs):oH K H H H (Bq S) σ H (aQ S.length []):=by
 have lt:∀{i:Nat}{x:Option AV},(Bq S)[i]?=some x->(aQ S.length ([]:List Addr))[i]?=some []:=λ{i x} e=>by
  have:=(gSq.mp e).1;unfold Bq at this;rw[lMq]at this;rw[bH,oq this]
 refine⟨by unfold Bq;rw[lMq];exact R.len,by unfold Bq;rw[dC,lMq],λi av e=>?_,λi e=>lt e,by rw[qS];exact aZ,λp hp=>(by rw[qS]at hp;cases hp),.refl _,.refl _,λb h g=>absurd h g,.refl _⟩
 have hF:=lt e;unfold Bq at e;rw[gMq]at e;obtain⟨x,hx,e⟩:=oMq.mp e;obtain⟨a,ha,e2⟩:=oMq.mp e;subst ha;subst e2;obtain⟨v,F,s1,s2,r⟩:=R.rep i a hx;exact⟨v,[],s1,hF,.sh (r.rep R.sub)⟩
theorem QI{te:TE}{k:MK}{tb:TS}{body:MS}{x y:Nat}(hk:SK K te k) (hb:SS K tb body):SS K (G2 (Dy K te) (Il K 2 (wc (qt x) (wc (qt y) HG))) tb) (Mw x y k body):=by
 intro H₀ Hf₀ Hf S σ H Fs o R e D h;obtain⟨z,e1,e⟩:=oBq.mp e;obtain⟨ds,e2,e⟩:=oBq.mp e;have hk':SK K te (rh k):=SK.frz hk;refine hk' R (a:=z.1) (S':=z.2) e1 _ λHf1 H1 Fs1 v F t1 R1 r1 o1=>?_
 obtain⟨d,hd⟩:=tK (te:=te) e1;rw[hd]at r1;rw[hd,pJ]at e2;obtain⟨a,vs,rfl,g1,g2⟩:=tx e2 r1.sh_inv.2;refine⟨a,rfl,⟨vs,R1.sub.seq g1⟩,CO (xs:=vs) (λi σ' H'=>∃Hf' S' Fs',oH K H₀ Hf₀ Hf' S' σ' H' Fs'/\ot Hf1 Hf'/\vI x y body (ds.drop i) S'=some o) ⟨Hf1,z.2,Fs1,R1,.refl _,e⟩
  (λi σ' H' _ ⟨Hf',S',Fs',R',s',_⟩=>R'.sub.seq (s'.seq g1)) ?_ ?_⟩
 .rintro i w σ' H' hw ⟨Hf',S',Fs',R',s',e'⟩;obtain⟨di,hdi,rw'⟩:=g2.get' hw;have hlt:i<ds.length:=(gSq.mp hdi).1;rw[aB hlt]at e';have hdi':ds[i]=di:=(gSq.mp hdi).2;rw[hdi']at e';unfold vI at e';split at e'
  .rename_i q;cases q
  .rename_i a1 b1 ds' S1 q;obtain⟨q1,q2⟩:=gZ.inj q;subst q1;subst q2;obtain⟨ob,e3,e4⟩:=oBq.mp e';obtain⟨p,us,rfl,h1,h2⟩:=(rw'.mono s').tup_inv;obtain⟨v1,ws,rfl,h3,h4⟩:=h2.cons_inv;obtain⟨v2,ws2,rfl,h5,h6⟩:=h4.cons_inv;cases h6.nil_inv;refine⟨p,_,rfl,Bh.of (R'.sub _ _ h1),rfl,_,_,rfl,_,_,rfl,rfl,hb ((R'.setD x h3).setD y h5) e3 _ ?_⟩;cases ob with
   |nx S2=>exact λHf2 σ2 H2 Fs2 s2 R2=>⟨Hf2,S2,Fs2,R2,s'.trans s2,e4⟩
   |ct S2=>exact λHf2 σ2 H2 Fs2 s2 R2=>⟨Hf2,S2,Fs2,R2,s'.trans s2,e4⟩
   |bk S2=>cases e4;exact λHf2 σ2 H2 Fs2 s2 R2=>h _ _ _ _ ((t1.sf.trans s').trans s2) R2
   |rt a=>cases e4;exact h
  .cases e'
 .rintro σ' H' ⟨Hf',S',Fs',R',s',e'⟩;rw[←g2.1,bX]at e';cases e';exact h _ _ _ _ (t1.sf.trans s') R'
theorem NL{α:Type}{l:List α}{i:Nat}{a:α}(h:l[i]?=some a):l.set i a=l:=by
 refine dF λj=>?_
 by_cases e:i=j
 .subst e;rw[aC (gSq.mp h).1,h]
 .rw [ao e]
theorem oH.insP{i:Nat}{avs as:List AV}{path:List Nat}{v:V}{p:Addr}(R:oH K H₀ Hf₀ Hf S σ H Fs) (e:S[i]?=some (some (.ow avs))) (s1:σ[i]?=some (some v)) (en:ou (.ow avs) path=some as) (h:Bk H v path (.ref p)) :
  ∃vs,H p=some (.lst vs)/\as.length=vs.length/\qb K H (nM (.ow as)) (.ref p)/\∀(d:D) (w:V) (n:Nat),n<=as.length->qb K Hf d w ->
   ∃Fs',oH K H₀ Hf₀ Hf (S.set i (some (putAt (.ow avs) path (as.take n ++ .sh d::as.drop n)))) σ (upd H p (.lst (vs.take n++w::vs.drop n))) Fs':=by
 obtain⟨v',F,t1,t2,r,nd,oo,_⟩:=R.move e;rw[s1]at t1;cases t1;obtain⟨p',vs,Es,g1,g2,g3,g4,g5,g6,g6',g7,g8⟩:=r.path nd en;have hpp:V.ref p=V.ref p':=h.one g1;cases hpp;refine⟨vs,g2,g4.1,(oE.news g2 g3 g4).rep R.sub,λd w n hn rd=>?_⟩
 have hfl:(Es.take n++[]::Es.drop n).flatten=Es.flatten:=by
  rw[fAq,fCq,bQ,←fAq,aX]
 obtain⟨F',k1,k2,k3⟩:=g8 (as.take n ++ .sh d::as.drop n) (vs.take n++w::vs.drop n) (Es.take n++[]::Es.drop n) ((g4.ins rd n hn).keepUpd (by rw[hfl];exact g6)) (by
  rw[hfl];exact ax.mpr ⟨g6,g6'⟩) (λq hq=>by
  rw[hfl]at hq;exact .inl hq)
 refine⟨_,R.turnAny s1 t2 g5 k1 k2 λq hq=>?_⟩
 rcases k3 q hq with z|z
 .exact oo q z
 .rw [hfl]at z;exact oo q (g7 q z)
end
theorem yB(a:AV) (S:AS):Bq (some a::S)=some (.sh (nM a))::Bq S:=rfl
theorem yw(S:AS):Bq (none::S)=none::Bq S:=rfl
theorem OL(x y:Nat) (k:MK) (body:MS) (S:AS):Mw x y k body S=(rh k S).bind λz=>(qo (nM z.1)).bind λds=>vI x y body ds z.2:=rfl
def SW(K:W.Frag) (te:TE) (m:MK):Prop:=∀{H₀ Hf₀ Hf:Hp}{S:AS}{σ:St}{H:Hp}{Fs:List (List Addr)}{a:AV}{S':AS},oH K H₀ Hf₀ Hf S σ H Fs->m S=some (a,S')->∀Q:VK,
 (∀Hf' H' Fs' v F,ot Hf Hf'->oH K H₀ Hf₀ Hf' S' σ H' Fs'->oE K Hf' H' a v F->F.Nodup->(∀q∈F,H₀ q=none/\q∉Fs'.flatten)->Q v H')->te σ H Q
end Z
namespace Ms
open PySem PyProof.Rows Mr
def Xv(F:List Int) (k:Int):List Int:=if k∈F then F else F++[k]
def dd(ns:List Int):List Int:=ns.foldl Xv []
def SA(h:Heap) (a:Addr) (es:Array (Int×Value)) (ep:Nat) (t:SetTable):Prop:=∃o,h.get? a=some o/\o.ExactSet/\o.data = .set es ep t
end Ms
namespace Z
open PySem L2 Mr
theorem B9{d:D}{z:Int}(h:intOf d=some z):d = .int z:=by
 revert h
 unfold intOf;split <;> intro e2 <;> cases e2
 rfl
end Z
namespace Z
open PySem PySem.Spec PyProof.Rows L2 Mr
inductive Dk:Nat->D->PyData->Prop
 |non {n}:Dk n .non .none
 |bl {n b}:Dk n (.bl b) (.bool b)
 |int {n i}:Dk n (.int i) (.int i)
 |str {n x} (h:PyData.canLay0 (.str x)=true):Dk n (.str x) (.str x)
 |list {n} {ds:List D}{ps:List PyData}(l:ds.length=ps.length) (e:∀(i:Nat) (d:D) (p:PyData),ds[i]?=some d->ps[i]?=some p->Dk n d p):Dk (n+1) (.list ds) (.list ps)
 |tup {n} {ds:List D}{ps:List PyData}(l:ds.length=ps.length) (e:∀(i:Nat) (d:D) (p:PyData),ds[i]?=some d->ps[i]?=some p->Dk n d p):Dk (n+1) (.tup ds) (.tuple ps)
theorem Ap{α:Type}{ds:List D}{ps:List α}(l:ds.length=ps.length) {p:α}(h:p∈ps):∃(i:Nat) (d:D),ds[i]?=some d/\ps[i]?=some p:=by
 obtain⟨i,hi⟩:=aV.mp h;have hl:=(gSq.mp hi).1;exact⟨i,_,gEg (l ▸ hl),hi⟩
theorem Jt{ps:List PyData}(h:∀p∈ps,p.canLay0=true):PyData.canLayAll0 ps=true:=by
 induction ps with
 |nil=>rfl
 |cons p ps ih=>rw[PyData.canLayAll0,h p (ai ..),ih λq hq=>h q (mCo _ hq)];rfl
theorem JN{ps:List PyData}(h:∀p∈ps,SeqAt.noMix p p=true):SeqAt.noMixAll ps ps=true:=by
 induction ps with
 |nil=>simp[SeqAt.noMixAll]
 |cons p ps ih=>rw[SeqAt.noMixAll,h p (ai ..),ih λq hq=>h q (mCo _ hq)];rfl
theorem G0{n:Nat}{ps:List PyData}(h:∀p∈ps,p.depth<=n):PyData.depthAll ps<=n:=by
 induction ps with
 |nil=>rw[PyData.depthAll];exact bg _
 |cons p ps ih =>
  rw[PyData.depthAll];have:=h p (ai ..);have:=ih λq hq=>h q (mCo _ hq)
  lia
theorem Dk.lay{n:Nat}{d:D}{p:PyData}(h:Dk n d p):p.canLay0=true:=by
 induction h with
 |str h=>exact h
 |list l _ ih=>rw[PyData.canLay0];exact Jt λp hp=>let ⟨i,d,h1,h2⟩:=Ap l hp;ih i d p h1 h2
 |tup l _ ih=>rw[PyData.canLay0];exact Jt λp hp=>let ⟨i,d,h1,h2⟩:=Ap l hp;ih i d p h1 h2
 |_=>rfl
theorem Dk.mix{n:Nat}{d:D}{p:PyData}(h:Dk n d p):SeqAt.noMix p p=true:=by
 induction h with
 |list l _ ih=>rw[SeqAt.noMix];exact JN λp hp=>let ⟨i,d,h1,h2⟩:=Ap l hp;ih i d p h1 h2
 |tup l _ ih=>rw[SeqAt.noMix];exact JN λp hp=>let ⟨i,d,h1,h2⟩:=Ap l hp;ih i d p h1 h2
 |_=>simp[SeqAt.noMix]
theorem Dk.deep{n:Nat}{d:D}{p:PyData}(h:Dk n d p):p.depth<=n:=by
 induction h with
 |list l _ ih=>rw[PyData.depth];exact gk (G0 λp hp=>let ⟨i,d,h1,h2⟩:=Ap l hp;ih i d p h1 h2)
 |tup l _ ih=>rw[PyData.depth];exact gk (G0 λp hp=>let ⟨i,d,h1,h2⟩:=Ap l hp;ih i d p h1 h2)
 |_=>simp[PyData.depth]
theorem Ac{h:Heap}:∀{ds:List D}{ps:List PyData}{vs:List V}{us:List Value},oN vs us->ds.length=ps.length->ds.length=vs.length->(∀(i:Nat) (d:D) (p:PyData) (v:V) (u:Value),ds[i]?=some d->ps[i]?=some p->vs[i]?=some v->pI v u->∃as,Reads h u p as)->∃as,ReadsAll h us ps as
 | [],[],[],us,r,_,_,_=>by cases r;exact⟨_,.nil⟩
 |d::ds,p::ps,v::vs,us,r,l1,l2,e=>by
  cases r with
  | @cons _ u _ us r1 r2 =>
   obtain⟨as,h1⟩:=e 0 d p v u rfl rfl rfl r1;obtain⟨bs,h2⟩:=Ac r2 (by simpa using l1) (by simpa using l2) λi d p v u a b c=>e (i+1) d p v u (by simpa using a) (by simpa using b) (by simpa using c)
   exact⟨_,.cons h1 h2⟩
 | [],_::_,_,_,_,h,_,_=>by simp at h
 |_::_,[],_,_,_,h,_,_=>by simp at h
 | [],_,_::_,_,_,_,h,_=>by simp at h
 |_::_,_,[],_,_,_,h,_=>by simp at h
theorem Dk.reads{X:Cx}{nA:List (Addr×Obj)}{σ:L2.St}{H:Hp}{s:iV}(I:Inv X nA σ H s) {n:Nat}{d:D}{p:PyData}(h:Dk n d p):∀{v:V}{u:Value},qb X.K H d v->pI v u->∃as,Reads s.heap u p as:=by
 induction h with
 |non=>intro v u r ru;cases r;cases ru;exact⟨_,.none⟩
 |bl=>intro v u r ru;cases r;cases ru;exact⟨_,.bool _⟩
 |int=>intro v u r ru;cases r;obtain⟨t,rfl⟩:=ru;exact⟨_,.int _ _⟩
 |str=>intro v u r ru;cases r;obtain⟨t,rfl⟩:=ru;exact⟨_,.str _ _⟩
 |list l _ ih =>
  intro v u r ru;obtain⟨q,vs,rfl,h1,h2⟩:=r.list_inv;cases ru;obtain⟨its,rv,hl,hz⟩:=I.list (qC.of h1);obtain⟨o,ho,hc,n,hd⟩:=hl.isList;obtain⟨as,e⟩:=Ac rv l h2.1 λi d p v u a b c ru=>ih i d p a b (h2.2 i d v a c) ru
  exact⟨_,Reads.list ho hc hd (by simpa using e)⟩
 |tup l _ ih =>
  intro v u r ru;obtain⟨q,vs,rfl,h1,h2⟩:=r.tup_inv;cases ru;obtain⟨its,rv,⟨o,ho,hc,n,hd⟩,hz⟩:=I.tuple (Bh.of h1);obtain⟨as,e⟩:=Ac rv l h2.1 λi d p v u a b c ru=>ih i d p a b (h2.2 i d v a c) ru
  exact⟨_,Reads.tuple ho hc hd (by simpa using e)⟩
def Ro(K:W.Frag) (b:Bool):R2:=λx y H Q=>∃n d p,Dk n d p/\n<=64/\qb K H d x/\qb K H d y/\Q (.bl b) H
theorem Dk.shaped{n:Nat}{d:D}{p:PyData}(h:Dk n d p) (hn:n<=64):SeqAt.shaped p=true:=by
 show (PyData.canLay0 p && decide (PyData.depth p<=64))=true;rw[h.lay,decide_eq_true (bN h.deep hn)];rfl
theorem Mf{X:Cx}(hu:X.A.units+64<jv):Bg X (jq .Eq) (Ro X.K true):=by
 intro nA s σ H x y v u Q I rx ry h;obtain⟨n,d,p,hd,hn,r1,r2,q⟩:=h;obtain⟨as,e1⟩:=hd.reads I r1 rx;obtain⟨bs,e2⟩:=hd.reads I r2 ry;refine eq_dataH_same e1 e2 (hd.shaped hn) (hd.shaped hn) hu hd.mix ?_;rw[same_self];exact oZ I q rfl
def Pg(x y:D):Option D:=tP (x=y/\∃n p,Dk n x p/\n<=64) (some (.bl true))
section
variable {K:W.Frag}
theorem Ma:Bx K (Ro K true) Pg:=by
 intro x y H Q dx dy d rx ry e q;rcases oj e with ⟨⟨h0,n,p,h1,h2⟩,e'⟩|e'
 .cases e';subst h0;exact⟨n,dx,p,h1,h2,rx,ry,q _ .bl⟩
 .cases e'
def Os(f g:D->D->Option D) (a b c:ME):ME:=λS=>(a S).bind λx=>(b x.2).bind λy=>(f x.1 y.1).bind λd=>match d with
 | .bl true=>(c y.2).bind λz=>if y.1.scal=true then (g y.1 z.1).map λd'=>(d',z.2) else none
 | .bl false=>some (.bl false,y.2)
 |_=>none
theorem Uv{r r':R2}{f g:D->D->Option D}{ta tb tc:TE}{a b c:ME}(hf:Bx K r f) (hg:Bx K r' g) (ha:SR K ta a) (hb:SR K tb b) (hc:SR K tc c) (hsc:∀x y d,f x y=some d->x.scal=true):SR K (N6 r r' ta tb tc) (Os f g a b c):=by
 intro H₀ Hf₀ Hf S σ H Fs d S' R e Q q;obtain⟨x,e1,e⟩:=oBq.mp e;obtain⟨y,e2,e⟩:=oBq.mp e;obtain⟨k,e3,e⟩:=oBq.mp e;refine ha R (d:=x.1) (S':=x.2) e1 _ λHf1 H1 Fs1 v1 t1 R1 r1=>hb R1 (d:=y.1) (S':=y.2) e2 _ λHf2 H2 Fs2 v2 t2 R2 r2=>?_
 refine hf (r1.scal (hsc _ _ _ e3)) r2 e3 λv rv=>?_
 split at e
 .cases rv;refine⟨true,rfl,Dc ?_⟩;obtain⟨z,e4,e⟩:=oBq.mp e;split at e
  .rename_i hy;obtain⟨d',e5,e⟩:=oMq.mp e;cases e;refine hc R2 (d:=z.1) (S':=z.2) e4 _ λHf3 H3 Fs3 v3 t3 R3 r3=>?_
   exact hg (r2.scal hy) r3 e5 λw rw=>q _ _ _ w ((t1.trans t2).trans t3) R3 rw
  .cases e
 .cases rv;cases e;exact⟨false,rfl,CT (q _ _ _ _ (t1.trans t2) R2 .bl)⟩
 .cases e
theorem Wh(x y d:D) (h:Fw x y=some d):x.scal=true:=by
 cases x <;> first|rfl|cases h
theorem Gb(f g:D->D->Option D) (a b c:ME) (S:AS):Os f g a b c S=(a S).bind λx=>(b x.2).bind λy=>(f x.1 y.1).bind λd=>match d with
 | .bl true=>(c y.2).bind λz=>if y.1.scal=true then (g y.1 z.1).map λd'=>(d',z.2) else none
 | .bl false=>some (.bl false,y.2)
 |_=>none:=rfl
end
end Z
namespace Z
open PySem L2 Mr Xe
abbrev Q5:=List AV->Option (AV×AV)
def Zb(np n j:Nat) (m:MS):Q5:=λas=>if as.length=np then (m (as.map some++aQ (n-as.length) none)).bind λo=>match o with
  | .nx S'=>(S'[j]?.join).map λa=>(.sh .non,a)
  |_=>none
 else none
def AQ(np n j:Nat) (m:MS) (k:MK):Q5:=λas=>if as.length=np then (m (as.map some++aQ (n-as.length) none)).bind λo=>match o with
  | .nx S'=>(k S').bind λx=>(x.2[j]?.join).map λa=>(x.1,a)
  |_=>none
 else none
def HD(K:W.Frag) (j:Nat) (f:Q5):Sp:=λvs H Q _=>∃(Hf:Hp) (as:List AV) (Gs:List (List Addr)) (r:AV×AV),ot Hf H/\oJ K Hf H as vs Gs/\Gs.flatten.Nodup/\f as=some r /\
 ∀Hf' H' v w F F',vs[j]?=some w->ot Hf Hf'->(∀b,b∉Gs.flatten->∀o,H b=some o->H' b=some o)->ot Hf' H'->(∀b,Hf b=none->H b≠none->b∉Gs.flatten->Hf' b=none)->oE K Hf' H' r.1 v F->oE K Hf' H' r.2 w F'->(F++F').Nodup->(∀q∈F++F',H q=none∨q∈Gs.flatten)->Q v H'
def KO(H:Hp) (G:List Addr):Hp:=λb=>if b∈G then none else H b
theorem Ji{H:Hp}{G:List Addr}{b:Addr}(h:b∈G):KO H G b=none:=oq h
theorem zF{H:Hp}{G:List Addr}{b:Addr}(h:b∉G):KO H G b=H b:=oz h
section
variable {K:W.Frag}
theorem RE{Hf H:Hp}{as:List AV}{vs:List V}{Gs:List (List Addr)}(N:List Str) (s:ot Hf H) (r:oJ K Hf H as vs Gs) (nd:Gs.flatten.Nodup) :
  oH K (KO H Gs.flatten) Hf Hf (as.map some++aQ (N.length-as.length) none) (L2.rN N vs) H (Gs++aQ (N.length-as.length) []):=by
 obtain⟨l1,l2,h⟩:=r;have fl:(Gs++aQ (N.length-as.length) []).flatten=Gs.flatten:=by rw[fAq,qS,aNq]
 refine⟨by simp[L2.rN,l1],by simp[l2],λi av e=>?_,λi e=>?_,by rw[fl];exact nd,λp hp=>?_,s,λb o e=>?_,λb h _=>h,ot.refl _⟩
 .by_cases hi:i<as.length
  .rw [gZq (by simpa using hi),gMq]at e
   obtain⟨a,e1,e2⟩:=oMq.mp e;cases e2;have hv:=gEg (show i<vs.length by lia)
   have hG:=gEg (show i<Gs.length by lia)
   refine⟨_,_,?_,?_,h i av _ _ e1 hv hG⟩
   .unfold L2.rN;rw[gZq (by simpa [←l1] using hi),gMq,hv]
    rfl
   .rw [gZq (by lia)]
    exact hG
  .rw [gYq (by simpa using hi)]at e
   have h2:=bZ (mGq e);cases h2
 .by_cases hi:i<as.length
  .rw [gZq (by simpa using hi),gMq,gEg hi]at e
   cases e
  .have hl:=(gSq.mp e).1;rw[lAq,lMq,dC]at hl;rw[gYq (by lia),bH,oq (by lia)]
 .rw [fl]at hp;exact Ji hp
 .by_cases m:b∈Gs.flatten
  .rw [Ji m]at e;cases e
  .rw [zF m]at e;exact e
theorem WW{Hf H Hf' H':Hp}{vs:List V}{Gs:List (List Addr)}{N:List Str}{j:Nat}{S':AS}{σ':St}{Fs':List (List Addr)}{a:AV}{v:V}{F:List Addr}{rv:AV}{Q:VK}{w:V}(hw:vs[j]?=some w)
  (R':oH K (KO H Gs.flatten) Hf Hf' S' σ' H' Fs') (hj:σ'[j]?=(L2.rN N vs)[j]?) (ha:S'[j]?.join=some a) (r:oE K Hf' H' rv v F) (nd:F.Nodup) (fr:∀q∈F,KO H Gs.flatten q=none/\q∉Fs'.flatten)
  (q:∀Hf' H' v w F F',vs[j]?=some w->ot Hf Hf'->(∀b,b∉Gs.flatten->∀o,H b=some o->H' b=some o)->ot Hf' H'->(∀b,Hf b=none->H b≠none->b∉Gs.flatten->Hf' b=none)->oE K Hf' H' rv v F->oE K Hf' H' a w F'->(F++F').Nodup->(∀q∈F++F',H q=none∨q∈Gs.flatten)->Q v H'):Q v H':=by
 obtain⟨w',F',s1,s2,r2,nd2,oo,_⟩:=R'.move (oO ha);have hjs:(L2.rN N vs)[j]?=some (some w):=by
  have hl:=(gSq.mp hw).1;unfold L2.rN;rw[gZq (by simpa using hl),gMq,hw]
  rfl
 rw[hj,hjs]at s1;cases s1;have un:∀q,KO H Gs.flatten q=none->H q=none∨q∈Gs.flatten:=λq h=>by
  by_cases m:q∈Gs.flatten
  .exact .inr m
  .rw [zF m]at h;exact .inl h
 refine q Hf' H' v w F F' hw R'.sf (λb hb o e=>R'.fr b o (by rw[zF hb];exact e)) R'.sub (λb h1 h2 hb=>R'.lim b h1 (by rw[zF hb];exact h2)) r r2 ?_ λp hp=>?_
 .refine nAq.mpr ⟨nd,nd2,λa ha b hb e=>(fr a ha).2 (og s2 (e ▸ hb))⟩
 .rcases mAq.mp hp with z|z
  .exact un p (fr p z).1
  .exact un p (oo p z).1
theorem Hd{t:TS}{m:MS}{te:TE}{k:MK}{np j:Nat}(N:List Str) (h:yr K [j] t m) (hk:SK K te k) (hjn:j<np) {vs:List V}{H:Hp}{Q:VK}{E:XK}(hs:HD K j (AQ np N.length j m k) vs H Q E):xQ t (LN te) { nx:=λ_ H'=>Q .non H',rt:=Q } (L2.rN N vs) H:=by
 obtain⟨Hf,as,Gs,r,s,rs,nd,e,q⟩:=hs;unfold AQ at e;split at e
 .rename_i hl;obtain⟨o,e1,e2⟩:=oBq.mp e;cases o with
  |nx S' =>
   obtain⟨x,e3,e4⟩:=oBq.mp (show ((k S').bind λx=>(x.2[j]?.join).map λa=>(x.1,a))=some r from e2)
   obtain⟨a,e5,e6⟩:=oMq.mp e4;subst e6;refine h (RE N s rs nd) e1 _ λHf' σ' H' Fs' s' R' hJ=>?_
   have hw:=gEg (show j<vs.length by have:=rs.1;lia)
   refine hk R' (a:=x.1) (S':=x.2) e3 _ λHf2 H2 Fs2 v F t2 R2 r2 o2=>?_
   exact WW (F:=F) hw R2 (hJ j (mSq.mpr rfl)) e5 r2 o2.nd (λq hq=>⟨o2.fr q hq,o2.out q hq⟩) q
  |_=>cases e2
 .cases e
theorem LR{m:MS}{k:MK}{np n j:Nat}{vs:List V}{H:Hp}{Q:VK}{E:XK}(hs:HD K j (AQ np n j m k) vs H Q E):vs.length=np:=by
 obtain⟨Hf,as,Gs,r,s,rs,nd,e,q⟩:=hs;unfold AQ at e;split at e
 .rename_i h;rw[←rs.1,h]
 .cases e
theorem oH.chg{H₀ Hf₀ Hf Hf' H H':Hp}{S:AS}{σ:St}{Fs:List (List Addr)}{G:List Addr}(R:oH K H₀ Hf₀ Hf S σ H Fs) (hG:∀q∈G,H₀ q=none/\q∉Fs.flatten) (sf:ot Hf Hf') (hs:∀b,b∉G->∀o,H b=some o->H' b=some o) (sub:ot Hf' H') (l:∀b,Hf b=none->H b≠none->b∉G->Hf' b=none):oH K H₀ Hf₀ Hf' S σ H' Fs:=by
 have out:∀q∈Fs.flatten,q∉G:=λq hq m=>(hG q m).2 hq
 refine⟨R.len,R.lenF,λi av e=>?_,R.emp,R.nd,R.fresh,sub,λb o e=>?_,λb h1 h2=>?_,R.sf.trans sf⟩
 .obtain ⟨v,F,s1,s2,r⟩:=R.rep i av e;refine⟨v,F,s1,s2,r.keep sf (λq hq=>?_) λq hq=>?_⟩
  .have hm:=og s2 hq;have hn:=(R.mem hm).1;cases hz:H q with
   |none=>exact absurd hz hn
   |some u=>exact hs q (out q hm) u hz
  .have hm:=og s2 hq;exact l q (R.mem hm).2 (R.mem hm).1 (out q hm)
 .exact hs b (λm=>by rw[(hG b m).1]at e;cases e) o (R.fr b o e)
 .refine l b (R.lim b h1 h2) (En R.fr h2) λm=>h2 (hG b m).1
theorem Hx{H₀ Hf₀ Hf H:Hp}{S:AS}{σ:St}{Fs:List (List Addr)}{i j:Nat}{w:V}{as:List AV}{vs:List V}{Gs:List (List Addr)}{F:List Addr}{f:Q5}{r:AV×AV}{Q:VK}{E:XK}(R:oH K H₀ Hf₀ Hf S σ H Fs) (hi:S[i]?=some none) (s1:σ[i]?=some (some w)) (rs:oJ K Hf H as vs Gs) (hF:Gs.flatten=F) (nd:F.Nodup) (oF:∀q∈F,H₀ q=none/\q∉Fs.flatten) (hj:vs[j]?=some w) (e:f as=some r)
  (q:∀Hf' H' Fs' v F,ot Hf Hf'->oH K H₀ Hf₀ Hf' (S.set i (some r.2)) σ H' Fs'->oE K Hf' H' r.1 v F->F.Nodup->(∀q∈F,H₀ q=none/\q∉Fs'.flatten)->Q v H'):HD K j f vs H Q E:=by
 subst hF;refine⟨Hf,as,Gs,r,R.sub,rs,nd,e,λHf' H' v w' Fv F' hw sf hs sub l r1 r2 nd2 new=>?_⟩
 rw[hj]at hw;cases hw;have R1:=R.chg oF sf hs sub l;obtain⟨n1,n2,n3⟩:=nAq.mp nd2;have fr:∀q∈Fv++F',H₀ q=none/\q∉Fs.flatten:=λq hq=>by
  rcases new q hq with z|z
  .exact ⟨R.fr.free z,λm=>(R.mem m).1 z⟩
  .exact oF q z
 have R2:oH K H₀ Hf₀ Hf' (S.set i none) σ H' (Fs.set i []):=by
  rw[yi hi,yi (R1.emp i hi)];exact R1
 have R3:=R2.again (F:=[]) (G:=F') s1 r2 n2 λq hq=>⟨(fr q (ar _ hq)).1,λm=>(fr q (ar _ hq)).2 (oQ m)⟩
 refine q Hf' H' _ v Fv sf R3 r1 n1 λq hq=>⟨(fr q (aD _ hq)).1,λm=>?_⟩
 rcases qe m with z|z
 .exact n3 q hq q z rfl
 .exact (fr q (aD _ hq)).2 z
def BB(i:Nat) (f:Q5) (k:MK) (a:MA):MK:=λS=>(rh k S).bind λz=>(pM z.2 i).bind λavs=>(a (z.2.set i none)).bind λx=>(f (.sh (nM z.1) :: .ow avs::x.1.map λa=>.sh (nM a))).bind λr=>tP (x.2[i]?=some none) (some (r.1,x.2.set i (some r.2)))
theorem TH{Hf H:Hp}{as:List AV}{vs:List V}(r:oX K Hf (as.map nM) vs):oJ K Hf H (as.map λa=>AV.sh (nM a)) vs (aQ as.length []):=by
 have:=Jy (K:=K) (Hf:=Hf) (H:=H) r;rw[mPq,lMq]at this;exact this
theorem Ef{i:Nat}{f:Q5}{te:TE}{k:MK}{ta:TA}{a:MA}(hk:SK K te k) (ha:SA K ta a):SW K (A7 (HD K 1 f) [] E0 (rM te (rM (uY i) ta))) (BB i f k a):=by
 intro H₀ Hf₀ Hf S σ H Fs av S' R e Q q;obtain⟨z,e0,e⟩:=oBq.mp e;obtain⟨avs,e1,e⟩:=oBq.mp e;obtain⟨x,e2,e⟩:=oBq.mp e;obtain⟨r,e3,e⟩:=oBq.mp e;rcases oj e with ⟨hi,e⟩|e
 .cases e;have hk':SK K te (rh k):=SK.frz hk;refine hk' R (a:=z.1) (S':=z.2) e0 _ λHf0 H0 Fs0 v0 F0 t0 R0 r0 o0=>?_
  obtain⟨d,hd⟩:=tK (te:=te) e0;rw[hd]at r0 e3;rw[pJ]at e3;have rd:=r0.sh_inv.2;obtain⟨w,F,s1,s2,rw',nd,o,R1⟩:=R0.move (nW e1);refine⟨w,s1,ha R1 (as:=x.1) (S':=x.2) e2 _ λHf1 H1 Fs1 vs Gs t1 R2 r2 o2=>?_⟩
  obtain⟨R3,r3,t3⟩:=R2.gives t1 r2 o2;have r':=rw'.stp (λq hq=>(o q hq).2) t3
  rw[aNq];refine Hx (i:=i) (F:=F) R3 hi s1 (oJ.cons (.sh (rd.mono t3.sf)) (oJ.cons r' (TH r3))) (by rw[fCq,bQ,fCq,qS,aNq]) nd (λq hq=>⟨(o q hq).1,λm=>(o q hq).2 (t3.own q m)⟩) rfl e3 λHf' H' Fs' v Fv sf R4 rv n1 fr=>q _ _ _ v Fv ((t0.sf.trans t3.sf).trans sf) R4 rv n1 fr
 .cases e
end
def zd(x:Nat) (body:MS):List D->AS->Option A6
 | [],S=>some (.nx S)
 |d::ds,S=>(body (S.set x (some (.sh d)))).bind λo=>match o with
   | .nx S'=>zd x body ds S'
   |_=>none
def JI(x:Nat) (k:MK) (body:MS):MS:=λS=>(rh k S).bind λy=>(qo (nM y.1)).bind λds=>zd x body ds y.2
section
variable {K:W.Frag}{J:List Nat}{te tf tb tn tp:TE}{k:MK}{b n:ME}{t u:TS}{m m' body:MS}{x y i:Nat}
theorem JR(ha:yr K J t m) (hb:yr K J u m'):yr K J (xQ t u) (ox m m'):=by
 intro H₀ Hf₀ Hf S σ H Fs S' R e D q;obtain⟨o,e1,e⟩:=oBq.mp e;cases o with
 |nx S1=>exact ha R e1 _ λHf1 σ1 H1 Fs1 s1 R1 h1=>hb R1 e _ λHf2 σ2 H2 Fs2 s2 R2 h2=>q _ _ _ _ (s1.trans s2) R2 λj hj=>(h2 j hj).trans (h1 j hj)
 |_=>cases e
theorem O5(hk:SK K te k) (hb:yr K J t body) (hJ:x∉J):yr K J (G2 (Dy K te) (qt x) t) (JI x k body):=by
 intro H₀ Hf₀ Hf S σ H Fs Sz R e D h;obtain⟨z,e1,e⟩:=oBq.mp e;obtain⟨ds,e2,e⟩:=oBq.mp e;have hk':SK K te (rh k):=SK.frz hk;refine hk' R (a:=z.1) (S':=z.2) e1 _ λHf1 H1 Fs1 v F t1 R1 r1 o1=>?_
 obtain⟨d,hd⟩:=tK (te:=te) e1;rw[hd]at r1;rw[hd,pJ]at e2;obtain⟨a,vs,rfl,g1,g2⟩:=tx e2 r1.sh_inv.2;refine⟨a,rfl,⟨vs,R1.sub.seq g1⟩,CO (xs:=vs) (λi σ' H'=>∃Hf' S' Fs',oH K H₀ Hf₀ Hf' S' σ' H' Fs'/\ot Hf1 Hf'/\zd x body (ds.drop i) S'=some (.nx Sz)/\∀j∈J,σ'[j]?=σ[j]?) ⟨Hf1,z.2,Fs1,R1,.refl _,e,λ_ _=>rfl⟩
  (λi σ' H' _ ⟨Hf',S',Fs',R',s',_⟩=>R'.sub.seq (s'.seq g1)) ?_ ?_⟩
 .rintro i w σ' H' hw ⟨Hf',S',Fs',R',s',e',hj⟩;obtain⟨di,hdi,rw'⟩:=g2.get' hw;have hlt:i<ds.length:=(gSq.mp hdi).1;rw[aB hlt]at e';have hdi':ds[i]=di:=(gSq.mp hdi).2;rw[hdi']at e';obtain⟨ob,e3,e4⟩:=oBq.mp e';have hx:∀j∈J,(σ'.set x (some w))[j]?=σ'[j]?:=λj hj=>ao (show x≠j from λz=>hJ (by rw[z];exact hj))
  cases ob with
  |nx S2=>exact hb (R'.setD x (rw'.mono s')) e3 _ λHf2 σ2 H2 Fs2 s2 R2 h2=>⟨Hf2,S2,Fs2,R2,s'.trans s2,e4,λj hj'=>((h2 j hj').trans (hx j hj')).trans (hj j hj')⟩
  |_=>cases e4
 .rintro σ' H' ⟨Hf',S',Fs',R',s',e',hj⟩;rw[←g2.1,bX]at e';cases e';exact h _ _ _ _ (t1.sf.trans s') R' hj
theorem QC{i:Nat}(hk:SK K te k):yr K J (vV (KN K "list" vi (uY i) (rM te vw))) (tR i k):=by
 intro H₀ Hf₀ Hf S σ H Fs o R e D h;obtain⟨a0,e0,e⟩:=oBq.mp e;obtain⟨x,e1,e⟩:=oBq.mp e;obtain⟨avs,e2,e⟩:=oBq.mp e;rcases oj e with ⟨hl,e⟩|e
 .cases e;obtain⟨p,vs,Gs,s1,_,h1,_⟩:=R.ow (nW e0);refine⟨.ref p,s1,.inl ⟨rfl,vs,qC.of h1⟩,hk R (a:=x.1) (S':=x.2) e1 _ λHf1 H1 Fs1 v F t1 R1 r1 o1=>?_⟩
  obtain⟨p',vs',Gs',s1',s2',h1',h2',h3',h4',h5',h6'⟩:=R1.ow (nW e2);rw[s1]at s1';cases s1';have pF:p∉F:=λm=>o1.out p m (og s2' (by simp))
  refine⟨p,vs',v,rfl,rfl,h1',by rw[tF,←h3'.1];exact hl,h _ _ _ _ t1.sf (R1.turn s1 s2' (by simp) (F':=p::(Gs'++[F]).flatten) (oE.news nZ h2' ((h3'.keepUpd h4').snoc (r1.keepUpd pF))) ?_ λq hq=>?_) λ_ _=>rfl⟩
  .rw [fAq,aL];refine ax.mpr ⟨λm=>(mAq.mp m).elim h4' pF,nAq.mpr ⟨h5',o1.nd,λa ha b hb e=>o1.out b hb (og s2' (mCo _ (e ▸ ha)))⟩⟩
  .rw [fAq,aL]at hq;rcases ah.mp hq with z|z
   .exact h6' q (by rw[z];simp)
   .rcases mAq.mp z with z|z
    .exact h6' q (mCo _ z)
    .exact ⟨o1.fr q z,λm=>o1.out q z (oQ m)⟩
 .cases e
end
section
variable {K:W.Frag}{J:List Nat}{te tb tn tp:TE}{k:MK}{b n:ME}{t u:TS}{m m' body:MS}
theorem JP(ha:yr K J t m) (hb:yr K J u m'):yr K J (xQ t u) (ox m m'):=JR ha hb
theorem Py{x:Nat}(hk:SK K te k) (hb:yr K J t body) (hJ:x∉J:=by decide):yr K J (G2 (Dy K te) (qt x) t) (JI x k body):=O5 hk hb hJ
theorem Ux{c:TT}{mc:MT}(hc:BQ K c mc) (ha:yr K J t m) (hb:yr K J u m'):yr K J (Hw c t u) (xK mc m m'):=MW hc ha hb
theorem Bv{i:Nat}(hk:SK K te k) (hJ:i∉J:=by decide):yr K J (Au te (qt i)) (pd i k):=Ep hk hJ
theorem Fd{i:Nat}(hk:SK K te k):yr K J (vV (KN K "list" vi (uY i) (rM te vw))) (tR i k):=QC hk
theorem GC:yr K J Jg qd:=FP λ_ _ _ h=>h
end
theorem RZ(x:Nat) (k:MK) (body:MS) (S:AS):JI x k body S=(rh k S).bind λy=>(qo (nM y.1)).bind λds=>zd x body ds y.2:=rfl
theorem Rm{x:Nat}{body:MS}(P:Nat->AS->Prop):∀{ds:List D}{S:AS}{k:Nat},P k S->(∀i d S,ds[i]?=some d->P (k+i) S->∃S',body (S.set x (some (.sh d)))=some (.nx S')/\P (k+i+1) S')->∃S',zd x body ds S=some (.nx S')/\P (k+ds.length) S'
 | [],S,k,h0,_=>⟨S,rfl,h0⟩
 |d::ds,S,k,h0,hs=>by
  obtain⟨S',e,h1⟩:=hs 0 d S rfl h0;obtain⟨S2,e2,h2⟩:=Rm (x:=x) (body:=body) P (ds:=ds) (S:=S') (k:=k+1) h1 λi d S h p=>by
   have:=hs (i+1) d S (by simpa using h) (by rw[show k+(i+1)=k+1+i by lia];exact p)
   rwa [show k+(i+1)=k+1+i by lia]at this
  refine⟨S2,?_,by rw[lCq,show k+(ds.length+1)=k+1+ds.length by lia];exact h2⟩
  show (body (S.set x (some (.sh d)))).bind _=_;rw[e];exact e2
variable {K:W.Frag}{t u:TS}{m m':MS}{te:TE}{k:MK}{J:List Nat}
def WL(K:W.Frag) (J:List Nat) (t:TS) (m:MS) (k:MK):Prop:=∃t0 te,t=xQ t0 (LN te)/\yr K J t0 m/\SK K te k
theorem Qg(hk:SK K te k):WL K J (LN te) qd k:=⟨Jg,te,rfl,GC,hk⟩
theorem zi(ha:yr K J t m) (hr:WL K J u m' k):WL K J (xQ t u) (ox m m') k:=by
 obtain⟨t0,te,rfl,h1,h2⟩:=hr;exact⟨xQ t t0,te,rfl,JR ha h1,h2⟩
theorem HP{np j:Nat}(N:List Str) (h:WL K [j] t m k) (hjn:j<np) {vs:List V}{H:Hp}{Q:VK}{E:XK}(hs:HD K j (AQ np N.length j m k) vs H Q E):t { nx:=λ_ H'=>Q .non H',rt:=Q } (L2.rN N vs) H:=by
 obtain⟨t0,te,rfl,h1,h2⟩:=h;exact Hd N h1 h2 hjn hs
theorem vK(i:Nat) (f:Q5) (k:MK) (a:MA) (S:AS):BB i f k a S=(rh k S).bind λz=>(pM z.2 i).bind λavs=>(a (z.2.set i none)).bind λx=>(f (.sh (nM z.1) :: .ow avs::x.1.map λa=>.sh (nM a))).bind λr=>tP (x.2[i]?=some none) (some (r.1,x.2.set i (some r.2))):=rfl
section
variable {K:W.Frag}{t:TS}{m:MS}{np n:Nat}{vs:List V}{H:Hp}{Q:VK}{E:XK}
def HJ(f:D->Option D) (m:ME):ME:=λS=>(m S).bind λx=>(f x.1).bind λz=>if z.scal=true then some (z,x.2) else none
theorem Oh(f:D->Option D) (m:ME) (S:AS):HJ f m S=(m S).bind λx=>(f x.1).bind λz=>if z.scal=true then some (z,x.2) else none:=rfl
theorem Rn{r:V->Hp->VK->Prop}{f:D->Option D}{ta:TE}{m:ME}(hr:XB K r f) (ha:SM K ta m):SM K (WR r ta) (HJ f m):=by
 intro H₀ Hf₀ Hf S σ H Fs d S' R e Q q;obtain⟨x,e1,e⟩:=oBq.mp e;obtain⟨z,e3,e⟩:=oBq.mp e;split at e
 .rename_i hs;cases e;exact ha R (d:=x.1) (S':=x.2) e1 _ λHf1 H1 Fs1 v1 t1 R1 r1=>hr (r1.mono R1.sub) e3 λv rv=>q _ _ _ v t1 R1 (rv.scal hs)
 .cases e
end
def xa(c:MT) (body:MS):Nat->MS
 |0,_=>none
 |n+1,S=>(c S).bind λx=>if x.1=true then (body x.2).bind λo=>match o with
   | .nx S'=>xa c body n S'
   |_=>none
  else some (.nx x.2)
section
variable {K:W.Frag}{J:List Nat}{te tf tb tn tp:TE}{k:MK}{t u v:TS}{body:MS}{x i:Nat}
theorem KY{c:TT}{m:MT}(n:Nat) (hc:BQ K c m) (hb:yr K J t body):yr K J (Ib c t) (xa m body n):=by
 intro H₀ Hf₀ Hf S σ H Fs Sz R e D h;refine⟨λn σ' H'=>∃Hf' S' Fs',oH K H₀ Hf₀ Hf' S' σ' H' Fs'/\ot Hf Hf'/\xa m body n S'=some (.nx Sz)/\∀j∈J,σ'[j]?=σ[j]?,⟨n,Hf,S,Fs,R,.refl _,e,λ_ _=>rfl⟩,?_⟩
 rintro n σ' H' ⟨Hf',S',Fs',R',s',e',hj⟩;cases n with
 |zero=>cases e'
 |succ n =>
  obtain⟨z,e1,e2⟩:=oBq.mp e';refine hc R' (b:=z.1) (S':=z.2) e1 _ λHf1 H1 Fs1 t1 R1=>?_
  split at e2
  .rename_i hz;rw[hz];refine Dc ⟨λσ2 H2=>∃Hf' S' Fs',oH K H₀ Hf₀ Hf' S' σ2 H2 Fs'/\ot Hf Hf'/\xa m body n S'=some (.nx Sz)/\∀j∈J,σ2[j]?=σ[j]?,λσ2 H2 w=>⟨n,dR n,w⟩,?_⟩
   obtain⟨ob,e3,e4⟩:=oBq.mp e2;cases ob with
   |nx S2=>exact hb R1 e3 _ λHf2 σ2 H2 Fs2 s2 R2 h2=>⟨Hf2,S2,Fs2,R2,(s'.trans t1.sf).trans s2,e4,λj hj'=>(h2 j hj').trans (hj j hj')⟩
   |_=>cases e4
  .rename_i hz;rw[bS]at hz;rw[hz];cases e2;exact CT (h _ _ _ _ (s'.trans t1.sf) R1 hj)
theorem Ks{m:ME}(h:SM K te m):yr K J (vV te) (yZ m):=by
 intro H₀ Hf₀ Hf S σ H Fs o R e D hd;obtain⟨x,e1,e⟩:=oMq.mp e;cases e;exact h R (d:=x.1) (S':=x.2) e1 _ λHf1 H1 Fs1 v t1 R1 r1=>hd _ _ _ _ t1 R1 λ_ _=>rfl
theorem KW{pf:MP}{mm:ME}(hp:UA K i tp pf) (hk:SM K te mm):yr K J (vV (KN K "list" vi tp (rM te vw))) (CZ i pf mm):=by
 intro H₀ Hf₀ Hf S σ H Fs o R e D h;obtain⟨x,e1,e⟩:=oBq.mp e;obtain⟨avs,e2,e⟩:=oBq.mp e;obtain⟨as,e3,e⟩:=oBq.mp e;obtain⟨y,e4,e⟩:=oBq.mp e;rcases oj e with ⟨⟨hn,hl⟩,e⟩|e
 .cases e;refine hp R (path:=x.1) (S':=x.2) e1 _ λHf1 H1 Fs1 v w t1 R1 s1 at0=>?_
  have e2':=nW e2;obtain⟨p,vs,rfl,h1,h2⟩:=yl R1 e2' s1 e3 at0;obtain⟨v',F,u1,u2,r,nd,oo,_⟩:=R1.move e2';rw[s1]at u1;cases u1;refine⟨.inl ⟨rfl,vs,qC.of h1⟩,hk (R1.frame u2) (d:=y.1) (S':=y.2) e4 _ λHf2 H2 Fs2 u t3 R2 r2=>?_⟩
  obtain⟨k1,k2,R3⟩:=R1.unframe u2 r nd (λq hq=>(oo q hq).1) R2 hn s1 t3
  have hlt:i<y.2.length:=(gSq.mp hn).1;have e5:(y.2.set i (some (.ow avs)))[i]?=some (some (.ow avs)):=aC hlt;obtain⟨vs',g1,g2,g3⟩:=R3.grow e5 s1 e3 (at0.kept r e3 k1);obtain⟨Fs',R4⟩:=g3 [.sh y.1] [u] [[]] (oJ.nil.snoc (.sh r2)) (by simp) (λq hq=>by simp at hq)
  rw[eI]at R4;exact⟨p,vs',u,rfl,rfl,g1,by rw[tF,←g2];exact hl,h _ _ _ _ (t1.sf.trans t3) R4 λ_ _=>rfl⟩
 .cases e
def Oa(K:W.Frag) (J:List Nat) (x i:Nat) (t:TS) (m:List Nat->MS):Prop:=∀{path:List Nat}{H₀ Hf₀ Hf:Hp}{S:AS}{σ:St}{H:Hp}{Fs:List (List Addr)}{S':AS},oH K H₀ Hf₀ Hf S σ H Fs->Ko x i path S σ H->m path S=some (.nx S')->∀D:tY,(∀Hf' σ' H' Fs',ot Hf Hf'->oH K H₀ Hf₀ Hf' S' σ' H' Fs'->(∀j∈J,σ'[j]?=σ[j]?)->D.nx σ' H')->t D σ H
theorem QK{pf:MP}{m:List Nat->MS}(hp:UA K i te pf) (hm:Oa K J x i t m) (hJ:x∉J:=by decide):yr K J (xQ (Au te (qt x)) t) (IH x i pf m):=by
 intro H₀ Hf₀ Hf S σ H Fs o R e D h;obtain⟨y,e1,e⟩:=oBq.mp e;obtain⟨avs,e2,e⟩:=oBq.mp e;obtain⟨as,e3,e⟩:=oBq.mp e;rcases oj e with ⟨⟨hne,hlt⟩,e⟩|e
 .refine hp R (path:=y.1) (S':=y.2) e1 _ λHf1 H1 Fs1 v w t1 R1 s1 a1=>?_
  obtain⟨p,vs,rfl,h1,h2⟩:=yl R1 (nW e2) s1 e3 a1;have R2:=(R1.kill x).any (V.ref p);refine hm R2 ⟨v,p,avs,as,?_,e3,?_,?_,a1⟩ e D λHf' σ' H' Fs' s R' hj=>h _ _ _ _ (t1.sf.trans s) R' λj hj'=>(hj j hj').trans (ao (show x≠j from λz=>hJ (by rw[z];exact hj')))
  .rw [ao hne];exact nW e2
  .exact aC (by rw[←R1.len];exact hlt)
  .rw [ao hne];exact s1
 .cases e
theorem Lx{m:MS}(h:yr K J t m):Oa K J x i t (λ_=>m):=λR _ e D o=>h R e D o
theorem PJ{a:List Nat->MS}{b:MS}(ha:Oa K J x i t a) (hb:yr K J u b):Oa K J x i (xQ t u) (λpath=>ox (a path) b):=by
 intro path H₀ Hf₀ Hf S σ H Fs o R A e D h;obtain⟨y,e1,e⟩:=oBq.mp e;cases y with
 |nx S'=>exact ha R A e1 _ λHf' σ' H' Fs' s R' hj=>hb R' e D λHf2 σ2 H2 Fs2 s2 R2 h2=>h _ _ _ _ (s.trans s2) R2 λj hj'=>(h2 j hj').trans (hj j hj')
 |_=>cases e
theorem HZ{c:TT}{m:MT}{a b:List Nat->MS}(hc:BQ K c m) (ha:Oa K J x i t a) (hb:Oa K J x i u b):Oa K J x i (Hw c t u) (Cj i m a b):=by
 intro path H₀ Hf₀ Hf S σ H Fs o R A e D h;obtain⟨y,e1,e⟩:=oBq.mp e;obtain⟨avs,e2,e⟩:=oBq.mp e;obtain⟨as,e3,e⟩:=oBq.mp e;obtain⟨v,p,_,_,_,_,s2,s1,at0⟩:=A;refine hc R (b:=y.1) (S':=y.2) e1 _ λHf1 H1 Fs1 t1 R1=>?_
 have A1:Ko x i path y.2 σ H1:=⟨v,p,avs,as,nW e2,e3,s2,s1,at0.same t1.sh⟩;have h':∀Hf' σ' H' Fs',ot Hf1 Hf'->oH K H₀ Hf₀ Hf' o σ' H' Fs'->(∀j∈J,σ'[j]?=σ[j]?)->D.nx σ' H':=λHf' σ' H' Fs' s R' j=>h _ _ _ _ (t1.sf.trans s) R' j
 split at e
 .rename_i hx;rw[hx];exact Dc (ha R1 A1 e D h')
 .rename_i hx;rw[bS]at hx;rw[hx];exact CT (hb R1 A1 e D h')
theorem PP(hk:SK K te k):Oa K J x i (vV (KN K "list" vi (uY x) (rM te vw))) (G8 i k):=by
 intro path H₀ Hf₀ Hf S σ H Fs o R A e D h;obtain⟨y,e4,e⟩:=oBq.mp e;obtain⟨avs,e5,e⟩:=oBq.mp e;obtain⟨as,e6,e⟩:=oBq.mp e;rcases oj e with ⟨hl,e⟩|e
 .cases e;obtain⟨v,p,a0,n0,e2,e3,s2,s1,at0⟩:=A;obtain⟨p',vs,hp,h1,h2⟩:=yl R e2 s1 e3 at0;cases hp;refine⟨.ref p,s2,.inl ⟨rfl,vs,qC.of h1⟩,hk R (a:=y.1) (S':=y.2) e4 _ λHf2 H2 Fs2 u F t2 R2 r2 o2=>?_⟩
  obtain⟨vs',g1,g2,g3⟩:=R2.grow (nW e5) s1 e6 (at0.same t2.sh);obtain⟨Fs',R3⟩:=g3 [y.1] [u] [F] (oJ.nil.snoc r2) (by rw[aL];exact o2.nd) (λq hq=>by rw[aL]at hq;exact⟨o2.fr q hq,o2.out q hq⟩)
  exact⟨p,vs',u,rfl,rfl,g1,by rw[tF,←g2];exact hl,h _ _ _ _ t2.sf R3 λ_ _=>rfl⟩
 .cases e
theorem LY{mm:ME}(hk:SM K te mm):Oa K J x i (vV (KN K "list" vi (uY x) (rM te vw))) (CK i mm):=by
 intro path H₀ Hf₀ Hf S σ H Fs o R A e D h;obtain⟨avs,e2,e⟩:=oBq.mp e;obtain⟨as,e3,e⟩:=oBq.mp e;obtain⟨y,e4,e⟩:=oBq.mp e;rcases oj e with ⟨⟨hn,hl⟩,e⟩|e
 .cases e;obtain⟨v,p,a0,n0,_,_,s2,s1,at0⟩:=A;have e2':=nW e2;obtain⟨p',vs,hp,h1,h2⟩:=yl R e2' s1 e3 at0;cases hp;obtain⟨v',F,t1,t2,r,nd,oo,_⟩:=R.move e2';rw[s1]at t1;cases t1;refine⟨.ref p,s2,.inl ⟨rfl,vs,qC.of h1⟩,hk (R.frame t2) (d:=y.1) (S':=y.2) e4 _ λHf2 H2 Fs2 u t3 R2 r2=>?_⟩
  obtain⟨k1,k2,R3⟩:=R.unframe t2 r nd (λq hq=>(oo q hq).1) R2 hn s1 t3
  have hlt:i<y.2.length:=(gSq.mp hn).1;have e5:(y.2.set i (some (.ow avs)))[i]?=some (some (.ow avs)):=aC hlt;obtain⟨vs',g1,g2,g3⟩:=R3.grow e5 s1 e3 (at0.kept r e3 k1);obtain⟨Fs',R4⟩:=g3 [.sh y.1] [u] [[]] (oJ.nil.snoc (.sh r2)) (by simp) (λq hq=>by simp at hq)
  rw[eI]at R4;exact⟨p,vs',u,rfl,rfl,g1,by rw[tF,←g2];exact hl,h _ _ _ _ t3 R4 λ_ _=>rfl⟩
 .cases e
theorem Fl{a:MS}{m:List Nat->MS}(ha:yr K (x::i::J) t a) (hm:Oa K J x i u m):Oa K J x i (xQ t u) (Bm i a m):=by
 intro path H₀ Hf₀ Hf S σ H Fs o R A e D h;obtain⟨avs,e2,e⟩:=oBq.mp e;obtain⟨oo,e3,e⟩:=oBq.mp e;cases oo with
 |nx S1 =>
  rcases oj (show tP (S1[i]?=some none) (m path (S1.set i (some (.ow avs))))=some (.nx o) from e) with ⟨hn,e⟩|e
  .obtain ⟨v,p,a0,n0,e2',e4,s2,s1,at0⟩:=A;have e5:=nW e2;rw[e5]at e2';cases e2';obtain⟨v',F,t1,t2,r,nd,ow,_⟩:=R.move e5;rw[s1]at t1;cases t1;refine ha (R.frame t2) e3 _ λHf' σ' H' Fs' s R' hJ=>?_
   have j1:σ'[x]?=σ[x]?:=hJ x (by simp)
   have j2:σ'[i]?=σ[i]?:=hJ i (by simp)
   obtain⟨k1,k2,R3⟩:=R.unframe t2 r nd (λq hq=>(ow q hq).1) R' hn (j2.trans s1) s
   have hlt:i<S1.length:=(gSq.mp hn).1;exact hm R3 ⟨v,p,avs,n0,aC hlt,e4,j1.trans s2,j2.trans s1,at0.kept r e4 k1⟩ e D λHf2 σ2 H2 Fs2 s' R2 h2=>h _ _ _ _ (s.trans s') R2 λj hj'=>(h2 j hj').trans (hJ j (by simp[hj']))
  .cases e
 |_=>cases e
def Ia(i:Nat) (k:MK):MS:=λS=>(k S).map λx=>.nx (x.2.set i (some (.ow [x.1])))
theorem NB(hk:SW K te k):SS K (Au (Th (rM te vw)) (qt i)) (Ia i k):=by
 intro H₀ Hf₀ Hf S σ H Fs o R e D hd;obtain⟨x,e1,e⟩:=oMq.mp e;cases e;refine hk R (a:=x.1) (S':=x.2) e1 _ λHf1 H1 Fs1 v F t1 R1 r1 n1 o1=>⟨by rw[jt];show 1<=16777216;decide,λp hp=>?_⟩
 obtain⟨t2,R2,k1,k2,k3⟩:=R1.new (o:=.lst [v]) hp;have pF:p∉F:=λm=>(r1.owned p m).1 hp
 have rn:oE K Hf1 (upd H1 p (.lst [v])) (.ow [x.1]) (.ref p) (p::[F].flatten):=oE.news nZ k1 (oJ.nil.snoc (r1.keepUpd pF));rw[aL]at rn;refine hd _ _ _ _ t1 (R2.set i rn (ax.mpr ⟨pF,n1⟩) λq hq=>?_)
 rcases ah.mp hq with z|z
 .rw [z];exact⟨k2,k3⟩
 .exact ⟨(o1 q z).1,(o1 q z).2⟩
def Nd(i:Nat) (k:MK):MS:=λS=>(pM S i).bind λ_=>(k S).bind λx=>(pM x.2 i).bind λavs=>tP (avs.length<qW) (some (.nx (x.2.set i (some (.ow (avs++[x.1]))))))
theorem Pj(hk:SW K te k):SS K (vV (KN K "list" vi (uY i) (rM te vw))) (Nd i k):=by
 intro H₀ Hf₀ Hf S σ H Fs o R e D h;obtain⟨a0,e0,e⟩:=oBq.mp e;obtain⟨x,e1,e⟩:=oBq.mp e;obtain⟨avs,e2,e⟩:=oBq.mp e;rcases oj e with ⟨hl,e⟩|e
 .cases e;obtain⟨p,vs,Gs,s1,_,h1,_⟩:=R.ow (nW e0);refine⟨.ref p,s1,.inl ⟨rfl,vs,qC.of h1⟩,hk R (a:=x.1) (S':=x.2) e1 _ λHf1 H1 Fs1 v F t1 R1 r1 n1 o1=>?_⟩
  obtain⟨p',vs',Gs',s1',s2',h1',h2',h3',h4',h5',h6'⟩:=R1.ow (nW e2);rw[s1]at s1';cases s1';have pF:p∉F:=λm=>(o1 p m).2 (og s2' (by simp))
  refine⟨p,vs',v,rfl,rfl,h1',by rw[tF,←h3'.1];exact hl,h _ _ _ _ t1 (R1.turn s1 s2' (by simp) (F':=p::(Gs'++[F]).flatten) (oE.news nZ h2' ((h3'.keepUpd h4').snoc (r1.keepUpd pF))) ?_ λq hq=>?_)⟩
  .rw [fAq,aL];refine ax.mpr ⟨λm=>(mAq.mp m).elim h4' pF,nAq.mpr ⟨h5',n1,λa ha b hb e=>(o1 b hb).2 (og s2' (mCo _ (e ▸ ha)))⟩⟩
  .rw [fAq,aL]at hq;rcases ah.mp hq with z|z
   .exact h6' q (by rw[z];simp)
   .rcases mAq.mp z with z|z
    .exact h6' q (mCo _ z)
    .exact ⟨(o1 q z).1,λm=>(o1 q z).2 (oQ m)⟩
 .cases e
end
theorem ym(S:AS) (i:Nat) (k:MK):Ia i k S=(k S).map λx=>.nx (x.2.set i (some (.ow [x.1]))):=rfl
theorem ES(S:AS) (i:Nat) (k:MK):Nd i k S=(pM S i).bind λ_=>(k S).bind λx=>(pM x.2 i).bind λavs=>tP (avs.length<qW) (some (.nx (x.2.set i (some (.ow (avs++[x.1])))))):=rfl
theorem DS{c:MT}{body:MS}(hb:∀S o,body S=some o->∃S',o = .nx S'):∀{n:Nat}{S:AS}{o:A6},rp c body n S=some o->xa c body n S=some o
 |0,S,o,e=>e
 |n+1,S,o,e=>by
  obtain⟨x,e1,e⟩:=oBq.mp (show ((c S).bind λx=>if x.1=true then (body x.2).bind λo=>match o with
   | .nx S'=>rp c body n S'
   | .ct S'=>rp c body n S'
   | .bk S'=>some (.nx S')
   | .rt a=>some (.rt a)
  else some (.nx x.2))=some o from e)
  show ((c S).bind _)=_;rw[e1];show (if x.1=true then _ else _)=_
  split at e
  .rename_i hx;rw[oq hx];obtain⟨ob,e3,e4⟩:=oBq.mp e;obtain⟨S',rfl⟩:=hb _ _ e3;rw[e3];exact DS hb e4
  .rename_i hx;rw[oz hx];exact e
def Bi(x:Nat) (as:List AV) (S:AS):AS:=(Bq S).set x (some (.sh (nM (.ow as))))
def Sr(x i:Nat) (c:MT) (a b:List Nat->MS):List Nat->MS:=λpath S=>(pM S i).bind λavs=>(ou (.ow avs) path).bind λas=>(c (Bi x as S)).bind λy=>if y.1=true then a path S else b path S
def OC(y x i:Nat) (k:ME) (m:List Nat->MS):List Nat->MS:=λpath S=>(pM S i).bind λavs=>(ou (.ow avs) path).bind λas=>(k (Bi x as S)).bind λw=>tP (w.1.scal=true/\y≠x/\y≠i) (m path (S.set y (some (.sh w.1))))
def OG(y x i:Nat) (l:ML) (b:ME) (m:List Nat->MS):List Nat->MS:=λpath S=>(l S).bind λz=>(pM z.2 i).bind λavs=>(ou (.ow avs) path).bind λas=>(b (Bi x as z.2)).bind λw=>(intOf w.1).bind λn=>(atI z.1 n).bind λd=>tP (y≠x/\y≠i) (m path (z.2.set y (some (.sh d))))
def IX(x i:Nat) (b k:ME) (m:List Nat->MS):List Nat->MS:=λpath S=>(pM S i).bind λavs=>(ou (.ow avs) path).bind λas=>(k (Bi x as S)).bind λw=>(b (Bi x as S)).bind λu=>(intOf u.1).bind λz=>(AO as.length z).bind λn=>tP (w.1.scal=true) (m path (S.set i (some (putAt (.ow avs) path (as.set n (.sh w.1))))))
def Oc(x i:Nat) (m:MS):List Nat->MS:=λpath S=>(pM S i).bind λavs=>(avs[avs.length-1]?).bind λa=>tP (path=[avs.length-1]/\x≠i/\S[x]?=some none) (m ((S.set i (some (.ow avs.dropLast))).set x (some a)))
section
variable {K:W.Frag}
theorem Ko.same{x i:Nat}{path:List Nat}{S:AS}{σ:St}{H H':Hp}(A:Ko x i path S σ H) (s:ot H H'):Ko x i path S σ H':=by
 obtain⟨v,p,a0,n0,e2,e3,s2,s1,at0⟩:=A;exact⟨v,p,a0,n0,e2,e3,s2,s1,at0.same s⟩
theorem Om{H₀ Hf₀ Hf H:Hp}{S:AS}{σ:St}{Fs:List (List Addr)}{x i:Nat}{path:List Nat}{avs as:List AV}(R:oH K H₀ Hf₀ Hf S σ H Fs) (A:Ko x i path S σ H) (e:S[i]?=some (some (.ow avs))) (en:ou (.ow avs) path=some as):∃Fs',oH K H H H (Bi x as S) σ H Fs':=by
 obtain⟨v,p,a0,n0,e2,e3,s2,s1,at0⟩:=A;obtain⟨vs,h1,h2,h3,_⟩:=R.insP e s1 en at0;have Rp:=R.pin.setD x h3;rw[NL s2]at Rp;exact⟨_,Rp⟩
theorem TU{x i:Nat}{c:TT}{m:MT}{t u:TS}{a b:List Nat->MS}(hc:BQ K c m) (ha:Lc K x i t a) (hb:Lc K x i u b):Lc K x i (Hw c t u) (Sr x i m a b):=by
 intro path H₀ Hf₀ Hf S σ H Fs o R A e D h;obtain⟨avs,e2,e⟩:=oBq.mp e;obtain⟨as,e3,e⟩:=oBq.mp e;obtain⟨y,e1,e⟩:=oBq.mp e;obtain⟨Fs',Rp⟩:=Om R A (nW e2) e3;refine hc Rp (b:=y.1) (S':=y.2) e1 _ λHf1 H1 Fs1 t1 R1=>?_
 have RL:=R.laid t1.sh;have A1:=A.same t1.sh;split at e
 .rename_i hx;rw[hx];exact Dc (ha RL A1 e D h)
 .rename_i hx;rw[bS]at hx;rw[hx];exact CT (hb RL A1 e D h)
theorem Ko.put{x i y:Nat}{path:List Nat}{S:AS}{σ:St}{H:Hp}{a:Option AV}{v:Option V}(A:Ko x i path S σ H) (hx:y≠x) (hi:y≠i):Ko x i path (S.set y a) (σ.set y v) H:=by
 obtain⟨w,p,a0,n0,e2,e3,s2,s1,at0⟩:=A;exact⟨w,p,a0,n0,by rw[ao hi];exact e2,e3,by rw[ao hx];exact s2,by rw[ao hi];exact s1,at0⟩
theorem QD{x i y:Nat}{te:TE}{k:ME}{t:TS}{m:List Nat->MS}(hk:SR K te k) (hm:Lc K x i t m):Lc K x i (xQ (Au te (qt y)) t) (OC y x i k m):=by
 intro path H₀ Hf₀ Hf S σ H Fs o R A e D h;obtain⟨avs,e2,e⟩:=oBq.mp e;obtain⟨as,e3,e⟩:=oBq.mp e;obtain⟨w,e1,e⟩:=oBq.mp e;rcases oj e with ⟨⟨hs,hx,hi⟩,e⟩|e
 .obtain ⟨Fs',Rp⟩:=Om R A (nW e2) e3;refine hk Rp (d:=w.1) (S':=w.2) e1 _ λHf1 H1 Fs1 v t1 R1 r1=>?_
  exact hm ((R.laid t1.sh).setD y (r1.scal hs)) ((A.same t1.sh).put hx hi) e D h
 .cases e
theorem Pp{x i y:Nat}{tz tb:TE}{l:ML}{b:ME}{t:TS}{m:List Nat->MS}(hl:SQ K tz l) (hb:SR K tb b) (hm:Lc K x i t m):Lc K x i (xQ (Au (OT (K1 K) tz tb) (qt y)) t) (OG y x i l b m):=by
 intro path H₀ Hf₀ Hf S σ H Fs o R A e D h;obtain⟨z,e1,e⟩:=oBq.mp e;obtain⟨avs,e2,e⟩:=oBq.mp e;obtain⟨as,e3,e⟩:=oBq.mp e;obtain⟨w,e4,e⟩:=oBq.mp e;obtain⟨n,e5,e⟩:=oBq.mp e;obtain⟨d,e6,e⟩:=oBq.mp e;rcases oj e with ⟨⟨hx,hi⟩,e⟩|e
 .refine hl R (ds:=z.1) (S':=z.2) e1 _ λHf1 H1 Fs1 p1 vs1 t1 R1 h1 r1=>?_
  have A1:Ko x i path z.2 σ H1:=by
   obtain⟨v,p,a0,n0,_,_,s2,s1,at0⟩:=A;exact⟨v,p,avs,as,nW e2,e3,s2,s1,at0.same t1.sh⟩
  obtain⟨Fs',Rp⟩:=Om R1 A1 (nW e2) e3;refine hb Rp (d:=w.1) (S':=w.2) e4 _ λHf2 H2 Fs2 v2 t2 R2 r2=>?_
  rw[B9 e5]at r2;cases r2;obtain⟨v,g1,g2⟩:=r1.atI e6;exact⟨p1,vs1,n,v,rfl,rfl,t2.sh.seq h1,g1,hm ((R1.laid t2.sh).setD y g2) ((A1.same t2.sh).put hx hi) e D (h.mono t1.sf)⟩
 .cases e
theorem oJ.put{Hf H:Hp}{as:List AV}{vs:List V}{Gs:List (List Addr)}{d:D}{w:V}(r:oJ K Hf H as vs Gs) (rd:qb K Hf d w) (n:Nat):oJ K Hf H (as.set n (.sh d)) (vs.set n w) (Gs.set n []):=by
 obtain⟨h1,h2,h3⟩:=r;refine⟨by rw[lZq,lZq,h1],by rw[lZq,lZq,h2],λj b u G e1 e2 e3=>?_⟩
 rw[bf]at e1 e2 e3
 by_cases q:n=j
 .rw [oq q]at e1 e2 e3;split at e1
  .split at e2
   .split at e3
    .cases e1;cases e2;cases e3;exact .sh rd
    .cases e3
   .cases e2
  .cases e1
 .rw [oz q]at e1 e2 e3;exact h3 j b u G e1 e2 e3
theorem Bk.upd{o:HO}:∀{path:List Nat}{Hf H:Hp}{av:AV}{v:V}{F:List Addr}{as:List AV}{p:Addr},oE K Hf H av v F->F.Nodup->ou av path=some as->Bk H v path (.ref p)->Bk (upd H p o) v path (.ref p)
 | [],Hf,H,av,v,F,as,p,_,_,_,h=>h
 |j::js,Hf,H,av,v,F,as,p,r,nd,e,hz=>by
  obtain⟨p0,vs,u,h1,h2,h3,h4⟩:=hz;cases av with
  |ow avs =>
   obtain⟨p',vs',Gs,e1,e2,e3,e4,e5⟩:=r.ow_inv;rw[h1]at e1;cases e1;rw[h2]at e3;cases e3;obtain⟨a,ea,e⟩:=oBq.mp (show (avs[j]?).bind (λa=>ou a js)=some as from e)
   have hj:j<avs.length:=(gSq.mp ea).1;have hG:=gEg (e5.2.1 ▸ hj);have rj:=e5.2.2 j a u _ ea h3 hG;rw[e2]at nd;obtain⟨n1,n2⟩:=ax.mp nd;have nj:=bj.sublist (aU (mGq hG)) n2;obtain⟨p2,_,_,g1,_,_,_,g5,_⟩:=rj.path nj e;have hpp:V.ref p=V.ref p2:=h4.one g1;cases hpp;have ne:p0≠p:=λz=>n1 (z ▸ og hG g5)
   exact⟨p0,vs,u,h1,by rw[nV ne];exact h2,h3,Bk.upd rj nj e h4⟩
  |_=>cases e
theorem GX:∀{path:List Nat}{av:AV}{as as':List AV},ou av path=some as->ou (putAt av path as') path=some as'
 | [],av,as,as',e=>by
  cases av with
  |ow avs=>rfl
  |_=>cases e
 |j::js,av,as,as',e=>by
  cases av with
  |ow avs =>
   obtain⟨a,ea,e⟩:=oBq.mp (show (avs[j]?).bind (λa=>ou a js)=some as from e)
   have hj:j<avs.length:=(gSq.mp ea).1;rw[wq ea];show ((avs.set j _)[j]?).bind _=_;rw[aC hj];exact GX e
  |_=>cases e
theorem RN{path:List Nat}{avs as as':List AV}(e:ou (.ow avs) path=some as):∃bvs,putAt (.ow avs) path as' = .ow bvs:=by
 cases path with
 |nil=>exact⟨_,rfl⟩
 |cons j js =>
  obtain⟨a,ea,e⟩:=oBq.mp (show (avs[j]?).bind (λa=>ou a js)=some as from e)
  exact⟨_,wq ea⟩
theorem oH.putP{H₀ Hf₀ Hf H:Hp}{S:AS}{σ:St}{Fs:List (List Addr)}{x i:Nat}{avs as:List AV}{path:List Nat}(R:oH K H₀ Hf₀ Hf S σ H Fs) (A:Ko x i path S σ H) (e:S[i]?=some (some (.ow avs))) (en:ou (.ow avs) path=some as) :
  ∃p vs,σ[x]?=some (some (.ref p))/\H p=some (.lst vs)/\as.length=vs.length/\∀(d:D) (w:V) (n:Nat),qb K Hf d w ->
   (∃Fs',oH K H₀ Hf₀ Hf (S.set i (some (putAt (.ow avs) path (as.set n (.sh d))))) σ (upd H p (.lst (vs.set n w))) Fs')/\Ko x i path (S.set i (some (putAt (.ow avs) path (as.set n (.sh d))))) σ (upd H p (.lst (vs.set n w))):=by
 obtain⟨v,p,a0,n0,e2,e3,s2,s1,at0⟩:=A;obtain⟨v',F,t1,t2,r,nd,oo,_⟩:=R.move e;rw[s1]at t1;cases t1;obtain⟨p',vs,Es,g1,g2,g3,g4,g5,g6,g6',g7,g8⟩:=r.path nd en;have hpp:V.ref p=V.ref p':=at0.one g1;cases hpp;refine⟨p,vs,s2,g2,g4.1,λd w n rd=>⟨?_,?_⟩⟩
 .have hin:∀q∈(Es.set n []).flatten,q∈Es.flatten:=λq hq=>oQ hq
  obtain⟨F',k1,k2,k3⟩:=g8 (as.set n (.sh d)) (vs.set n w) (Es.set n []) ((g4.put rd n).keepUpd λz=>g6 (hin _ z)) (ax.mpr ⟨λz=>g6 (hin _ z),ql n g6' aZ (λp hp=>by cases hp)⟩) (λq hq=>.inl (hin q hq))
  refine⟨_,R.turnAny s1 t2 g5 k1 k2 λq hq=>?_⟩
  rcases k3 q hq with z|z
  .exact oo q z
  .exact oo q (g7 q (hin q z))
 .obtain ⟨bvs,eb⟩:=RN (as':=as.set n (.sh d)) en;have hlt:i<S.length:=(gSq.mp e).1;refine⟨v,p,bvs,as.set n (.sh d),by rw[aC hlt,eb],by rw[←eb];exact GX en,s2,s1,Bk.upd r nd en at0⟩
theorem JK{x i:Nat}{te tb:TE}{k b:ME}{t:TS}{m:List Nat->MS}(hk:SR K te k) (hb:SR K tb b) (hm:Lc K x i t m):Lc K x i (xQ (Au te (U6 (uY x) tb QZ)) t) (IX x i b k m):=by
 intro path H₀ Hf₀ Hf S σ H Fs o R A e D h;obtain⟨avs,e2,e⟩:=oBq.mp e;obtain⟨as,e3,e⟩:=oBq.mp e;obtain⟨w,e4,e⟩:=oBq.mp e;obtain⟨u,e5,e⟩:=oBq.mp e;obtain⟨z,e6,e⟩:=oBq.mp e;obtain⟨n,e7,e⟩:=oBq.mp e;rcases oj e with ⟨hs,e⟩|e
 .obtain ⟨Fs',Rp⟩:=Om R A (nW e2) e3;refine hk Rp (d:=w.1) (S':=w.2) e4 _ λHf1 H1 Fs1 v1 t1 R1 r1=>?_
  have RL:=R.laid t1.sh;have A1:=A.same t1.sh;obtain⟨Fs2,Rp2⟩:=Om RL A1 (nW e2) e3;obtain⟨_,p,_,_,_,_,s2,_,_⟩:=A;refine⟨.ref p,s2,hb Rp2 (d:=u.1) (S':=u.2) e5 _ λHf2 H2 Fs2 v2 t2 R2 r2=>?_⟩
  rw[B9 e6]at r2;cases r2;have RM:=RL.laid t2.sh;obtain⟨p',vs,s2',g1,g2,g3⟩:=RM.putP (A1.same t2.sh) (nW e2) e3;rw[s2]at s2';cases s2';obtain⟨⟨Fs3,R3⟩,A3⟩:=g3 w.1 v1 n (r1.scal hs);exact⟨p,vs,z,n,rfl,rfl,g1,by rw[←g2];exact e7,hm R3 A3 e D h⟩
 .cases e
theorem PN{Gs:List (List Addr)}{k:Nat}{G:List Addr}(nd:Gs.flatten.Nodup) (hG:Gs[k]?=some G) {q:Addr}(hq:q∈G):q∉(Gs.eraseIdx k).flatten:=by
 have hk:=(gSq.mp hG).1;have hg:Gs[k]=G:=(gSq.mp hG).2;have e1:Gs.flatten=(Gs.take k).flatten++(G++(Gs.drop (k+1)).flatten):=by
  conv=>lhs;rw[←aX k Gs,aB hk,hg]
  rw[fAq,fCq]
 rw[e1]at nd;obtain⟨_,n2,n3⟩:=nAq.mp nd;obtain⟨_,_,n4⟩:=nAq.mp n2;rw[List.eraseIdx_eq_take_drop_succ,fAq];intro z;rcases mAq.mp z with z|z
 .exact n3 q z q (aD _ hq) rfl
 .exact n4 q hq q z rfl
theorem AC{α:Type}:∀{A B:List (List α)},A.Sublist B->A.flatten.Sublist B.flatten
 |_,_,.slnil=>.slnil
 |_,_,.cons a h=>by rw[fCq];exact(AC h).trans (dY _ _)
 |_,_,.cons₂ a h=>by rw[fCq,fCq];exact(cK.refl a).append (AC h)
theorem QJ{x i:Nat}{t:TS}{m:MS}(hm:SS K t m):Lc K x i (xQ (vV (KN K "list" Qm (uY i) vw)) t) (Oc x i m):=by
 intro path H₀ Hf₀ Hf S σ H Fs o R A e D h;obtain⟨avs,e1,e⟩:=oBq.mp e;obtain⟨a,e2,e⟩:=oBq.mp e;rcases oj e with ⟨⟨hp,hne,hx⟩,e9⟩|e
 .obtain ⟨v,p,a0,n0,f2,f3,s2,s1,at0⟩:=A;obtain⟨p0,vs,Gs,t1,t2,h1,h2,h3,h4,h5,h6⟩:=R.ow (nW e1);rw[s1]at t1;cases t1;subst hp;obtain⟨p',vs',u,q1,q2,q3,q4⟩:=at0;cases q1;rw[h1]at q2;cases q2;have q4:u = .ref p:=q4;subst q4;have hk:avs.length-1<avs.length:=(gSq.mp e2).1;have hkG:avs.length-1<Gs.length:=by have:=h3.2.1;lia
  have hG:Gs[avs.length-1]?=some (Gs[avs.length-1]'hkG):=gEg hkG;have ra:=h3.2.2 _ a _ _ e2 q3 hG;generalize Gs[avs.length-1]'hkG=G at hG ra;have gin:∀q∈G,q∈Gs.flatten:=λq hq=>og hG hq
  have sE:=AC (List.eraseIdx_sublist Gs (avs.length-1));have ein:∀q∈(Gs.eraseIdx (avs.length-1)).flatten,q∈Gs.flatten:=λq hq=>sE.subset hq
  have ndE:=h5.sublist sE;refine⟨.ref p0,s1,.inl ⟨rfl,vs,qC.of h1⟩,p0,vs,.ref p,rfl,rfl,h1,by rw[←h3.1];exact q3,?_⟩
  have R2:=R.turn s1 t2 (by simp) (F':=p0::(Gs.eraseIdx (avs.length-1)).flatten) (oE.news nZ h2 ((h3.erase (avs.length-1)).keepUpd (p:=p0) (o:=.lst (vs.eraseIdx (avs.length-1))) λz=>h4 (ein _ z))) (ax.mpr ⟨λz=>h4 (ein _ z),ndE⟩) (λq hq=>by
   rcases ah.mp hq with z|z
   .exact h6 q (by rw[z];simp)
   .exact h6 q (mCo _ (ein q z)))
  rw[uU]at R2;have hx2:(S.set i (some (.ow avs.dropLast)))[x]?=some none:=by rw[ao (Ne.symm hne)];exact hx
  have pG:p0∉G:=λz=>h4 (gin _ z)
  have ee:vs.eraseIdx (avs.length-1)=vs.dropLast:=by rw[h3.1,uU]
  rw[ee]at R2;have R2':=R2;rw[←yi hx2,←yi (R2.emp x hx2)]at R2';have ndG:=bj.sublist (aU (mGq hG)) h5;have R3:=R2'.again (F:=[]) (G:=G) s2 (ra.keepUpd pG) ndG λq hq=>⟨(h6 q (mCo _ (gin q hq))).1,λz=>by
   have z:=oQ z;rw[←eI (a:=([]:List Addr))]at z;rcases qe z with z|z
   .rcases ah.mp z with w|w
    .exact pG (w ▸ hq)
    .exact PN h5 hG hq w
   .exact (h6 q (mCo _ (gin q hq))).2 z⟩
  exact hm R3 e9 D h
 .cases e
end
theorem J3(x:Nat) (as:List AV) (S:AS):Bi x as S=(Bq S).set x (some (.sh (nM (.ow as)))):=rfl
theorem Jd(x i:Nat) (c:MT) (a b:List Nat->MS) (path:List Nat) (S:AS):Sr x i c a b path S=(pM S i).bind λavs=>(ou (.ow avs) path).bind λas=>(c (Bi x as S)).bind λy=>if y.1=true then a path S else b path S:=rfl
theorem Mh(y x i:Nat) (k:ME) (m:List Nat->MS) (path:List Nat) (S:AS):OC y x i k m path S=(pM S i).bind λavs=>(ou (.ow avs) path).bind λas=>(k (Bi x as S)).bind λw=>tP (w.1.scal=true/\y≠x/\y≠i) (m path (S.set y (some (.sh w.1)))):=rfl
theorem EA(y x i:Nat) (l:ML) (b:ME) (m:List Nat->MS) (path:List Nat) (S:AS):OG y x i l b m path S=(l S).bind λz=>(pM z.2 i).bind λavs=>(ou (.ow avs) path).bind λas=>(b (Bi x as z.2)).bind λw=>(intOf w.1).bind λn=>(atI z.1 n).bind λd=>tP (y≠x/\y≠i) (m path (z.2.set y (some (.sh d)))):=rfl
theorem Nk(x i:Nat) (b k:ME) (m:List Nat->MS) (path:List Nat) (S:AS):IX x i b k m path S=(pM S i).bind λavs=>(ou (.ow avs) path).bind λas=>(k (Bi x as S)).bind λw=>(b (Bi x as S)).bind λu=>(intOf u.1).bind λz=>(AO as.length z).bind λn=>tP (w.1.scal=true) (m path (S.set i (some (putAt (.ow avs) path (as.set n (.sh w.1)))))):=rfl
theorem LB(x i:Nat) (m:MS) (path:List Nat) (S:AS):Oc x i m path S=(pM S i).bind λavs=>(avs[avs.length-1]?).bind λa=>tP (path=[avs.length-1]/\x≠i/\S[x]?=some none) (m ((S.set i (some (.ow avs.dropLast))).set x (some a))):=rfl
end Z
namespace Mo
open PySem PyProof.Rows Mr
section
variable {K:Type} [DecidableEq K]
def fz(ks:List K) (ws:List Value) (j:Nat):List (K×Value):=((ks.zip ws).take j).foldl (λm p=>stored m p.1 p.2) []
end
end Mo
namespace Z
open PySem L2 Mr
def dz(ns ms:List Int):List (oD×D):=(ns.zip ms).foldl (λm p=>xj m (.inl p.1) (.int p.2)) []
end Z
namespace Mr
open PySem L2
variable {K:W.Frag}{h:Heap}{mg:Str->Option Value}{x z:Str}{st:Stmt}{f O:Addr}{fd:jl}
structure At (K:W.Frag) (x:Str) (st:Stmt) (f:Addr) (fd:jl):Prop where
 a:W.nsIn K jd x=some (some (.ref f))
 F:Qc K x x st f fd
section
variable {oc kV doc pm sZ ct:Value}{od an:Option Addr}{osl:Array (Option Value)}
theorem VW(a:W.nsIn K jd x=some (some (.ref f))) (l:K.lookup f=some ⟨oc,od,.func (W.fnOf x x (uf st) (sN st) (nX st) .none kV doc pm an sZ ct),osl⟩)
  (c:W.codeIn K sZ x=true) (k:W.keepIn K (.ref f)=true):At K x st f (W.fnOf x x (uf st) (sN st) (nX st) .none kV doc pm an sZ ct):=⟨a,IC l c k⟩
end
abbrev BA(x q:Str) (st:Stmt) (ps:List Str) (us:List Value):Prop:=∀(kV doc pm:Value) (an:Option Addr) (sZ ct:Value),bindArgs (W.fnOf x q (uf st) (sN st) (nX st) .none kV doc pm an sZ ct) ⟨us,[]⟩=pure (ps.zip us)
section
variable {q a b c d:Str}(F:Qc K x q st f fd)
include F
theorem b1(h:∀u,BA x q st [a] [u]):xx K fd [a] []:=F.binds λ_ _ _ _ _ _ us hl=>by
 obtain - | ⟨u, - | ⟨v,l⟩⟩:=us <;> cases hl
 apply h
theorem b2(h:∀u v,BA x q st [a,b] [u,v]):xx K fd [a,b] []:=F.binds λ_ _ _ _ _ _ us hl=>by
 obtain - | ⟨u, - | ⟨v, - | ⟨w,l⟩⟩⟩:=us <;> cases hl
 apply h
theorem b3(h:∀u v w,BA x q st [a,b,c] [u,v,w]):xx K fd [a,b,c] []:=F.binds λ_ _ _ _ _ _ us hl=>by
 obtain - | ⟨u, - | ⟨v, - | ⟨w, - | ⟨y,l⟩⟩⟩⟩:=us <;> cases hl
 apply h
end
theorem DK{ps:List Str}(X:K.In h) (G:h.Ns jd mg) (a:At K x st f fd) (b:xx K fd ps []):Bd K mg x st ps f fd:=⟨a.F,W.mg_of X G a.a,b⟩
end Mr
namespace Zl
open PySem L2 Mr Z
def wG:MS:=(ox (xK (tU (oU Fw (nI 1) (wg rL (nU (nI 0) oI)))) (sq (kSc (oU zY (nI 0) (nI 1)))) qd)
 (sq (kSc (rC (.int 0)))))
def oA:MF:=uZ 2 2 wG
def uQ:MS:=(A8 1 (nI 4) (pV 2))
def uJ:MS:=(C7 4 (pV 3) uQ)
def zN:MS:=(ox (pd 1 GW)
 (ox (LP 2 3 (pV 0) uJ)
 (sq (E1 1))))
def qj:MF:=uZ 1 5 zN
theorem zM(ns:List Int) {k:Int}(h:0<=k):oA [.scr ns,.int k]=some (.sh (.int (cell ns k.toNat))):=by
 by_cases c:k<(ns.length:Int)
 .have hk:k.toNat<ns.length:=by lia
  have e:ns.getD k.toNat 0=ns[k.toNat]:=BD hk
  simp_arith [oA,wG,c,IR h,gEg hk,cell,e]
 .have hk:ns.length<=k.toNat:=by lia
  have e:ns.getD k.toNat 0=0:=by rw[gDq,bR hk];rfl
  simp_arith [oA,wG,c,cell,e]
theorem Rl(ns:List Int):oA [.scr ns,.int 0]=some (.sh (.int (cell ns 0))):=zM ns (by decide)
theorem U1(ns:List Int):oA [.scr ns,.int 1]=some (.sh (.int (cell ns 1))):=zM ns (by decide)
theorem Vc(ns:List Int):oA [.scr ns,.int 2]=some (.sh (.int (cell ns 2))):=zM ns (by decide)
theorem K0{n:Int}{ns:List Int}:ns.foldl min n∈n::ns/\∀x∈n::ns,ns.foldl min n<=x:=⟨vH ns n,λx hx=>(ah.mp hx).elim (λe=>e ▸ (ug ns n).1) ((ug ns n).2 x)⟩
theorem rg{rs:List (List Int)}{i:Nat}{r:List Int}(h:rs[i]?=some r):(rs.take (i+1)).flatten=(rs.take i).flatten++r:=by
 rw[cw,h,fAq];simp
theorem tX(rs:List (List Int)) (i:Nat):(rs.take i).flatten.length<=rs.flatten.length:=by
 have:=congrArg bo (congrArg List.flatten (aX i rs));rw[fAq,lAq]at this;lia
theorem Jp{rs:List (List Int)}{i:Nat}{d:D}(h:(rs.map dI)[i]?=some d):∃r,rs[i]?=some r/\d=dI r:=by
 rw[gMq]at h;obtain⟨r,h1,h2⟩:=oMq.mp h;exact⟨r,h1,h2.symm⟩
theorem EK{ns:List Int}{i:Nat}{d:D}(h:(ns.map D.int)[i]?=some d):∃z,ns[i]?=some z/\d = .int z:=by
 rw[gMq]at h;obtain⟨r,h1,h2⟩:=oMq.mp h;exact⟨r,h1,h2.symm⟩
theorem Wc{ts:List (List Int)}{a:Nat}(h:a<ts.length):atI (ts.map dI) (a:Int)=some (dI (ts.getD a [])):=by
 rw[O2,IR (by lia),cM,gDq,gEg h]
 rfl
end Zl
namespace Zl
open PySem L2 Mr Z Xe
def bare(rs:List (List Int)):Nat:=rs.countP (·=([]:List Int))
section
variable {rs:List (List Int)}(hl:rs.flatten.length<=500000)
include hl
end
end Zl
namespace Zl
open PySem L2 Mr Z
def tL(p:Nat) (r:List Int):List (oD×D):=r.map λe=>(.inl e,.int (p:Int))
def pL:Nat->List (List Int)->List (oD×D)
 |_,[]=>[]
 |p,r::rs=>tL p r++pL (p+1) rs
theorem A2(r:List Int):∀(rs:List (List Int)) (p:Nat),pL p (rs++[r])=pL p rs++tL (p+rs.length) r
 | [],p=>by simp[pL]
 |s::rs,p=>by
  show tL p s++pL (p+1) (rs++[r])=(tL p s++pL (p+1) rs)++_;rw[A2 r rs (p+1),ag,lCq,show p+1+rs.length=p+(rs.length+1) by lia]
theorem xr:∀(rs:List (List Int)) (p:Nat),(pL p rs).map (·.1)=rs.flatten.map aO
 | [],p=>rfl
 |r::rs,p=>by
  show (tL p r++pL (p+1) rs).map (·.1)=_;rw[mBq,xr rs (p+1),fCq,mBq];congr 1;unfold tL;rw[mPq];rfl
theorem HM(rs:List (List Int)) (p:Nat):(pL p rs).length=rs.flatten.length:=by
 have:=congrArg bo (xr rs p)
 rwa [lMq,lMq]at this
theorem Gj{kvs:List (oD×D)}{k:oD}{d:D}(h:k∉kvs.map (·.1)):xj kvs k d=kvs++[(k,d)]:=by
 unfold xj;rw[oz];intro e;obtain⟨kv,hk,e⟩:=fk.mp e;exact h (mMq.mpr ⟨kv,hk,of_decide_eq_true e⟩)
theorem getD_app{k:oD}:∀{a b:List (oD×D)},k∉a.map (·.1)->Z.getD (a++b) k=Z.getD b k
 | [],b,_=>rfl
 |x::a,b,h=>by
  unfold Z.getD;rw[List.cons_append,cF (by
   intro e;exact h (by rw[←of_decide_eq_true e];simp))]
  exact getD_app (k:=k) (a:=a) (b:=b) λm=>h (by simp only[au,ah];exact .inr m)
theorem GY{p:Nat}{e:Int}{b:List (oD×D)}:∀{r:List Int},e∈r->Z.getD (tL p r++b) (.inl e)=some (.int p)
 | [],h=>by cases h
 |x::r,h=>by
  unfold Z.getD;show ((((aO x:oD),D.int (p:Int))::(tL p r++b)).find? _).map _=_
  by_cases c:x=e
  .subst c;rw[dr (by simp)]
   rfl
  .rw [cF (by simp[c])]
   exact GY (r:=r) ((ah.mp h).resolve_left λz=>c z.symm)
theorem yq{e:Int}{r:List Int}:∀{rs:List (List Int)}{i:Nat}(p:Nat),rs.flatten.Nodup->rs[i]?=some r->e∈r->Z.getD (pL p rs) (.inl e)=some (.int ((p+i:Nat):Int))
 | [],i,p,_,h,_=>by simp at h
 |s::rs,0,p,hn,h,he=>by
  simp at h;subst h;exact GY he
 |s::rs,i+1,p,hn,h,he=>by
  rw[fCq,nAq]at hn;have h':rs[i]?=some r:=by simpa using h
  have:=yq (rs:=rs) (i:=i) (p+1) hn.2.1 h' he;rw[show p+1+i=p+(i+1) by lia]at this
  rw[←this];refine getD_app ?_;unfold tL;rw[mPq];intro m;obtain⟨x,hx,e2⟩:=mMq.mp m;cases e2;exact hn.2.2 _ hx _ (mFq.mpr ⟨r,mGq h',he⟩) rfl
theorem wx{rs:List (List Int)}(hn:rs.flatten.Nodup) (hl:rs.flatten.length<=500000):qj [dM rs]=some (.owd (pL 0 rs)):=by
 have key:=Ry (x:=2) (y:=3) (k:=0) (body:=uJ) (λi S=>∃v2 v3 v4,S=[some (.sh (dM rs)),some (.owd (pL 0 (rs.take i))),v2,v3,v4]) (ds:=rs.map dI) (S:=[some (.sh (dM rs)),some (.owd []),none,none,none]) ⟨none,none,none,rfl⟩ (by
  rintro i d S hd ⟨v2,v3,v4,rfl⟩;rw[bU];obtain⟨r,hr,rfl⟩:=Jp hd;have hfl:=rg hr;have hle:=tX rs (i+1);have hi:i<rs.length:=(gSq.mp hr).1;have hnd:((rs.take i).flatten++r).Nodup:=by
   rw[←hfl];have e0:rs.flatten=(rs.take (i+1)).flatten++(rs.drop (i+1)).flatten:=by rw[←fAq,aX]
   rw[e0]at hn;exact(nAq.mp hn).1
  rw[hfl,lAq]at hle;have k2:=AW (x:=4) (body:=uQ) (λj S=>∃v4,S=[some (.sh (dM rs)),some (.owd (pL 0 (rs.take i)++tL i (r.take j))),some (.sh (.int i)),some (.sh (dI r)),v4]) (ds:=r.map D.int) (S:=[some (.sh (dM rs)),some (.owd (pL 0 (rs.take i))),some (.sh (.int i)),some (.sh (dI r)),v4]) ⟨v4,by simp[tL]⟩ (by
   rintro j d S hd ⟨v4,rfl⟩;obtain⟨z,hz,rfl⟩:=EK hd;have hj:j<r.length:=(gSq.mp hz).1;have h3:(pL 0 (rs.take i)++tL i (r.take j)).length<qW:=NO (by
    rw[lAq,HM];unfold tL;rw[lMq,lTq];lia)
   have hput:xj (pL 0 (rs.take i)++tL i (r.take j)) (.inl z) (.int (i:Int))=pL 0 (rs.take i)++tL i (r.take (j+1)):=by
    rw[Gj]
    .unfold tL;rw[tE hz,mBq,ag];rfl
    .rw [mBq,xr];intro m;have e1:r.take (j+1)=r.take j++[z]:=tE hz;rcases mAq.mp m with m|m
     .obtain ⟨x,hx,e2⟩:=mMq.mp m;cases e2;exact(nAq.mp hnd).2.2 _ hx _ (mGq hz) rfl
     .unfold tL at m;rw[mPq]at m;obtain⟨x,hx,e2⟩:=mMq.mp m;cases e2;have:=bj.sublist (bE (j+1) r) (nAq.mp hnd).2.1;rw[e1]at this;exact(nAq.mp this).2.2 _ hx _ (by simp) rfl
   refine⟨_,?_,some (.sh (.int z)),rfl⟩
   simp_arith [uQ,h3,hput])
  obtain⟨S2,e2,w4,rfl⟩:=k2;rw[lMq,bC]at e2;refine⟨_,?_,some (.sh (.int i)),some (.sh (dI r)),w4,rfl⟩;rw[tE hr,A2,lTq,dm (by lia),bU]
  simp_arith [uJ,e2])
 obtain⟨S',e,v2,v3,v4,rfl⟩:=key;rw[bU,lMq,bC]at e
 simp_arith [qj,zN,e]
theorem xE{c:MT}{body:MS}(P:AS->Prop) (μ:AS->Nat) (Qf:AS->Prop) (h:∀S,P S->∃b S1,c S=some (b,S1)/\(b=true->∃S2,body S1=some (.nx S2)/\P S2/\μ S2<μ S)/\(b=false->Qf S1)) :
  ∀(fuel:Nat) (S:AS),P S->μ S<fuel->∃S',rp c body fuel S=some (.nx S')/\Qf S'
 |0,S,_,hm=>absurd hm (dh _)
 |n+1,S,hp,hm=>by
  obtain⟨b,S1,e1,h1,h2⟩:=h S hp;rw[PV,e1,fh];cases b with
  |true =>
   obtain⟨S2,e2,p2,m2⟩:=h1 rfl;rw[oq rfl,e2];exact xE P μ Qf h n S2 p2 (by lia)
  |false =>
   rw[oz (by simp)]
   exact⟨S1,rfl,h2 rfl⟩
end Zl
namespace Zl
open PySem L2 Mr Z Xe
def wd(ws:List Nat):List AV:=ws.map λk:Nat=>AV.sh (.int (k:Int))
def plc(rs:List (List Int)) (e:Int):Nat:=rs.findIdx λr=>decide (e∈r)
theorem same_place{rs:List (List Int)}(hn:rs.flatten.Nodup) {i j:Nat}{r s:List Int}{e:Int}(hi:rs[i]?=some r) (hj:rs[j]?=some s) (h1:e∈r) (h2:e∈s):i=j:=by
 have a:=yq 0 hn hi h1;have b:=yq 0 hn hj h2;rw[a]at b;have:=D.int.inj (aT.inj b);lia
theorem plc_eq{rs:List (List Int)}(hn:rs.flatten.Nodup) {i:Nat}{r:List Int}{e:Int}(hi:rs[i]?=some r) (h1:e∈r):plc rs e=i:=by
 have hl:rs.findIdx (λr=>decide (e∈r))<rs.length:=eX ⟨r,mGq hi,decide_eq_true h1⟩
 have h2:=gO (xs:=rs) (p:=λr=>decide (e∈r)) (w:=hl)
 exact same_place hn (gEg hl) hi (of_decide_eq_true h2) h1
structure Mp (rs:List (List Int)):Prop where
 hn:rs.flatten.Nodup
 hl:rs.flatten.length<=1000
 hr:rs.length<=1000
 hneg:∀e∈rs.flatten, -e∈rs.flatten
theorem Mp.at{rs:List (List Int)}(h:Mp rs) {e:Int}(he:e∈rs.flatten):∃r,rs[plc rs e]?=some r/\e∈r:=by
 obtain⟨r,h1,h2⟩:=mFq.mp he;obtain⟨i,h3⟩:=aV.mp h1;exact⟨r,by rw[plc_eq h.hn h3 h2];exact h3,h2⟩
def XM(f:Int->Int):Nat->Int->Int
 |0,e=>e
 |n+1,e=>f (XM f n e)
section
variable {f:Int->Int}{E:List Int}
structure Cy (f:Int->Int) (e:Int) (l:List Int):Prop where
 len:1<=l.length
 get:l=(bK l.length).map λn=>XM f n e
 back:XM f l.length e=e
 nd:l.Nodup
end
end Zl
namespace K51
open PySem L2 Mr Z Xe
def ze:MS:=(A8 1 (nI 3) (pV 4))
def yV:MS:=(Nu 3 4 (pV 2) (PL (lOf (OX (vx 2) (xo (rC (.int 1))) zA)) (lOf (OX (vx 2) zA (xo (rC (.int 1)))))) ze)
def GI:MS:=(ox (pd 1 GW)
 (ox (C7 2 (pV 0) yV)
 (sq (E1 1))))
def zB:MF:=uZ 1 5 GI
def rK:MS:=(ox (pd 7 (kSc (yL (nI 2) (CW tD (nI 6))))) (xK (tU (zJ (nI 7) (nI 3))) (ox (A8 3 (nI 7) (kSc (rC (.bl true)))) (tR 4 (pV 7))) qd))
def uq:MS:=(ox (AZ 5 (vg 4)) (C7 6 (UC (vx 0) (nI 5)) rK))
def CJ:MS:=(ox (pd 2 (rR Zl.qj (oC (pV 0) pX)))
 (ox (pd 3 (Cb (nI 1) (kSc (rC (.bl true)))))
 (ox (pd 4 (uK (oC (pV 1) pX)))
 (ox (rp (tU (oU Lb (wg rL (nU (nI 4) oI)) (rC (.int 0)))) uq 100000)
 (sq (Ey (nI 3)))))))
def uB:MF:=uZ 2 8 CJ
def vd:MS:=(A8 1 (nI 5) (kSc (rC (.bl true))))
def rF:MS:=(xK (tU (zJ (nI 3) (nI 1))) (ox (pd 4 (rR K51.uB (oC (pV 0) (oC (pV 3) pX)))) (ox (C7 5 (pV 4) vd) (tR 2 (DP (Qi (pV 4)) [0] AL (C6 (lOf (UC (vx 1) (nI 0)))))))) qd)
def Ae:MS:=(ox (pd 1 GW)
 (ox (pd 2 (uK pX))
 (ox (Hy 3 (nU (wg rL (nU (nI 0) oI)) oI) rF)
 (sq (E1 2)))))
def qP:MF:=uZ 1 6 Ae
def qa:MX:=(WS (tU (oU FC (wg rL (nU (rOf (rR K51.qP (oC (pV 0) pX))) oI)) (rC (.int 1)))) (EF "NotOnePiece") (Mm qd))
def oB:FE:=Hc 1 1 qa
def ux:MS:=(ox (pd 6 (kSc (yL (nI 1) (CW tD (nI 5))))) (xK (tU (oU HQ (nI 5) (yL (nI 3) (yL (nI 1) (nI 5))))) (ox (tR 4 (Dg (oC (kSc (rC (.str "up"))) (oC (pV 5) pX)))) (pd 5 (kSc (yL (nI 2) (CW tD (nI 5)))))) (xK (tU (zJ (nI 6) (nI 3))) (ox (A8 3 (nI 6) (kSc (CW tD (nI 5)))) (ox (tR 4 (Dg (oC (kSc (rC (.str "down"))) (oC (pV 5) pX)))) (pd 5 (kSc (yL (nI 2) (CW tD (nI 5))))))) (ox (tR 4 (Dg (oC (kSc (rC (.str "side"))) (oC (pV 5) pX)))) (pd 5 (kSc (yL (nI 2) (nI 5))))))))
def Bs:MX:=(Dp (OM K51.oB (oC (pV 0) pX))
 (Dp (Mm (xK (tU (oU HQ (wg rL (nU (oU zY (nI 0) (rC (.int 0))) oI)) (rC (.int 0)))) (sq (uK pX)) qd))
 (Dp (Mm (pd 1 (rR Zl.qj (oC (pV 0) pX))))
 (Dp (Mm (pd 2 (rR K51.zB (oC (pV 0) pX))))
 (Dp (Mm (pd 3 (Cb (rC (.int 0)) (kSc (rC .non)))))
 (Dp (Mm (pd 4 (uK pX)))
 (Dp (Mm (pd 5 (kSc (oU zY (oU zY (nI 0) (rC (.int 0))) (rC (.int 0))))))
 (Dp (Mm (rp (tU (oU Fw (wg rL (nU (nI 4) oI)) (wg FQ (nU (nI 2) oI)))) ux 100000))
 (Mm (sq (E1 4)))))))))))
def uH:FE:=Hc 1 7 Bs
def zc:MS:=(ox (pd 1 (kSc (rC (.int 1))))
 (ox (pd 2 (kSc (rC (.int 0))))
 (ox (xK (tU (oU Lb (oU sY (xI Zl.oA (nU (nI 0) (nU (rC (.int 0)) oI))) (rC (.int 3))) (rC (.int 0)))) (ox (pd 1 (kSc (oU yD (rC (.int 1)) (oU sY (xI Zl.oA (nU (nI 0) (nU (rC (.int 1)) oI))) (oU NZ (rC (.int 10)) (rC (.int 57))))))) (pd 2 (kSc (oU sY (xI Zl.oA (nU (nI 0) (nU (rC (.int 2)) oI))) (oU NZ (rC (.int 10)) (rC (.int 59))))))) qd)
 (ox (pd 3 (kSc (oU yD (rC (.int 1)) (oU sY (oU C1 (xI Zl.oA (nU (nI 0) (nU (rC (.int 0)) oI))) (rC (.int 3))) (rC (.int 66))))))
 (ox (pd 4 (kSc (oU sY (oU C1 (xI Zl.oA (nU (nI 0) (nU (rC (.int 0)) oI))) (rC (.int 198))) (rC (.int 67)))))
 (sq (DP (Xa (nU (rC (.int 67)) oI)) [2,1,4,3] AL (kSc (oU yD (oU yQ (nI 2) (oU yD (rC (.int 1)) (oU sY (oU yD (oU yQ (nI 4) (nI 0)) (nI 3)) (rC (.int 67))))) (nI 1))))))))))
def uz:MF:=uZ 1 5 zc
def D2:MS:=(sq (DP (Qi (pV 0)) [] AL (C6 (vx 0))))
def xw:MF:=uZ 1 1 D2
def B6:MS:=(sq (kSc (FZ (wg Dr (nU (nI 0) (nU (rC (.ty "int")) oI))) (Tq (wg Dr (nU (nI 0) (nU (rC (.ty "bool")) oI)))))))
def uy:MF:=uZ 1 1 B6
end K51
namespace K72
open PySem L2 Mr Z Xe
def tM:MS:=(ox (xK (yE (nI 2)) (ox (pd 3 (kSc (Wo "list" AF (nI 2) (nU (wg Qn (nU (nI 2) oI)) oI)))) (pd 2 (PL (lOf (OX (vx 2) (xo (nI 3)) zA)) (lOf (OX (vx 2) zA (xo (nI 3))))))) qd) (tR 1 (pV 2)))
def DL:MS:=(ox (pd 1 (uK pX))
 (ox (C7 2 (pV 0) tM)
 (sq (E8 (vx 1)))))
def xY:MF:=uZ 1 4 DL
end K72
namespace K52
open PySem L2 Mr Z Xe
def mb_L_piece_0:MS:=(ox (pd 7 (kSc (oU sY (nI 6) (rC (.int 7))))) (IH 8 3 (Q2 3 (Gn 3) (oU zY (nI 4) (CW tD (rC (.int 1))))) (Cj 3 (yN (tU (oU Fw (rC (.int 4)) (nI 7))) (yE (nI 5))) (Bm 3 (pd 9 (kSc (oU Du (wg rL (nU (nI 5) oI)) (rC (.int 1))))) (Bm 3 (xK (tU (nI 2)) (pd 9 (kSc (oU sY (oU C1 (nI 6) (rC (.int 7))) (wg rL (nU (nI 5) oI))))) qd) (CK 3 (HJ tD (zK 5 (nI 9)))))) (Cj 3 (yN (tU (Os Fw Fw (rC (.int 1)) (nI 7) (rC (.int 4)))) (tU (oU Lb (wg rL (nU (nI 4) oI)) (rC (.int 1))))) (λ_=>(yZ (vg 4))) (Cj 3 (yE (nI 1)) (Bm 3 (AZ 10 (Mk yQ (vg 1) (oU Du (rC (.int 1)) (oU yQ (rC (.int 2)) (oU sY (oU C1 (nI 6) (rC (.int 7))) (rC (.int 2))))))) (λpath=>ox ((G8 3 (pV 10)) path) (xK (tU (oU Fw (nI 7) (rC (.int 2)))) (ox (tR 4 (kSc (wg rL (nU (nI 3) oI)))) (tR 3 (uK (oC (kSc (CW tD (nI 10))) pX)))) (tR 5 (pV 10))))) (λ_=>qd))))))
def mb_L_piece_1:MS:=(CZ 3 (Q2 3 (Gn 3) (oU zY (nI 4) (CW tD (rC (.int 1))))) (HJ tD (vg 5)))
end K52
namespace K54
open PySem L2 Mr Z Xe
def nR:MS:=(ox (pd 4 (kSc (wg J8 (nU (nI 3) oI)))) (xK (yN (tU (oU HQ (nI 2) (rC (.str "side")))) (tU (oU (Qr true) (nI 4) (nI 1)))) (tR 1 (pV 4)) (xK (tU (oU HQ (nI 2) (rC (.str "side")))) (ox (AZ 5 (vg 1)) (xK (tU (oU FC (nI 5) (nI 4))) (sq (Dg (oC (pV 4) (oC (pV 5) pX)))) qd)) qd)))
def sW:MS:=(ox (pd 1 (uK pX))
 (ox (Mw 2 3 (pV 0) nR)
 (sq (kSc (rC .non)))))
def pU:MF:=uZ 1 6 sW
def qh:MS:=(ox (pd 2 (rR K54.pU (oC (rR (okX K51.uH) (oC (pV 1) pX)) pX))) (xK (tU (oU AX (nI 2) (rC .non))) (sq (E1 2)) qd))
def xn:MS:=(ox (C7 1 (rR K51.qP (oC (pV 0) pX)) qh)
 (sq (kSc (rC .non))))
def rW:MF:=uZ 1 3 xn
def mb_L_piece_0:MS:=(ox (pd 7 (kSc (oU sY (nI 6) (rC (.int 7))))) (IH 8 3 (Q2 3 (Gn 3) (oU zY (nI 4) (CW tD (rC (.int 1))))) (Cj 3 (yN (tU (oU Fw (rC (.int 4)) (nI 7))) (yE (nI 5))) (Bm 3 (pd 9 (kSc (oU Du (wg rL (nU (nI 5) oI)) (rC (.int 1))))) (Bm 3 (xK (tU (nI 2)) (pd 9 (kSc (oU sY (oU C1 (nI 6) (rC (.int 7))) (wg rL (nU (nI 5) oI))))) qd) (CK 3 (HJ tD (zK 5 (nI 9)))))) (Cj 3 (yN (tU (Os Fw Fw (rC (.int 1)) (nI 7) (rC (.int 4)))) (tU (oU Lb (wg rL (nU (nI 4) oI)) (rC (.int 1))))) (λ_=>(yZ (vg 4))) (Cj 3 (yE (nI 1)) (Bm 3 (AZ 10 (Mk yQ (vg 1) (oU Du (rC (.int 1)) (oU yQ (rC (.int 2)) (oU sY (oU C1 (nI 6) (rC (.int 7))) (rC (.int 2))))))) (λpath=>ox ((G8 3 (pV 10)) path) (xK (tU (oU Fw (nI 7) (rC (.int 2)))) (ox (tR 4 (kSc (wg rL (nU (nI 3) oI)))) (tR 3 (uK (oC (kSc (CW tD (nI 10))) pX)))) (tR 5 (pV 10))))) (λ_=>qd))))))
def mb_L_piece_1:MS:=(CZ 3 (Q2 3 (Gn 3) (oU zY (nI 4) (CW tD (rC (.int 1))))) (HJ tD (vg 5)))
def yY:MS:=(ox (pd 3 (uK (oC (uK pX) pX)))
 (ox (pd 4 (uK (oC (kSc (rC (.int 0))) pX)))
 (ox (pd 5 (uK pX))
 (ox (JI 6 (pV 0) mb_L_piece_0)
 (ox (xa (yE (nI 5)) mb_L_piece_1 100000)
 qd)))))
def uw:Q5:=AQ 3 11 1 yY (rR K72.xY (oC (pV 3) pX))
def rm:MS:=(ox (pd 3 (OX (lOf (rR K51.uz (oC (pV 0) pX))) zA (xo (nI 1))))
 (ox (pd 4 (OX (vx 0) (xo (rC (.int 3))) (xo (rC (.int 66)))))
 (ox (pd 5 (kSc (xI Zl.oA (nU (nI 0) (nU (rC (.int 2)) oI)))))
 (ox (pd 6 (kSc (oU sY (oU C1 (nI 5) (rC (.int 8))) (oU yD (wg rL (nU (nI 4) oI)) (rC (.int 1))))))
 (ox (xK (tU (oU Fw (oU sY (nI 5) (rC (.int 8))) (rC (.int 3)))) (pd 6 (kSc (wg rL (nU (nI 4) oI)))) qd)
 (ox (Ia 7 (BB 3 K54.uw (OX (vx 4) zA (xo (nI 6))) (oC (kSc (FZ (nI 2) (oU FC (oU sY (nI 5) (rC (.int 8))) (rC (.int 5))))) pX)))
 (ox (xK (tU (oU Lb (oU sY (nI 5) (rC (.int 8))) (rC (.int 2)))) (Nd 7 (BB 3 K54.uw (OX (vx 4) (xo (nI 6)) zA) (oC (kSc (FZ (nI 2) (oU FC (oU sY (nI 5) (rC (.int 8))) (rC (.int 6))))) pX))) qd)
 (ox (xK (tU (oU Lb (oU sY (nI 5) (rC (.int 8))) (rC (.int 4)))) (tR 7 (uK (oC (uK pX) pX))) qd)
 (sq (Ih (vx 7)))))))))))
def qA:MF:=uZ 3 8 rm
def vq:MS:=(Tp 1 (HK 2))
def A0:MS:=(ox (pd 1 (uK pX))
 (ox (C7 2 (pV 0) vq)
 (sq (E8 (vx 1)))))
def uW:MF:=uZ 1 3 A0
end K54
namespace K53
open PySem L2 Mr Z Xe
def qM:MS:=(IH 5 3 (Q2 3 (Gn 3) (CW tD (rC (.int 1)))) (OG 6 5 3 (vx 0) (oU zY (nI 5) (rC (.int 0))) (Sr 5 3 (tU (oU HQ (oU zY (nI 5) (rC (.int 2))) (rC (.int 0)))) (Oc 5 3 (xK (yE (nI 3)) (tR 4 (Dg (oC (kSc (rC (.str "up"))) (oC (kSc (oU zY (nI 6) (oU sY (oU zY (nI 5) (rC (.int 1))) (wg rL (nU (nI 6) oI))))) pX)))) qd)) (OC 7 5 3 (oU zY (nI 6) (oU sY (oU zY (nI 5) (rC (.int 1))) (wg rL (nU (nI 6) oI)))) (IX 5 3 (rC (.int 1)) (oU yD (oU zY (nI 5) (rC (.int 1))) (rC (.int 1))) (IX 5 3 (rC (.int 2)) (oU Du (oU zY (nI 5) (rC (.int 2))) (rC (.int 1))) (λ_=>(ox (pd 8 (kSc (yL (nI 1) (CW tD (nI 7))))) (xK (tU (S4 (nI 8) (nI 2))) (tR 4 (Dg (oC (kSc (rC (.str "side"))) (oC (pV 7) pX)))) (ox (A8 2 (nI 8) (kSc (rC (.bl true)))) (ox (tR 4 (Dg (oC (kSc (rC (.str "down"))) (oC (pV 7) pX)))) (tR 3 (uK (oC (pV 8) (oC (kSc (oU yD (Wo "list" AF (oU zY (nI 0) (nI 8)) (nU (CW tD (nI 7)) oI)) (rC (.int 1)))) (oC (kSc (oU Du (wg rL (nU (oU zY (nI 0) (nI 8)) oI)) (rC (.int 1)))) pX))))))))))))))))
def Eb:MS:=(ox (pd 1 (rR Zl.qj (oC (pV 0) pX)))
 (ox (pd 2 (Cb (rC (.int 0)) (kSc (rC (.bl true)))))
 (ox (pd 3 (uK (oC (uK (oC (kSc (rC (.int 0))) (oC (kSc (rC (.int 0))) (oC (kSc (wg rL (nU (oU zY (nI 0) (rC (.int 0))) oI))) pX)))) pX)))
 (ox (pd 4 (uK pX))
 (ox (rp (yE (nI 3)) qM 100000)
 (sq (E1 4)))))))
def yh:MF:=uZ 1 9 Eb
def oh:MS:=(xK (yN (tU (oU HQ (oU BW (nI 2) (rC (.int 0))) (rC (.str "side")))) (tU (oU (Qr false) (CW tD (oU BW (nI 2) (rC (.int 1)))) (nI 1)))) (ox (xK (tU (oU FC (oU zY (nI 1) (CW tD (rC (.int 1)))) (CW tD (oU BW (nI 2) (rC (.int 1)))))) (sq (Dg (oC (kSc (wg J8 (nU (oU BW (nI 2) (rC (.int 1))) oI))) (oC (kSc (wg J8 (nU (oU zY (nI 1) (CW tD (rC (.int 1)))) oI))) pX)))) qd) (yZ (vg 1))) (xK (tU (oU HQ (oU BW (nI 2) (rC (.int 0))) (rC (.str "side")))) (tR 1 (kSc (oU BW (nI 2) (rC (.int 1))))) qd))
def wD:MS:=(ox (pd 1 (uK pX))
 (ox (C7 2 (pV 0) oh)
 (sq (kSc (rC .non)))))
def sm:MF:=uZ 1 3 wD
def rq:MS:=(ox (pd 2 (rR K53.sm (oC (rR K53.yh (oC (pV 1) pX)) pX))) (xK (tU (oU AX (nI 2) (rC .non))) (sq (E1 2)) qd))
def BO:MS:=(ox (C7 1 (pV 0) rq)
 (sq (kSc (rC .non))))
def yt:MF:=uZ 1 3 BO
def BU:MS:=(ox (pd 1 (rR K54.qA (oC (pV 0) (oC (kSc (rC (.int 67))) (oC (kSc (oU Lb (oU sY (xI Zl.oA (nU (nI 0) (nU (rC (.int 1)) oI))) (rC (.int 3))) (rC (.int 0)))) pX)))))
 (ox (pd 2 (rR K54.uW (oC (pV 1) pX)))
 (ox (pd 3 (rR K51.xw (oC (pV 2) pX)))
 (ox (pd 4 (rR K54.rW (oC (pV 3) pX)))
 (ox (pd 5 (rR K53.yt (oC (pV 1) pX)))
 (ox (xK (QE (tU (oU N3 (nI 3) (nI 2))) (tU (oU FC (oU Ij (nI 4) (rC .non)) (oU Ij (nI 5) (rC .non))))) (sq (kSc (rC (.bl false)))) qd)
 (ox (pd 6 (kSc (rC (.bl false))))
 (ox (M8 K51.uH (oC (pV 3) pX) (WD "NotOnePiece" (pd 6 (kSc (rC (.bl true)))) VD))
 (ox (xK (tU (oU FC (nI 6) (oU FC (wg rL (nU (nI 1) oI)) (rC (.int 1))))) (sq (kSc (rC (.bl false)))) qd)
 (ox (xK (tU (oU Ij (nI 4) (rC .non))) (sq (kSc (rC (.bl true)))) qd)
 (ox (xK (QE (LH (tU (wg Dr (nU (nI 4) (nU (rC (.ty "tuple")) oI))))) (tU (oU FC (wg rL (nU (nI 4) oI)) (rC (.int 2))))) (sq (kSc (rC (.bl false)))) qd)
 (sq (kSc (FZ (xI K51.uy (nU (oU J9 (nI 4) (rC (.int 0))) oI)) (FZ (xI K51.uy (nU (oU J9 (nI 4) (rC (.int 1))) oI)) (FZ (oU Pg (nI 4) (nI 5)) (oU Pg (rOf (rR K54.rW (oC (pV 3) pX))) (nI 5))))))))))))))))))
def Eg:MF:=uZ 1 7 BU
def top(i:Nat):Stmt:=PySem.Challenge.pw_mapround_k53_the_crossing.main.body.getD i (.Pass ⟨0,0,0,0⟩)
section
variable {P:je}{w:jf}{K:W.Frag}{mg:Str->Option Value}{base:Heap}
abbrev rZ:Stmt:=top 4
theorem sH:pE ["m", "places", "place", "turn", "end"] ["m"] (nX rZ):=by trivial
theorem Fe     (D:Bd K mg "places_at" rZ ["m"] f fd) (B:Bt mg)     : Fn P w K mg base 1 "places_at" rZ ["m"] (qr K Zl.qj) f fd :=
 ⟨D,D.F.ok sH (λ_ _ _ _=>qX) λsZ A outer s H vs Q E hr h=>⟨_,(nC (nT (i:=1) sH.nd rfl (by trivial) zW) (nC (rP PassesOwn.never rfl (JU (by rfl) B.enum (nB (pv 0) nF)) (Fu rfl (tQ (pW (i:=2) sH.nd rfl (by trivial)) (tQ (pW (i:=3) sH.nd rfl (by trivial)) BK))) (nH (rP PassesOwn.never rfl (qY (pv 3)) (pW (i:=4) sH.nd rfl (by trivial)) (nH (wQ (sU hr) (pv 1) (pv 4) (pv 2) rfl))))) (nH (pK (pv 1))))),pS _ (K:=K) (nP (oa (i:=1) BG) (nP (J4 (nY 0) (vF (nY 3) (wJ (i:=1) (nY 2) (nD 4)))) (pO (ye 1)))) h⟩⟩
abbrev zo:Stmt:=top 5
theorem xF:pE ["m", "following", "turn", "end", "behind"] ["m"] (nX zo):=by trivial
theorem M6     (D:Bd K mg "nexts" zo ["m"] f fd) (B:Bt mg)     : Fn P w K mg base 1 "nexts" zo ["m"] (qr K K51.zB) f fd :=
 ⟨D,D.F.ok xF (λ_ _ _ _=>qX) λsZ A outer s H vs Q E hr h=>⟨_,(nC (nT (i:=1) xF.nd rfl (by trivial) zW) (nC (rP PassesOwn.never rfl (qY (pv 0)) (pW (i:=2) xF.nd rfl (by trivial)) (nH (rP PassesOwn.never rfl (RP (by rfl) B.zip (nB (pv 2) (nB (pD L9 (tS vn (pv 2) (ui nJ) wz) (tS vn (pv 2) wz (ui nJ))) nF))) (Fu rfl (tQ (pW (i:=3) xF.nd rfl (by trivial)) (tQ (pW (i:=4) xF.nd rfl (by trivial)) BK))) (nH (wQ (sU hr) (pv 1) (pv 3) (pv 4) rfl))))) (nH (pK (pv 1))))),pS _ (K:=K) (nP (oa (i:=1) BG) (nP (vF (nY 0) (Qd (nY 2) (M7 (SK.lOf (AI (sr 2) (uh nK) wK)) (SK.lOf (AI (sr 2) wK (uh nK)))) (wJ (i:=1) (nY 4) (nD 3)))) (pO (ye 1)))) h⟩⟩
abbrev vU:Stmt:=top 7
theorem rY:pE ["m", "start", "place_of", "known", "waiting", "here", "end", "there"] ["m", "start"] (nX vU):=by trivial
theorem Ik  (D:Bd K mg "reached" vU ["m", "start"] f fd) (B:Bt mg)   (G_places_at:Fn P w K mg base 1 "places_at" rZ ["m"] (qr K Zl.qj) fplaces_at fdplaces_at)  : Fn P w K mg base 2 "reached" vU ["m", "start"] (qr K K51.uB) f fd :=
 ⟨D,D.F.ok rY (λ_ _ _ _=>qX) λsZ A outer s H vs Q E hr h=>⟨_,(nC (nT (i:=2) rY.nd rfl (by trivial) (qw G_places_at (hr.mono (by decide)) (nB (pv 0) nF))) (nC (nT (i:=3) rY.nd rfl (by trivial) (Em (Cd (pv 1) xR EE) rfl rfl (by simp) (by decide))) (nC (nT (i:=4) rY.nd rfl (by trivial) (qE (nB (pv 1) nF))) (nC (zl PassesOwn.never (oP DI (oy pR (by rfl) B.len PySem.boot_len (nB (pv 4) nF)) nJ (oW _)) (nC (nT (i:=5) rY.nd rfl (by trivial) (yW ak bF bG zg (pv 4))) (nH (rP PassesOwn.never rfl (qY (qc oY (pv 0) (pv 5) (λ_ _=>rfl))) (pW (i:=6) rY.nd rfl (by trivial)) (nC (nT (i:=7) rY.nd rfl (by trivial) (vb (sU hr) (pv 2) (tT rz (pv 6)) (by first|rfl|exact trivial|(intro _ _;rfl)))) (nH (qi (EM (Ag (sU hr) (pv 7) (pv 3))) (nC (wQ (sU hr) (pv 3) (pv 7) xR rfl) (nH (pH (qZ ak ay az oM (pv 4) (nB (pv 7) nF))))) pQ))))))) (nH (pK (oy (Fy rfl) (by rfl) B.sorted cR (nB (pv 3) nF)))))))),pS _ (K:=K) (nP (oa (i:=2) (qg (nS (nY 0) oi))) (nP (oa (i:=3) (Ci (nD 1) (SR.kSc xU))) (nP (oa (i:=4) (qN (nS (nY 1) oi))) (nP (C8 100000 (oK (nO DW (qL qU (nQ (nD 4) om)) nK)) (nP (Jb (i:=5) (yv (i:=4))) (vF (Rr (sr 0) (nD 5)) (nP (oa (i:=7) (SR.kSc (vf (nD 2) (uD rA (nD 6))))) (qO (CY (Av (nD 7) (nD 3))) (nP (wJ (i:=3) (SR.kSc xU) (nD 7)) (tj (i:=4) (nY 7))) pY))))) (pO (ND (nD 3))))))) h⟩⟩
abbrev vN:Stmt:=top 8
theorem uC:pE ["m", "known", "found", "start", "places", "place"] ["m"] (nX vN):=by trivial
theorem KG  (D:Bd K mg "pieces" vN ["m"] f fd) (B:Bt mg)   (G_reached:Fn P w K mg base 2 "reached" vU ["m", "start"] (qr K K51.uB) freached fdreached)  : Fn P w K mg base 3 "pieces" vN ["m"] (qr K K51.qP) f fd :=
 ⟨D,D.F.ok uC (λ_ _ _ _=>qX) λsZ A outer s H vs Q E hr h=>⟨_,(nC (nT (i:=1) uC.nd rfl (by trivial) zW) (nC (nT (i:=2) uC.nd rfl (by trivial) (qE nF)) (nC (rP PassesOwn.never rfl (D8 (by rfl) B.range (nB (oy pR (by rfl) B.len PySem.boot_len (nB (pv 0) nF)) nF)) (pW (i:=3) uC.nd rfl (by trivial)) (nH (qi (EM (Ag (sU hr) (pv 3) (pv 1))) (nC (nT (i:=4) uC.nd rfl (by trivial) (qw G_reached (hr.mono (by decide)) (nB (pv 0) (nB (pv 3) nF)))) (nC (rP PassesOwn.never rfl (qY (pv 4)) (pW (i:=5) uC.nd rfl (by trivial)) (nH (wQ (sU hr) (pv 1) (pv 5) xR rfl))) (nH (pH (qZ ak ay az oM (pv 2) (nB (EC (N:=["place", "m"]) (fr:=[0]) rfl rfl (by decide +kernel) rfl (by decide +kernel) rfl (zQ.of (by decide +kernel) rfl rfl (by exact⟨rfl,trivial⟩) (by repeat (first|exact trivial|refine⟨(by first|exact λ_=>⟨_,rfl⟩|exact λh=>(by rcases h with h|h <;> cases h)),?_⟩)) (by exact⟨⟨rfl,rfl,rfl⟩,trivial⟩)) (qY (pv 4)) (λ_ _ _ _=>IM) (λ_ _ _ _=>(Ei zp (by rfl) B.list gC (nB (qc oY (pv 1) (pv 0) (λ_ _=>rfl)) nF)))) nF)))))) pQ))) (nH (pK (pv 2)))))),pS _ (K:=K) (nP (oa (i:=1) BG) (nP (oa (i:=2) (qN oi)) (nP (Mn (nQ (qL qU (nQ (nD 0) om)) om) (qO (CY (Av (nD 3) (nD 1))) (nP (oa (i:=4) (qg (nS (nY 0) (nS (nY 3) oi)))) (nP (vF (nY 4) (wJ (i:=1) (SR.kSc xU) (nD 5))) (tj (i:=2) (GV (nY 4) HW (JO (SL.q (SK.lOf (Rr (sr 1) (nD 0))))))))) pY)) (pO (ye 2))))) h⟩⟩
abbrev pP:Stmt:=top 9
theorem wa:pE ["m"] ["m"] (nX pP):=by trivial
theorem vR  {vz vA:Addr}  (D:Bd K mg "refuse_not_one_piece" pP ["m"] f fd) (B:Bt mg)  (pC:Lj K mg "NotOnePiece" vz vA) (G_pieces:Fn P w K mg base 3 "pieces" vN ["m"] (qr K K51.qP) fpieces fdpieces)  : Pa P w K mg base 4 "refuse_not_one_piece" pP ["m"] (K8 K K51.oB) f fd :=
 ⟨D,okX D.F wa (λvs H Q E h=>Jq h) λsZ A outer s H vs Q E hr h=>⟨_,(nH (qi (oP zS (oy pR (by rfl) B.len PySem.boot_len (nB (qw G_pieces (hr.mono (by decide)) (nB (pv 0) nF)) nF)) nJ (oW _)) (nH (Li pC.i.rf DG rfl (R7 pC.i))) pQ)),Dx _ (K:=K) (Tu (oK (nO zX (qL qU (nQ (SK.rOf (qg (nS (nY 0) oi))) om)) nK)) (Iu pC.i.rf) (wB pY)) h⟩⟩
abbrev Ai:Stmt:=top 11
theorem tG:pE ["m", "place_of", "following", "came_by", "things", "end", "there"] ["m"] (nX Ai):=by trivial
theorem O0  (D:Bd K mg "walk" Ai ["m"] f fd) (B:Bt mg)   (G_refuse_not_one_piece:Pa P w K mg base 4 "refuse_not_one_piece" pP ["m"] (K8 K K51.oB) frefuse_not_one_piece fdrefuse_not_one_piece) (G_places_at:Fn P w K mg base 1 "places_at" rZ ["m"] (qr K Zl.qj) fplaces_at fdplaces_at) (G_nexts:Fn P w K mg base 1 "nexts" zo ["m"] (qr K K51.zB) fnexts fdnexts)  : Pa P w K mg base 5 "walk" Ai ["m"] (K8 K K51.uH) f fd :=
 ⟨D,okX D.F tG (λvs H Q E h=>Jq h) λsZ A outer s H vs Q E hr h=>⟨_,(nC (pH (T7 G_refuse_not_one_piece (hr.mono (by decide)) Kl (nB (pv 0) nF))) (nC (qi (oP B8 (oy pR (by rfl) B.len PySem.boot_len (nB (qc oY (pv 0) nJ (λ_ _=>rfl)) nF)) nJ (oW _)) (nH (pK (qE nF))) pQ) (nC (nT (i:=1) tG.nd rfl (by trivial) (qw G_places_at (hr.mono (by decide)) (nB (pv 0) nF))) (nC (nT (i:=2) tG.nd rfl (by trivial) (qw G_nexts (hr.mono (by decide)) (nB (pv 0) nF))) (nC (nT (i:=3) tG.nd rfl (by trivial) (Em (Cd nJ vC EE) rfl rfl (by simp) (by decide))) (nC (nT (i:=4) tG.nd rfl (by trivial) (qE nF)) (nC (nT (i:=5) tG.nd rfl (by trivial) (qc oY (qc oY (pv 0) nJ (λ_ _=>rfl)) nJ (λ_ _=>rfl))) (nC (zl PassesOwn.leaving (oP BS (oy pR (by rfl) B.len PySem.boot_len (nB (pv 4) nF)) (oy KU (by rfl) B.len PySem.boot_len (nB (pv 2) nF)) (oW _)) (nC (nT (i:=6) tG.nd rfl (by trivial) (vb (sU hr) (pv 1) (tT rz (pv 5)) (by first|rfl|exact trivial|(intro _ _;rfl)))) (nH (qi (oP B8 (pv 5) (vb (sU hr) (pv 3) (vb (sU hr) (pv 1) (pv 5) (by first|rfl|exact trivial|(intro _ _;rfl))) (by first|rfl|exact trivial|(intro _ _;rfl))) (oW _)) (nC (pH (qZ ak ay az oM (pv 4) (nB (yc (nB vp (nB (pv 5) nF))) nF))) (nH (nT (i:=5) tG.nd rfl (by trivial) (vb (sU hr) (pv 2) (tT rz (pv 5)) (by first|rfl|exact trivial|(intro _ _;rfl)))))) (nH (qi (EM (Ag (sU hr) (pv 6) (pv 3))) (nC (wQ (sU hr) (pv 3) (pv 6) (tT rz (pv 5)) rfl) (nC (pH (qZ ak ay az oM (pv 4) (nB (yc (nB vp (nB (pv 5) nF))) nF))) (nH (nT (i:=5) tG.nd rfl (by trivial) (vb (sU hr) (pv 2) (tT rz (pv 5)) (by first|rfl|exact trivial|(intro _ _;rfl))))))) (nC (pH (qZ ak ay az oM (pv 4) (nB (yc (nB vp (nB (pv 5) nF))) nF))) (nH (nT (i:=5) tG.nd rfl (by trivial) (vb (sU hr) (pv 2) (pv 5) (by first|rfl|exact trivial|(intro _ _;rfl)))))))))))) (nH (pK (pv 4))))))))))),Dx _ (K:=K) (vc (Nc (nS (nY 0) oi)) (vc (wB (qO (oK (nO AK (qL qU (nQ (nO si (nD 0) nK) om)) nK)) (pO (qN oi)) pY)) (vc (wB (oa (i:=1) (qg (nS (nY 0) oi)))) (vc (wB (oa (i:=2) (qg (nS (nY 0) oi)))) (vc (wB (oa (i:=3) (Ci nK (SR.kSc vJ)))) (vc (wB (oa (i:=4) (qN oi))) (vc (wB (oa (i:=5) (SR.kSc (nO si (nO si (nD 0) nK) nK)))) (vc (wB (C8 100000 (oK (nO CA (qL qU (nQ (nD 4) om)) (qL O6 (nQ (nD 2) om)))) (nP (oa (i:=6) (SR.kSc (vf (nD 1) (uD rA (nD 5))))) (qO (oK (nO AK (nD 5) (vf (nD 3) (vf (nD 1) (nD 5))))) (nP (tj (i:=4) (xH (nS (SR.kSc vB) (nS (nY 5) oi)))) (oa (i:=5) (SR.kSc (vf (nD 2) (uD rA (nD 5)))))) (qO (CY (Av (nD 6) (nD 3))) (nP (wJ (i:=3) (SR.kSc (uD rA (nD 5))) (nD 6)) (nP (tj (i:=4) (xH (nS (SR.kSc vB) (nS (nY 5) oi)))) (oa (i:=5) (SR.kSc (vf (nD 2) (uD rA (nD 5))))))) (nP (tj (i:=4) (xH (nS (SR.kSc vB) (nS (nY 5) oi)))) (oa (i:=5) (SR.kSc (vf (nD 2) (nD 5)))))))))) (wB (pO (ye 4))))))))))) h⟩⟩
abbrev qG:Stmt:=top 12
theorem pZ:pE ["things", "waiting", "word", "end", "road", "last"] ["things"] (nX qG):=by trivial
theorem zu     (D:Bd K mg "first_crossing" qG ["things"] f fd) (B:Bt mg)     : Fn P w K mg base 1 "first_crossing" qG ["things"] (qr K K54.pU) f fd :=
 ⟨D,D.F.ok pZ (λ_ _ _ _=>qX) λsZ A outer s H vs Q E hr h=>⟨_,(nC (nT (i:=1) pZ.nd rfl (by trivial) (qE nF)) (nC (rP PassesOwn.never rfl (qY (pv 0)) (Fu rfl (tQ (pW (i:=2) pZ.nd rfl (by trivial)) (tQ (pW (i:=3) pZ.nd rfl (by trivial)) BK))) (nC (nT (i:=4) pZ.nd rfl (by trivial) (oy Cv (by rfl) B.abs fm (nB (pv 3) nF))) (nH (qi (PW.pt (EY (oP B8 (pv 2) vp (oW _)) (Br (oP Fc (pv 4) (pv 1) rfl)))) (nH (pH (qZ ak ay az oM (pv 1) (nB (pv 4) nF)))) (nH (qi (oP B8 (pv 2) vp (oW _)) (nC (nT (i:=5) pZ.nd rfl (by trivial) (yW ak bF bG zg (pv 1))) (nH (qi (oP zS (pv 5) (pv 4) (oW _)) (nH (pK (yc (nB (pv 4) (nB (pv 5) nF))))) pQ))) pQ)))))) (nH (pK vC)))),pS _ (K:=K) (nP (oa (i:=1) (qN oi)) (nP (QI (nY 0) (nP (oa (i:=4) (SR.kSc (qL Hr (nQ (nD 3) om)))) (qO (Fp (oK (nO AK (nD 2) vB)) (oK (nO (OE true) (nD 4) (nD 1)))) (tj (i:=1) (nY 4)) (qO (oK (nO AK (nD 2) vB)) (nP (Jb (i:=5) (yv (i:=1))) (qO (oK (nO zX (nD 5) (nD 4))) (pO (xH (nS (nY 4) (nS (nY 5) oi)))) pY)) pY)))) (pO (SR.kSc vJ)))) h⟩⟩
abbrev uP:Stmt:=top 13
theorem xZ:pE ["m", "piece", "found"] ["m"] (nX uP):=by trivial
theorem Gr  (D:Bd K mg "crossing" uP ["m"] f fd) (B:Bt mg)   (G_pieces:Fn P w K mg base 3 "pieces" vN ["m"] (qr K K51.qP) fpieces fdpieces) (G_first_crossing:Fn P w K mg base 1 "first_crossing" qG ["things"] (qr K K54.pU) ffirst_crossing fdfirst_crossing) (G_walk:Pa P w K mg base 5 "walk" Ai ["m"] (K8 K K51.uH) fwalk fdwalk)  : Fn P w K mg base 6 "crossing" uP ["m"] (qr K K54.rW) f fd :=
 ⟨D,D.F.ok xZ (λ_ _ _ _=>qX) λsZ A outer s H vs Q E hr h=>⟨_,(nC (rP PassesOwn.never rfl (qY (qw G_pieces (hr.mono (by decide)) (nB (pv 0) nF))) (pW (i:=1) xZ.nd rfl (by trivial)) (nC (nT (i:=2) xZ.nd rfl (by trivial) (qw G_first_crossing (hr.mono (by decide)) (nB (Tr G_walk (hr.mono (by decide)) (nB (pv 1) nF)) nF))) (nH (qi (oP Jv (pv 2) vC (oW _)) (nH (pK (pv 2))) pQ)))) (nH (pK vC))),pS _ (K:=K) (nP (vF (qg (nS (nY 0) oi)) (nP (oa (i:=2) (qg (nS (qg (nS (nY 1) oi)) oi))) (qO (oK (nO Jf (nD 2) vJ)) (pO (ye 2)) pY))) (pO (SR.kSc vJ))) h⟩⟩
abbrev uF:Stmt:=top 15
theorem Kw:pE ["_law_script", "_law_k"] ["_law_script", "_law_k"] (nX uF):=by trivial
theorem KQ     (D:Bd K mg "_law_cell" uF ["_law_script", "_law_k"] f fd) (B:Bt mg)     : Fn P w K mg base 1 "_law_cell" uF ["_law_script", "_law_k"] (qr K Zl.oA) f fd :=
 ⟨D,D.F.ok Kw (λ_ _ _ _=>qX) λsZ A outer s H vs Q E hr h=>⟨_,(nC (qi (oP BS (pv 1) (oy pR (by rfl) B.len PySem.boot_len (nB (pv 0) nF)) (oW _)) (nH (pK (qc oY (pv 0) (pv 1) (λ_ _=>rfl)))) pQ) (nH (pK nJ))),pS _ (K:=K) (nP (qO (oK (nO CA (nD 1) (qL qU (nQ (nD 0) om)))) (pO (SR.kSc (nO si (nD 0) (nD 1)))) pY) (pO (SR.kSc nK))) h⟩⟩
abbrev vX:Stmt:=top 16
theorem rX:pE ["_law_script", "_law_step", "_law_shift", "_law_a", "_law_b"] ["_law_script"] (nX vX):=by trivial
theorem HY  (D:Bd K mg "_law_roads" vX ["_law_script"] f fd) (B:Bt mg)   (sF:Fn P w K mg base 1 "_law_cell" uF ["_law_script", "_law_k"] (qr K Zl.oA) fL_cell fdL_cell)  : Fn P w K mg base 2 "_law_roads" vX ["_law_script"] (qr K K51.uz) f fd :=
 ⟨D,D.F.ok rX (λ_ _ _ _=>qX) λsZ A outer s H vs Q E hr h=>⟨_,(nC (nT (i:=1) rX.nd rfl (by trivial) nJ) (nC (nT (i:=2) rX.nd rfl (by trivial) nJ) (nC (qi (oP DI (pD qT (qw sF (hr.mono (by decide)) (nB (pv 0) (nB nJ nF))) nJ) nJ (oW _)) (nC (nT (i:=1) rX.nd rfl (by trivial) (pD xG nJ (pD qT (qw sF (hr.mono (by decide)) (nB (pv 0) (nB nJ nF))) (pD NH nJ nJ)))) (nH (nT (i:=2) rX.nd rfl (by trivial) (pD qT (qw sF (hr.mono (by decide)) (nB (pv 0) (nB nJ nF))) (pD NH nJ nJ))))) pQ) (nC (nT (i:=3) rX.nd rfl (by trivial) (pD xG nJ (pD qT (pD zI (qw sF (hr.mono (by decide)) (nB (pv 0) (nB nJ nF))) nJ) nJ))) (nC (nT (i:=4) rX.nd rfl (by trivial) (pD qT (pD zI (qw sF (hr.mono (by decide)) (nB (pv 0) (nB nJ nF))) nJ) nJ)) (nH (pK (EC (N:=["_law_k", "_law_shift", "_law_step", "_law_b", "_law_a"]) (fr:=[2,1,4,3]) rfl rfl (by decide +kernel) rfl (by decide +kernel) rfl (zQ.of (by decide +kernel) rfl rfl (by exact⟨rfl,rfl,rfl,rfl,trivial⟩) (by repeat (first|exact trivial|refine⟨(by first|exact λ_=>⟨_,rfl⟩|exact λh=>(by rcases h with h|h <;> cases h)),?_⟩)) (by exact⟨⟨rfl,rfl,rfl⟩,⟨rfl,rfl,rfl⟩,⟨rfl,rfl,rfl⟩,⟨rfl,rfl,rfl⟩,trivial⟩)) (D8 (by rfl) B.range (nB nJ nF)) (λ_ _ _ _=>IM) (λ_ _ _ _=>(pD xG (pD Fo (pv 2) (pD xG nJ (pD qT (pD xG (pD Fo (pv 4) (pv 0)) (pv 3)) nJ))) (pv 1))))))))))),pS _ (K:=K) (nP (oa (i:=1) (SR.kSc nK)) (nP (oa (i:=2) (SR.kSc nK)) (nP (qO (oK (nO DW (nO qV (uu (nQ (nD 0) (nQ nK om))) nK) nK)) (nP (oa (i:=1) (SR.kSc (nO xO nK (nO qV (uu (nQ (nD 0) (nQ nK om))) (nO LK nK nK))))) (oa (i:=2) (SR.kSc (nO qV (uu (nQ (nD 0) (nQ nK om))) (nO LK nK nK))))) pY) (nP (oa (i:=3) (SR.kSc (nO xO nK (nO qV (nO Ck (uu (nQ (nD 0) (nQ nK om))) nK) nK)))) (nP (oa (i:=4) (SR.kSc (nO qV (nO Ck (uu (nQ (nD 0) (nQ nK om))) nK) nK))) (pO (La (nQ nK om) HW (SR.kSc (nO xO (nO ED (nD 2) (nO xO nK (nO qV (nO xO (nO ED (nD 4) (nD 0)) (nD 3)) nK))) (nD 1)))))))))) h⟩⟩
abbrev xB:Stmt:=top 17
theorem vM:pE ["_law_turns", "_law_rows", "_law_turn", "_law_at"] ["_law_turns"] (nX xB):=by trivial
theorem K2     (D:Bd K mg "_law_good" xB ["_law_turns"] f fd) (B:Bt mg)     : Fn P w K mg base 1 "_law_good" xB ["_law_turns"] (qr K K72.xY) f fd :=
 ⟨D,D.F.ok vM (λ_ _ _ _=>qX) λsZ A outer s H vs Q E hr h=>have hu:=hr.units;⟨_,(nC (nT (i:=1) vM.nd rfl (by trivial) (qE nF)) (nC (rP PassesOwn.never rfl (qY (pv 0)) (pW (i:=2) vM.nd rfl (by trivial)) (nC (qi (vT (pv 2) (λ_=>rfl)) (nC (nT (i:=3) vM.nd rfl (by trivial) (qZ ak eF gw G1 (pv 2) (nB (oy (KB rfl) (by rfl) B.min iS (nB (pv 2) nF)) nF))) (nH (nT (i:=2) vM.nd rfl (by trivial) (pD L9 (tS vn (pv 2) (ui (pv 3)) wz) (tS vn (pv 2) wz (ui (pv 3))))))) pQ) (nH (pH (qZ ak ay az oM (pv 1) (nB (pv 2) nF)))))) (nH (pK (oy (zP hu) (by rfl) B.sorted cR (nB (pv 1) nF)))))),pS _ (K:=K) (nP (oa (i:=1) (qN oi)) (nP (vF (nY 0) (nP (qO (Ah (nD 2)) (nP (oa (i:=3) (SR.kSc (Rc (T := "list") Ha (nD 2) (nQ (qL Tb (nQ (nD 2) om)) om)))) (oa (i:=2) (M7 (SK.lOf (AI (sr 2) (uh (nD 3)) wK)) (SK.lOf (AI (sr 2) wK (uh (nD 3))))))) pY) (tj (i:=1) (nY 2)))) (pO (FI (sr 1))))) h⟩⟩
abbrev vW:Stmt:=top 18
theorem qB:pE ["_law_cells", "_law_roads_here", "_law_loose", "_law_turns", "_law_path", "_law_opened", "_law_cell_here", "_law_kind", "_law_turn", "_law_at", "_law_end"] ["_law_cells", "_law_roads_here", "_law_loose"] (nX vW):=by trivial
theorem Hn  (D:Bd K mg "_law_piece" vW ["_law_cells", "_law_roads_here", "_law_loose"] f fd) (B:Bt mg)   (LJ:Fn P w K mg base 1 "_law_good" xB ["_law_turns"] (qr K K72.xY) fL_good fdL_good)  : Fn P w K mg base 2 "_law_piece" vW ["_law_cells", "_law_roads_here", "_law_loose"] (HD K 1 K54.uw) f fd :=
 ⟨D,D.F.ok qB (λvs H Q E h=>LR h) λsZ A outer s H vs Q E hr h=>⟨_,(nC (nT (i:=3) qB.nd rfl (by trivial) (qE (nB (qE nF) nF))) (nC (nT (i:=4) qB.nd rfl (by trivial) (qE (nB nJ nF))) (nC (nT (i:=5) qB.nd rfl (by trivial) (qE nF)) (nC (rP PassesOwn.never rfl (qY (pv 0)) (pW (i:=6) qB.nd rfl (by trivial)) (nC (nT (i:=7) qB.nd rfl (by trivial) (pD qT (pv 6) nJ)) (nC (nT (i:=8) qB.nd rfl (by trivial) (qc oY (pv 3) (qc oY (pv 4) (tT rz nJ) (λ_ _=>rfl)) (λ_ _=>rfl))) (nH (qi (PW.pt (EY (oP BS nJ (pv 7) (oW _)) (Br (vT (pv 5) (λ_=>rfl))))) (nC (nT (i:=9) qB.nd rfl (by trivial) (pD Fx (oy pR (by rfl) B.len PySem.boot_len (nB (pv 5) nF)) nJ)) (nC (qi (NY (pv 2)) (nH (nT (i:=9) qB.nd rfl (by trivial) (pD qT (pD zI (pv 6) nJ) (oy pR (by rfl) B.len PySem.boot_len (nB (pv 5) nF))))) pQ) (nH (pH (qZ ak ay az oM (pv 8) (nB (tT rz (qZ ak bF bG N2 (pv 5) (nB (pv 9) nF))) nF)))))) (nH (qi (PW.pt (EY (OH BS BS nJ (pv 7) nJ) (Br (oP DI (oy pR (by rfl) B.len PySem.boot_len (nB (pv 4) nF)) nJ (oW _))))) (nH (pH (yW ak bF bG zg (pv 4)))) (nH (qi (vT (pv 1) (λ_=>rfl)) (nC (nT (i:=10) qB.nd rfl (by trivial) (pD Fo (yW ak bF bG zg (pv 1)) (pD Fx nJ (pD Fo nJ (pD qT (pD zI (pv 6) nJ) nJ))))) (nC (pH (qZ ak ay az oM (pv 8) (nB (pv 10) nF))) (nH (qi (oP BS (pv 7) nJ (oW _)) (nC (pH (qZ ak ay az oM (pv 4) (nB (oy pR (by rfl) B.len PySem.boot_len (nB (pv 3) nF)) nF))) (nH (pH (qZ ak ay az oM (pv 3) (nB (qE (nB (tT rz (pv 10)) nF)) nF))))) (nH (pH (qZ ak ay az oM (pv 5) (nB (pv 10) nF)))))))) pQ))))))))) (nC (zl PassesOwn.never (vT (pv 5) (λ_=>rfl)) (nH (pH (qZ ak ay az oM (qc oY (pv 3) (qc oY (pv 4) (tT rz nJ) (λ_ _=>rfl)) (λ_ _=>rfl)) (nB (tT rz (yW ak bF bG zg (pv 5))) nF))))) (nH (pK (qw LJ (hr.mono (by decide)) (nB (pv 3) nF))))))))),HP ["_law_cells", "_law_roads_here", "_law_loose", "_law_turns", "_law_path", "_law_opened", "_law_cell_here", "_law_kind", "_law_turn", "_law_at", "_law_end"] (K:=K) (zi (Bv (i:=3) (qN (nS (qN oi) oi))) (zi (Bv (i:=4) (qN (nS (SR.kSc nK) oi))) (zi (Bv (i:=5) (qN oi)) (zi (Py (nY 0) (JP (Bv (i:=7) (SR.kSc (nO qV (nD 6) nK))) (QK (Iz (Ek 3) (nO si (nD 4) (uD rA nK))) (HZ (Fp (oK (nO CA nK (nD 7))) (Ah (nD 5))) (Fl (Ep (SR.kSc (nO ET (qL qU (nQ (nD 5) om)) nK)) (by decide)) (Fl (MW (CY (nD 2)) (Ep (SR.kSc (nO qV (nO Ck (nD 6) nK) (qL qU (nQ (nD 5) om)))) (by decide)) (FP (λ_ _ _ h=>h))) (LY (Rn rA (LU (i:=5) (nD 9)))))) (HZ (Fp (oK (Uv CA CA nK (nD 7) nK Wh)) (oK (nO DW (qL qU (nQ (nD 4) om)) nK))) (Lx (Ks (yv (i:=4)))) (HZ (Ah (nD 1)) (Fl (N4 (VN ED (yv (i:=1)) (nO ET nK (nO ED nK (nO qV (nO Ck (nD 6) nK) nK)))) (by decide)) (PJ (PP (nY 10)) (Ux (oK (nO CA (nD 7) nK)) (JP (Fd (i:=4) (SR.kSc (qL qU (nQ (nD 3) om)))) (Fd (i:=3) (qN (nS (SR.kSc (uD rA (nD 10))) oi)))) (Fd (i:=5) (nY 10))))) (Lx GC))))))) (zi (KY 100000 (Ah (nD 5)) (KW (Iz (Ek 3) (nO si (nD 4) (uD rA nK))) (Rn rA (yv (i:=5))))) (Qg (qg (nS (nY 3) oi)))))))) (by decide) h⟩⟩
abbrev uS:Stmt:=top 19
theorem rD:pE ["_law_script", "_law_most", "_law_loose", "_law_roads_here", "_law_cells", "_law_head", "_law_cut", "_law_found"] ["_law_script", "_law_most", "_law_loose"] (nX uS):=by trivial
theorem FG  (D:Bd K mg "_law_pieces" uS ["_law_script", "_law_most", "_law_loose"] f fd) (B:Bt mg)   (sF:Fn P w K mg base 1 "_law_cell" uF ["_law_script", "_law_k"] (qr K Zl.oA) fL_cell fdL_cell) (Kh:Fn P w K mg base 2 "_law_roads" vX ["_law_script"] (qr K K51.uz) fL_roads fdL_roads) (DY:Fn P w K mg base 2 "_law_piece" vW ["_law_cells", "_law_roads_here", "_law_loose"] (HD K 1 K54.uw) fL_piece fdL_piece)  : Fn P w K mg base 3 "_law_pieces" uS ["_law_script", "_law_most", "_law_loose"] (qr K K54.qA) f fd :=
 ⟨D,D.F.ok rD (λ_ _ _ _=>qX) λsZ A outer s H vs Q E hr h=>have hu:=hr.units;⟨_,(nC (nT (i:=3) rD.nd rfl (by trivial) (tS vn (qw Kh (hr.mono (by decide)) (nB (pv 0) nF)) wz (ui (pv 1)))) (nC (nT (i:=4) rD.nd rfl (by trivial) (tS vn (pv 0) (ui nJ) (ui nJ))) (nC (nT (i:=5) rD.nd rfl (by trivial) (qw sF (hr.mono (by decide)) (nB (pv 0) (nB nJ nF)))) (nC (nT (i:=6) rD.nd rfl (by trivial) (pD qT (pD zI (pv 5) nJ) (pD xG (oy pR (by rfl) B.len PySem.boot_len (nB (pv 4) nF)) nJ))) (nC (qi (oP BS (pD qT (pv 5) nJ) nJ (oW _)) (nH (nT (i:=6) rD.nd rfl (by trivial) (oy pR (by rfl) B.len PySem.boot_len (nB (pv 4) nF)))) pQ) (nC (nT (i:=7) rD.nd rfl (by trivial) (qE (nB (qw DY (hr.mono (by decide)) (nB (tS vn (pv 4) wz (ui (pv 6))) (nB (pv 3) (nB (Ab (pv 2) (EX (ve zS (pD qT (pv 5) nJ) nJ (oW _)))) nF)))) nF))) (nC (qi (oP DI (pD qT (pv 5) nJ) nJ (oW _)) (nH (pH (qZ ak ay az oM (pv 7) (nB (qw DY (hr.mono (by decide)) (nB (tS vn (pv 4) (ui (pv 6)) wz) (nB (pv 3) (nB (Ab (pv 2) (EX (ve zS (pD qT (pv 5) nJ) nJ (oW _)))) nF)))) nF)))) pQ) (nC (qi (oP DI (pD qT (pv 5) nJ) nJ (oW _)) (nH (pH (qZ ak ay az oM (pv 7) (nB (qE (nB (qE nF) nF)) nF)))) pQ) (nH (pK (oy (E5 hu) (by rfl) B.sorted cR (nB (pv 7) nF)))))))))))),pS _ (K:=K) (nP (oa (i:=3) (AI (SL.q (SK.lOf (qg (nS (nY 0) oi)))) wK (uh (nD 1)))) (nP (oa (i:=4) (AI (sr 0) (uh nK) (uh nK))) (nP (oa (i:=5) (SR.kSc (uu (nQ (nD 0) (nQ nK om))))) (nP (oa (i:=6) (SR.kSc (nO qV (nO Ck (nD 5) nK) (nO xO (qL qU (nQ (nD 4) om)) nK)))) (nP (qO (oK (nO CA (nO qV (nD 5) nK) nK)) (oa (i:=6) (SR.kSc (qL qU (nQ (nD 4) om)))) pY) (nP (NB (i:=7) (Ef (i:=3) (AI (sr 4) wK (uh (nD 6))) (nS (SR.kSc (AB (nD 2) (nO zX (nO qV (nD 5) nK) nK))) oi))) (nP (qO (oK (nO DW (nO qV (nD 5) nK) nK)) (Pj (i:=7) (Ef (i:=3) (AI (sr 4) (uh (nD 6)) wK) (nS (SR.kSc (AB (nD 2) (nO zX (nO qV (nD 5) nK) nK))) oi))) pY) (nP (qO (oK (nO DW (nO qV (nD 5) nK) nK)) (tj (i:=7) (qN (nS (qN oi) oi))) pY) (pO (Nj (sr 7))))))))))) h⟩⟩
abbrev uO:Stmt:=top 20
theorem xP:pE ["_law_lot", "_law_turns", "_law_piece_here"] ["_law_lot"] (nX uO):=by trivial
theorem GT     (D:Bd K mg "_law_joined" uO ["_law_lot"] f fd) (B:Bt mg)     : Fn P w K mg base 1 "_law_joined" uO ["_law_lot"] (qr K K54.uW) f fd :=
 ⟨D,D.F.ok xP (λ_ _ _ _=>qX) λsZ A outer s H vs Q E hr h=>have hu:=hr.units;⟨_,(nC (nT (i:=1) xP.nd rfl (by trivial) (qE nF)) (nC (rP PassesOwn.never rfl (qY (pv 0)) (pW (i:=2) xP.nd rfl (by trivial)) (nH (pH (qZ ak PySem.F.slot_list_extend PySem.F.type_list_extend KH (pv 1) (nB (pv 2) nF))))) (nH (pK (oy (zP hu) (by rfl) B.sorted cR (nB (pv 1) nF)))))),pS _ (K:=K) (nP (oa (i:=1) (qN oi)) (nP (vF (nY 0) (R5 (i:=1) (IF 2))) (pO (FI (sr 1))))) h⟩⟩
abbrev xp:Stmt:=top 21
theorem KZ:pE ["_law_turns"] ["_law_turns"] (nX xp):=by trivial
theorem KD     (D:Bd K mg "_law_copy" xp ["_law_turns"] f fd) (B:Bt mg)     : Fn P w K mg base 1 "_law_copy" xp ["_law_turns"] (qr K K51.xw) f fd :=
 ⟨D,D.F.ok KZ (λ_ _ _ _=>qX) λsZ A outer s H vs Q E hr h=>⟨_,(nH (pK (EC (cl:=[]) (N:=["_law_turn"]) (fr:=[]) rfl rfl (by decide +kernel) rfl (by decide +kernel) rfl (zQ.none (by decide +kernel)) (qY (pv 0)) (λ_ _ _ _=>IM) (λ_ _ _ _=>(Ei zp (by rfl) B.list gC (nB (pv 0) nF)))))),pS _ (K:=K) (pO (GV (nY 0) HW (JO (sr 0)))) h⟩⟩
abbrev uM:Stmt:=top 22
theorem tO:pE ["_law_turns", "_law_places_here", "_law_place", "_law_turn", "_law_end"] ["_law_turns"] (nX uM):=by trivial
theorem GL     (D:Bd K mg "_law_places" uM ["_law_turns"] f fd) (B:Bt mg)     : Fn P w K mg base 1 "_law_places" uM ["_law_turns"] (qr K Zl.qj) f fd :=
 ⟨D,D.F.ok tO (λ_ _ _ _=>qX) λsZ A outer s H vs Q E hr h=>⟨_,(nC (nT (i:=1) tO.nd rfl (by trivial) zW) (nC (rP PassesOwn.never rfl (JU (by rfl) B.enum (nB (pv 0) nF)) (Fu rfl (tQ (pW (i:=2) tO.nd rfl (by trivial)) (tQ (pW (i:=3) tO.nd rfl (by trivial)) BK))) (nH (rP PassesOwn.never rfl (qY (pv 3)) (pW (i:=4) tO.nd rfl (by trivial)) (nH (wQ (sU hr) (pv 1) (pv 4) (pv 2) rfl))))) (nH (pK (pv 1))))),pS _ (K:=K) (nP (oa (i:=1) BG) (nP (J4 (nY 0) (vF (nY 3) (wJ (i:=1) (nY 2) (nD 4)))) (pO (ye 1)))) h⟩⟩
abbrev xC:Stmt:=top 23
theorem rJ:pE ["_law_piece_here", "_law_places_here", "_law_come", "_law_path", "_law_things", "_law_top", "_law_turn", "_law_end", "_law_place"] ["_law_piece_here"] (nX xC):=by trivial
theorem Ki  (D:Bd K mg "_law_walk" xC ["_law_piece_here"] f fd) (B:Bt mg)   (IA:Fn P w K mg base 1 "_law_places" uM ["_law_turns"] (qr K Zl.qj) fL_places fdL_places)  : Fn P w K mg base 2 "_law_walk" xC ["_law_piece_here"] (qr K K53.yh) f fd :=
 ⟨D,D.F.ok rJ (λ_ _ _ _=>qX) λsZ A outer s H vs Q E hr h=>⟨_,(nC (nT (i:=1) rJ.nd rfl (by trivial) (qw IA (hr.mono (by decide)) (nB (pv 0) nF))) (nC (nT (i:=2) rJ.nd rfl (by trivial) (Em (Cd nJ xR EE) rfl rfl (by simp) (by decide))) (nC (nT (i:=3) rJ.nd rfl (by trivial) (qE (nB (qE (nB nJ (nB nJ (nB (oy pR (by rfl) B.len PySem.boot_len (nB (qc oY (pv 0) nJ (λ_ _=>rfl)) nF)) nF)))) nF))) (nC (nT (i:=4) rJ.nd rfl (by trivial) (qE nF)) (nC (zl PassesOwn.never (vT (pv 3) (λ_=>rfl)) (nC (nT (i:=5) rJ.nd rfl (by trivial) (qc oY (pv 3) (tT rz nJ) (λ_ _=>rfl))) (nC (nT (i:=6) rJ.nd rfl (by trivial) (qc oY (pv 0) (qc oY (pv 5) nJ (λ_ _=>rfl)) (λ_ _=>rfl))) (nH (qi (oP B8 (qc oY (pv 5) nJ (λ_ _=>rfl)) nJ (oW _)) (nC (pH (yW ak bF bG zg (pv 3))) (nH (qi (vT (pv 3) (λ_=>rfl)) (nH (pH (qZ ak ay az oM (pv 4) (nB (yc (nB vp (nB (qc oY (pv 6) (pD qT (qc oY (pv 5) nJ (λ_ _=>rfl)) (oy pR (by rfl) B.len PySem.boot_len (nB (pv 6) nF))) (λ_ _=>rfl)) nF))) nF)))) pQ))) (nC (nT (i:=7) rJ.nd rfl (by trivial) (qc oY (pv 6) (pD qT (qc oY (pv 5) nJ (λ_ _=>rfl)) (oy pR (by rfl) B.len PySem.boot_len (nB (pv 6) nF))) (λ_ _=>rfl))) (nC (On (pD xG (qc oY (pv 5) nJ (λ_ _=>rfl)) nJ) (Mj (pv 5) nJ GR)) (nC (On (pD Fx (qc oY (pv 5) nJ (λ_ _=>rfl)) nJ) (Mj (pv 5) nJ GR)) (nC (nT (i:=8) rJ.nd rfl (by trivial) (vb (sU hr) (pv 1) (tT rz (pv 7)) (by first|rfl|exact trivial|(intro _ _;rfl)))) (nH (qi (EM (RX (sU hr) (pv 8) (pv 2))) (nH (pH (qZ ak ay az oM (pv 4) (nB (yc (nB vp (nB (pv 7) nF))) nF)))) (nC (wQ (sU hr) (pv 2) (pv 8) xR rfl) (nC (pH (qZ ak ay az oM (pv 4) (nB (yc (nB vp (nB (pv 7) nF))) nF))) (nH (pH (qZ ak ay az oM (pv 3) (nB (qE (nB (pv 8) (nB (pD xG (qZ ak eF gw G1 (qc oY (pv 0) (pv 8) (λ_ _=>rfl)) (nB (tT rz (pv 7)) nF)) nJ) (nB (pD Fx (oy pR (by rfl) B.len PySem.boot_len (nB (qc oY (pv 0) (pv 8) (λ_ _=>rfl)) nF)) nJ) nF)))) nF))))))))))))))))) (nH (pK (pv 4)))))))),pS _ (K:=K) (nP (oa (i:=1) (qg (nS (nY 0) oi))) (nP (oa (i:=2) (Ci nK (SR.kSc xU))) (nP (oa (i:=3) (qN (nS (qN (nS (SR.kSc nK) (nS (SR.kSc nK) (nS (SR.kSc (qL qU (nQ (nO si (nD 0) nK) om))) oi)))) oi))) (nP (oa (i:=4) (qN oi)) (nP (C8 100000 (Ah (nD 3)) (RG (Iz (Ek 3) (uD rA nK)) (Pp (y:=6) (sr 0) (nO si (nD 5) nK) (TU (oK (nO AK (nO si (nD 5) nK) nK)) (QJ (qO (Ah (nD 3)) (tj (i:=4) (xH (nS (SR.kSc vB) (nS (SR.kSc (nO si (nD 6) (nO qV (nO si (nD 5) nK) (qL qU (nQ (nD 6) om))))) oi)))) pY)) (QD (y:=7) (nO si (nD 6) (nO qV (nO si (nD 5) nK) (qL qU (nQ (nD 6) om)))) (JK (nO xO (nO si (nD 5) nK) nK) nK (JK (nO ET (nO si (nD 5) nK) nK) nK (Vi (nP (oa (i:=8) (SR.kSc (vf (nD 1) (uD rA (nD 7))))) (qO (CY (Tv (nD 8) (nD 2))) (tj (i:=4) (xH (nS (SR.kSc vB) (nS (nY 7) oi)))) (nP (wJ (i:=2) (SR.kSc xU) (nD 8)) (nP (tj (i:=4) (xH (nS (SR.kSc vB) (nS (nY 7) oi)))) (tj (i:=3) (qN (nS (nY 8) (nS (SR.kSc (nO xO (Rc (T := "list") Ha (nO si (nD 0) (nD 8)) (nQ (uD rA (nD 7)) om)) nK)) (nS (SR.kSc (nO ET (qL qU (nQ (nO si (nD 0) (nD 8)) om)) nK)) oi))))))))))))))))) (pO (ye 4))))))) h⟩⟩
abbrev tN:Stmt:=top 24
theorem wZ:pE ["_law_things", "_law_opened", "_law_thing"] ["_law_things"] (nX tN):=by trivial
theorem EZ     (D:Bd K mg "_law_crossed" tN ["_law_things"] f fd) (B:Bt mg)     : Fn P w K mg base 1 "_law_crossed" tN ["_law_things"] (qr K K53.sm) f fd :=
 ⟨D,D.F.ok wZ (λ_ _ _ _=>qX) λsZ A outer s H vs Q E hr h=>⟨_,(nC (nT (i:=1) wZ.nd rfl (by trivial) (qE nF)) (nC (rP PassesOwn.never rfl (qY (pv 0)) (pW (i:=2) wZ.nd rfl (by trivial)) (nH (qi (PW.pt (EY (oP B8 (qc xA (pv 2) nJ (λ_ _=>rfl)) vp (oW _)) (Br (oP Kq (tT rz (qc xA (pv 2) nJ (λ_ _=>rfl))) (pv 1) rfl)))) (nC (qi (oP zS (qc oY (pv 1) (tT rz nJ) (λ_ _=>rfl)) (tT rz (qc xA (pv 2) nJ (λ_ _=>rfl))) (oW _)) (nH (pK (yc (nB (oy Cv (by rfl) B.abs fm (nB (qc xA (pv 2) nJ (λ_ _=>rfl)) nF)) (nB (oy Cv (by rfl) B.abs fm (nB (qc oY (pv 1) (tT rz nJ) (λ_ _=>rfl)) nF)) nF))))) pQ) (nH (pH (yW ak bF bG zg (pv 1))))) (nH (qi (oP B8 (qc xA (pv 2) nJ (λ_ _=>rfl)) vp (oW _)) (nH (pH (qZ ak ay az oM (pv 1) (nB (qc xA (pv 2) nJ (λ_ _=>rfl)) nF)))) pQ))))) (nH (pK vC)))),pS _ (K:=K) (nP (oa (i:=1) (qN oi)) (nP (vF (nY 0) (qO (Fp (oK (nO AK (nO yR (nD 2) nK) vB)) (oK (nO (OE false) (uD rA (nO yR (nD 2) nK)) (nD 1)))) (nP (qO (oK (nO zX (nO si (nD 1) (uD rA nK)) (uD rA (nO yR (nD 2) nK)))) (pO (xH (nS (SR.kSc (qL Hr (nQ (nO yR (nD 2) nK) om))) (nS (SR.kSc (qL Hr (nQ (nO si (nD 1) (uD rA nK)) om))) oi)))) pY) (Lm (yv (i:=1)))) (qO (oK (nO AK (nO yR (nD 2) nK) vB)) (tj (i:=1) (SR.kSc (nO yR (nD 2) nK))) pY))) (pO (SR.kSc vJ)))) h⟩⟩
abbrev zO:Stmt:=top 25
theorem CN:pE ["_law_lot", "_law_piece_here", "_law_found"] ["_law_lot"] (nX zO):=by trivial
theorem Ov  (D:Bd K mg "_law_due" zO ["_law_lot"] f fd) (B:Bt mg)   (Gh:Fn P w K mg base 1 "_law_crossed" tN ["_law_things"] (qr K K53.sm) fL_crossed fdL_crossed) (NF:Fn P w K mg base 2 "_law_walk" xC ["_law_piece_here"] (qr K K53.yh) fL_walk fdL_walk)  : Fn P w K mg base 3 "_law_due" zO ["_law_lot"] (qr K K53.yt) f fd :=
 ⟨D,D.F.ok CN (λ_ _ _ _=>qX) λsZ A outer s H vs Q E hr h=>⟨_,(nC (rP PassesOwn.never rfl (qY (pv 0)) (pW (i:=1) CN.nd rfl (by trivial)) (nC (nT (i:=2) CN.nd rfl (by trivial) (qw Gh (hr.mono (by decide)) (nB (qw NF (hr.mono (by decide)) (nB (pv 1) nF)) nF))) (nH (qi (oP Jv (pv 2) vC (oW _)) (nH (pK (pv 2))) pQ)))) (nH (pK vC))),pS _ (K:=K) (nP (vF (nY 0) (nP (oa (i:=2) (qg (nS (qg (nS (nY 1) oi)) oi))) (qO (oK (nO Jf (nD 2) vJ)) (pO (ye 2)) pY))) (pO (SR.kSc vJ))) h⟩⟩
abbrev vO:Stmt:=top 26
theorem Iq:pE ["_law_found"] ["_law_found"] (nX vO):=by trivial
theorem Ip     (D:Bd K mg "_law_whole" vO ["_law_found"] f fd) (B:Bt mg)     : Fn P w K mg base 1 "_law_whole" vO ["_law_found"] (qr K K51.uy) f fd :=
 ⟨D,D.F.ok Iq (λ_ _ _ _=>qX) λsZ A outer s H vs Q E hr h=>⟨_,(nH (pK (Ab (oy (sv.or Da B3) (by rfl) B.isi dB (nB (pv 0) (nB (EV (v:=.ty "int") (by rfl) B.int iT rfl) nF))) (EX (TL (oy (sv.or Da B3) (by rfl) B.isi dB (nB (pv 0) (nB (EV (v:=.ty "bool") (by rfl) B.bool iP rfl) nF)))))))),pS _ (K:=K) (pO (SR.kSc (AB (qL II (nQ (nD 0) (nQ NS om))) (Sl (qL II (nQ (nD 0) (nQ NS om))))))) h⟩⟩
abbrev yK:Stmt:=top 27
theorem xN:pE ["_law_script", "_law_lot", "_law_m", "_law_handed", "_law_found", "_law_due_here", "_law_refused"] ["_law_script"] (nX yK):=by trivial
theorem Up  {vz vA:Addr}  (D:Bd K mg "law" yK ["_law_script"] f fd) (B:Bt mg)  (pC:Lj K mg "NotOnePiece" vz vA)  (b_tuple:mg "tuple" = none) (Ir:Fn P w K mg base 3 "_law_pieces" uS ["_law_script", "_law_most", "_law_loose"] (qr K K54.qA) fL_pieces fdL_pieces) (Hm:Fn P w K mg base 1 "_law_joined" uO ["_law_lot"] (qr K K54.uW) fL_joined fdL_joined) (NV:Fn P w K mg base 1 "_law_copy" xp ["_law_turns"] (qr K K51.xw) fL_copy fdL_copy) (G_crossing:Fn P w K mg base 6 "crossing" uP ["m"] (qr K K54.rW) fcrossing fdcrossing) (OY:Fn P w K mg base 3 "_law_due" zO ["_law_lot"] (qr K K53.yt) fL_due fdL_due) (G_walk:Pa P w K mg base 5 "walk" Ai ["m"] (K8 K K51.uH) fwalk fdwalk) (Ej:Fn P w K mg base 1 "_law_whole" vO ["_law_found"] (qr K K51.uy) fL_whole fdL_whole) (sF:Fn P w K mg base 1 "_law_cell" uF ["_law_script", "_law_k"] (qr K Zl.oA) fL_cell fdL_cell)  : Fn P w K mg base 7 "law" yK ["_law_script"] (qr K K53.Eg) f fd :=
 ⟨D,D.F.ok xN (λ_ _ _ _=>qX) λsZ A outer s H vs Q E hr h=>have hu:=hr.units;⟨_,(nC (nT (i:=1) xN.nd rfl (by trivial) (qw Ir (hr.mono (by decide)) (nB (pv 0) (nB nJ (nB (ve DI (pD qT (qw sF (hr.mono (by decide)) (nB (pv 0) (nB nJ nF))) nJ) nJ (oW _)) nF))))) (nC (nT (i:=2) xN.nd rfl (by trivial) (qw Hm (hr.mono (by decide)) (nB (pv 1) nF))) (nC (nT (i:=3) xN.nd rfl (by trivial) (qw NV (hr.mono (by decide)) (nB (pv 2) nF))) (nC (nT (i:=4) xN.nd rfl (by trivial) (qw G_crossing (hr.mono (by decide)) (nB (pv 3) nF))) (nC (nT (i:=5) xN.nd rfl (by trivial) (qw OY (hr.mono (by decide)) (nB (pv 1) nF))) (nC (qi (PW.pt (Q8 (oP (T8 hu) (pv 3) (pv 2) (oW _)) (L0 (oP zS (ve HL (pv 4) vC (oW _)) (ve HL (pv 5) vC (oW _)) (oW _))))) (nH (pK xR)) pQ) (nC (nT (i:=6) xN.nd rfl (by trivial) xR) (nC (P6 G_walk (hr.mono (by decide)) (nB (pv 3) nF) (VY pC.xc pC.base pC.mgc (λ_=>(nH (nT (i:=6) xN.nd rfl (by trivial) xR))) TJ)) (nC (qi (oP zS (pv 6) (ve zS (oy pR (by rfl) B.len PySem.boot_len (nB (pv 1) nF)) nJ (oW _)) (oW _)) (nH (pK xR)) pQ) (nC (qi (oP HL (pv 4) vC (oW _)) (nH (pK xR)) pQ) (nC (qi (PW.pt (Q8 (T9 (NY (oy (sv.or Da B3) (by rfl) B.isi dB (nB (pv 4) (nB (EV (v:=.ty "tuple") (by rfl) b_tuple iN rfl) nF))))) (L0 (oP zS (oy pR (by rfl) B.len PySem.boot_len (nB (pv 4) nF)) nJ (oW _))))) (nH (pK xR)) pQ) (nH (pK (Ab (qw Ej (hr.mono (by decide)) (nB (qc (Pw.or oY xA) (pv 4) nJ (λ_ _=>rfl)) nF)) (Ab (qw Ej (hr.mono (by decide)) (nB (qc (Pw.or oY xA) (pv 4) nJ (λ_ _=>rfl)) nF)) (Ab (ve (Mf hu) (pv 4) (pv 5) (oW _)) (EX (ve (Mf hu) (qw G_crossing (hr.mono (by decide)) (nB (pv 3) nF)) (pv 5) (oW _))))))))))))))))))),pS _ (K:=K) (nP (oa (i:=1) (qg (nS (nY 0) (nS (SR.kSc nK) (nS (SR.kSc (nO DW (nO qV (uu (nQ (nD 0) (nQ nK om))) nK) nK)) oi))))) (nP (oa (i:=2) (qg (nS (nY 1) oi))) (nP (oa (i:=3) (qg (nS (nY 2) oi))) (nP (oa (i:=4) (qg (nS (nY 3) oi))) (nP (oa (i:=5) (qg (nS (nY 1) oi))) (nP (qO (Rk (oK (nO Us (nD 3) (nD 2))) (oK (nO zX (nO Ie (nD 4) vJ) (nO Ie (nD 5) vJ)))) (pO (SR.kSc xU)) pY) (nP (oa (i:=6) (SR.kSc xU)) (nP (PR (nS (nY 3) oi) (VA pC.c (oa (i:=6) (SR.kSc xU)) TK)) (nP (qO (oK (nO zX (nD 6) (nO zX (qL qU (nQ (nD 1) om)) nK))) (pO (SR.kSc xU)) pY) (nP (qO (oK (nO Ie (nD 4) vJ)) (pO (SR.kSc xU)) pY) (nP (qO (Rk (TZ (CY (qL II (nQ (nD 4) (nQ NS om))))) (oK (nO zX (qL qU (nQ (nD 4) om)) nK))) (pO (SR.kSc xU)) pY) (pO (SR.kSc (AB (uu (nQ (nO NM (nD 4) nK) om)) (AB (uu (nQ (nO NM (nD 4) nK) om)) (AB (nO Ma (nD 4) (nD 5)) (nO Ma (SK.rOf (qg (nS (nY 3) oi))) (nD 5)))))))))))))))))) h⟩⟩
end
end K53
namespace K51
open PySem L2 Mr Z Xe Zl
def rd(st sh a b k:Int):Int:=st*(1+(a*k+b) % 67)+sh
def rds(st sh a b:Int):List Int:=(bK 67).map λk:Nat=>rd st sh a b k
theorem Ct{st sh a b:Int}(h1:1<=a) (h2:a<=66):vG AL (kSc (oU yD (oU yQ (nI 2) (oU yD (rC (.int 1)) (oU sY (oU yD (oU yQ (nI 4) (nI 0)) (nI 3)) (rC (.int 67))))) (nI 1))) [some (.sh (.int sh)),some (.sh (.int st)),some (.sh (.int b)),some (.sh (.int a))] (qf 0 67)=some ((rds st sh a b).map λz=>.sh (.int z)):=by
 have key:=zG (te:=kSc (oU yD (oU yQ (nI 2) (oU yD (rC (.int 1)) (oU sY (oU yD (oU yQ (nI 4) (nI 0)) (nI 3)) (rC (.int 67))))) (nI 1))) (cap:=[some (.sh (.int sh)),some (.sh (.int st)),some (.sh (.int b)),some (.sh (.int a))])
  (λd=>match d with|.int k=>.sh (.int (rd st sh a b k))|_=>.sh .non) (ds:=qf 0 67) (by
  intro d hd;rw[Ba]at hd;obtain⟨k,_,rfl⟩:=mMq.mp hd;have b1:0<=(a*(k:Int)+b) % 67:=bA _ (by decide)
  have b2:(a*(k:Int)+b) % 67<67:=bx _ (by decide)
  have c1:=Q1 (i:=a) (j:=(k:Int)) (by lia) (by lia)
  have c2:=Rh (i:=st) (j:=1+(a*(k:Int)+b) % 67) (by lia) (by lia)
  have m67:=λi:Int=>sC (i:=i) (j:=67) (by decide)
  refine⟨[some (.sh (.int (k:Int))),some (.sh (.int sh)),some (.sh (.int st)),some (.sh (.int b)),some (.sh (.int a))],?_⟩
  simp_arith [c1,c2,m67,rd])
 rw[key,Ba,mPq];unfold rds;rw[mPq];rfl
theorem Lu(ns:List Int):∃st sh a b:Int,1<=st/\st<=10 ^ 57/\0<=sh/\sh<10 ^ 59/\1<=a/\a<=66/\0<=b/\b<67/\uz [.scr ns]=some (aI (rds st sh a b)):=by
 have a1:0<=cell ns 0 / 3 % 66:=bA _ (by decide)
 have a2:cell ns 0 / 3 % 66<66:=bx _ (by decide)
 have b1:0<=cell ns 0 / 198 % 67:=bA _ (by decide)
 have b2:cell ns 0 / 198 % 67<67:=bx _ (by decide)
 have s1:0<=cell ns 1 % 10 ^ 57:=bA _ (by decide)
 have s2:cell ns 1 % 10 ^ 57<10 ^ 57:=bx _ (by decide)
 have s3:0<=cell ns 2 % 10 ^ 59:=bA _ (by decide)
 have s4:cell ns 2 % 10 ^ 59<10 ^ 59:=bx _ (by decide)
 have m3:=λi:Int=>sC (i:=i) (j:=3) (by decide)
 have m66:=λi:Int=>sC (i:=i) (j:=66) (by decide)
 have m67:=λi:Int=>sC (i:=i) (j:=67) (by decide)
 have m57:=λi:Int=>sC (i:=i) (j:=10 ^ 57) (by decide)
 have m59:=λi:Int=>sC (i:=i) (j:=10 ^ 59) (by decide)
 have d3:=λi:Int=>CV (i:=i) (j:=3) (by decide) (by decide)
 have d198:=λi:Int=>CV (i:=i) (j:=198) (by decide) (by decide)
 have r67:El [.int 67]=some (qf 0 67):=EB (n:=67) (by decide)
 have l67:(qf 0 67).length<=qW:=by rw[rB];show 67<=16777216;decide
 by_cases h0:0<cell ns 0 % 3
 .refine ⟨1+cell ns 1 % 10 ^ 57,cell ns 2 % 10 ^ 59,1+cell ns 0 / 3 % 66,cell ns 0 / 198 % 67,by lia,by lia,s3,s4,by lia,by lia,b1,b2,?_⟩
  have rc:=Ct (st:=1+cell ns 1 % 10 ^ 57) (sh:=cell ns 2 % 10 ^ 59) (a:=1+cell ns 0 / 3 % 66) (b:=cell ns 0 / 198 % 67) (by lia) (by lia)
  simp_arith [uz,zc,Rl,U1,Vc,h0,m3,m66,m67,m57,m59,d3,d198,X8,Yg,r67,l67,rc]
 .refine ⟨1,0,1+cell ns 0 / 3 % 66,cell ns 0 / 198 % 67,by decide,by decide,by decide,by decide,by lia,by lia,b1,b2,?_⟩
  have rc:=Ct (st:=1) (sh:=0) (a:=1+cell ns 0 / 3 % 66) (b:=cell ns 0 / 198 % 67) (by lia) (by lia)
  simp_arith [uz,zc,Rl,h0,m3,m66,m67,d3,d198,r67,l67,rc]
theorem SE{st sh a b:Int}(h1:1<=st) (h2:1<=a) (h3:a<=66) {j k:Nat}(hj:j<67) (hk:k<67) (h:rd st sh a b j=rd st sh a b k):j=k:=by
 unfold rd at h;have e1:st*(1+(a*j+b) % 67)=st*(1+(a*k+b) % 67):=by lia
 have e2:=Int.eq_of_mul_eq_mul_left (by lia) e1
 have e3:((a*j+b)-(a*k+b)) % 67=0:=Int.emod_eq_emod_iff_emod_sub_eq_zero.mp (by lia)
 have e4:(a*((j:Int)-k)) % 67=0:=by
  rw[←e3];congr 1;rw[Int.mul_sub];lia
 obtain⟨tn,rfl⟩:∃tn:Nat,a=(tn:Int)+1:=⟨(a-1).toNat,by lia⟩
 rcases gY j k with q|q|q
 .exfalso;refine Mr.IU ⟨tn,by lia⟩ ⟨k-j,by lia⟩ (by show 0<k-j;lia) ?_
  show (tn+1)*(k-j) % 67=0;have e5:(((tn:Int)+1)*((k:Int)-j)) % 67=0:=by
   have:((tn:Int)+1)*((k:Int)-j) = -(((tn:Int)+1)*((j:Int)-k)):=by
    rw[←Int.mul_neg];congr 1;lia
   rw[this];lia
  have e6:(((tn+1)*(k-j) % 67:Nat):Int)=0:=by
   rw[←e5];push_cast [cJ q];rfl
  lia
 .exact q
 .exfalso;refine Mr.IU ⟨tn,by lia⟩ ⟨j-k,by lia⟩ (by show 0<j-k;lia) ?_
  show (tn+1)*(j-k) % 67=0;have e6:(((tn+1)*(j-k) % 67:Nat):Int)=0:=by
   rw[←e4];push_cast [cJ q];rfl
  lia
theorem QP(st sh a b:Int):(rds st sh a b).length=67:=by unfold rds;rw[lMq,cP]
theorem KC{st sh a b:Int}(h1:1<=st) (h2:1<=a) (h3:a<=66):(rds st sh a b).Nodup:=by
 unfold rds;rw[bu,bq];refine bj.imp_of_mem (λ{x y} hx hy hne e=>hne (SE h1 h2 h3 (dN.mp hx) (dN.mp hy) e)) (bu.mp fo)
theorem Qz{st sh a b:Int}(h1:1<=st) (h2:0<=sh) {z:Int}(h:z∈rds st sh a b):1<=z:=by
 obtain⟨k,_,rfl⟩:=mMq.mp h;have b1:0<=(a*(k:Int)+b) % 67:=bA _ (by decide)
 have:1*1<=st*(1+(a*(k:Int)+b) % 67):=Int.mul_le_mul h1 (by lia) (by decide) (by lia)
 show 1<=st*(1+(a*(k:Int)+b) % 67)+sh;lia
theorem Qk{rs:List (List Int)}(hl:rs.length<=500000):xw [dM rs]=some (.ow (rs.map aI)):=by
 have key:=zG (te:=C6 (vx 0)) (cap:=[]) (λd=>match d with|.list ds=>.ow (ds.map .sh)|_=>.sh .non) (ds:=rs.map dI) (by
  intro d hd;obtain⟨r,_,rfl⟩:=mMq.mp hd;refine⟨[some (.sh (dI r))],?_⟩
  simp_arith [dI])
 have h1:rs.length<=qW:=by show _<=16777216;lia
 have e:(rs.map dI).map (λd=>match d with|D.list ds=>AV.ow (ds.map .sh)|_=>.sh .non)=rs.map aI:=by
  rw[mPq];refine mCq λr _=>?_
  show AV.ow ((r.map D.int).map .sh)=aI r;rw[mPq];rfl
 rw[e]at key
 simp_arith [xw,D2,dM,key,h1]
def ur(x:String×Int):AV:=.sh (.tup [.str x.1,.int x.2])
def kd(ks:List Nat):List (oD×D):=ks.map λk:Nat=>((aO (k:Int):oD),D.bl true)
def wd(ws:List Nat):List AV:=ws.map λk:Nat=>AV.sh (.int (k:Int))
theorem Hh(ks:List Nat) (t:Nat):(kd ks).any (λkv=>decide (kv.1=(aO (t:Int):oD)))=decide (t∈ks):=by
 induction ks with
 |nil=>simp[kd]
 |cons k ks ih =>
  unfold kd at ih ⊢;rw[au,cO,ih]
  by_cases h:t=k
  .subst h;simp
  .have h':¬ (aO (k:Int):oD)=aO (t:Int):=λq=>h (by have:=aO.inj q;lia)
   simp[h',h]
theorem Iw(ks:List Nat) (t:Nat):(getD (kd ks) (aO (t:Int))).isSome=decide (t∈ks):=by
 unfold getD;rw[cm,←Hh,bW,eS,fk]
theorem L7{ks:List Nat}{t:Nat}(h:t∉ks):xj (kd ks) (aO (t:Int)) (.bl true)=kd (ks++[t]):=by
 unfold xj;rw[Hh,decide_eq_false h,oz (by simp)]
 simp[kd]
theorem Hi{kvs:List (oD×D)}{ks ws:List Nat}{e:Int}{t:Nat}{v0 v1 v5 v7:Option AV}(hg:getD kvs (aO (-e))=some (.int (t:Int))) (hk:ks.length<500000) (hw:ws.length<500000) :
  rK [v0,v1,some (.owd kvs),some (.owd (kd ks)),some (.ow (wd ws)),v5,some (.sh (.int e)),v7]=some (.nx [v0,v1,some (.owd kvs),some (.owd (kd (if t∈ks then ks else ks++[t]))),some (.ow (wd (if t∈ks then ws else ws++[t]))),v5,some (.sh (.int e)),some (.sh (.int (t:Int)))]):=by
 have l1:(kd ks).length<qW:=by unfold kd;rw[lMq];show _<16777216;lia
 have l2:(wd ws).length<qW:=by unfold wd;rw[lMq];show _<16777216;lia
 have hg2:=Iw ks t
 by_cases h:t∈ks
 .rw [decide_eq_true h]at hg2
  simp_arith [rK,hg,hg2,h]
 .rw [decide_eq_false h]at hg2;have hp:=L7 h;have hw2:wd ws++[.sh (.int (t:Int))]=wd (ws++[t]):=by simp[wd]
  simp_arith [rK,hg,hg2,h,hp,l1,l2,hw2]
def By(pl:Int->Nat) (x:List Nat×List Nat) (e:Int):List Nat×List Nat:=if pl (-e)∈x.1 then x else (x.1++[pl (-e)],x.2++[pl (-e)])
theorem JH(pl:Int->Nat):∀(r:List Int) (x:List Nat×List Nat),(r.foldl (By pl) x).1.length<=x.1.length+r.length/\(r.foldl (By pl) x).2.length<=x.2.length+r.length
 | [],x=>⟨ae _,ae _⟩
 |e::r,x=>by
  obtain⟨h1,h2⟩:=JH pl r (By pl x e);have h3:(By pl x e).1.length<=x.1.length+1/\(By pl x e).2.length<=x.2.length+1:=by
   unfold By;split
   .exact ⟨bO _,bO _⟩
   .simp
  rw[cz,lCq];lia
theorem Ka{kvs:List (oD×D)}{ks ws:List Nat}{r:List Int}{pl:Int->Nat}{v0 v1 v5 v6 v7:Option AV}(hg:∀e∈r,getD kvs (aO (-e))=some (.int (pl (-e):Int))) (hk:ks.length+r.length<500000) (hw:ws.length+r.length<500000) :
  ∃v6' v7',se 6 rK (r.map D.int) [v0,v1,some (.owd kvs),some (.owd (kd ks)),some (.ow (wd ws)),v5,v6,v7]=some (.nx [v0,v1,some (.owd kvs),some (.owd (kd (r.foldl (By pl) (ks,ws)).1)),some (.ow (wd (r.foldl (By pl) (ks,ws)).2)),v5,v6',v7']):=by
 have key:=AW (x:=6) (body:=rK) (λi S=>∃v6' v7',S=[v0,v1,some (.owd kvs),some (.owd (kd ((r.take i).foldl (By pl) (ks,ws)).1)),some (.ow (wd ((r.take i).foldl (By pl) (ks,ws)).2)),v5,v6',v7']) (ds:=r.map D.int) (S:=[v0,v1,some (.owd kvs),some (.owd (kd ks)),some (.ow (wd ws)),v5,v6,v7])
  ⟨v6,v7,rfl⟩ (by
  rintro i d S hd ⟨v6',v7',rfl⟩;rw[gMq]at hd;obtain⟨e,he,rfl⟩:=oMq.mp hd;have hi:i<r.length:=(gSq.mp he).1;have hm:e∈r:=mGq he;obtain⟨n1,n2⟩:=JH pl (r.take i) (ks,ws);rw[lTq]at n1 n2;have n1':((r.take i).foldl (By pl) (ks,ws)).1.length<=ks.length+min i r.length:=n1;have n2':((r.take i).foldl (By pl) (ks,ws)).2.length<=ws.length+min i r.length:=n2;have step:=Hi (v0:=v0) (v1:=v1) (v5:=v5) (v7:=v7') (hg e hm) (ks:=((r.take i).foldl (By pl) (ks,ws)).1) (ws:=((r.take i).foldl (By pl) (ks,ws)).2) (by lia) (by lia)
  have et:(r.take (i+1)).foldl (By pl) (ks,ws)=By pl ((r.take i).foldl (By pl) (ks,ws)) e:=by
   have:r[i]'hi=e:=by rw[gEg hi]at he;exact aT.inj he
   rw[eY hi,hW,this];rfl
  refine⟨_,step,some (.sh (.int e)),some (.sh (.int (pl (-e):Int))),?_⟩;rw[et];unfold By;split <;> rfl)
 obtain⟨S',e,v6',v7',rfl⟩:=key;rw[lMq,bC]at e;exact⟨v6',v7',e⟩
theorem Pf:∀(N:Nat) (l:List Nat),l.Nodup->(∀x∈l,x<N)->l.length<=N
 |0,l,_,h=>by
  cases l with
  |nil=>exact ae _
  |cons x l=>exact absurd (h x (ai ..)) (dh _)
 |N+1,l,hn,h=>by
  have h2:=Pf N (l.erase N) (hn.erase N) (λx hx=>by
   have:=(hn.mem_erase_iff).mp hx;have:=h x this.2;lia)
  rw[List.length_erase]at h2;split at h2 <;> lia
def plc(rs:List (List Int)) (e:Int):Nat:=rs.findIdx λr=>decide (e∈r)
theorem same_place{rs:List (List Int)}(hn:rs.flatten.Nodup) {i j:Nat}{r s:List Int}{e:Int}(hi:rs[i]?=some r) (hj:rs[j]?=some s) (h1:e∈r) (h2:e∈s):i=j:=by
 have a:=yq 0 hn hi h1;have b:=yq 0 hn hj h2;rw[a]at b;have:=D.int.inj (aT.inj b);lia
theorem plc_eq{rs:List (List Int)}(hn:rs.flatten.Nodup) {i:Nat}{r:List Int}{e:Int}(hi:rs[i]?=some r) (h1:e∈r):plc rs e=i:=by
 have hl:rs.findIdx (λr=>decide (e∈r))<rs.length:=eX ⟨r,mGq hi,decide_eq_true h1⟩
 have h2:=gO (xs:=rs) (p:=λr=>decide (e∈r)) (w:=hl)
 exact same_place hn (gEg hl) hi (of_decide_eq_true h2) h1
structure Mp (rs:List (List Int)):Prop where
 hn:rs.flatten.Nodup
 hl:rs.flatten.length<=1000
 hr:rs.length<=1000
 hneg:∀e∈rs.flatten, -e∈rs.flatten
theorem Mp.at{rs:List (List Int)}(h:Mp rs) {e:Int}(he:e∈rs.flatten):∃r,rs[plc rs e]?=some r/\e∈r:=by
 obtain⟨r,h1,h2⟩:=mFq.mp he;obtain⟨i,h3⟩:=aV.mp h1;exact⟨r,by rw[plc_eq h.hn h3 h2];exact h3,h2⟩
theorem Mp.other{rs:List (List Int)}(h:Mp rs) {k:Nat}{r:List Int}{e:Int}(hk:rs[k]?=some r) (he:e∈r):-e∈rs.flatten:=h.hneg e (mFq.mpr ⟨r,mGq hk,he⟩)
theorem Mp.kv{rs:List (List Int)}(h:Mp rs) {e:Int}(he:e∈rs.flatten):getD (pL 0 rs) (aO e)=some (.int (plc rs e:Int)):=by
 obtain⟨r,h1,h2⟩:=h.at he;have:=yq 0 h.hn h1 h2
 rwa [bU]at this
theorem Mp.lt{rs:List (List Int)}(h:Mp rs) {e:Int}(he:e∈rs.flatten):plc rs e<rs.length:=by
 obtain⟨r,h1,_⟩:=h.at he;exact(gSq.mp h1).1
theorem Mp.row{rs:List (List Int)}(h:Mp rs) {k:Nat}{r:List Int}(hk:rs[k]?=some r):r.length<=1000:=by
 have:=cK.length_le (aU (mGq hk));have:=h.hl;lia
inductive tW (rs:List (List Int)) (s:Nat):Nat->Prop
 |base:tW rs s s
 |step {k:Nat}{r:List Int}{e:Int}:tW rs s k->rs[k]?=some r->e∈r->tW rs s (plc rs (-e))
theorem C9(pl:Int->Nat):∀(r:List Int) (ks ws:List Nat),∃a,r.foldl (By pl) (ks,ws)=(ks++a,ws++a)/\(∀k∈a,∃e∈r,k=pl (-e))/\(∀e∈r,pl (-e)∈ks++a)/\(ks.Nodup->(ks++a).Nodup)
 | [],ks,ws=>⟨[],by simp,by simp,by simp,by simp⟩
 |e::r,ks,ws=>by
  rw[cz]
  by_cases h:pl (-e)∈ks
  .have e1:By pl (ks,ws) e=(ks,ws):=by unfold By;rw[oq h]
   rw[e1];obtain⟨a,h1,h2,h3,h4⟩:=C9 pl r ks ws;refine⟨a,h1,λk hk=>?_,λx hx=>?_,h4⟩
   .obtain ⟨x,hx,q⟩:=h2 k hk;exact⟨x,mCo _ hx,q⟩
   .rcases ah.mp hx with rfl|hx
    .exact mAq.mpr (.inl h)
    .exact h3 x hx
  .have e1:By pl (ks,ws) e=(ks++[pl (-e)],ws++[pl (-e)]):=by unfold By;rw[oz h]
   rw[e1];obtain⟨a,h1,h2,h3,h4⟩:=C9 pl r (ks++[pl (-e)]) (ws++[pl (-e)]);refine⟨pl (-e)::a,by rw[h1,ag,ag];rfl,λk hk=>?_,λx hx=>?_,λhn=>?_⟩
   .rcases ah.mp hk with rfl|hk
    .exact ⟨e,ai ..,rfl⟩
    .obtain ⟨x,hx,q⟩:=h2 k hk;exact⟨x,mCo _ hx,q⟩
   .rcases ah.mp hx with rfl|hx
    .exact mAq.mpr (.inr (ai ..))
    .have:=h3 x hx
     rwa [ag]at this
   .have:=h4 (by
     rw[nAq];exact⟨hn,by simp,λx hx y hy q=>h (by rw[mSq.mp hy]at q;rw[←q];exact hx)⟩)
    rwa [ag]at this
structure Inv (rs:List (List Int)) (s:Nat) (ks ws:List Nat):Prop where
 nd:ks.Nodup
 lt:∀k∈ks,k<rs.length
 st:s∈ks
 rc:∀k∈ks,tW rs s k
 sub:∀w∈ws,w∈ks
 cl:∀k∈ks,k∉ws->∀r e,rs[k]?=some r->e∈r->plc rs (-e)∈ks
 few:2*(rs.length-ks.length)+ws.length<=2*rs.length+1
theorem Inv.go{rs:List (List Int)}(hm:Mp rs) {s h:Nat}{ks ws:List Nat}{r:List Int}(hi:Inv rs s ks (ws++[h])) (hr:rs[h]?=some r):∃a,r.foldl (By (plc rs)) (ks,ws)=(ks++a,ws++a)/\Inv rs s (ks++a) (ws++a)/\2*(rs.length-(ks++a).length)+(ws++a).length<2*(rs.length-ks.length)+(ws++[h]).length:=by
 obtain⟨a,h1,h2,h3,h4⟩:=C9 (plc rs) r ks ws;have hh:h∈ks:=hi.sub h (by simp)
 have nd:=h4 hi.nd;have lt:∀k∈ks++a,k<rs.length:=by
  intro k hk;rcases mAq.mp hk with q|q
  .exact hi.lt k q
  .obtain ⟨e,he,rfl⟩:=h2 k q;exact hm.lt (hm.other hr he)
 have pl:=Pf _ _ nd lt;have p0:=hi.few;rw[lAq]at pl;rw[lAq,lSq]at p0;have key:2*(rs.length-(ks++a).length)+(ws++a).length<2*(rs.length-ks.length)+(ws++[h]).length:=by
  rw[lAq,lAq,lAq,lSq];lia
 refine⟨a,h1,⟨nd,lt,mAq.mpr (.inl hi.st),λk hk=>?_,λw hw=>?_,λk hk hw=>?_,?_⟩,key⟩
 .rcases mAq.mp hk with q|q
  .exact hi.rc k q
  .obtain ⟨e,he,rfl⟩:=h2 k q;exact .step (hi.rc h hh) hr he
 .rcases mAq.mp hw with q|q
  .exact mAq.mpr (.inl (hi.sub w (mAq.mpr (.inl q))))
  .exact mAq.mpr (.inr q)
 .intro r' e hr' he;have k1:k∈ks:=(mAq.mp hk).resolve_right λq=>hw (mAq.mpr (.inr q))
  by_cases q:k=h
  .subst q;rw[hr]at hr';cases hr';exact h3 e he
  .exact mAq.mpr (.inl (hi.cl k k1 (λz=>by
    rcases mAq.mp z with z|z
    .exact hw (mAq.mpr (.inl z))
    .exact q (mSq.mp z)) r' e hr' he))
 .rw [lAq,lAq]at key ⊢;rw[lAq,lSq]at key;lia
def mu(N:Nat):AS->Nat
 | [_,_,_,some (.owd kv),some (.ow w),_,_,_]=>2*(N-kv.length)+w.length
 |_=>0
theorem Hv{rs:List (List Int)}(hm:Mp rs) {s:Nat}(hs:s<rs.length):∃S',rp (tU (oU Lb (wg rL (nU (nI 4) oI)) (rC (.int 0)))) uq 100000 [some (.sh (dM rs)),some (.sh (.int (s:Int))),some (.owd (pL 0 rs)),some (.owd (kd [s])),some (.ow (wd [s])),none,none,none]=some (.nx S') /\
  ∃ks v5 v6 v7,S'=[some (.sh (dM rs)),some (.sh (.int (s:Int))),some (.owd (pL 0 rs)),some (.owd (kd ks)),some (.ow (wd [])),v5,v6,v7]/\Inv rs s ks []:=by
 have h1000:=hm.hr;refine xE (c:=tU (oU Lb (wg rL (nU (nI 4) oI)) (rC (.int 0)))) (body:=uq) (λS=>∃ks ws v5 v6 v7,S=[some (.sh (dM rs)),some (.sh (.int (s:Int))),some (.owd (pL 0 rs)),some (.owd (kd ks)),some (.ow (wd ws)),v5,v6,v7]/\Inv rs s ks ws) (mu rs.length) (λS'=>∃ks v5 v6 v7,S'=[some (.sh (dM rs)),some (.sh (.int (s:Int))),some (.owd (pL 0 rs)),some (.owd (kd ks)),some (.ow (wd [])),v5,v6,v7]/\Inv rs s ks []) ?_ 100000 _ ⟨[s],[s],none,none,none,rfl,?_⟩ ?_
 .rintro S ⟨ks,ws,v5,v6,v7,rfl,hi⟩;rcases dG ws with rfl|⟨ws,h,rfl⟩
  .refine ⟨false,_,?_,λq=>(nomatch q),λ_=>⟨ks,v5,v6,v7,rfl,hi⟩⟩
   simp_arith [wd]
   rfl
  .rw [dJ]at hi ⊢;have hlt:h<rs.length:=hi.lt h (hi.sub h (by simp))
   have hr:rs[h]?=some rs[h]:=gEg hlt;obtain⟨a,e1,hi2,mlt⟩:=hi.go hm hr;have few:=hi.few;have kl:=Pf _ _ hi.nd hi.lt;have rl:=hm.row hr;rw[lAq,lSq]at few;obtain⟨v6',v7',e2⟩:=Ka (kvs:=pL 0 rs) (ks:=ks) (ws:=ws) (r:=rs[h]) (pl:=plc rs) (v0:=some (.sh (dM rs))) (v1:=some (.sh (.int (s:Int)))) (v5:=some (.sh (.int (h:Int)))) (v6:=v6) (v7:=v7) (λe he=>hm.kv (hm.other hr he)) (by lia) (by lia)
   rw[e1]at e2;have hw:wd (ws++[h])=wd ws++[.sh (.int (h:Int))]:=by simp[wd]
   have wl:(wd ws).length=ws.length:=by simp[wd]
   have c1:(0:Int)<((wd ws++[AV.sh (.int (h:Int))]).length:Int):=by
    rw[lAq,lSq];lia
   have p1:(wd ws++[AV.sh (.int (h:Int))])[(wd ws++[AV.sh (.int (h:Int))]).length-1]?=some (.sh (.int (h:Int))):=by
    rw[lAq,lSq,gYq (by lia)]
    simp
   have p2:(wd ws++[AV.sh (.int (h:Int))]).dropLast=wd ws:=cg;have at1:atI (rs.map dI) (h:Int)=some (dI rs[h]):=uo (by rw[gMq,hr];rfl)
   refine⟨true,[some (.sh (dM rs)),some (.sh (.int (s:Int))),some (.owd (pL 0 rs)),some (.owd (kd ks)),some (.ow (wd ws++[.sh (.int (h:Int))])),v5,v6,v7],?_,λ_=>⟨[some (.sh (dM rs)),some (.sh (.int (s:Int))),some (.owd (pL 0 rs)),some (.owd (kd (ks++a))),some (.ow (wd (ws++a))),some (.sh (.int (h:Int))),v6',v7'],?_,⟨_,_,_,_,_,rfl,hi2⟩,?_⟩,λq=>(nomatch q)⟩
   .simp_arith [hw,c1]
   .simp_arith [uq,p1,p2,dM,at1,e2]
   .show 2*(rs.length-(kd (ks++a)).length)+(wd (ws++a)).length<2*(rs.length-(kd ks).length)+(wd (ws++[h])).length;unfold kd wd;rw[lMq,lMq,lMq,lMq];exact mlt
 .refine ⟨by simp,?_,by simp,?_,λw h=>h,?_,?_⟩
  .intro k hk;rw[mSq.mp hk];exact hs
  .intro k hk;rw[mSq.mp hk];exact .base
  .intro k hk hn;exact absurd hk hn
  .simp only [lSq];lia
 .show 2*(rs.length-(kd [s]).length)+(wd [s]).length<100000;simp only[kd,wd,lMq,lSq];lia
theorem ID{rs:List (List Int)}(hm:Mp rs) {s:Nat}(hs:s<rs.length):∃ks,Inv rs s ks []/\uB [dM rs,.int (s:Int)]=some (aI (vE (ks.map λk:Nat=>(k:Int)))):=by
 obtain⟨S',e,ks,v5,v6,v7,rfl,hi⟩:=Hv hm hs;have hl:=hm.hl;have pa:=wx hm.hn (by lia)
 have e1:[((aO (s:Int):oD),D.bl true)]=kd [s]:=rfl;have e2:[AV.sh (.int (s:Int))]=wd [s]:=rfl;have e3:yO (kd ks)=some (ks.map λk:Nat=>(k:Int)):=DR (λk:Nat=>(k:Int)) (λ_=>D.bl true) ks
 have l1:(wd [s]).length<=qW:=by show 1<=16777216;decide
 refine⟨ks,hi,?_⟩
 simp_arith [uB,CJ,pa,e1,e2,e,e3,l1]
theorem Qa(ks:List Nat):∃ps:List Nat,ps.Perm ks/\ps.Pairwise (·<=·)/\vE (ks.map λk:Nat=>(k:Int))=ps.map λk:Nat=>(k:Int):=by
 have hp:=Ad (ks.map λk:Nat=>(k:Int))
 have hs:=AY (ks.map λk:Nat=>(k:Int))
 have hc:(vE (ks.map λk:Nat=>(k:Int)))=((vE (ks.map λk:Nat=>(k:Int))).map gH).map λk:Nat=>(k:Int):=by
  rw[mPq]
  conv=>lhs;rw[←fg (vE (ks.map λk:Nat=>(k:Int)))]
  refine mCq λz hz=>?_
  obtain⟨k,_,rfl⟩:=mMq.mp (hp.mem_iff.mp hz);rfl
 refine⟨(vE (ks.map λk:Nat=>(k:Int))).map gH,?_,?_,hc⟩
 .have:=hp.map gH;rw[mPq]at this;have e:ks.map (gH∘λk:Nat=>(k:Int))=ks:=by
   conv=>rhs;rw[←fg ks]
   refine mCq λk _=>?_
   show gH (k:Int)=k;exact cM k
  rwa [e]at this
 .rw [bq];refine bj.imp (λh=>?_) hs
  lia
structure Pc (rs:List (List Int)) (s:Nat) (ps:List Nat):Prop where
 nd:ps.Nodup
 so:ps.Pairwise (·<=·)
 lt:∀k∈ps,k<rs.length
 iff:∀k,k∈ps↔tW rs s k
theorem B7{rs:List (List Int)}(hm:Mp rs) {s:Nat}(hs:s<rs.length):∃ps,Pc rs s ps/\uB [dM rs,.int (s:Int)]=some (aI (ps.map λk:Nat=>(k:Int))):=by
 obtain⟨ks,hi,e⟩:=ID hm hs;obtain⟨ps,h1,h2,h3⟩:=Qa ks;rw[h3]at e;refine⟨ps,⟨h1.symm.nodup hi.nd,h2,λk hk=>hi.lt k (h1.mem_iff.mp hk),λk=>⟨λhk=>hi.rc k (h1.mem_iff.mp hk),λhk=>h1.mem_iff.mpr ?_⟩⟩,e⟩
 induction hk with
 |base=>exact hi.st
 |step _ a b c=>exact hi.cl _ c (cU) _ _ a b
def uX(kn:List Nat) (t:Nat):List Nat:=if t∈kn then kn else kn++[t]
theorem Pd(ks:List Nat) (t:Nat):xj (kd ks) (aO (t:Int)) (.bl true)=kd (uX ks t):=by
 unfold uX
 by_cases h:t∈ks
 .rw [oq h];unfold xj;rw[Hh,decide_eq_true h,oq rfl];unfold kd;rw[mPq];refine mCq λk _=>?_
  show (if _ then _ else _)=_
  split <;> rfl
 .rw [oz h];exact L7 h
theorem Np(kn:List Nat) (t:Nat):(uX kn t).length<=kn.length+1:=by
 unfold uX;split
 .lia
 .simp
theorem GM:∀(ps kn:List Nat),(ps.foldl uX kn).length<=kn.length+ps.length
 | [],kn=>ae _
 |p::ps,kn=>by
  have h1:=GM ps (uX kn p);have h2:=Np kn p;rw[cz,lCq];lia
theorem Ml{kn:List Nat}{t k:Nat}:k∈uX kn t↔k∈kn∨k=t:=by
 unfold uX;split
 .rename_i h;exact⟨.inl,λq=>q.elim id λq=>q ▸ h⟩
 .simp
theorem qI:∀{ps kn:List Nat}{k:Nat},k∈ps.foldl uX kn↔k∈kn∨k∈ps
 | [],kn,k=>by simp
 |p::ps,kn,k=>by
  rw[cz,qI,Ml,ah,or_assoc]
theorem Qu{kn:List Nat}{t:Nat}(h:kn.Nodup):(uX kn t).Nodup:=by
 unfold uX;split
 .exact h
 .rename_i q;rw[nAq];exact⟨h,by simp,λx hx y hy z=>q (by rw[mSq.mp hy]at z;rw[←z];exact hx)⟩
theorem EN:∀{ps kn:List Nat},kn.Nodup->(ps.foldl uX kn).Nodup
 | [],kn,h=>h
 |p::ps,kn,h=>by
  rw[cz];exact EN (Qu h)
theorem DZ{ps kn:List Nat}{v0 v2 v3 v4 v5:Option AV}(hk:kn.length+ps.length<500000):∃v5',se 5 vd ((ps.map λk:Nat=>(k:Int)).map D.int) [v0,some (.owd (kd kn)),v2,v3,v4,v5]=some (.nx [v0,some (.owd (kd (ps.foldl uX kn))),v2,v3,v4,v5']):=by
 have key:=AW (x:=5) (body:=vd) (λi S=>∃v5',S=[v0,some (.owd (kd ((ps.take i).foldl uX kn))),v2,v3,v4,v5']) (ds:=(ps.map λk:Nat=>(k:Int)).map D.int) (S:=[v0,some (.owd (kd kn)),v2,v3,v4,v5]) ⟨v5,rfl⟩ (by
  rintro i d S hd ⟨v5',rfl⟩;rw[gMq,gMq]at hd;obtain⟨z,hz,rfl⟩:=oMq.mp hd;obtain⟨k,hk',rfl⟩:=oMq.mp hz;have hi:i<ps.length:=(gSq.mp hk').1;have n1:=GM (ps.take i) kn;rw[lTq]at n1;have l1:(kd ((ps.take i).foldl uX kn)).length<qW:=by unfold kd;rw[lMq];show _<16777216;lia
  have et:(ps.take (i+1)).foldl uX kn=uX ((ps.take i).foldl uX kn) k:=by
   have:ps[i]'hi=k:=by rw[gEg hi]at hk';exact aT.inj hk'
   rw[eY hi,hW,this];rfl
  have hp:=Pd ((ps.take i).foldl uX kn) k;rw[←et]at hp;refine⟨_,?_,some (.sh (.int (k:Int))),rfl⟩
  simp_arith [vd,l1,hp])
 obtain⟨S',e,v5',rfl⟩:=key;rw[lMq,lMq,bC]at e;exact⟨v5',e⟩
theorem Cw{rs:List (List Int)}{ps:List Nat}(h:∀k∈ps,k<rs.length):vG AL (C6 (lOf (UC (vx 1) (nI 0)))) [some (.sh (dM rs))] ((ps.map λk:Nat=>(k:Int)).map D.int)=some (ps.map λk=>aI (rs.getD k [])):=by
 have key:=zG (te:=C6 (lOf (UC (vx 1) (nI 0)))) (cap:=[some (.sh (dM rs))]) (λd=>match d with|.int k=>aI (rs.getD k.toNat [])|_=>.sh .non) (ds:=(ps.map λk:Nat=>(k:Int)).map D.int) (by
  intro d hd;rw[mPq]at hd;obtain⟨k,hk,rfl⟩:=mMq.mp hd;have at1:=Wc (h k hk);refine⟨[some (.sh (.int (k:Int))),some (.sh (dM rs))],?_⟩
  simp_arith [dM,at1,Function.comp,cM,dI,aI,mPq]
  rfl)
 rw[key,mPq,mPq];rfl
def pA(rs:List (List Int)) (ps:List Nat):AV:=.ow (ps.map λk=>aI (rs.getD k []))
theorem tW.trans{rs:List (List Int)}{a b c:Nat}(h:tW rs a b) (h2:tW rs b c):tW rs a c:=by
 induction h2 with
 |base=>exact h
 |step _ p q r=>exact .step r p q
theorem tW.symm{rs:List (List Int)}(hm:Mp rs) {a b:Nat}(h:tW rs a b):tW rs b a:=by
 induction h with
 |base=>exact .base
 | @step k r e _ p q ih =>
  obtain⟨r',h1,h2⟩:=hm.at (hm.other p q);have:=tW.step (s:=plc rs (-e)) .base h1 h2;rw[fq,plc_eq hm.hn p q]at this;exact this.trans ih
structure Ps (rs:List (List Int)) (i:Nat) (kn:List Nat) (PS:List (List Nat)):Prop where
 sub:∀ps∈PS,∀k∈ps,k∈kn
 dj:PS.Pairwise λa b=>∀k∈a,k∉b
 pc:∀ps∈PS,∃s,s<rs.length/\Pc rs s ps
 all:∀k,k<i->k∈kn
 mem:∀k,k∈kn->∃ps∈PS,k∈ps
 nd:kn.Nodup
 lt:∀k∈kn,k<rs.length
 len:PS.length<=i
theorem pieces_ok{rs:List (List Int)}(hm:Mp rs):∃kn PS,Ps rs rs.length kn PS/\qP [dM rs]=some (.ow (PS.map (pA rs))):=by
 have h1000:=hm.hr;have key:=AW (x:=3) (body:=rF) (λi S=>∃kn PS v3 v4 v5,S=[some (.sh (dM rs)),some (.owd (kd kn)),some (.ow (PS.map (pA rs))),v3,v4,v5]/\Ps rs i kn PS) (ds:=qf 0 rs.length) (S:=[some (.sh (dM rs)),some (.owd []),some (.ow []),none,none,none])
  ⟨[],[],none,none,none,rfl,⟨by simp,by simp,by simp,by simp,by simp,by simp,by simp,by simp⟩⟩ (by
  rintro i d S hd ⟨kn,PS,v3,v4,v5,rfl,hp⟩;have hi:i<rs.length:=by
   have:=(gSq.mp hd).1
   rwa [rB]at this
  rw[zb hi,gV]at hd;cases hd;have hg:=Iw kn i
  by_cases c:i∈kn
  .rw [decide_eq_true c]at hg;refine⟨[some (.sh (dM rs)),some (.owd (kd kn)),some (.ow (PS.map (pA rs))),some (.sh (.int (i:Int))),v4,v5],?_,kn,PS,_,_,_,rfl,hp.sub,hp.dj,hp.pc,?_,hp.mem,hp.nd,hp.lt,?_⟩
   .simp_arith [rF,hg]
   .intro k hk;rcases cS.mp hk with q|rfl
    .exact hp.all k q
    .exact c
   .have:=hp.len;lia
  .rw [decide_eq_false c]at hg;obtain⟨ps,h1,e1⟩:=B7 hm hi;have p1:=Pf _ _ hp.nd hp.lt;have p2:=Pf _ _ h1.nd h1.lt;have p3:=hp.len;have l2:ps.length<=qW:=by show _<=16777216;lia
   have l3:PS.length<qW:=by show _<16777216;lia
   obtain⟨v5',e2⟩:=DZ (ps:=ps) (kn:=kn) (v0:=some (.sh (dM rs))) (v2:=some (.ow (PS.map (pA rs)))) (v3:=some (.sh (.int (i:Int)))) (v4:=some (.sh (dI (ps.map λk:Nat=>(k:Int))))) (v5:=v5) (by lia)
   have e3:=Cw h1.lt;refine⟨[some (.sh (dM rs)),some (.owd (kd (ps.foldl uX kn))),some (.ow ((PS++[ps]).map (pA rs))),some (.sh (.int (i:Int))),some (.sh (dI (ps.map λk:Nat=>(k:Int)))),v5'],?_,ps.foldl uX kn,PS++[ps],_,_,_,rfl,?_,?_,?_,?_,?_,EN hp.nd,?_,?_⟩
   .simp_arith [rF,hg,e1,e2,e3,l2,l3,mBq,pA]
   .intro qs hq k hk;rcases mAq.mp hq with q|q
    .exact qI.mpr (.inl (hp.sub qs q k hk))
    .rw [mSq.mp q]at hk;exact qI.mpr (.inr hk)
   .rw [aJ];refine⟨hp.dj,eJ ..,λqs hq b hb k hk hk2=>c ?_⟩
    rw[mSq.mp hb]at hk2;obtain⟨s,hs,hc⟩:=hp.pc qs hq;exact hp.sub qs hq i ((hc.iff i).mpr (((hc.iff k).mp hk).trans (((h1.iff k).mp hk2).symm hm)))
   .intro qs hq;rcases mAq.mp hq with q|q
    .exact hp.pc qs q
    .rw [mSq.mp q];exact⟨i,hi,h1⟩
   .intro k hk;rcases cS.mp hk with q|rfl
    .exact qI.mpr (.inl (hp.all k q))
    .exact qI.mpr (.inr ((h1.iff k).mpr .base))
   .intro k hk;rcases qI.mp hk with q|q
    .obtain ⟨qs,a,b⟩:=hp.mem k q;exact⟨qs,mAq.mpr (.inl a),b⟩
    .exact ⟨ps,mAq.mpr (.inr (mSq.mpr rfl)),q⟩
   .intro k hk;rcases qI.mp hk with q|q
    .exact hp.lt k q
    .exact h1.lt k q
   .rw [lAq,lSq];lia)
 obtain⟨S',e,kn,PS,v3,v4,v5,rfl,hp⟩:=key;rw[rB]at hp;have r1:=EB (n:=rs.length) (by lia)
 refine⟨kn,PS,hp,?_⟩
 simp_arith [qP,Ae,dM,r1,e]
def rot(r:List Int):List Int:=r.drop 1++r.take 1
def rH(r:List Int):List (oD×Int):=(r.zip (rot r)).map λp=>(.inl p.1,p.2)
def rO(rs:List (List Int)):List (oD×Int):=(rs.map rH).flatten
def Fb(ps:List (oD×Int)):List (oD×D):=ps.map λp=>(p.1,D.int p.2)
theorem BH(r:List Int):(rot r).length=r.length:=by
 unfold rot;rw[lAq,aG,lTq];lia
theorem AN(r:List Int):(rH r).length=r.length:=by
 unfold rH;rw[lMq,List.length_zip,BH,Nat.min_self]
theorem zD(r:List Int):(rH r).map (·.1)=r.map aO:=by
 unfold rH;rw[mPq];have:r.map aO=((r.zip (rot r)).map Prod.fst).map (aO:Int->oD):=by rw[List.map_fst_zip (by rw[BH];exact ae _)]
 rw[this,mPq];rfl
theorem uL:∀(rs:List (List Int)),(rO rs).map (·.1)=rs.flatten.map aO
 | []=>rfl
 |r::rs=>by
  show (rH r++rO rs).map (·.1)=_;rw[mBq,zD,uL rs,fCq,mBq]
theorem DX(rs:List (List Int)):(rO rs).length=rs.flatten.length:=by
 have:=congrArg bo (uL rs)
 rwa [lMq,lMq]at this
theorem IG(rs:List (List Int)) (r:List Int):rO (rs++[r])=rO rs++rH r:=by
 unfold rO;rw[mBq,fAq];simp
theorem IV(ps:List (oD×Int)):(Fb ps).length=ps.length:=lMq _
theorem Px(a b:List (oD×Int)):Fb (a++b)=Fb a++Fb b:=mBq
theorem LA(ps:List (oD×Int)):(Fb ps).map (·.1)=ps.map (·.1):=by
 unfold Fb;rw[mPq];rfl
theorem C0{r:List Int}{j:Nat}{z y:Int}(h:r[j]?=some z) (h2:(rot r)[j]?=some y):(rH r)[j]?=some (.inl z,y):=by
 unfold rH;rw[gMq,gf (z:=(z,y)).mpr ⟨h,h2⟩];rfl
theorem LO{rs:List (List Int)}{i j:Nat}{r:List Int}{z y:Int}(hn:rs.flatten.Nodup) (hr:rs[i]?=some r) (hz:r[j]?=some z) (hy:(rot r)[j]?=some y) :
  xj (Fb (rO (rs.take i)++(rH r).take j)) (.inl z) (.int y)=Fb (rO (rs.take i)++(rH r).take (j+1)):=by
 have hfl:=rg hr;have hnd:((rs.take i).flatten++r).Nodup:=by
  rw[←hfl];have e0:rs.flatten=(rs.take (i+1)).flatten++(rs.drop (i+1)).flatten:=by rw[←fAq,aX]
  rw[e0]at hn;exact(nAq.mp hn).1
 rw[Gj]
 .rw [tE (C0 hz hy),←ag,Px (_++_) [_]];rfl
 .rw [LA,mBq,uL,gR,zD,←gR];intro m;rcases mAq.mp m with m|m
  .obtain ⟨x,hx,e2⟩:=mMq.mp m;cases e2;exact(nAq.mp hnd).2.2 _ hx _ (mGq hz) rfl
  .obtain ⟨x,hx,e2⟩:=mMq.mp m;cases e2;have:=bj.sublist (bE (j+1) r) (nAq.mp hnd).2.1;rw[tE hz]at this;exact(nAq.mp this).2.2 _ hx _ (by simp) rfl
theorem K5{rs:List (List Int)}{i j:Nat}{r:List Int}(hl:rs.flatten.length<=1000) (hr:rs[i]?=some r):(Fb (rO (rs.take i)++(rH r).take j)).length<qW:=by
 refine NO ?_;have h1:=tX rs (i+1);rw[rg hr,lAq]at h1;rw[IV,lAq,DX,lTq,AN];lia
theorem Xy(r:List Int):wL (r.map D.int) (some 1) none=(r.drop 1).map D.int:=by
 rw[sG];cases r with
 |nil=>rfl
 |cons x r=>rw[show (some 1:Option Int)=some ((1:Nat):Int) from rfl,Ay _ _ (by simp)]
theorem W3(r:List Int):wL (r.map D.int) none (some 1)=(r.take 1).map D.int:=by
 rw[sG];cases r with
 |nil=>rfl
 |cons x r=>rw[show (some 1:Option Int)=some ((1:Nat):Int) from rfl,BE _ _ (by simp)]
theorem Nw{rs:List (List Int)}(hn:rs.flatten.Nodup) (hl:rs.flatten.length<=1000):zB [dM rs]=some (.owd (Fb (rO rs))):=by
 have key:=AW (x:=2) (body:=yV) (λi S=>∃v2 v3 v4,S=[some (.sh (dM rs)),some (.owd (Fb (rO (rs.take i)))),v2,v3,v4]) (ds:=rs.map dI) (S:=[some (.sh (dM rs)),some (.owd []),none,none,none]) ⟨none,none,none,rfl⟩ (by
  rintro i d S hd ⟨v2,v3,v4,rfl⟩;obtain⟨r,hr,rfl⟩:=Jp hd;have hrl:r.length<=1000:=by
   have h1:=tX rs (i+1);rw[rg hr,lAq]at h1;lia
  have hlen:(r.map D.int).length=((rot r).map D.int).length:=by rw[lMq,lMq,BH]
  have k2:=RB (x:=3) (y:=4) (k:=0) (body:=ze) (λj S=>∃v3 v4,S=[some (.sh (dM rs)),some (.owd (Fb (rO (rs.take i)++(rH r).take j))),some (.sh (dI r)),v3,v4]) (ds:=r.map D.int) (es:=(rot r).map D.int) (S:=[some (.sh (dM rs)),some (.owd (Fb (rO (rs.take i)))),some (.sh (dI r)),v3,v4]) hlen ⟨v3,v4,by simp⟩ (by
   rintro j d e S hd he ⟨v3,v4,rfl⟩;obtain⟨z,hz,rfl⟩:=EK hd;obtain⟨y,hy,rfl⟩:=EK he;rw[bU]at *;have h3:=K5 (j:=j) hl hr;have hput:=LO hn hr hz hy;refine⟨_,?_,some (.sh (.int z)),some (.sh (.int y)),rfl⟩
   simp_arith [ze,h3,hput])
  obtain⟨S2,e2,w3,w4,rfl⟩:=k2;rw[bU,lMq,←AN,bC]at e2;refine⟨_,?_,some (.sh (dI r)),w3,w4,rfl⟩;rw[tE hr,IG];have hll:(r.drop 1).length+(r.take 1).length<=qW:=OB (by rw[aG,lTq];lia)
  have hrot:(r.drop 1).map D.int++(r.take 1).map D.int=(rot r).map D.int:=by unfold rot;rw[mBq]
  have hlen2:r.length=(rot r).length:=(BH r).symm
  simp_arith [yV,Xy,W3,hll,hrot,hlen2,e2])
 obtain⟨S',e,v2,v3,v4,rfl⟩:=key;rw[lMq,bC]at e
 simp_arith [zB,GI,e]
theorem Ku{rs:List (List Int)}{kn:List Nat}{PS:List (List Nat)}(hp:Ps rs rs.length kn PS) (h0:0<rs.length) (hc:∀s k,s<rs.length->k<rs.length->tW rs s k):PS.length=1:=by
 obtain⟨a,ha,_⟩:=hp.mem 0 (hp.all 0 h0);cases PS with
 |nil=>cases ha
 |cons x PS =>
  cases PS with
  |nil=>rfl
  |cons y PS =>
   exfalso;obtain⟨s,hs,p1⟩:=hp.pc x (by simp)
   obtain⟨t,ht,p2⟩:=hp.pc y (by simp)
   have h1:=(eA.mp hp.dj).1 y (by simp) s ((p1.iff s).mpr .base)
   exact h1 ((p2.iff s).mpr (hc t s ht hs))
theorem Kj{rs:List (List Int)}(hm:Mp rs):∃kn PS,Ps rs rs.length kn PS/\oB [dM rs]=if PS.length=1 then some (.ok (.sh .non)) else some (.ex "NotOnePiece" []):=by
 obtain⟨kn,PS,hp,e⟩:=pieces_ok hm;refine⟨kn,PS,hp,?_⟩
 by_cases h:PS.length=1
 .have h':((PS.length:Nat):Int)=1:=by lia
  rw[oq h]
  simp_arith [oB,qa,e,h']
 .have h':¬ ((PS.length:Nat):Int)=1:=by lia
  simp_arith [oB,qa,e,h',h]
end K51
namespace K15
open PySem L2 Mr Z Xe Zl
theorem B0{ps:List (oD×Int)}{k:oD}{n:Int}(hn:(ps.map (·.1)).Nodup) (h:(k,n)∈ps):Z.getD (K51.Fb ps) k=some (.int n):=by
 induction ps with
 |nil=>cases h
 |cons p ps ih =>
  rw[au,ax]at hn;unfold Z.getD;show (((p.1,D.int p.2)::K51.Fb ps).find? _).map _=_;rcases ah.mp h with e|e
  .rw [←e,dr (by simp)]
   rfl
  .rw [cF (by
    intro z;have z':p.1=k:=by simpa using z
    exact hn.1 (by rw[z'];exact mMq.mpr ⟨_,e,rfl⟩))]
   exact ih hn.2 e
def nx(rs:List (List Int)) (e:Int):Int:=match Z.getD (K51.Fb (K51.rO rs)) (.inl e) with
 |some (.int n)=>n
 |_=>0
def fw(rs:List (List Int)) (e:Int):Int:=nx rs (-e)
section
variable {rs:List (List Int)}
theorem Fq(hn:rs.flatten.Nodup):((K51.rO rs).map (·.1)).Nodup:=by
 rw[K51.uL,bu,bq];exact bj.imp (λh e=>h (aO.inj e)) (bu.mp hn)
theorem Pi(hn:rs.flatten.Nodup) {e:Int}(he:e∈rs.flatten):(aO e,nx rs e)∈K51.rO rs:=by
 have hk:(aO e:oD)∈(K51.rO rs).map (·.1):=by rw[K51.uL];exact mMq.mpr ⟨e,he,rfl⟩
 obtain⟨⟨k,n⟩,hp,rfl⟩:=mMq.mp hk;have:=B0 (Fq hn) hp;unfold nx;rw[this];exact hp
theorem CG(hn:rs.flatten.Nodup) {e:Int}(he:e∈rs.flatten):Z.getD (K51.Fb (K51.rO rs)) (.inl e)=some (.int (nx rs e)):=B0 (Fq hn) (Pi hn he)
end
def kI(ks:List Int):List (oD×D):=ks.map λk=>((aO k:oD),D.bl true)
theorem Mi(ks:List Int) (t:Int):(kI ks).any (λkv=>decide (kv.1=(aO t:oD)))=decide (t∈ks):=by
 induction ks with
 |nil=>simp[kI]
 |cons k ks ih =>
  unfold kI at ih ⊢;rw[au,cO,ih]
  by_cases h:t=k
  .subst h;simp
  .have h':¬ (aO k:oD)=aO t:=λq=>h (aO.inj q).symm
   simp[h',h]
theorem EO(ks:List Int) (t:Int):(Z.getD (kI ks) (aO t)).isSome=decide (t∈ks):=by
 unfold Z.getD;rw[cm,←Mi,bW,eS,fk]
theorem Ex{ks:List Int}{t:Int}(h:t∉ks):xj (kI ks) (aO t) (.bl true)=kI (ks++[t]):=by
 unfold xj;rw[Mi,decide_eq_false h,oz (by simp)]
 simp[kI]
theorem EG(ks:List Int):(kI ks).length=ks.length:=by unfold kI;rw[lMq]
section
variable {rs:List (List Int)}
structure Rd (f:Int->Int) (E:List Int) (kn:List Int) (L:List (List Int)):Prop where
 cy:∀l∈L,∃e,Cy f e l
 fl:L.flatten=kn
 nd:kn.Nodup
 sub:∀x∈kn,x∈E
 cl:∀x∈kn,f x∈kn
def Y0(rs:List (List Int)):List (List Int):=(rs.filter λr=>decide (r=[])).map λ_=>[]
end
section
variable {rs:List (List Int)}
theorem S0{r:List Int}{j:Nat}(hj:j<r.length):(K51.rot r)[j]?=r[(j+1) % r.length]?:=by
 unfold K51.rot
 by_cases h:j+1<r.length
 .rw [dU h,gZq (by rw[aG];lia),cH,gW]
 .have e:j+1=r.length:=by lia
  rw[e,iO,gYq (by rw[aG];lia),aG,bD (by lia)]
  congr 1;lia
end
end K15
namespace K12
open PySem L2 Mr Z Xe Zl
abbrev aP(part:List (List Int)):AV:=.ow (part.map aI)
theorem N0(n:Nat):AO (n+1) (-1)=some n:=by
 unfold AO;rw[oz (by decide),oq (by lia)]
 congr 1;lia
theorem Ll{α β:Type}(f:α->β) (l:List α) (i:Nat) (a:α):(l.map f).set i (f a)=(l.set i a).map f:=by rw[List.map_set]
structure Wd where
 P0:List (List (List Int))
 last:List (List Int)
 t0:List Nat
 h:Nat
 left:List Int
 used:Nat
abbrev cN(ks:List Nat):List Int:=ks.map λn:Nat=>(n:Int)
def st(v0 v1:Option AV) (w:Wd) (v6 v7 v8 v9:Option AV):AS:=[v0,v1,some (.ow ((w.P0++[w.last]).map aP)),some (aI (cN (w.t0++[w.h]))),some (aI w.left),some (.sh (.int (w.used:Int))),v6,v7,v8,v9]
section
variable {nm:List Int}{P0:List (List (List Int))}{last:List (List Int)}{t0:List Nat}{hd:Nat}{left r:List Int}{used:Nat}{c e:Int}{v0 v1 v8:Option AV}
theorem C3(r:List Int) (e:Int):(r.map λn=>AV.sh (.int n))++[.sh (.int e)]=(r++[e]).map λn=>.sh (.int n):=by rw[mBq];rfl
theorem JM(l:List (List Int)) (e:Int):l.map aI++[.ow [.sh (.int e)]]=(l++[[e]]).map aI:=by rw[mBq];rfl
theorem Oe(ks:List Nat) (n:Nat):(cN ks).map (λn=>AV.sh (.int n))++[.sh (.int (n:Int))]=(cN (ks++[n])).map λn=>.sh (.int n):=by unfold cN;rw[mBq,mBq];rfl
theorem Fk{α β:Type}(f:α->β):∀(l:List α) (i:Nat),(l.map f).eraseIdx i=(l.eraseIdx i).map f
 | [],i=>rfl
 |x::l,0=>rfl
 |x::l,i+1=>by rw[au,cB,cB,Fk f l i,au]
end
def UL(nm:List Int) (k:Nat):List Int:=(nm.take k).flatMap λx=>[x, -x]
theorem uk{x r:List Int}(a:Int):∀{l:List (List Int)}{h:Nat},l[h]?=some r->(l.set h (r++x)).flatten.count a=l.flatten.count a+x.count a
 | [],_,h=>by simp at h
 |s::l,0,h=>by
  cases h;rw[df,fCq,fCq,cAq,cAq,cAq];lia
 |s::l,h+1,e=>by
  rw[eD,fCq,fCq,cAq,cAq,uk a (by simpa using e)]
  lia
theorem Af(a:Int):∀{l:List Int}{j:Nat},j<l.length->(l.eraseIdx j).count a+[l.getD j 0].count a=l.count a
 | [],_,h=>by simp at h
 |x::l,0,_=>by
  rw[List.eraseIdx_cons_zero,show x::l=[x]++l from rfl,cAq]
  show l.count a+[x].count a=_;lia
 |x::l,j+1,h=>by
  have ih:=Af a (l:=l) (j:=j) (by simpa using h)
  rw[cB,show x::l.eraseIdx j=[x]++l.eraseIdx j from rfl,show (x::l).getD (j+1) 0=l.getD j 0 from rfl,show x::l=[x]++l from rfl,cAq,cAq]
  lia
theorem zw{l:List (List Int)}{h:Nat}{r:List Int}(e:l[h]?=some r):r.length<=l.flatten.length:=cK.length_le (aU (mGq e))
def Yq(st sh a b k:Int):Int:=st*((a*k+b) % 67+1)+sh
structure Nm (nm:List Int):Prop where
 len:nm.length=66
 nd:nm.Nodup
 lo:∀x∈nm,1<=x
 hi:∀x∈nm,x<10 ^ 60
theorem FK:∀{l:List Int},l.Nodup->(∀x∈l,1<=x)->(l.flatMap λx=>[x, -x]).Nodup
 | [],_,_=>aZ
 |x::l,hn,hp=>by
  have hn':=ax.mp hn;have px:=hp x (ai ..);rw[eT,nAq];refine⟨?_,FK hn'.2 λy hy=>hp y (mCo _ hy),λa ha b hb e=>?_⟩
  .rw [ax];refine⟨?_,by simp⟩
   rw[mSq];lia
  .subst e;obtain⟨y,hy,q⟩:=bY.mp hb;have py:=hp y (mCo _ hy);simp at ha q;have:y=x:=by lia
   exact hn'.1 (this ▸ hy)
abbrev gm(p:List (List Int)):List (List Int):=tu (p.map oS)
theorem vo(p:List (List Int)):(gm p).Perm (p.map oS):=qF _
theorem RH{P Q:List (List (List Int))}(hQ:Q.Perm (P.map gm)):Q.flatten.Perm (P.flatten.map oS):=by
 refine hQ.flatten.trans ?_
 clear hQ
 induction P with
 |nil=>exact .refl _
 |cons p P ih =>
  rw[au,fCq,fCq,mBq];exact(vo p).append ih
theorem Js:∀{PS:List (List Nat)},(∀ps∈PS,ps.Nodup)->(PS.Pairwise λa b=>∀k∈a,k∉b)->PS.flatten.Nodup
 | [],_,_=>aZ
 |p::PS,h1,h2=>by
  obtain⟨h3,h4⟩:=eA.mp h2;rw[fCq,nAq];refine⟨h1 p (ai ..),Js (λps hp=>h1 ps (mCo _ hp)) h4,λa ha b hb e=>?_⟩
  obtain⟨q,hq,hb'⟩:=mFq.mp hb;exact h3 q hq a ha (e ▸ hb')
theorem xT{rs:List (List Int)}{kn:List Nat}{PS:List (List Nat)}(hp:K51.Ps rs rs.length kn PS):(PS.map λps=>ps.map λk=>rs.getD k []).flatten.Perm rs:=by
 have e1:(PS.map λps=>ps.map λk=>rs.getD k []).flatten=PS.flatten.map λk=>rs.getD k []:=by rw[←List.map_flatten]
 rw[e1];have nd:PS.flatten.Nodup:=Js (λps h=>by obtain⟨s,_,q⟩:=hp.pc ps h;exact q.nd) hp.dj
 have pm:PS.flatten.Perm (bK rs.length):=(bI nd fo).mpr λk=>by
  rw[dN,mFq];constructor
  .rintro ⟨ps,h1,h2⟩;obtain⟨s,_,q⟩:=hp.pc ps h1;exact q.lt k h2
  .intro hk;exact hp.mem k (hp.all k hk)
 have e2:(bK rs.length).map (λk=>rs.getD k [])=rs:=by
  refine dF λi=>?_
  rw[gMq]
  by_cases hi:i<rs.length
  .rw [fP hi,gEg hi,fJ,gDq,gEg hi];rfl
  .rw [bR (by simpa using hi),bR (by lia)]
   rfl
 have:=pm.map (λk=>rs.getD k [])
 rwa [e2]at this
end K12
namespace K16
open PySem L2 Mr Z Xe Zl
def pm(l:List Int):List Int:=l.flatMap λx=>[x, -x]
def Xq(M:List (Int×Int)):List (oD×D):=M.map λp=>(.inl p.1,.int p.2)
end K16
namespace K16
open PySem L2 Mr Z Xe Zl K15
section
variable {rs:List (List Int)}
theorem VB(hn:rs.flatten.Nodup) {r:List Int}(hr:r∈rs) {j:Nat}{z y:Int}(hz:r[j]?=some z) (hy:r[(j+1) % r.length]?=some y):nx rs z=y:=by
 have hj:=(gSq.mp hz).1;have h1:=K51.C0 hz ((S0 hj).trans hy);have h2:(aO z,y)∈K51.rO rs:=by
  unfold K51.rO;exact mFq.mpr ⟨_,mMq.mpr ⟨r,hr,rfl⟩,mGq h1⟩
 have h3:=B0 (Fq hn) h2;unfold nx;rw[h3]
end
end K16
namespace K18
open PySem L2 Mr Z Xe Zl
def pp:List Int->List (Int×Int)
 | []=>[]
 | [_]=>[]
 |x::y::r=>(x,y)::pp (y::r)
def cp:List Int->List (Int×Int)
 | []=>[]
 |x::r=>pp (x::r++[x])
def PC(X:List (List Int)):List (Int×Int):=X.flatMap cp
theorem Cs:∀(l:List Int) (x y:Int) (r:List Int),pp (l++x::y::r)=pp (l++[x])++(x,y)::pp (y::r)
 | [],x,y,r=>rfl
 | [a],x,y,r=>rfl
 |a::b::l,x,y,r=>by
  show (a,b)::pp (b::l++x::y::r)=(a,b)::pp (b::l++[x])++_;rw[Cs (b::l)];rfl
theorem E2{l r:List Int}{a h:Int}{l' r':List Int}(hl:l=l'++[a]) (hr:r=h::r'):pp (l++r)=pp l++(a,h)::pp r:=by
 rw[hl,hr,ag];exact Cs l' a h r'
theorem FU{l:List Int}{a h:Int}{l' l'':List Int}(hl:l=l'++[a]) (hh:l=h::l''):cp l=pp l++[(a,h)]:=by
 rw[hh];show pp (h::l''++[h])=_;rw[←hh,E2 hl (r:=[h]) rfl];rfl
theorem JX{l:List Int}(h:l≠[]):∃l' a,l=l'++[a]:=⟨l.dropLast,l.getLast h,(List.dropLast_concat_getLast h).symm⟩
theorem BF{l:List Int}(h:l≠[]):∃a l',l=a::l':=by
 cases l with
 |nil=>exact absurd rfl h
 |cons a l=>exact⟨a,l,rfl⟩
theorem E3(a b:List Int) (q:Int×Int):(cp (a++b)).count q=(cp (b++a)).count q:=by
 by_cases ha:a=[]
 .rw [ha,aNq,bQ]
 .by_cases hb:b=[]
  .rw [hb,aNq,bQ]
  .obtain ⟨la,ka,ea⟩:=JX ha;obtain⟨lb,kb,eb⟩:=JX hb;obtain⟨fa,ra,ga⟩:=BF ha;obtain⟨fb,rb,gb⟩:=BF hb;rw[FU (l:=a++b) (a:=kb) (h:=fa) (l':=a++lb) (l'':=ra++b) (by rw[eb,ag]) (by rw[ga];rfl),FU (l:=b++a) (a:=ka) (h:=fb) (l':=b++la) (l'':=rb++a) (by rw[ea,ag]) (by rw[gb];rfl),E2 ea gb,E2 eb ga]
   simp only[cAq,List.count_cons,gJ];lia
def ct(u v x y:Int):Nat:=[(u,v)].count (x,y)
structure Ln (C LL:List (List Int)):Prop where
 cnt:∀x y,(PC LL).count (x,y)=(PC C).count (-x,y)
 ne:∀c∈LL,c≠[]
section
variable {C LL:List (List Int)}{i:Nat}
theorem Eo{r:List Int}(hi:C[i]?=some r) {q:Int×Int}(h:q∈cp r):q∈PC C:=bY.mpr ⟨r,mGq hi,h⟩
def nL(C LL:List (List Int)):Nat:=LL.length+C.count []
end
end K18
namespace K18
open PySem L2 Mr Z Xe Zl K15 K16
section
variable {C LL:List (List Int)}
theorem U7{r:List Int}{x y:Int}(h:(x,y)∈cp r):∃j,r[j]?=some x/\r[(j+1) % r.length]?=some y:=by
 cases r with
 |nil=>cases h
 |cons a r =>
  have key:∀{l:List Int},(x,y)∈pp l->∃j,l[j]?=some x/\l[j+1]?=some y:=by
   intro l
   induction l with
   |nil=>intro h;cases h
   |cons b l ih =>
    cases l with
    |nil=>intro h;cases h
    |cons c l =>
     intro h;rcases ah.mp (show (x,y)∈(b,c)::pp (c::l) from h) with e|h
     .cases e;exact⟨0,rfl,rfl⟩
     .obtain ⟨j,j1,j2⟩:=ih h;exact⟨j+1,by simpa using j1,by simpa using j2⟩
  obtain⟨j,j1,j2⟩:=key (show (x,y)∈pp (a::r++[a]) from h)
  have lt:=(gSq.mp j2).1;rw[lAq,lSq]at lt;refine⟨j,?_,?_⟩
  .rw [gZq (by lia)]at j1
   exact j1
  .by_cases c:j+1<(a::r).length
   .rw [gZq c]at j2;rw[dU c];exact j2
   .have e:j+1=(a::r).length:=by lia
    rw[e,gYq (ae _),bp]at j2;rw[e,iO];exact j2
theorem IW{X:List (List Int)}(hn:X.flatten.Nodup) {x y:Int}(h:(x,y)∈PC X):nx X x=y:=by
 obtain⟨r,hr,q⟩:=bY.mp h;obtain⟨j,j1,j2⟩:=U7 q;exact VB hn hr j1 j2
end
end K18
namespace K23
open PySem L2 Mr Z Xe Zl
def XA(z:Int) (t:List Int):List Int:=t.filter λe=>!decide (e∈[z, -z])
def C(z:Int) (rs:List (List Int)):List (List Int):=rs.map (XA z)
end K23
namespace K25
open PySem L2 Mr Z Xe Zl K15 K16
section
variable {rs:List (List Int)}
def Rt(rs:List (List Int)) (x:Int) (w:List Int):Prop:=∃u v,u++x::v∈rs/\w=v++u
def pz(z e:Int):Bool:=!decide (e∈[z, -z])
def YF(z:Int) (f:Int->Int) (x:Int):Int:=if pz z (f x)=true then f x else if pz z (f (-f x))=true then f (-f x) else f (-f (-f x))
structure Zu (rs:List (List Int)) (z:Int) (D:List (List Int)):Prop where
 nd:D.flatten.Nodup
 mem:∀x,x∈D.flatten↔x∈rs.flatten/\pz z x=true
 on:∀x∈D.flatten,nx D x=YF z (nx rs) x
 br:bare D=bare rs+((if nx rs (-z)=z then 1 else 0)+(if nx rs z = -z then 1 else 0)+(if nx rs (-z) = -z/\nx rs z=z then 1 else 0))
 len:D.length<=rs.length+2
end
end K25
namespace K43
open PySem L2 Mr Z Xe Zl
open K51 (tW Ps Pc)
section
variable {rs A B:List (List Int)}
theorem De(h:Mp rs):K51.Mp rs:=⟨h.hn,h.hl,h.hr,h.hneg⟩
structure Zh (rs:List (List Int)) (l:List Nat):Prop where
 lt:∀k∈l,k<rs.length
 pw:l.Pairwise λa b=>¬ tW rs a b
def emp(B:List (List Int)):List Nat:=(bK B.length).filter λk=>decide (B.getD k []=[])
theorem pB{k:Nat}(h:k<B.length):B[k]?=some (B.getD k []):=by rw[gDq,gEg h];rfl
theorem uN(B:List (List Int)):(bK B.length).map (λk=>B.getD k [])=B:=by
 refine dF λi=>?_
 rw[gMq]
 by_cases h:i<B.length
 .rw [fP h,pB h];rfl
 .rw [bR (by rw[cP];lia),bR (by lia)]
  rfl
end
end K43
namespace K11
open PySem L2 Mr Z Xe Zl K12
def Ce(p:List (List Int)):Prop:=∀k,0<k->k<p.length->∃j e,j<k/\e∈p.getD j []/\-e∈p.getD k []
structure Cn (p:List (List Int)):Prop where
 ne:p≠[]
 clo:∀z∈p.flatten, -z∈p.flatten
 tr:Ce p
theorem zU{l:List (List Int)}{h:Nat}{r x:List Int}(hr:l[h]?=some r) {k:Nat}{e:Int}(he:e∈l.getD k []):e∈(l.set h (r++x)).getD k []:=by
 rw[gDq]at he ⊢
 by_cases q:h=k
 .subst q;have hlt:=(gSq.mp hr).1;rw[aC hlt];rw[hr]at he;exact aD _ he
 .rw [ao q];exact he
theorem EL{l:List (List Int)}{h:Nat}{r x:List Int}(hr:l[h]?=some r) {e:Int}(he:e∈x):e∈(l.set h (r++x)).getD h []:=by
 have hlt:=(gSq.mp hr).1;rw[gDq,aC hlt];exact ar _ he
theorem Ce.set{l:List (List Int)}{h:Nat}{r x:List Int}(t:Ce l) (hr:l[h]?=some r):Ce (l.set h (r++x)):=λk h0 hk=>by
 rw[lZq]at hk;obtain⟨j,e,h1,h2,h3⟩:=t k h0 hk;exact⟨j,e,h1,zU hr h2,zU hr h3⟩
theorem getD_app{l:List (List Int)}{x:List Int}{k:Nat}(h:k<l.length):(l++[x]).getD k []=l.getD k []:=by
 rw[gDq,gDq,gZq h]
theorem Mc{l:List (List Int)}{x:List Int}:(l++[x]).getD l.length []=x:=by
 rw[gDq,gYq (ae _),bp];rfl
theorem Ce.add{l:List (List Int)}{h:Nat}{e:Int}(t:Ce l) (hh:h<l.length) (he:e∈l.getD h []):Ce (l++[[-e]]):=λk h0 hk=>by
 rw[lAq,lSq]at hk
 by_cases q:k<l.length
 .obtain ⟨j,e',h1,h2,h3⟩:=t k h0 q;exact⟨j,e',h1,by rw[getD_app (by lia)];exact h2,by rw[getD_app q];exact h3⟩
 .have ek:k=l.length:=by lia
  subst ek;exact⟨h,e,hh,by rw[getD_app hh];exact he,by rw[Mc];simp⟩
theorem OD(r:List Int):Ce [r]:=λk h0 hk=>by
 rw[lSq]at hk;lia
end K11
namespace K31
open PySem L2 Mr Z Xe Zl K12
theorem zj{T:List (List Int)}{h:Nat}{r:List Int}(hr:T[h]?=some r):ou (.ow (T.map aI)) [h]=some (r.map λn=>.sh (.int n)):=by
 rw[GN,gMq,hr];rfl
theorem Ou{T:List (List Int)}{h:Nat}{r r':List Int}(hr:T[h]?=some r):putAt (.ow (T.map aI)) [h] (r'.map λn=>.sh (.int n)) = .ow ((T.set h r').map aI):=by
 rw[wq (a:=aI r) (by rw[gMq,hr];rfl)]
 show AV.ow ((T.map aI).set h (aI r'))=_;rw[Ll]
structure Wd where
 T:List (List Int)
 t0:List Nat
 h:Nat
 loose:List Int
 left:List Int
def Yo(wild:Bool) (c:Int) (loose:List Int):Nat:=if wild then (c / 8 % loose.length).toNat else loose.length-1
def sg(c x:Int):Int:=x*(1-2*(c / 4 % 2))
def X4(wild:Bool) (w:Wd) (c:Int):Wd :=
 let r:=w.T.getD w.h []
 if c % 4=1/\w.t0≠[] then { w with t0:=w.t0.dropLast,h:=w.t0.getLast?.getD 0 }
 else if c % 4=2/\w.loose≠[] then { w with T:=w.T.set w.h (r++[w.loose.getD (Yo wild c w.loose) 0]),loose:=w.loose.eraseIdx (Yo wild c w.loose) }
 else match w.left with
  | []=>w
  |x::left=>if c % 4=0 then { w with T:=w.T.set w.h (r++[sg c x])++[[-(sg c x)]],t0:=w.t0++[w.h],h:=w.T.length,left:=left }
   else { w with T:=w.T.set w.h (r++[sg c x]),loose:=w.loose++[-(sg c x)],left:=left }
def st(v0 v1:Option AV) (wild:Bool) (w:Wd) (v7 v8 v9 v10:Option AV):AS:=[v0,v1,some (.sh (.bl wild)),some (.ow (w.T.map aI)),some (aI (cN (w.t0++[w.h]))),some (aI w.loose),some (aI w.left),v7,v8,v9,v10]
section
variable {T:List (List Int)}{t0:List Nat}{hd:Nat}{loose left r:List Int}{c:Int}{wild:Bool}{v0 v1 v8 v9 v10:Option AV}
theorem CM(l:List Nat):(cN l).length=l.length:=lMq ..
end
def xh(l:List Int):List Int:=l.flatMap λx=>[x, -x]
theorem CL(x:Int) (l:List Int) (a:Int):(xh (x::l)).count a=[x, -x].count a+(xh l).count a:=by
 unfold xh;rw[eT,cAq]
theorem bth_len:∀l:List Int,(xh l).length=2*l.length
 | []=>rfl
 |x::l=>by
  unfold xh;have:=bth_len l;unfold xh at this;rw[eT,lAq,this];show 2+2*l.length=2*(l.length+1);lia
structure OW (nm:List Int) (w:Wd) (n:Nat):Prop where
 hh:w.h<w.T.length
 ht:∀k∈w.t0,k<w.T.length
 lw:w.t0.length<=n
 lT:w.T.length<=n+1
 lf:w.left.length<=nm.length
 cnt:∀a,w.T.flatten.count a+w.loose.count a+(xh w.left).count a=(xh nm).count a
 tr:K11.Ce w.T
theorem OW.len{nm:List Int}{w:Wd}{n:Nat}(h:OW nm w n):w.T.flatten.length+w.loose.length+(xh w.left).length=2*nm.length:=by
 have:(w.T.flatten++w.loose++xh w.left).Perm (xh nm):=by
  rw[cW];intro a;rw[cAq,cAq];exact h.cnt a
 have:=this.length_eq;rw[lAq,lAq,bth_len nm]at this;exact this
def w0(nm:List Int):Wd:=⟨[[]],[],0,[],nm⟩
theorem Vm(nm:List Int):OW nm (w0 nm) 0:=⟨by simp[w0],(λk h=>by cases h),ae _,ae _,ae _,(λa=>by simp[w0]),K11.OD _⟩
end K31
namespace K31
open PySem L2 Mr Z Xe Zl
structure Nm (nm:List Int):Prop where
 len:nm.length<=100
 nd:nm.Nodup
 lo:∀x∈nm,1<=x
structure Wm (nm:List Int) (T:List (List Int)):Prop where
 cnt:∃left,∀a,T.flatten.count a+(xh left).count a=(xh nm).count a
 tr:K11.Ce T
 pos:0<T.length
 len:T.length<=64
theorem AE{nm:List Int}(h:Nm nm):(xh nm).Nodup:=K12.FK h.nd h.lo
theorem JS(l:List Int) (a:Int):(xh l).count (-a)=(xh l).count a:=by
 induction l with
 |nil=>rfl
 |cons x l ih =>
  rw[CL,CL,ih];congr 1;rw[show [x, -x]=[x]++[-x] from rfl,cAq,cAq]
  simp only[List.count_singleton];have e1:(x == -a)=(-x == a):=by rw[bW];simp <;> lia
  have e2:(-x == -a)=(x == a):=by rw[bW];simp <;> lia
  rw[e1,e2];lia
theorem Wm.nodup{nm:List Int}{T:List (List Int)}(hn:Nm nm) (h:Wm nm T):T.flatten.Nodup:=by
 obtain⟨left,hc⟩:=h.cnt;rw[fF];intro a;have h1:=fF.mp (AE hn) a;have:=hc a;lia
theorem Wm.neg{nm:List Int}{T:List (List Int)}(hn:Nm nm) (h:Wm nm T) {z:Int}(hz:z∈T.flatten):-z∈T.flatten:=by
 obtain⟨left,hc⟩:=h.cnt;have h1:=dg.mpr hz;have h2:=fF.mp (AE hn) z;have e1:=hc z;have e2:=hc (-z);rw[JS,JS]at e2;exact dg.mp (by lia)
theorem Wm.le{nm:List Int}{T:List (List Int)}(h:Wm nm T):T.flatten.length<=2*nm.length:=by
 obtain⟨left,hc⟩:=h.cnt;have:(T.flatten++xh left).Perm (xh nm):=by
  rw[cW];intro a;rw[cAq];exact hc a
 have:=this.length_eq;rw[lAq,bth_len nm]at this;lia
end K31
namespace K31
open PySem L2 Mr Z Xe Zl
open K12 (Yq)
def Zk(st sh a b:Int) (n:Nat):List Int:=(bK n).map λk:Nat=>Yq st sh a b k
end K31
namespace K43
open PySem L2 Mr Z Xe Zl
open K51 (tW Ps Pc)
section
variable {M:List (List Int)}{z:Int}
def Xm(M:List (List Int)) (z:Int):Bool:=@decide (¬ tW (K23.C z M) (plc M z) (plc M (-z))) (de _)
def rds(M:List (List Int)):List Int:=(vE M.flatten).filter λz=>decide (0<z)
end
end K43
namespace K51
open PySem L2 Mr Z Xe Zl
structure Od (i:Nat) (PS:List (List Nat)):Prop where
 pw:PS.Pairwise λa b=>∃s∈a,∀y∈b,s<y
 lo:∀a∈PS,∃s∈a,s<i
theorem Od.mono{i j:Nat}{PS:List (List Nat)}(h:Od i PS) (hij:i<=j):Od j PS:=⟨h.pw,λa ha=>by
 obtain⟨s,h1,h2⟩:=h.lo a ha;exact⟨s,h1,by lia⟩⟩
theorem Od.add{i:Nat}{PS:List (List Nat)}(h:Od i PS) {ps:List Nat}(hi:i∈ps) (hy:∀y∈ps,i<=y):Od (i+1) (PS++[ps]):=by
 refine⟨aJ.mpr ⟨h.pw,eJ ..,λa ha b hb=>?_⟩,λa ha=>?_⟩
 .rw [mSq.mp hb];obtain⟨s,h1,h2⟩:=h.lo a ha;exact⟨s,h1,λy hy'=>by have:=hy y hy';lia⟩
 .rcases mAq.mp ha with q|q
  .obtain ⟨s,h1,h2⟩:=h.lo a q;exact⟨s,h1,by lia⟩
  .rw [mSq.mp q];exact⟨i,hi,by lia⟩
theorem HE{rs:List (List Int)}(hm:Mp rs):∃kn PS,Ps rs rs.length kn PS/\Od rs.length PS/\qP [dM rs]=some (.ow (PS.map (pA rs))):=by
 have h1000:=hm.hr;have key:=AW (x:=3) (body:=rF) (λi S=>∃kn PS v3 v4 v5,S=[some (.sh (dM rs)),some (.owd (kd kn)),some (.ow (PS.map (pA rs))),v3,v4,v5]/\Ps rs i kn PS/\Od i PS) (ds:=qf 0 rs.length) (S:=[some (.sh (dM rs)),some (.owd []),some (.ow []),none,none,none])
  ⟨[],[],none,none,none,rfl,⟨by simp,by simp,by simp,by simp,by simp,by simp,by simp,by simp⟩,⟨bj.nil,λa ha=>(by cases ha)⟩⟩ (by
  rintro i d S hd ⟨kn,PS,v3,v4,v5,rfl,hp,ho⟩;have hi:i<rs.length:=by
   have:=(gSq.mp hd).1
   rwa [rB]at this
  rw[zb hi,gV]at hd;cases hd;have hg:=Iw kn i
  by_cases c:i∈kn
  .rw [decide_eq_true c]at hg;refine⟨[some (.sh (dM rs)),some (.owd (kd kn)),some (.ow (PS.map (pA rs))),some (.sh (.int (i:Int))),v4,v5],?_,kn,PS,_,_,_,rfl,⟨hp.sub,hp.dj,hp.pc,?_,hp.mem,hp.nd,hp.lt,?_⟩,ho.mono (bO _)⟩
   .simp_arith [rF,hg]
   .intro k hk;rcases cS.mp hk with q|rfl
    .exact hp.all k q
    .exact c
   .have:=hp.len;lia
  .rw [decide_eq_false c]at hg;obtain⟨ps,h1,e1⟩:=B7 hm hi;have p1:=Pf _ _ hp.nd hp.lt;have p2:=Pf _ _ h1.nd h1.lt;have p3:=hp.len;have l2:ps.length<=qW:=by show _<=16777216;lia
   have l3:PS.length<qW:=by show _<16777216;lia
   obtain⟨v5',e2⟩:=DZ (ps:=ps) (kn:=kn) (v0:=some (.sh (dM rs))) (v2:=some (.ow (PS.map (pA rs)))) (v3:=some (.sh (.int (i:Int)))) (v4:=some (.sh (dI (ps.map λk:Nat=>(k:Int))))) (v5:=v5) (by lia)
   have e3:=Cw h1.lt;refine⟨[some (.sh (dM rs)),some (.owd (kd (ps.foldl uX kn))),some (.ow ((PS++[ps]).map (pA rs))),some (.sh (.int (i:Int))),some (.sh (dI (ps.map λk:Nat=>(k:Int)))),v5'],?_,ps.foldl uX kn,PS++[ps],_,_,_,rfl,⟨?_,?_,?_,?_,?_,EN hp.nd,?_,?_⟩,ho.add ((h1.iff i).mpr .base) (λy hy=>?_)⟩
   .simp_arith [rF,hg,e1,e2,e3,l2,l3,mBq,pA]
   .intro qs hq k hk;rcases mAq.mp hq with q|q
    .exact qI.mpr (.inl (hp.sub qs q k hk))
    .rw [mSq.mp q]at hk;exact qI.mpr (.inr hk)
   .rw [aJ];refine⟨hp.dj,eJ ..,λqs hq b hb k hk hk2=>c ?_⟩
    rw[mSq.mp hb]at hk2;obtain⟨s,hs,hc⟩:=hp.pc qs hq;exact hp.sub qs hq i ((hc.iff i).mpr (((hc.iff k).mp hk).trans (((h1.iff k).mp hk2).symm hm)))
   .intro qs hq;rcases mAq.mp hq with q|q
    .exact hp.pc qs q
    .rw [mSq.mp q];exact⟨i,hi,h1⟩
   .intro k hk;rcases cS.mp hk with q|rfl
    .exact qI.mpr (.inl (hp.all k q))
    .exact qI.mpr (.inr ((h1.iff k).mpr .base))
   .intro k hk;rcases qI.mp hk with q|q
    .obtain ⟨qs,a,b⟩:=hp.mem k q;exact⟨qs,mAq.mpr (.inl a),b⟩
    .exact ⟨ps,mAq.mpr (.inr (mSq.mpr rfl)),q⟩
   .intro k hk;rcases qI.mp hk with q|q
    .exact hp.lt k q
    .exact h1.lt k q
   .rw [lAq,lSq];lia
   .refine gn λq=>c ?_
    obtain⟨qs,hq,hk2⟩:=hp.mem y (hp.all y q);obtain⟨s,hs,hc⟩:=hp.pc qs hq;exact hp.sub qs hq i ((hc.iff i).mpr (((hc.iff y).mp hk2).trans (((h1.iff y).mp hy).symm hm))))
 obtain⟨S',e,kn,PS,v3,v4,v5,rfl,hp,ho⟩:=key;rw[rB]at hp ho;have r1:=EB (n:=rs.length) (by lia)
 refine⟨kn,PS,hp,ho,?_⟩
 simp_arith [qP,Ae,dM,r1,e]
end K51
namespace K11
open PySem L2 Mr Z Xe Zl K12
structure Pm (P:List (List (List Int))):Prop where
 nd:P.flatten.flatten.Nodup
 mp:K51.Mp (gm P.flatten)
theorem yu{p:List (List Int)}(h:Cn p) (hb:[]∈p) (hn:p.flatten.Nodup):p=[[]]:=by
 obtain⟨k,hk⟩:=aV.mp hb;have hlt:=(gSq.mp hk).1;have hkD:p.getD k []=[]:=by rw[gDq,hk];rfl
 have h0:k=0:=by
  by_cases q:0<k
  .obtain ⟨j,e,_,_,h3⟩:=h.tr k q hlt;rw[hkD]at h3;cases h3
  .lia
 subst h0
 by_cases q:1<p.length
 .obtain ⟨j,e,h1,h2,_⟩:=h.tr 1 (by lia) q
  have:j=0:=by lia
  rw[this,hkD]at h2;cases h2
 .cases p with
  |nil=>cases hb
  |cons a p =>
   cases p with
   |nil =>
    have:a=[]:=aT.inj hk;rw[this]
   |cons b p=>exact absurd (show 1<(a::b::p).length by simp) q
theorem Jz:∀{L:List (List Int)},L.flatten.Nodup->(∀l∈L,l≠[])->L.Nodup
 | [],_,_=>aZ
 |a::L,h,hne=>by
  rw[fCq,nAq]at h;refine ax.mpr ⟨λm=>?_,Jz h.2.1 λl hl=>hne l (mCo _ hl)⟩
  cases a with
  |nil=>exact hne [] (ai ..) rfl
  |cons x a=>exact h.2.2 x (ai ..) x (mFq.mpr ⟨_,m,ai ..⟩) rfl
section
variable {P:List (List (List Int))}
theorem E4(h:Pm P) {p:List (List Int)}(hp:p∈P):p.flatten.Nodup:=by
 have:=h.nd;rw[fG]at this;exact bj.sublist (aU (mMq.mpr ⟨p,hp,rfl⟩)) this
theorem C4:∀{P:List (List (List Int))},P.flatten.flatten.Nodup->∀{p q:List (List Int)}{e:Int},p∈P->q∈P->e∈p.flatten->e∈q.flatten->p=q
 | [],_,p,q,e,hp,_,_,_=>by cases hp
 |a::P,h,p,q,e,hp,hq,h1,h2=>by
  rw[fCq,fAq,nAq]at h;have inP:∀{r:List (List Int)},r∈P->e∈r.flatten->e∈P.flatten.flatten:=λ{r} hr hr'=>by
   obtain⟨l,hl,hel⟩:=mFq.mp hr';exact mFq.mpr ⟨l,mFq.mpr ⟨r,hr,hl⟩,hel⟩
  rcases ah.mp hp with e1|e1
  .rcases ah.mp hq with e2|e2
   .rw [e1,e2]
   .rw [e1]at h1;exact absurd rfl (h.2.2 e h1 e (inP e2 h2))
  .rcases ah.mp hq with e2|e2
   .rw [e2]at h2;exact absurd rfl (h.2.2 e h2 e (inP e1 h1))
   .exact C4 h.2.1 e1 e2 h1 h2
theorem Mu(h:Pm P) {p:List (List Int)}(hp:p∈P) {r:List Int}(hr:r∈p):oS r∈gm P.flatten:=(vo _).mem_iff.mpr (mMq.mpr ⟨r,mFq.mpr ⟨p,hp,hr⟩,rfl⟩)
theorem vk(h:Pm P) {p:List (List Int)}(hp:p∈P) {r:List Int}(hr:r∈p) {e:Int}(he:e∈r):(gm P.flatten)[plc (gm P.flatten) e]?=some (oS r)/\∀k,(gm P.flatten)[k]?=some (oS r)->k=plc (gm P.flatten) e:=by
 have mp:=h.mp;have hg:e∈oS r:=(qu r).mem_iff.mpr he;obtain⟨k,hk⟩:=aV.mp (Mu h hp hr);have e1:=K51.plc_eq mp.hn hk hg;refine⟨by rw[show plc (gm P.flatten) e=k from e1];exact hk,λk' hk'=>?_⟩
 exact(K51.plc_eq mp.hn hk' hg).symm
theorem getD_mem{p:List (List Int)}{k:Nat}{e:Int}(h:e∈p.getD k []):p.getD k []∈p:=by
 rw[gDq]at h ⊢;cases q:p[k]? with
 |none=>rw[q]at h;cases h
 |some r=>exact mGq q
theorem FJ(h:Pm P) {p:List (List Int)}(hp:p∈P) (hc:Cn p) {e0:Int}(h0:e0∈p.getD 0 []):∀k,k<p.length->∀e,e∈p.getD k []->K51.tW (gm P.flatten) (plc (gm P.flatten) e0) (plc (gm P.flatten) e):=by
 intro k
 induction k using gD with
 |_ k ih =>
  intro hk e he;have same:∀{e1 e2:Int}{k:Nat},e1∈p.getD k []->e2∈p.getD k []->plc (gm P.flatten) e1=plc (gm P.flatten) e2:=λ{e1 e2 k} q1 q2=>(vk h hp (getD_mem q2) q2).2 _ (vk h hp (getD_mem q1) q1).1
  by_cases q:0<k
  .obtain ⟨j,e',h1,h2,h3⟩:=hc.tr k q hk;have r:=ih j h1 (by lia) e' h2
   have hrow:=(vk h hp (getD_mem h2) h2).1;have st:=K51.tW.step r hrow ((qu _).mem_iff.mpr h2);have e1:K51.plc (gm P.flatten) (-e')=plc (gm P.flatten) (-e'):=rfl;rw[e1,same h3 he]at st;exact st
  .have:k=0:=by lia
   subst this;rw[same h0 he];exact .base
theorem HI(h:Pm P) (hc:∀p∈P,Cn p) {s:Nat}{ps:List Nat}(hs:s<(gm P.flatten).length) (pc:K51.Pc (gm P.flatten) s ps):∃p∈P,(ps.map λk=>(gm P.flatten).getD k [])=gm p:=by
 have mp:=h.mp;obtain⟨ρ,hρ⟩:∃ρ,(gm P.flatten)[s]?=some ρ:=⟨_,gEg hs⟩;obtain⟨r0,hr0,e0⟩:=mMq.mp ((vo _).mem_iff.mp (mGq hρ));obtain⟨p,hp,hr0p⟩:=mFq.mp hr0;refine⟨p,hp,?_⟩;have cn:=hc p hp;have pn:=E4 h hp
 by_cases hb:([]:List Int)∈p
 .have ep:=yu cn hb pn;rw[ep]at hr0p;rw[mSq.mp hr0p,xW]at e0;subst e0;have only:∀k,K51.tW (gm P.flatten) s k->k=s:=λk hk=>by
   induction hk with
   |base=>rfl
   |step _ a b ih =>
    rw[ih,hρ]at a;cases a;cases b
  have eps:ps=[s]:=by
   have m:s∈ps:=(pc.iff s).mpr .base;have all:∀k∈ps,k=s:=λk hk=>only k ((pc.iff k).mp hk)
   have nd:=pc.nd
   match ps,m,all,nd with
   | [a],m,all,_=>rw[all a (by simp)]
   |a::b::l,m,all,nd=>exact absurd ((all a (by simp)).trans (all b (by simp)).symm) (λz=>(ax.mp nd).1 (by rw[z];simp))
  have g1:gm [[]]=[[]]:=by
   have:(gm [[]]).Perm [[]]:=vo [[]];exact fQ.mp this
  rw[eps,ep,g1];show [(gm P.flatten).getD s []]=[[]];rw[gDq,hρ];rfl
 .have hne:∀r∈p,r≠[]:=λr hr z=>hb (z ▸ hr)
  have key:∀k,k∈ps↔∃r∈p,(gm P.flatten)[k]?=some (oS r):=λk=>by
   rw[pc.iff k];constructor
   .intro hk
    induction hk with
    |base=>exact⟨r0,hr0p,by rw[hρ,e0]⟩
    | @step k r e _ a b ih =>
     obtain⟨r',hr',er'⟩:=ih;rw[a]at er';cases er';have h1:e∈p.flatten:=mFq.mpr ⟨r',hr',(qu r').mem_iff.mp b⟩;obtain⟨r2,hr2,he2⟩:=mFq.mp (cn.clo e h1);exact⟨r2,hr2,(vk h hp hr2 he2).1⟩
   .rintro ⟨r,hr,er⟩;obtain⟨j0,hj0⟩:=aV.mp hr0p;obtain⟨j,hj⟩:=aV.mp hr;have hroot:p.getD 0 []∈p:=by
     cases hpp:p with
     |nil=>exact absurd hpp cn.ne
     |cons a l=>simp
    obtain⟨eR,hR⟩:=cQ _ (hne _ hroot);obtain⟨x0,hx0⟩:=cQ _ (hne _ hr0p);obtain⟨x,hx⟩:=cQ _ (hne _ hr);have d0:p.getD j0 []=r0:=by rw[gDq,hj0];rfl
    have d1:p.getD j []=r:=by rw[gDq,hj];rfl
    have t0:=FJ h hp cn hR j0 (gSq.mp hj0).1 x0 (by rw[d0];exact hx0)
    have t1:=FJ h hp cn hR j (gSq.mp hj).1 x (by rw[d1];exact hx)
    have s0:s=plc (gm P.flatten) x0:=(vk h hp hr0p hx0).2 s (by rw[hρ,e0])
    have k0:k=plc (gm P.flatten) x:=(vk h hp hr hx).2 k er;rw[s0,k0];exact(t0.symm mp).trans t1
  refine Im ?_ ?_
  .refine (bI ?_ ?_).mpr λy=>?_
   .rw [bu,bq];refine bj.imp_of_mem (λ{a b} ha hb' hab q=>?_) (bu.mp pc.nd)
    obtain⟨r,hr,er⟩:=(key a).mp ha;obtain⟨r',hr',er'⟩:=(key b).mp hb';rw[gDq,gDq,er,er']at q;have q':oS r=oS r':=q;obtain⟨x,hx⟩:=cQ _ (hne r hr);exact hab (((vk h hp hr hx).2 a er).trans ((vk h hp hr hx).2 b (by rw[er',q'])).symm)
   .refine Jz ?_ λl hl=>?_
    .exact (qJ qu p).nodup_iff.mpr pn
    .obtain ⟨r,hr,rfl⟩:=mMq.mp hl;intro z;have:=congrArg bo z;rw[yd]at this;exact hne r hr (cC.mp this)
   .rw [mMq,mMq];constructor
    .rintro ⟨k,hk,rfl⟩;obtain⟨r,hr,er⟩:=(key k).mp hk;exact⟨r,hr,by rw[gDq,er];rfl⟩
    .rintro ⟨r,hr,rfl⟩;obtain⟨k,hk⟩:=aV.mp (Mu h hp hr);exact⟨k,(key k).mpr ⟨r,hr,hk⟩,by rw[gDq,hk];rfl⟩
  .rw [bq];have so:=bj.and pc.so (bu.mp pc.nd);refine bj.imp_of_mem (λ{a b} ha hb' hab=>?_) so
   have hlt:a<b:=Nat.lt_of_le_of_ne hab.1 hab.2;have la:=pc.lt a ha;have lb:=pc.lt b hb';have:=bM.mp (wU (P.flatten.map oS)) a b la lb hlt;rw[gDq,gDq,gEg la,gEg lb];exact this
end
theorem CH{ρ:List Int}{m:List (List Int)}:∀{f:List (List (List Int))},(∀m'∈f,ρ∈m'->m'=m)->f.flatten.count ρ=f.count m*m.count ρ
 | [],_=>by simp
 |a::f,h=>by
  have ih:=CH (f:=f) λm' hm=>h m' (mCo _ hm)
  rw[fCq,cAq,ih]
  by_cases q:a=m
  .rw [q,fI,Nat.add_mul,Nat.one_mul,gW]
  .rw [fu q];have:a.count ρ=0:=eE.mpr λz=>q (h a (ai ..) z)
   lia
theorem Wj{p:List (List Int)}(h:Cn p):∃ρ,ρ∈gm p:=by
 cases hp:p with
 |nil=>exact absurd hp h.ne
 |cons a l=>exact⟨oS a,(vo _).mem_iff.mpr (mMq.mpr ⟨a,by simp,rfl⟩)⟩
theorem Hj{P:List (List (List Int))}(h:Pm P) (hc:∀p∈P,Cn p) {p q:List (List Int)}(hp:p∈P) (hq:q∈P) {ρ:List Int}(h1:ρ∈gm p) (h2:ρ∈gm q):gm p=gm q:=by
 obtain⟨r,hr,er⟩:=mMq.mp ((vo _).mem_iff.mp h1);obtain⟨t,ht,et⟩:=mMq.mp ((vo _).mem_iff.mp h2);cases r with
 |nil =>
  rw[xW]at er;have:t=[]:=by
   have:=congrArg bo et;rw[yd,←er]at this;exact cC.mp this
  rw[yu (hc p hp) hr (E4 h hp),yu (hc q hq) (this ▸ ht) (E4 h hq)]
 |cons x r =>
  have hx:x∈oS (x::r):=(qu _).mem_iff.mpr (by simp)
  rw[er,←et]at hx;have hx2:x∈t:=(qu t).mem_iff.mp hx;rw[C4 h.nd hp hq (mFq.mpr ⟨_,hr,by simp⟩) (mFq.mpr ⟨t,ht,hx2⟩)]
theorem GO{P:List (List (List Int))}(h:Pm P) (hc:∀p∈P,Cn p):∃PS:List (List Nat),K51.qP [dM (gm P.flatten)]=some (.ow (PS.map (K51.pA (gm P.flatten))))/\(PS.map λps=>ps.map λk=>(gm P.flatten).getD k [])=uI (P.map gm):=by
 obtain⟨kn,PS,hp,ho,e⟩:=K51.HE (h.mp);refine⟨PS,e,?_⟩;have hA:∀ps∈PS,∃p∈P,(ps.map λk=>(gm P.flatten).getD k [])=gm p:=λps hps=>by
  obtain⟨s,hs,pc⟩:=hp.pc ps hps;exact HI h hc hs pc
 refine Jh ?_ ?_
 .rw [cW];intro m;have hfl:(PS.map λps=>ps.map λk=>(gm P.flatten).getD k []).flatten.Perm (P.map gm).flatten:=((xT hp).trans (vo _)).trans (RH (.refl _)).symm
  have all1:∀m'∈(PS.map λps=>ps.map λk=>(gm P.flatten).getD k []),∃p∈P,m'=gm p:=λm' hm=>by
   obtain⟨ps,hps,rfl⟩:=mMq.mp hm;exact hA ps hps
  have all2:∀m'∈P.map gm,∃p∈P,m'=gm p:=λm' hm=>by
   obtain⟨p,hp',rfl⟩:=mMq.mp hm;exact⟨p,hp',rfl⟩
  by_cases q:∃p∈P,m=gm p
  .obtain ⟨p,hpP,rfl⟩:=q;obtain⟨ρ,hρ⟩:=Wj (hc p hpP);have c1:=CH (ρ:=ρ) (m:=gm p) (f:=PS.map λps=>ps.map λk=>(gm P.flatten).getD k []) λm' hm hρ'=>by
    obtain⟨q,hq,rfl⟩:=all1 m' hm;exact Hj h hc hq hpP hρ' hρ
   have c2:=CH (ρ:=ρ) (m:=gm p) (f:=P.map gm) λm' hm hρ'=>by
    obtain⟨q,hq,rfl⟩:=all2 m' hm;exact Hj h hc hq hpP hρ' hρ
   rw[hfl.count_eq,c2]at c1;exact(Nat.eq_of_mul_eq_mul_right (dg.mpr hρ) c1).symm
  .rw [eE.mpr λz=>q (all1 m z),eE.mpr λz=>q (all2 m z)]
 .rw [bq];refine bj.imp_of_mem (λ{a b} ha hb hab=>?_) ho.pw
  obtain⟨s,hs,hlt⟩:=hab;obtain⟨s1,_,pa⟩:=hp.pc a ha;obtain⟨s2,_,pb⟩:=hp.pc b hb
  match a,b,ha,hb,hs,hlt,pa,pb with
  |a0::as,b0::bs,ha,hb,hs,hlt,pa,pb =>
   have h0:a0<=s:=by
    rcases ah.mp hs with z|z
    .lia
    .exact (eA.mp pa.so).1 s z
   have hab:a0<b0:=by have:=hlt b0 (by simp);lia
   have la:=pa.lt a0 (by simp)
   have lb:=pb.lt b0 (by simp)
   have hsr:=bM.mp (wU (P.flatten.map oS)) a0 b0 la lb hab;have ea:(gm P.flatten).getD a0 []=(gm P.flatten)[a0]:=by rw[gDq,gEg la];rfl
   have eb:(gm P.flatten).getD b0 []=(gm P.flatten)[b0]:=by rw[gDq,gEg lb];rfl
   by_cases q:(gm P.flatten).getD b0 []=(gm P.flatten).getD a0 []
   .obtain ⟨p,hpP,e1⟩:=hA _ ha;obtain⟨p',hpP',e2⟩:=hA _ hb;have m1:(gm P.flatten).getD a0 []∈gm p:=by rw[←e1];simp
    have m2:(gm P.flatten).getD a0 []∈gm p':=by rw[←e2,←q];simp
    rw[e1,e2,Hj h hc hpP hpP' m1 m2];exact HT.G6 _
   .rw [au,au,HT.uj,oz q,ea,eb];exact hsr
  | [],b,ha,hb,hs,_,_,_=>cases hs
  |a0::as,[],ha,hb,hs,hlt,pa,pb =>
   have:=(pb.iff s2).mpr .base;cases this
end K11
namespace K17
open PySem L2 Mr Z Xe Zl
theorem Pu{L:List (List Int)}(hn:L.flatten.Nodup) {i j:Nat}{r s:List Int}{e:Int}(hi:L[i]?=some r) (hj:L[j]?=some s) (h1:e∈r) (h2:e∈s):i=j:=same_place hn hi hj h1 h2
theorem AG{L M:List (List Int)}(h:L.Perm M):L.flatten.Perm M.flatten:=by
 induction h with
 |nil=>exact .refl _
 |cons a _ ih=>rw[fCq,fCq];exact ih.append_left a
 |swap a b l =>
  rw[fCq,fCq,fCq,fCq,←ag,←ag];exact bb.append_right _
 |trans _ _ h1 h2=>exact h1.trans h2
end K17
namespace K17
open PySem L2 Mr Z Xe Zl
open K51 (tW Ps Pc)
theorem Cc:∀{A:List (List (List Int))},(∀p∈A,([]:List Int)∈p->p=[[]])->A.flatten.count []=A.countP λp=>decide (p=[[]])
 | [],_=>rfl
 |p::A,h=>by
  rw[fCq,cAq,Cc λq hq=>h q (mCo _ hq),List.countP_cons]
  by_cases c:([]:List Int)∈p
  .rw [h p (ai ..) c];simp;lia
  .rw [eE.mpr c,oz (by
    simp only[decide_eq_true_eq];intro e;exact c (by rw[e];simp))]
   lia
theorem HU{a b:List Int}(h:∀y,y∈a↔y∈b) (ha:a≠[]):∃m,a.min?=some m/\b.min?=some m/\m∈a:=by
 cases e:a.min? with
 |none=>exact absurd (List.min?_eq_none_iff.mp e) ha
 |some m =>
  have q:=(fv (xs:=a)).mp e;exact⟨m,rfl,(fv (xs:=b)).mpr ⟨(h m).mp q.1,λx hx=>q.2 x ((h x).mpr hx)⟩,q.1⟩
theorem HF:∀{A:List (List (List Int))},A.flatten.flatten.Nodup->(∀p∈A,p.flatten≠[])->(A.map λp=>p.flatten.min?).Nodup
 | [],_,_=>aZ
 |p::A,h,hne=>by
  rw[fCq,fAq,nAq]at h;rw[au];refine ax.mpr ⟨λm=>?_,HF h.2.1 λq hq=>hne q (mCo _ hq)⟩
  obtain⟨q,hq,e⟩:=mMq.mp m;obtain⟨a,h1,_,h3⟩:=HU (λ_=>Iff.rfl) (hne p (ai ..))
  rw[h1]at e;have:=((fv (xs:=q.flatten)).mp e).1;obtain⟨r,hr,har⟩:=mFq.mp this;exact h.2.2 a h3 a (mFq.mpr ⟨r,mFq.mpr ⟨q,hq,hr⟩,har⟩) rfl
structure Bp (A:List (List (List Int))):Prop where
 nd:A.flatten.flatten.Nodup
 ne:∀p∈A,p≠[]
 ba:∀p∈A,([]:List Int)∈p->p=[[]]
theorem FH{l m:List (List Int)}(h:l.Sublist m):l.flatten.Sublist m.flatten:=by
 induction h with
 |slnil=>exact .refl _
 |cons a _ ih=>rw[fCq];exact ih.trans (dY ..)
 |cons_cons a _ ih=>rw[fCq,fCq];exact(cK.refl a).append ih
theorem JW{A:List (List (List Int))}(h:A.flatten.flatten.Nodup) (f:List (List Int)->Bool):(A.filter f).flatten.flatten.Nodup:=by
 rw[fG]at h ⊢;exact h.sublist (FH (fR.map _))
theorem Bp.fne{A:List (List (List Int))}(h:Bp A) {p:List (List Int)}(hp:p∈A) (hb:p≠[[]]):p.flatten≠[]:=λz=>by
 cases p with
 |nil=>exact h.ne _ hp rfl
 |cons a p =>
  rw[fCq]at z;have:a=[]:=(dv.mp z).1;subst this;exact hb (h.ba _ hp (ai ..))
theorem V3{A B:List (List (List Int))}(hA:Bp A) (hB:Bp B) (hs:∀x,x∈A.flatten.flatten->x∈B.flatten.flatten) (sh:∀p∈A,∀q∈B,∀x,x∈p.flatten->x∈q.flatten->∀y,y∈p.flatten↔y∈q.flatten) {k:Option Int}(hk:k∈(A.filter λp=>!decide (p=[[]])).map λp=>p.flatten.min?):k∈(B.filter λp=>!decide (p=[[]])).map λp=>p.flatten.min?:=by
 obtain⟨p,hp,e⟩:=mMq.mp hk;obtain⟨hp,hb⟩:=bV.mp hp;have hb':p≠[[]]:=by simpa using hb
 obtain⟨m,e1,_,hm⟩:=HU (λ_=>Iff.rfl) (hA.fne hp hb')
 obtain⟨r,hr,hmr⟩:=mFq.mp hm;obtain⟨r',hr',hmr'⟩:=mFq.mp (hs m (mFq.mpr ⟨r,mFq.mpr ⟨p,hp,hr⟩,hmr⟩));obtain⟨q,hq,hrq⟩:=mFq.mp hr';have hmq:m∈q.flatten:=mFq.mpr ⟨r',hrq,hmr'⟩;obtain⟨m',e2,e3,_⟩:=HU (sh p hp q hq m hm hmq) (hA.fne hp hb');rw[←e];refine mMq.mpr ⟨q,bV.mpr ⟨hq,?_⟩,by rw[e2,e3]⟩
 have:q≠[[]]:=λz=>by rw[z]at hmq;simp at hmq
 simpa using this
theorem Dw{A B:List (List (List Int))}(hA:Bp A) (hB:Bp B) (hs:∀x,x∈A.flatten.flatten↔x∈B.flatten.flatten) (sh:∀p∈A,∀q∈B,∀x,x∈p.flatten->x∈q.flatten->∀y,y∈p.flatten↔y∈q.flatten) (hc:A.flatten.count []=B.flatten.count []):A.length=B.length:=by
 have k1:=HF (JW hA.nd λp=>!decide (p=[[]])) λp hp=>hA.fne (bV.mp hp).1 (by simpa using (bV.mp hp).2)
 have k2:=HF (JW hB.nd λp=>!decide (p=[[]])) λp hp=>hB.fne (bV.mp hp).1 (by simpa using (bV.mp hp).2)
 have pm:=((bI k1 k2).mpr λk=>⟨V3 hA hB (λx=>(hs x).mp) sh,V3 hB hA (λx=>(hs x).mpr) λp hp q hq x h1 h2 y=>(sh q hq p hp x h2 h1 y).symm⟩).length_eq
 rw[lMq,lMq,←fS,←fS]at pm;rw[Cc hA.ba,Cc hB.ba]at hc;have l1:=eZ (l:=A) λp=>decide (p=[[]])
 have l2:=eZ (l:=B) λp=>decide (p=[[]])
 have f:(λp:List (List Int)=>!decide (p=[[]]))=λp=>decide ¬ (decide (p=[[]])=true):=by
  funext p
  by_cases c:p=[[]] <;> simp[c]
 rw[f]at pm;lia
abbrev cls(M:List (List Int)) (PS:List (List Nat)):List (List (List Int)):=PS.map λps=>ps.map λk=>M.getD k []
section
variable {M:List (List Int)}{kn:List Nat}{PS:List (List Nat)}
theorem U3{S:Int->Prop}(hm:K51.Mp M) (hneg:∀x,S x->S (-x)) (hrow:∀r∈M,∀x∈r,∀y∈r,S x->S y) {a b:Nat}(h:tW M a b) (ha:∀x∈M.getD a [],S x):∀y∈M.getD b [],S y:=by
 induction h with
 |base=>exact ha
 | @step k r e _ h1 h2 ih =>
  intro y hy;have hD:M.getD k []=r:=by rw[gDq,h1];rfl
  have s1:=hneg e (ih e (by rw[hD];exact h2))
  have he:e∈M.flatten:=mFq.mpr ⟨r,mGq h1,h2⟩;obtain⟨r',hr',her'⟩:=hm.at (hm.hneg e he);have hD':M.getD (K51.plc M (-e)) []=r':=by rw[gDq,hr'];rfl
  rw[hD']at hy;exact hrow r' (mGq hr') _ her' y hy s1
theorem BM{ps:List Nat}{s:Nat}(hm:K51.Mp M) (pc:Pc M s ps) {x:Int}:x∈(ps.map λk=>M.getD k []).flatten↔∃k,tW M s k/\x∈M.getD k []:=by
 rw[mFq];constructor
 .rintro ⟨r,hr,hx⟩;obtain⟨k,hk,rfl⟩:=mMq.mp hr;exact⟨k,(pc.iff k).mp hk,hx⟩
 .rintro ⟨k,hk,hx⟩;exact⟨_,mMq.mpr ⟨k,(pc.iff k).mpr hk,rfl⟩,hx⟩
theorem Q0{S:Int->Prop}{ps:List Nat}{s:Nat}(hm:K51.Mp M) (pc:Pc M s ps) (hneg:∀x,S x->S (-x)) (hrow:∀r∈M,∀x∈r,∀y∈r,S x->S y) {x:Int}(hx:x∈(ps.map λk=>M.getD k []).flatten) (h:S x):∀y∈(ps.map λk=>M.getD k []).flatten,S y:=by
 intro y hy;obtain⟨a,ha,hxa⟩:=(BM hm pc).mp hx;obtain⟨b,hb,hyb⟩:=(BM hm pc).mp hy;exact U3 hm hneg hrow ((ha.symm hm).trans hb) (λz hz=>hrow _ (K11.getD_mem hxa) x hxa z hz h) y hyb
theorem Jx{ps:List Nat}{s:Nat}(hm:K51.Mp M) (pc:Pc M s ps) {x:Int}(hx:x∈(ps.map λk=>M.getD k []).flatten):-x∈(ps.map λk=>M.getD k []).flatten:=by
 obtain⟨k,hk,hxk⟩:=(BM hm pc).mp hx;have hr:M[k]?=some (M.getD k []):=by
  rw[gDq]at hxk ⊢;cases q:M[k]? with
  |none=>rw[q]at hxk;cases hxk
  |some r=>rfl
 obtain⟨r',hr',her'⟩:=hm.at (hm.hneg x (mFq.mpr ⟨_,mGq hr,hxk⟩));refine(BM hm pc).mpr ⟨_,.step hk hr hxk,?_⟩;rw[gDq,hr'];exact her'
theorem Je{ps:List Nat}{s:Nat}(hm:K51.Mp M) (pc:Pc M s ps) {r:List Int}(hr:r∈M) {x y:Int}(hx:x∈r) (hy:y∈r) (h:x∈(ps.map λk=>M.getD k []).flatten):y∈(ps.map λk=>M.getD k []).flatten:=by
 obtain⟨t,ht,hxt⟩:=mFq.mp h;obtain⟨k,hk,rfl⟩:=mMq.mp ht;have h2:=K11.getD_mem hxt;obtain⟨i,hi⟩:=aV.mp hr;obtain⟨j,hj⟩:=aV.mp h2;have:=Pu hm.hn hi hj hx hxt;subst this;rw[hi]at hj;refine mFq.mpr ⟨_,ht,?_⟩;rw[←aT.inj hj];exact hy
theorem N1(hm:K51.Mp M) (hp:Ps M M.length kn PS):Bp (cls M PS):=by
 have pm:=K12.xT hp;refine⟨(AG pm).nodup_iff.mpr hm.hn,λp h=>?_,λp h hb=>?_⟩
 .obtain ⟨ps,hps,rfl⟩:=mMq.mp h;obtain⟨s,hs,pc⟩:=hp.pc ps hps;intro z;have m:s∈ps:=(pc.iff s).mpr .base;rw[List.map_eq_nil_iff.mp z]at m;cases m
 .obtain ⟨ps,hps,rfl⟩:=mMq.mp h;obtain⟨s,hs,pc⟩:=hp.pc ps hps;obtain⟨k,hk,ek⟩:=mMq.mp hb;have hk1:=pc.lt k hk;have hk2:M[k]?=some []:=by
   rw[gDq,gEg hk1]at ek;rw[gEg hk1];exact congrArg some ek
  have only:∀j,tW M k j->j=k:=λj hj=>by
   induction hj with
   |base=>rfl
   |step _ a b ih =>
    rw[ih,hk2]at a;cases a;cases b
  have all:∀j∈ps,j=k:=λj hj=>only j ((((pc.iff k).mp hk).symm hm).trans ((pc.iff j).mp hj))
  have nd:=pc.nd;have e:ps=[k]:=by
   match ps,hk,all,nd with
   | [a],_,all,_=>rw[all a (by simp)]
   |a::b::l,_,all,nd=>exact absurd ((all a (by simp)).trans (all b (by simp)).symm) (λz=>(ax.mp nd).1 (by rw[z];simp))
  rw[e];show [M.getD k []]=[[]];rw[ek]
end
end K17
namespace K52
open PySem L2 Mr Z Xe Zl
open K15 (nx)
open K18 (pp cp PC Cs FU E3 IW Eo)
open K43 (De uN pB)
open K51 (tW)
structure Fm where
 p:Nat
 a:List Int
 d:List Int
 r:List Int
structure Sw where
 st:List Fm
 cl:List Nat
 cb:List (Nat×Int)
 th:List (String×Int)
def frm(M:List (List Int)) (x:Int):List Int:=(M.getD (plc M x) []).drop ((M.getD (plc M x) []).idxOf x+1)++(M.getD (plc M x) []).take ((M.getD (plc M x) []).idxOf x)
def Sw.ks(s:Sw):List Nat:=0::s.cb.map (·.1)
def Fm.tell(f:Fm) (e:Int) (r:List Int):Fm:=⟨f.p,f.a,f.d++[e],r⟩
def stp(M:List (List Int)) (s:Sw):Sw:=match s.st with
 | []=>s
 |f::fs=>match f.r with
  |e::r=>if plc M (-e)∈s.ks then ⟨f.tell e r::fs,s.cl,s.cb,s.th++[("side", e)]⟩
   else ⟨⟨plc M (-e),[-e],[],frm M (-e)⟩::f.tell e r::fs,s.cl,s.cb++[(plc M (-e), -e)],s.th++[("down", e)]⟩
  | []=>match f.a,fs with
   | [x],g::gs=>⟨g::gs,f.p::s.cl,s.cb,s.th++[("up", x)]⟩
   |_,_=>s
def run(M:List (List Int)):Nat->Sw
 |0=>⟨[⟨0,[],[],M.getD 0 []⟩],[],[],[]⟩
 |n+1=>stp M (run M n)
def Fm.c(f:Fm):List Int:=f.a++f.d++f.r
structure Ld (M:List (List Int)) (f:Fm):Prop where
 lt:f.p<M.length
 pm:f.c.Perm (M.getD f.p [])
 cy:∀q∈cp f.c,nx M q.1=q.2
def S5:List Fm->Prop
 | []=>False
 | [f]=>f.a=[]/\f.p=0
 |f::g::fs=>(∃x d,f.a=[x]/\g.d=d++[-x])/\S5 (g::fs)
structure Wi (M:List (List Int)) (s:Sw):Prop where
 ch:S5 s.st
 ok:∀f∈s.st,Ld M f
 nd:(s.st.map (·.p)++s.cl).Nodup
 ck:∀t,t∈s.ks↔t∈s.st.map (·.p)++s.cl
 cv:∀f∈s.st,∀x,f.a=[x]->(f.p,x)∈s.cb
 kn:s.ks.Nodup
 lc:∀p∈s.cl,p<M.length
 tl:(s.th.map (·.2)).Perm (s.st.flatMap (·.d)++s.cl.flatMap λp=>M.getD p [])
 out:∀x∈s.th.map (·.2),plc M (-x)∈s.ks
section
variable {M:List (List Int)}{s:Sw}{f:Fm}{fs:List Fm}{x e:Int}
theorem S5.top{g:Fm}:∀{fs:List Fm},S5 (f::fs)->g.a=f.a->g.p=f.p->S5 (g::fs)
 | [],h,ha,hp=>⟨by rw[ha];exact h.1,by rw[hp];exact h.2⟩
 |k::fs,h,ha,hp=>⟨by rw[ha];exact h.1,h.2⟩
theorem row_at(hm:Mp M) (hx:x∈M.flatten):plc M x<M.length/\x∈M.getD (plc M x) []:=by
 obtain⟨r,h1,h2⟩:=hm.at hx;refine⟨(gSq.mp h1).1,?_⟩;rw[gDq,h1];exact h2
theorem IB(hm:Mp M) (hx:x∈M.flatten):Ld M ⟨plc M x,[x],[],frm M x⟩:=by
 obtain⟨h1,h2⟩:=row_at hm hx;have hr:=pB h1;have key:∀r:List Int,x∈r->∃X Y,r=X++x::Y/\r.drop (r.idxOf x+1)++r.take (r.idxOf x)=Y++X:=λr h=>by
  have lt:=fU h;refine⟨r.take (r.idxOf x),r.drop (r.idxOf x+1),?_,rfl⟩;have e:r[r.idxOf x]=x:=eh lt
  conv=>lhs;rw[←aX (r.idxOf x) r,aB lt,e]
 obtain⟨X,Y,q1,q2⟩:=key _ h2;have ec:(⟨plc M x,[x],[],frm M x⟩:Fm).c=x::Y++X:=by
  show [x]++[]++frm M x=_;unfold frm;rw[q2];rfl
 refine⟨h1,?_,λq hq=>?_⟩
 .rw [ec,q1];exact bb
 .rw [ec]at hq;refine IW hm.hn (Eo hr ?_);rw[q1];have:=dg.mpr hq;rw[E3]at this;exact dg.mp this
theorem Ld.mem(hm:Mp M) (h:Ld M f) (hx:x∈f.c):x∈M.flatten/\plc M x=f.p:=by
 have hr:=pB h.lt;have:=h.pm.mem_iff.mp hx;exact⟨mFq.mpr ⟨_,mGq hr,this⟩,plc_eq hm.hn hr this⟩
theorem NW{r:List Int}(h:f.r=e::r):(f.tell e r).c=f.c:=by
 unfold Fm.tell Fm.c;rw[h];simp
theorem Ld.tell{r:List Int}(h:Ld M f) (hr:f.r=e::r):Ld M (f.tell e r):=⟨h.lt,by rw[NW hr];exact h.pm,by rw[NW hr];exact h.cy⟩
theorem YX(hm:Mp M) (h0:0<M.length):Wi M (run M 0):=by
 have hr:=pB h0;refine⟨⟨rfl,rfl⟩,λf hf=>?_,by simp[run],λt=>?_,λf hf x h=>?_,by simp[run,Sw.ks],λp hp=>(by cases hp),by simp[run],λx hx=>(by cases hx)⟩
 .rw [mSq.mp hf];refine⟨h0,.refl _,λq hq=>IW hm.hn (Eo hr hq)⟩
 .show t∈[0]↔t∈[0]++[];rw[aNq]
 .rw [mSq.mp hf]at h;cases h
theorem JV(hm:Mp M) (h:Wi M s):Wi M (stp M s):=by
 obtain⟨st,cl,cb,th⟩:=s;cases st with
 |nil=>exact h.ch.elim
 |cons f fs =>
  have hf:=h.ok f (ai ..);cases q:f.r with
  |cons e r =>
   have ce:e∈f.c:=by unfold Fm.c;rw[q];simp
   obtain⟨eM,pe⟩:=hf.mem hm ce;have ft:=hf.tell q;have oks:∀g∈f.tell e r::fs,Ld M g:=λg hg=>by
    rcases ah.mp hg with z|z
    .rw [z];exact ft
    .exact h.ok g (mCo _ z)
   have cht:S5 (f.tell e r::fs):=h.ch.top rfl rfl;have tl:(th.map (·.2)++[e]).Perm ((f.tell e r::fs).flatMap (·.d)++cl.flatMap λp=>M.getD p []):=by
    refine(h.tl.append_right [e]).trans ?_;show ((f.d++fs.flatMap (·.d))++_++[e]).Perm (((f.d++[e])++fs.flatMap (·.d))++_);rw[ag,ag,ag,ag];refine aW.append_left _ ?_;rw[←ag];exact bb
   by_cases c:plc M (-e)∈(⟨f::fs,cl,cb,th⟩:Sw).ks
   .have es:stp M ⟨f::fs,cl,cb,th⟩=⟨f.tell e r::fs,cl,cb,th++[("side", e)]⟩:=by
     unfold stp;simp only[q];rw[oq c]
    rw[es];refine⟨cht,oks,h.nd,h.ck,λg hg x hx=>?_,h.kn,h.lc,by rw[mBq];exact tl,λx hx=>?_⟩
    .rcases ah.mp hg with z|z
     .rw [z]at hx ⊢;exact h.cv f (ai ..) x hx
     .exact h.cv g (mCo _ z) x hx
    .rw [mBq]at hx;rcases mAq.mp hx with z|z
     .exact h.out x z
     .rw [mSq.mp z];exact c
   .have es:stp M ⟨f::fs,cl,cb,th⟩=⟨⟨plc M (-e),[-e],[],frm M (-e)⟩::f.tell e r::fs,cl,cb++[(plc M (-e), -e)],th++[("down", e)]⟩:=by
     unfold stp;simp only[q];rw[oz c]
    rw[es];have c2:plc M (-e)∉(f::fs).map (·.p)++cl:=λz=>c ((h.ck _).mpr z)
    have ek:(⟨⟨plc M (-e),[-e],[],frm M (-e)⟩::f.tell e r::fs,cl,cb++[(plc M (-e), -e)],th++[("down", e)]⟩:Sw).ks=(⟨f::fs,cl,cb,th⟩:Sw).ks++[plc M (-e)]:=by
     unfold Sw.ks;rw[mBq];rfl
    refine⟨⟨⟨-e,f.d,rfl,by rw[fq];rfl⟩,cht⟩,λg hg=>?_,ax.mpr ⟨c2,h.nd⟩,λt=>?_,λg hg x hx=>?_,?_,h.lc,by rw[mBq];exact tl,λx hx=>?_⟩
    .rcases ah.mp hg with z|z
     .rw [z];exact IB hm (hm.hneg e eM)
     .exact oks g z
    .rw [ek,mAq,mSq,h.ck];show _↔t∈plc M (-e)::((f::fs).map (·.p)++cl);rw[ah];exact Or.comm
    .rcases ah.mp hg with z|z
     .rw [z]at hx ⊢;cases hx;exact ar _ (mSq.mpr rfl)
     .refine aD _ ?_;rcases ah.mp z with w|w
      .rw [w]at hx ⊢;exact h.cv f (ai ..) x hx
      .exact h.cv g (mCo _ w) x hx
    .rw [ek];exact nAq.mpr ⟨h.kn,by simp,λa ha b hb z=>c (by rw[mSq.mp hb]at z;exact z ▸ ha)⟩
    .rw [ek];rw[mBq]at hx;rcases mAq.mp hx with z|z
     .exact aD _ (h.out x z)
     .rw [mSq.mp z];exact ar _ (mSq.mpr rfl)
  |nil =>
   cases fs with
   |nil =>
    have:stp M ⟨[f],cl,cb,th⟩=⟨[f],cl,cb,th⟩:=by
     have ha:f.a=[]:=h.ch.1;unfold stp;simp only[q,ha]
    rw[this];exact h
   |cons g gs =>
    obtain⟨⟨x,d,ea,ed⟩,ch⟩:=h.ch;have es:stp M ⟨f::g::gs,cl,cb,th⟩=⟨g::gs,f.p::cl,cb,th++[("up", x)]⟩:=by
     unfold stp;simp only[q,ea]
    rw[es];have pm:((f::g::gs).map (·.p)++cl).Perm ((g::gs).map (·.p)++f.p::cl):=List.perm_middle.symm;have hg:=h.ok g (by simp)
    refine⟨ch,λk hk=>h.ok k (mCo _ hk),pm.nodup_iff.mp h.nd,λt=>(h.ck t).trans pm.mem_iff,λk hk=>h.cv k (mCo _ hk),h.kn,λp hp=>?_,?_,λy hy=>?_⟩
    .rcases ah.mp hp with z|z
     .rw [z];exact hf.lt
     .exact h.lc p z
    .rw [mBq];refine(h.tl.append_right [x]).trans ?_;have row:(f.d++[x]).Perm (M.getD f.p []):=by
      refine bb.trans ?_;have:=hf.pm;unfold Fm.c at this;rw[ea,q,aNq]at this;exact this
     show ((f.d++(g::gs).flatMap (·.d))++cl.flatMap (λp=>M.getD p [])++[x]).Perm ((g::gs).flatMap (·.d)++(M.getD f.p []++cl.flatMap λp=>M.getD p []))
     generalize (g::gs).flatMap (·.d)=A;generalize (cl.flatMap λp=>M.getD p [])=B
     refine aW.trans ?_ (aW.append_left A (aW.append_right B row));rw[ag,ag,←ag A B];refine(fT f.d (A++B) [x]).trans ?_;rw[ag];exact aW.append_left A bb
    .rw [mBq]at hy;rcases mAq.mp hy with z|z
     .exact h.out y z
     .rw [mSq.mp z];have:-x∈g.c:=by unfold Fm.c;rw[ed];simp
      refine(h.ck _).mpr ?_;rw[(hg.mem hm this).2];simp
theorem tq(hm:Mp M) (h0:0<M.length):∀n,Wi M (run M n)
 |0=>YX hm h0
 |n+1=>JV hm (tq hm h0 n)
def Fin(s:Sw):Prop:=∃f,s.st=[f]/\f.r=[]
theorem PX{P:List Nat}(nd:P.Nodup) (lt:∀p∈P,p<M.length):∃Q:List Nat,P.Perm Q/\(Q.flatMap λp=>M.getD p []).Sublist M.flatten:=by
 refine⟨(bK M.length).filter λk=>decide (k∈P),(bI nd (fo.filter _)).mpr λk=>?_,?_⟩
 .rw [bV,dN,decide_eq_true_iff];exact⟨λh=>⟨lt k h,h⟩,λh=>h.2⟩
 .rw [ip];have:=K17.FH ((fR (p:=λk=>decide (k∈P)) (l:=bK M.length)).map λk=>M.getD k [])
  rwa [uN]at this
theorem Ic(st:List Fm):(st.flatMap Fm.c).Perm (st.flatMap (·.d)++st.flatMap λf=>f.a++f.r):=by
 induction st with
 |nil=>exact .refl _
 |cons f fs ih =>
  show (f.a++f.d++f.r++fs.flatMap Fm.c).Perm ((f.d++fs.flatMap (·.d))++((f.a++f.r)++fs.flatMap λf=>f.a++f.r))
  refine(aW.append_left _ ih).trans ?_;generalize fs.flatMap (·.d)=A;generalize (fs.flatMap λf=>f.a++f.r)=B
  rw[cW];intro z;simp only[cAq];lia
theorem Wi.full(h:Wi M s):∃F:List Int,F.Sublist M.flatten/\(s.th.map (·.2)++s.st.flatMap λf=>f.a++f.r).Perm F:=by
 have lt:∀p∈s.st.map (·.p)++s.cl,p<M.length:=λp hp=>by
  rcases mAq.mp hp with z|z
  .obtain ⟨f,hf,rfl⟩:=mMq.mp z;exact(h.ok f hf).lt
  .exact h.lc p z
 obtain⟨Q,pq,sub⟩:=PX h.nd lt;refine⟨_,sub,?_⟩;have rows:∀st:List Fm,(∀f∈st,Ld M f)->(st.flatMap Fm.c).Perm ((st.map (·.p)).flatMap λp=>M.getD p []):=λst=>by
  induction st with
  |nil=>intro _;exact .refl _
  |cons f fs ih =>
   intro ok;exact aW.append (ok f (ai ..)).pm (ih λg hg=>ok g (mCo _ hg))
 have p1:=(Ic s.st).symm.trans (rows s.st h.ok);have p2:((s.st.map (·.p)++s.cl).flatMap λp=>M.getD p []).Perm (Q.flatMap λp=>M.getD p []):=aW.flatMap_right _ pq
 refine aW.trans ?_ p2;rw[gS];refine aW.trans ?_ (aW.append_right _ p1);refine(aW.append_right _ h.tl).trans ?_;rw[ag,ag];exact aW.append_left _ bb
theorem Wi.less(h:Wi M s) (nf:¬ Fin s):s.th.length<M.flatten.length:=by
 obtain⟨F,sub,pm⟩:=h.full;have l1:=sub.length_le;have l2:=pm.length_eq;rw[lAq,lMq]at l2
 suffices (s.st.flatMap λf=>f.a++f.r)≠[] by
  have:=cX.mpr this;lia
 intro q;have em:∀f∈s.st,f.a++f.r=[]:=List.flatMap_eq_nil_iff.mp q;have hch:=h.ch
 match e:s.st,hch with
 | [f],_=>exact nf ⟨f,e,(dv.mp (em f (by rw[e];simp))).2⟩
 |f::g::fs,hc =>
  obtain⟨⟨x,d,ea,_⟩,_⟩:=hc;have:=em f (by rw[e];simp)
  rw[ea]at this;cases this
theorem Wi.whole(hm:Mp M) (h:Wi M s) (fin:Fin s) (one:∀k,k<M.length->tW M 0 k):s.th.length=M.flatten.length/\s.ks.length=M.length/\(s.th.map (·.2)).Perm M.flatten:=by
 obtain⟨f,e,er⟩:=fin;have hch:=h.ch;rw[e]at hch;have hf:=h.ok f (by rw[e];simp)
 have told:∀k∈s.ks,∀x∈M.getD k [],x∈s.th.map (·.2):=λk hk x hx=>by
  rw[h.ck,e]at hk;refine h.tl.mem_iff.mpr ?_;rcases mAq.mp hk with z|z
  .have z:=mSq.mp z;rw[z]at hx;have:=hf.pm.mem_iff.mpr hx;unfold Fm.c at this;rw[hch.1,er,aNq]at this;refine aD _ ?_;rw[e];exact aD _ this
  .exact ar _ (bY.mpr ⟨k,z,hx⟩)
 have all:∀k,tW M 0 k->k∈s.ks:=λk hk=>by
  induction hk with
  |base=>exact ai ..
  | @step k r x _ hr hx ih =>
   refine h.out x (told k ih x ?_);rw[gDq,hr];exact hx
 have kp:s.ks.Perm (bK M.length):=(bI h.kn fo).mpr λk=>by
  rw[dN];refine⟨λhk=>?_,λhk=>all k (one k hk)⟩
  rcases mAq.mp ((h.ck k).mp hk) with z|z
  .obtain ⟨g,hg,rfl⟩:=mMq.mp z;exact(h.ok g hg).lt
  .exact h.lc k z
 have pmk:(s.st.map (·.p)++s.cl).Perm s.ks:=(bI h.nd h.kn).mpr λk=>(h.ck k).symm
 have tp:(s.th.map (·.2)).Perm M.flatten:=by
  refine h.tl.trans ?_;have e1:s.st.flatMap (·.d)=f.c:=by
   rw[e];show f.d++[]=f.a++f.d++f.r;rw[hch.1,er];rfl
  rw[e1];refine(aW.append_right _ hf.pm).trans ?_;have:(M.getD f.p []++s.cl.flatMap λp=>M.getD p [])=(s.st.map (·.p)++s.cl).flatMap λp=>M.getD p []:=by
   rw[e];rfl
  rw[this];refine(aW.flatMap_right _ (pmk.trans kp)).trans ?_;rw[ip,uN]
 refine⟨?_,?_,tp⟩
 .have:=tp.length_eq
  rwa [lMq]at this
 .have:=kp.length_eq
  rwa [cP]at this
end
end K52
namespace K52
open PySem L2 Mr Z Xe Zl
open K15 (nx CG)
open K18 (pp cp PC Cs FU E3 IW Eo)
open K43 (De pB)
open K51 (tW ur)
def Sw.cur(s:Sw):Int:=match s.st with
 | []=>0
 |f::_=>(f.r++f.a).headD 0
section
variable {M:List (List Int)}{s:Sw}{f:Fm}{fs:List Fm}{x e:Int}
theorem Ld.nxt(h:Ld M f) {L:List Int}{y:Int}(hy:f.a++f.d=L++[y]) (ne:f.r++f.a≠[]):nx M y=(f.r++f.a).headD 0:=by
 have ec:f.c=L++[y]++f.r:=by unfold Fm.c;rw[hy]
 cases q:f.r with
 |nil =>
  rw[q,bQ]at ne;rw[q,aNq]at ec;obtain⟨z,l,ez⟩:=K18.BF ne;have hc:f.c=z::(l++f.d++f.r):=by unfold Fm.c;rw[ez];simp
  have:=h.cy (y,z) (by rw[FU ec hc];simp)
  rw[ez];exact this
 |cons z r =>
  rw[q]at ec;have:f.c≠[]:=by rw[ec];simp
  obtain⟨w,l,ew⟩:=K18.BF this;have e1:cp f.c=pp (f.c++[w]):=by rw[ew];rfl
  have e2:f.c++[w]=L++y::z::(r++[w]):=by rw[ec];simp
  exact h.cy (y,z) (by rw[e1,e2,Cs];simp)
def Bn(s:Sw):List (oD×D):=(.inl 0,.non)::s.cb.map λp=>(.inl (p.1:Int),.int p.2)
theorem Bu(kn:s.ks.Nodup) {p:Nat}(h:(p,x)∈s.cb):Z.getD (Bn s) (.inl (p:Int))=some (.int x):=by
 have key:∀cb:List (Nat×Int),(cb.map (·.1)).Nodup->(p,x)∈cb->Z.getD (cb.map λp=>((.inl (p.1:Int):oD),D.int p.2)) (.inl (p:Int))=some (.int x):=λcb=>by
  induction cb with
  |nil=>intro _ h;cases h
  |cons c cb ih =>
   intro nd h;rw[au]at nd;obtain⟨n1,n2⟩:=ax.mp nd;unfold Z.getD;rw[au,cj];rcases ah.mp h with z|z
   .subst z;rw[decide_eq_true rfl];rfl
   .have ne:¬ ((aO (c.1:Int):oD) = .inl (p:Int)):=λq=>n1 (by
     have:c.1=p:=by have:=aO.inj q;lia
     rw[this];exact mMq.mpr ⟨_,z,rfl⟩)
    rw[decide_eq_false ne];exact ih n2 z
 obtain⟨n1,n2⟩:=ax.mp kn;have p0:¬ ((aO 0:oD) = .inl (p:Int)):=λq=>n1 (by
  have:p=0:=by have:=aO.inj q;lia
  rw[←this];exact mMq.mpr ⟨_,h,rfl⟩)
 have:=key s.cb n2 h;unfold Z.getD Bn at *;rw[cj,decide_eq_false p0];exact this
theorem JT(s:Sw) (t:Nat):(Z.getD (Bn s) (.inl (t:Int))).isSome=decide (t∈s.ks):=by
 unfold Z.getD;rw[cm,bW,eS,decide_eq_true_iff];constructor
 .rintro ⟨q,hq,h⟩;have h:q.1=(aO (t:Int):oD):=of_decide_eq_true h;rcases ah.mp hq with z|z
  .rw [z]at h;have:t=0:=by have:=aO.inj h;lia
   rw[this];exact ai ..
  .obtain ⟨c,hc,rfl⟩:=mMq.mp z;have:c.1=t:=by have:=aO.inj h;lia
   exact mCo _ (mMq.mpr ⟨c,hc,this⟩)
 .intro h;rcases ah.mp h with z|z
  .exact ⟨_,ai ..,decide_eq_true (by rw[z];rfl)⟩
  .obtain ⟨c,hc,rfl⟩:=mMq.mp z;exact⟨_,mCo _ (mMq.mpr ⟨c,hc,rfl⟩),decide_eq_true rfl⟩
theorem Wi.ahead(h:Wi M s) {f:Fm}(hf:f∈s.st) {y:Int}(hy:y∈f.a++f.r) (hn:M.flatten.Nodup):y∉s.th.map (·.2):=by
 obtain⟨F,sub,pm⟩:=h.full;have nd:=pm.nodup_iff.mpr (hn.sublist sub);exact λq=>(nAq.mp nd).2.2 y q y (bY.mpr ⟨f,hf,hy⟩) rfl
def Sw.way(s:Sw):List Int:=(s.st.flatMap (·.a)).reverse
inductive Go (M:List (List Int)) (s t:Sw):Prop
 |up:t.th=s.th++[("up", s.cur)]->t.cb=s.cb->Z.getD (Bn s) (.inl (plc M s.cur:Int))=some (.int s.cur)->s.way=t.way++[s.cur]->(¬ Fin t->t.cur=nx M (-s.cur))->Go M s t
 |down:t.th=s.th++[("down", s.cur)]->t.cb=s.cb++[(plc M (-s.cur), -s.cur)]->plc M (-s.cur)∉s.ks->(∃v,Z.getD (Bn s) (.inl (plc M s.cur:Int))=some v/\HQ (.int s.cur) v=some (.bl false))->t.way=s.way++[-s.cur]->(∀w y,s.way=w++[y]->y≠s.cur)->t.cur=nx M (-s.cur)->Go M s t
 |side:t.th=s.th++[("side", s.cur)]->t.cb=s.cb->plc M (-s.cur)∈s.ks->(∃v,Z.getD (Bn s) (.inl (plc M s.cur:Int))=some v/\HQ (.int s.cur) v=some (.bl false))->t.way=s.way->(∀w y,s.way=w++[y]->y≠s.cur)->(¬ Fin t->t.cur=nx M s.cur)->Go M s t
theorem Jo(hm:Mp M) (h:Wi M s) (nf:¬ Fin s):s.cur∈M.flatten/\s.cur∉s.th.map (·.2)/\Go M s (stp M s):=by
 have h':=JV hm h;obtain⟨st,cl,cb,th⟩:=s;cases st with
 |nil=>exact h.ch.elim
 |cons f fs =>
  have hf:=h.ok f (ai ..);have nda:f.c.Nodup:=hf.pm.nodup_iff.mpr (hm.hn.sublist (aU (mGq (pB hf.lt))));have aone:f.a=[]/\f.p=0/\fs=[]∨∃x,f.a=[x]/\(f.p,x)∈cb:=by
   cases fs with
   |nil=>exact .inl ⟨h.ch.1,h.ch.2,rfl⟩
   |cons g gs =>
    obtain⟨⟨x,d,ea,_⟩,_⟩:=h.ch;exact .inr ⟨x,ea,h.cv f (ai ..) x ea⟩
  cases q:f.r with
  |cons e r =>
   have ec:(⟨f::fs,cl,cb,th⟩:Sw).cur=e:=by show (f.r++f.a).headD 0=e;rw[q];rfl
   have ce:e∈f.c:=by unfold Fm.c;rw[q];simp
   obtain⟨eM,pe⟩:=hf.mem hm ce;have et:=h.ahead (ai ..) (y:=e) (by rw[q];simp) hm.hn
   have ft:=hf.tell q;have val:∃v,Z.getD (Bn ⟨f::fs,cl,cb,th⟩) (.inl (plc M e:Int))=some v/\HQ (.int e) v=some (.bl false):=by
    rw[pe];rcases aone with ⟨_,z,_⟩|⟨x,ea,hx⟩
    .rw [z];exact⟨.non,rfl,rfl⟩
    .refine ⟨.int x,Bu h.kn hx,?_⟩;have:e≠x:=λw=>by
      unfold Fm.c at nda;rw[ea,q]at nda;exact(ax.mp nda).1 (by rw[←w];simp)
     rw[Ft,decide_eq_false this]
   have wy:∀w y,(⟨f::fs,cl,cb,th⟩:Sw).way=w++[y]->y≠e:=λw y ew z=>by
    have e2:(⟨f::fs,cl,cb,th⟩:Sw).way=(fs.flatMap (·.a)).reverse++f.a.reverse:=by
     show (f.a++fs.flatMap (·.a)).reverse=_;rw[cT]
    rw[e2]at ew;rcases aone with ⟨z1,_,z2⟩|⟨x,ea,_⟩
    .rw [z1,z2]at ew;have:=congrArg bo ew;simp at this
    .rw [ea]at ew;have:=(List.append_inj' ew rfl).2;have:x=y:=by simpa using this
     unfold Fm.c at nda;rw[ea,q]at nda;exact(ax.mp nda).1 (by rw[this,z];simp)
   rw[ec];refine⟨eM,et,?_⟩
   by_cases c:plc M (-e)∈(⟨f::fs,cl,cb,th⟩:Sw).ks
   .have es:stp M ⟨f::fs,cl,cb,th⟩=⟨f.tell e r::fs,cl,cb,th++[("side", e)]⟩:=by
     unfold stp;simp only[q];rw[oq c]
    rw[es];refine .side (by rw[ec]) rfl (by rw[ec];exact c) (by rw[ec];exact val) rfl (by rw[ec];exact wy) λnf2=>?_
    rw[ec];refine(ft.nxt (L:=f.a++f.d) (y:=e) (by show f.a++(f.d++[e])=_;rw[ag]) λz=>nf2 ?_).symm
    have z2:=dv.mp z;rcases aone with ⟨_,_,z3⟩|⟨x,ea,_⟩
    .exact ⟨f.tell e r,by rw[z3],z2.1⟩
    .have z3:f.a=[]:=z2.2;rw[ea]at z3;cases z3
   .have es:stp M ⟨f::fs,cl,cb,th⟩=⟨⟨plc M (-e),[-e],[],frm M (-e)⟩::f.tell e r::fs,cl,cb++[(plc M (-e), -e)],th++[("down", e)]⟩:=by
     unfold stp;simp only[q];rw[oz c]
    rw[es];refine .down (by rw[ec]) (by rw[ec]) (by rw[ec];exact c) (by rw[ec];exact val) ?_ (by rw[ec];exact wy) ?_
    .rw [ec];show ([-e]++(f.a++fs.flatMap (·.a))).reverse=(f.a++fs.flatMap (·.a)).reverse++[-e];rw[cT];rfl
    .rw [ec];exact((IB hm (hm.hneg e eM)).nxt (L:=[]) (y:=-e) rfl (by simp)).symm
  |nil =>
   cases fs with
   |nil=>exact absurd ⟨f,rfl,q⟩ nf
   |cons g gs =>
    obtain⟨⟨x,d,ea,ed⟩,ch⟩:=h.ch;have ec:(⟨f::g::gs,cl,cb,th⟩:Sw).cur=x:=by show (f.r++f.a).headD 0=x;rw[q,ea];rfl
    have cx:x∈f.c:=by unfold Fm.c;rw[ea];simp
    obtain⟨xM,px⟩:=hf.mem hm cx;have xt:=h.ahead (ai ..) (y:=x) (by rw[ea];simp) hm.hn
    have es:stp M ⟨f::g::gs,cl,cb,th⟩=⟨g::gs,f.p::cl,cb,th++[("up", x)]⟩:=by
     unfold stp;simp only[q,ea]
    rw[ec,es];refine⟨xM,xt,.up (by rw[ec]) rfl ?_ ?_ λnf2=>?_⟩
    .rw [ec,px];exact Bu h.kn (h.cv f (ai ..) x ea)
    .rw [ec];show (f.a++(g::gs).flatMap (·.a)).reverse=((g::gs).flatMap (·.a)).reverse++[x];rw[ea,cT];rfl
    .rw [ec];refine((h.ok g (by simp)).nxt (L:=g.a++d) (y:=-x) (by rw[ed,ag]) λz=>nf2 ?_).symm
     have z2:=dv.mp z;cases gs with
     |nil=>exact⟨g,rfl,z2.1⟩
     |cons k ks =>
      obtain⟨⟨y,_,ey,_⟩,_⟩:=ch;exact absurd z2.2 (by rw[ey];simp)
theorem sS(hm:Mp M) (h0:0<M.length) (one:∀k,k<M.length->tW M 0 k):∀n,n<=M.flatten.length->(run M n).th.length=n
 |0,_=>rfl
 |n+1,h=>by
  have ih:=sS hm h0 one n (by lia)
  have w:=tq hm h0 n;have nf:¬ Fin (run M n):=λf=>by
   have:=(w.whole hm f one).1;lia
  have e:(run M (n+1)).th.length=(run M n).th.length+1:=by
   rcases (Jo hm w nf).2.2 with ⟨a,_⟩|⟨a,_⟩|⟨a,_⟩
   all_goals
    show (stp M (run M n)).th.length=_;rw[a,lAq];rfl
  lia
theorem Ca(hm:Mp M) (h0:0<M.length) (one:∀k,k<M.length->tW M 0 k) {n:Nat}(h:n<M.flatten.length):(run M n).cur∈M.flatten/\(run M n).cur∉(run M n).th.map (·.2)/\Go M (run M n) (run M (n+1))/\¬ Fin (run M n):=by
 have w:=tq hm h0 n;have nf:¬ Fin (run M n):=λf=>by
  have:=(w.whole hm f one).1;have:=sS hm h0 one n (by lia)
  lia
 obtain⟨a,b,c⟩:=Jo hm w nf;exact⟨a,b,c,nf⟩
theorem yo(hm:Mp M) (h0:0<M.length) (one:∀k,k<M.length->tW M 0 k):Fin (run M M.flatten.length):=gg λnf=>by
 have:=(tq hm h0 M.flatten.length).less nf;have:=sS hm h0 one M.flatten.length (ae _);lia
def MV(M:List (List Int)) (s:Sw) (e:Int) (v6:Option AV):AS:=[some (.sh (dM M)),some (.owd (pL 0 M)),some (.owd (K51.Fb (K51.rO M))),some (.owd (Bn s)),some (.ow (s.th.map ur)),some (.sh (.int e)),v6]
def YC(N:Nat):AS->Nat
 | [_,_,_,_,some (.ow ts),_,_]=>N-ts.length
 |_=>0
theorem Qq{p:Nat}(h:p∉s.ks) (v:Int):xj (Bn s) (.inl (p:Int)) (.int v)=Bn ⟨s.st,s.cl,s.cb++[(p,v)],s.th⟩:=by
 unfold xj;have:(Bn s).any (λkv=>decide (kv.1=(aO (p:Int):oD)))=false:=by
  rw[hV];intro q;refine h (decide_eq_true_iff.mp ?_);rw[←JT s p];unfold Z.getD;rw[cm,eS];obtain⟨x,h1,h2⟩:=fk.mp q;exact⟨x,h1,h2⟩
 rw[this,oz (by simp)]
 unfold Bn;rw[mBq];rfl
theorem Qb(hm:Mp M) {t:Sw}(hc:s.cur∈M.flatten) (g:Go M s t) (hl:s.th.length<=1000) (hk:s.cb.length<=1000) {v6:Option AV}:∃e v6',K51.ux (MV M s s.cur v6)=some (.nx (MV M t e v6'))/\(¬ Fin t->e=t.cur):=by
 have k1:Z.getD (pL 0 M) (.inl s.cur)=some (.int (plc M s.cur:Int)):=(De hm).kv hc;have k2:Z.getD (pL 0 M) (.inl (-s.cur))=some (.int (plc M (-s.cur):Int)):=(De hm).kv (hm.hneg _ hc);have n1:=CG hm.hn hc;have n2:=CG hm.hn (hm.hneg _ hc);have hs:=JT s (plc M (-s.cur));have l1:(s.th.map ur).length<qW:=by rw[lMq];show _<16777216;lia
 have l1':s.th.length<qW:=by show _<16777216;lia
 have l2:(Bn s).length<qW:=by
  show (s.cb.map _).length+1<16777216;rw[lMq];lia
 have ap:∀w:String,s.th.map ur++[.sh (.tup [.str w,.int s.cur])]=(s.th++[(w,s.cur)]).map ur:=λw=>by rw[mBq];rfl
 rcases g with ⟨a,b,c,_,d⟩|⟨a,b,c,⟨v,v1,v2⟩,_,_,d⟩|⟨a,b,c,⟨v,v1,v2⟩,_,_,d⟩
 .refine ⟨nx M (-s.cur),some (.sh (.int (plc M (-s.cur):Int))),?_,λnf=>(d nf).symm⟩
  have ed:Bn t=Bn s:=by unfold Bn;rw[b]
  have dq:decide (s.cur=s.cur)=true:=decide_eq_true rfl;have ap:=ap "up";unfold MV;rw[ed,a]
  simp_arith [K51.ux,k1,k2,c,dq,l1,l1',ap,n2]
 .refine ⟨nx M (-s.cur),some (.sh (.int (plc M (-s.cur):Int))),?_,λnf=>d.symm⟩
  rw[decide_eq_false c]at hs;have ed:=Qq c (-s.cur);have ed2:Bn t=Bn ⟨s.st,s.cl,s.cb++[(plc M (-s.cur), -s.cur)],s.th⟩:=by unfold Bn;rw[b]
  have ap:=ap "down";unfold MV;rw[ed2,a,←ed]
  simp_arith [K51.ux,k1,k2,v1,v2,hs,l1,l1',l2,ap,n2]
 .refine ⟨nx M s.cur,some (.sh (.int (plc M (-s.cur):Int))),?_,λnf=>(d nf).symm⟩
  rw[decide_eq_true c]at hs;have ed:Bn t=Bn s:=by unfold Bn;rw[b]
  have ap:=ap "side";unfold MV;rw[ed,a]
  simp_arith [K51.ux,k1,k2,v1,v2,hs,l1,l1',l2,ap,n1]
theorem IE(hm:Mp M) (h:Wi M s):s.cb.length<=M.length:=by
 have:=K51.Pf M.length s.ks h.kn λk hk=>by
  rcases mAq.mp ((h.ck k).mp hk) with z|z
  .obtain ⟨g,hg,rfl⟩:=mMq.mp z;exact(h.ok g hg).lt
  .exact h.lc k z
 unfold Sw.ks at this;rw[lCq,lMq]at this;lia
theorem walk_ok(hm:Mp M) (h0:0<M.length) (one:∀k,k<M.length->tW M 0 k):K51.uH [dM M]=some (.ok (.ow ((run M M.flatten.length).th.map ur))):=by
 obtain⟨kn,PS,hp,er⟩:=K51.Kj (De hm);rw[oq (K51.Ku hp h0 λa b ha hb=>((one a ha).symm (De hm)).trans (one b hb))]at er
 have hr:=pB h0;have a0:atI (M.map dI) 0=some (dI (M.getD 0 [])):=uo (j:=0) (by rw[gMq,hr];rfl)
 have hl:=hm.hl;have hv:=hm.hr;cases q:M.getD 0 [] with
 |nil =>
  rw[q]at a0 hr;have only:∀k,tW M 0 k->k=0:=λk hk=>by
   induction hk with
   |base=>rfl
   |step _ a b ih =>
    rw[ih,hr]at a;cases a;cases b
  have l1:M.length=1:=by
   have:=only (M.length-1) (one _ (by lia))
   lia
  have em:M=[[]]:=by
   match M,l1,hr with
   | [r],_,hr=>simp at hr;rw[hr]
  have e0:(run M M.flatten.length).th=[]:=by rw[em];rfl
  rw[e0];have d0:decide (((0:Nat):Int)=0)=true:=rfl;have a1:atI (M.map dI) 0=some (.list []):=a0
  simp_arith [K51.uH,K51.Bs,er,dM,a1,d0]
 |cons e0 r0 =>
  rw[q]at a0;have a1:atI (D.int e0::r0.map D.int) 0=some (.int e0):=uo (j:=0) rfl;have pa:=wx hm.hn (by lia)
  have nxo:=K51.Nw hm.hn hm.hl;have ln:(K51.Fb (K51.rO M)).length=M.flatten.length:=by rw[K51.IV,K51.DX]
  have d0:decide (((r0.length+1:Nat):Int)=0)=false:=decide_eq_false (by lia)
  have c0:(run M 0).cur=e0:=by
   show (M.getD 0 []++[]).headD 0=e0;rw[q];rfl
  have key:=xE (c:=tU (oU Fw (wg rL (nU (nI 4) oI)) (wg FQ (nU (nI 2) oI)))) (body:=K51.ux) (λS=>∃i e v6,i<=M.flatten.length/\S=MV M (run M i) e v6/\(i<M.flatten.length->e=(run M i).cur)) (YC M.flatten.length) (λS=>∃e v6,S=MV M (run M M.flatten.length) e v6) (by
   rintro S ⟨i,e,v6,hi,rfl,he⟩;have li:=sS hm h0 one i hi;have w:=tq hm h0 i;have lk:=IE hm w;refine⟨decide (i<M.flatten.length),MV M (run M i) e v6,?_,λlt=>?_,λge=>?_⟩
   .have lm:((run M i).th.map ur).length=i:=by rw[lMq,li]
    have dc:decide ((i:Int)<(M.flatten.length:Int))=decide (i<M.flatten.length):=decide_eq_decide.mpr (by lia)
    unfold MV
    simp_arith [li,ln,dc]
   .have lt:i<M.flatten.length:=of_decide_eq_true lt;obtain⟨g1,g2,g3,g4⟩:=Ca hm h0 one lt;obtain⟨e',v6',w1,w2⟩:=Qb hm g1 g3 (by lia) (by lia) (v6:=v6)
    rw[he lt];refine⟨_,w1,⟨i+1,e',v6',by lia,rfl,λh=>w2 (Ca hm h0 one h).2.2.2⟩,?_⟩
    have l2:=sS hm h0 one (i+1) (by lia)
    show M.flatten.length-((run M (i+1)).th.map ur).length<M.flatten.length-((run M i).th.map ur).length;rw[lMq,lMq,l2,li];lia
   .have:i=M.flatten.length:=by
     have:=of_decide_eq_false ge;lia
    subst this;exact⟨e,v6,rfl⟩) 100000 (MV M (run M 0) e0 none) ⟨0,e0,none,by lia,rfl,λ_=>c0.symm⟩ (by
   show M.flatten.length-_<100000;lia)
  obtain⟨S',ew,e,v6,rfl⟩:=key;unfold MV at ew;have t0:(run M 0).th.map ur=[]:=rfl;have b0:Bn (run M 0)=[(.inl 0,.non)]:=rfl;rw[t0,b0]at ew
  simp_arith [K51.uH,K51.Bs,er,dM,a0,dI,a1,d0,pa,nxo,ew]
end
end K52
namespace K53
open PySem L2 Mr Z Xe Zl
open K15 (kI EO Ex EG)
open K43 (De pB)
open K51 (tW ur)
open K52 (Fm Sw Wi run stp Fin frm tq sS yo IE row_at)
def Lf(M:List (List Int)) (f:Fm) (i:Nat):Prop:=∀k y,(f.r++f.a)[k]?=some y->(M.getD f.p [])[(i+k) % (M.getD f.p []).length]?=some y
theorem QY{r:List Int}{m k:Nat}{y:Int}(hm:m<=r.length) (h:(r.drop m++r.take m)[k]?=some y):r[(m+k) % r.length]?=some y:=by
 have hk:k<r.length:=by
  have:=(gSq.mp h).1;rw[lAq,aG,lTq]at this;lia
 by_cases c:k<r.length-m
 .rw [gZq (by rw[aG];exact c),cH]at h
  rw[dU (by lia)]
  exact h
 .rw [gYq (by rw[aG];lia),aG]at h
  have e:m+k=(k-(r.length-m))+r.length:=by lia
  rw[e,Nat.add_mod_right,dU (by lia)]
  have hlt:=(gSq.mp h).1;rw[lTq]at hlt;rw[bD (by lia)]at h
  exact h
section
variable {M:List (List Int)}{s:Sw}{f:Fm}{i:Nat}
theorem Y2:Lf M ⟨0,[],[],M.getD 0 []⟩ 0:=λk y h=>by
 have h:(M.getD 0 [])[k]?=some y:=by simpa using h
 have hk:=(gSq.mp h).1;show (M.getD 0 [])[(0+k) % (M.getD 0 []).length]?=some y;rw[bU,dU hk];exact h
theorem Lf.tell{e:Int}{r:List Int}(h:Lf M f i) (hr:f.r=e::r):Lf M (f.tell e r) (i+1):=λk y hy=>by
 have:=h (k+1) y (by rw[hr];exact hy)
 rw[show i+(k+1)=i+1+k by lia]at this
 exact this
theorem Uy(hm:Mp M) {x:Int}(hx:x∈M.flatten):Lf M ⟨plc M x,[x],[],frm M x⟩ ((M.getD (plc M x) []).idxOf x+1)/\(frm M x).length+1=(M.getD (plc M x) []).length:=by
 obtain⟨_,h2⟩:=row_at hm hx;have lt:=fU h2;have ge:(M.getD (plc M x) [])[(M.getD (plc M x) []).idxOf x]?=some x:=by rw[gEg lt,eh lt]
 constructor
 .intro k y hy;show (M.getD (plc M x) [])[((M.getD (plc M x) []).idxOf x+1+k) % (M.getD (plc M x) []).length]?=some y;refine QY (by lia) ?_
  have et:frm M x++[x]=(M.getD (plc M x) []).drop ((M.getD (plc M x) []).idxOf x+1)++(M.getD (plc M x) []).take ((M.getD (plc M x) []).idxOf x+1):=by
   unfold K52.frm;rw[cw,ge,ag];rfl
  rw[←et];exact hy
 .unfold K52.frm;rw[lAq,aG,lTq];lia
def fA(f:Fm) (i:Nat):AV:=.ow [.sh (.int (f.p:Int)),.sh (.int (i:Int)),.sh (.int (f.r.length:Int))]
def kz(s:Sw):List Int:=s.ks.map λp:Nat=>(p:Int)
def pA(F:List (Fm×Nat)):List AV:=F.reverse.map λx=>fA x.1 x.2
def D5(M:List (List Int)) (s:Sw) (F:List (Fm×Nat)) (v5 v6 v7 v8:Option AV):AS:=[some (.sh (dM M)),some (.owd (pL 0 M)),some (.owd (kI (kz s))),some (.ow (pA F)),some (.ow (s.th.map ur)),v5,v6,v7,v8]
theorem um(f:Fm) (i:Nat) (F:List (Fm×Nat)):pA ((f,i)::F)=pA F++[fA f i]:=by
 unfold pA;rw[cA,mBq];rfl
theorem N5(s:Sw) (p:Nat):(p:Int)∈kz s↔p∈s.ks:=by
 unfold kz;rw[mMq];constructor
 .rintro ⟨q,h,e⟩;have:q=p:=by lia
  exact this ▸ h
 .exact λh=>⟨p,h,rfl⟩
theorem Ql{A:List AV}{x:AV}(hA:A.length<500000):AO (A++[x]).length (-1)=some A.length:=by
 rw[lAq,lSq];exact K12.N0 _
theorem DQ(A L:List AV):ou (.ow (A++[.ow L])) [A.length]=some L:=by
 show ((A++[AV.ow L])[A.length]?).bind _=_;rw[gYq (ae _),bp];rfl
theorem Md(A L L':List AV):putAt (.ow (A++[.ow L])) [A.length] L' = .ow (A++[.ow L']):=by
 rw[wq (a:=.ow L) (by rw[gYq (ae _),bp];rfl),gF _ _ (ae _),bp]
 rfl
theorem QF(hm:Mp M) {F:List (Fm×Nat)}(w:Wi M s) (hF:s.st=F.map (·.1)) (hL:∀x∈F,Lf M x.1 x.2) (nf:¬ Fin s) (hl:s.th.length<=1000) {v5 v6 v7 v8:Option AV}:∃F' v5' v6' v7' v8',qM (D5 M s F v5 v6 v7 v8)=some (.nx (D5 M (stp M s) F' v5' v6' v7' v8'))/\(stp M s).st=F'.map (·.1)/\(∀x∈F',Lf M x.1 x.2)/\F'≠[]:=by
 have kl:=IE hm w;have hr1000:=hm.hr;obtain⟨st,cl,cb,th⟩:=s;cases F with
 |nil =>
  have:st=[]:=hF;subst this;exact w.ch.elim
 |cons fi G =>
  obtain⟨f,i⟩:=fi;have e0:st=f::G.map (·.1):=hF;subst e0;have hf:=w.ok f (ai ..);have hLf:Lf M f i:=hL (f,i) (ai ..);have hrow:=pB hf.lt;have a0:atI (M.map dI) (f.p:Int)=some (dI (M.getD f.p [])):=uo (by rw[gMq,hrow];rfl)
  have hl':th.length<=1000:=hl;have kl':cb.length<=M.length:=kl;have nG:(pA G).length<=1000:=by
   have:=K51.Pf M.length ((f::G.map (·.1)).map (·.p)) (nAq.mp w.nd).1 λk hk=>by
    obtain⟨g,hg,rfl⟩:=mMq.mp hk;exact(w.ok g hg).lt
   unfold pA;rw[lMq,cY];rw[lMq,lCq,lMq]at this;lia
  have ix:=Ql (A:=pA G) (x:=fA f i) (by lia)
  have l4:(th.map ur).length<qW:=by rw[lMq];show _<16777216;lia
  have l4':th.length<qW:=by show _<16777216;lia
  have ap:∀(w:String) (e:Int),th.map ur++[.sh (.tup [.str w,.int e])]=(th++[(w,e)]).map ur:=λw e=>by rw[mBq];rfl
  have q58:((5:Nat)≠3/\5<9)=True:=by simp
  have q65:((6:Nat)≠5/\6≠3)=True:=by simp
  have sci:∀n:Int,((D.int n).scal=true)=True:=λn=>eq_true rfl
  have q75:((7:Nat)≠5/\7≠3)=True:=by simp
  have n1:=λL=>DQ (pA G) L
  have p1:=λL L'=>Md (pA G) L L'
  have j0:∀a b c:D,atI [a,b,c] 0=some a:=λ_ _ _=>rfl
  have j1:∀a b c:D,atI [a,b,c] 1=some b:=λ_ _ _=>rfl
  have j2:∀a b c:D,atI [a,b,c] 2=some c:=λ_ _ _=>rfl
  have x1:AO 3 1=some 1:=rfl;have x2:AO 3 2=some 2:=rfl;have u1:∀a b c d:AV,[a,b,c].set 1 d=[a,d,c]:=λ_ _ _ _=>rfl
  have u2:∀a b c d:AV,[a,b,c].set 2 d=[a,b,d]:=λ_ _ _ _=>rfl
  have li:(i:Int)+1=((i+1:Nat):Int):=by lia
  cases q:f.r with
  |cons e r =>
   have ce:e∈f.c:=by unfold K52.Fm.c;rw[q];simp
   obtain⟨eM,pe⟩:=hf.mem hm ce;have k2:Z.getD (pL 0 M) (.inl (-e))=some (.int (plc M (-e):Int)):=(De hm).kv (hm.hneg _ eM);have y0:=hLf 0 e (by rw[q];rfl)
   rw[fM]at y0;have hpos:0<(M.getD f.p []).length:=by
    have:=(gSq.mp y0).1;lia
   have md:=sC (i:=(i:Int)) (j:=((M.getD f.p []).length:Int)) (by lia)
   rw[←iq]at md;have at6:atI ((M.getD f.p []).map D.int) ((i % (M.getD f.p []).length:Nat):Int)=some (.int e):=uo (by rw[gMq,y0];rfl)
   have d0:decide ((f.r.length:Int)=0)=false:=decide_eq_false (by rw[q,lCq];lia)
   have lr:(f.r.length:Int)-1=(r.length:Int):=by rw[q,lCq];lia
   have hs:=EO (kz ⟨f::G.map (·.1),cl,cb,th⟩) (plc M (-e):Int);generalize hrw:M.getD f.p []=row at a0 md at6
   by_cases c:plc M (-e)∈(⟨f::G.map (·.1),cl,cb,th⟩:Sw).ks
   .have es:stp M ⟨f::G.map (·.1),cl,cb,th⟩=⟨f.tell e r::G.map (·.1),cl,cb,th++[("side", e)]⟩:=by
     unfold K52.stp;simp only[q];rw[oq c]
    rw[es];rw[decide_eq_true ((N5 _ _).mpr c)]at hs;have ek:kz ⟨f.tell e r::G.map (·.1),cl,cb,th++[("side", e)]⟩=kz ⟨f::G.map (·.1),cl,cb,th⟩:=rfl;have ap:=ap "side" e;refine⟨(f.tell e r,i+1)::G,none,some (.sh (dI row)),some (.sh (.int e)),some (.sh (.int (plc M (-e):Int))),?_,rfl,λx hx=>?_,by simp⟩
    .unfold D5;rw[um,um,ek];have ef:fA (f.tell e r) (i+1) = .ow [.sh (.int (f.p:Int)),.sh (.int ((i+1:Nat):Int)),.sh (.int (r.length:Int))]:=rfl;rw[ef];unfold fA at ix ⊢
     simp_arith [qM,ix,n1,q58,EA,dM,dI,a0,q65,J3,yB,yw,j0,j1,j2,Jd,d0,Mh,md,at6,sci,true_and,q75,Nk,x1,x2,u1,u2,p1,li,lr,k2,hs,l4,l4',ap]
    .rcases ah.mp hx with z|z
     .rw [z];exact hLf.tell q
     .exact hL x (mCo _ z)
   .have es:stp M ⟨f::G.map (·.1),cl,cb,th⟩=⟨⟨plc M (-e),[-e],[],frm M (-e)⟩::f.tell e r::G.map (·.1),cl,cb++[(plc M (-e), -e)],th++[("down", e)]⟩:=by
     unfold K52.stp;simp only[q];rw[oz c]
    rw[es];rw[decide_eq_false λz=>c ((N5 _ _).mp z)]at hs
    have ek:kz ⟨⟨plc M (-e),[-e],[],frm M (-e)⟩::f.tell e r::G.map (·.1),cl,cb++[(plc M (-e), -e)],th++[("down", e)]⟩=kz ⟨f::G.map (·.1),cl,cb,th⟩++[(plc M (-e):Int)]:=by
     unfold kz K52.Sw.ks;rw[mBq,au,au,mBq];rfl
    have hp:=Ex (ks:=kz ⟨f::G.map (·.1),cl,cb,th⟩) (t:=(plc M (-e):Int)) λz=>c ((N5 _ _).mp z)
    rw[←ek]at hp;have ap:=ap "down" e;obtain⟨ln,lx⟩:=Uy hm (hm.hneg e eM);obtain⟨h1,h2⟩:=row_at hm (hm.hneg e eM);have a8:atI (M.map dI) (plc M (-e):Int)=some (dI (M.getD (plc M (-e)) [])):=uo (by rw[gMq,pB h1];rfl)
    have hx:AF (dI (M.getD (plc M (-e)) [])) [.int (-e)]=some (.int ((M.getD (plc M (-e)) []).idxOf (-e):Nat)):=by
     show (sL ((M.getD (plc M (-e)) []).map D.int)).bind _=_;rw[wR];show (if _ then _ else _)=_
     rw[oq h2]
    have lk:(kI (kz ⟨f::G.map (·.1),cl,cb,th⟩)).length<qW:=by
     rw[EG];unfold kz K52.Sw.ks;rw[lMq,lCq,lMq];show cb.length+1<16777216;lia
    have le1:((M.getD (plc M (-e)) []).length:Int)-1=((frm M (-e)).length:Int):=by lia
    have li2:((M.getD (plc M (-e)) []).idxOf (-e):Int)+1=(((M.getD (plc M (-e)) []).idxOf (-e)+1:Nat):Int):=by lia
    refine⟨(⟨plc M (-e),[-e],[],frm M (-e)⟩,(M.getD (plc M (-e)) []).idxOf (-e)+1)::(f.tell e r,i+1)::G,none,some (.sh (dI row)),some (.sh (.int e)),some (.sh (.int (plc M (-e):Int))),?_,rfl,λx hx=>?_,by simp⟩
    .unfold D5;rw[um,um,um];have ef:fA (f.tell e r) (i+1) = .ow [.sh (.int (f.p:Int)),.sh (.int ((i+1:Nat):Int)),.sh (.int (r.length:Int))]:=rfl;have eg:fA ⟨plc M (-e),[-e],[],frm M (-e)⟩ ((M.getD (plc M (-e)) []).idxOf (-e)+1) = .ow [.sh (.int (plc M (-e):Int)),.sh (.int (((M.getD (plc M (-e)) []).idxOf (-e)+1:Nat):Int)),.sh (.int ((frm M (-e)).length:Int))]:=rfl;have lP:(pA G++[fA (f.tell e r) (i+1)]).length<qW:=by rw[lAq,lSq];show _<16777216;lia
     rw[eg,ef]at *;generalize M.getD (plc M (-e)) []=row2 at a8 hx le1 li2;unfold fA at ix ⊢;unfold dI at hx
     simp_arith [qM,ix,n1,q58,EA,dM,dI,a0,q65,J3,yB,yw,j0,j1,j2,Jd,d0,Mh,md,at6,sci,true_and,q75,Nk,x1,x2,u1,u2,p1,li,lr,k2,hs,l4,l4',ap,lk,hp,a8,hx,le1,li2,lP]
    .rcases ah.mp hx with z|z
     .rw [z];exact ln
     .rcases ah.mp z with z|z
      .rw [z];exact hLf.tell q
      .exact hL x (mCo _ z)
  |nil =>
   cases G with
   |nil=>exact absurd ⟨f,rfl,q⟩ nf
   |cons gj G =>
    obtain⟨⟨x,d,ea,ed⟩,ch⟩:=w.ch;have es:stp M ⟨f::(gj::G).map (·.1),cl,cb,th⟩=⟨(gj::G).map (·.1),f.p::cl,cb,th++[("up", x)]⟩:=by
     unfold K52.stp;simp only[q,ea,au]
    rw[es];have y0:=hLf 0 x (by rw[q,ea];rfl)
    rw[fM]at y0;have hpos:0<(M.getD f.p []).length:=by
     have:=(gSq.mp y0).1;lia
    have md:=sC (i:=(i:Int)) (j:=((M.getD f.p []).length:Int)) (by lia)
    rw[←iq]at md;have at6:atI ((M.getD f.p []).map D.int) ((i % (M.getD f.p []).length:Nat):Int)=some (.int x):=uo (by rw[gMq,y0];rfl)
    have d0:decide ((f.r.length:Int)=0)=true:=decide_eq_true (by rw[q];rfl)
    have ek:kz ⟨(gj::G).map (·.1),f.p::cl,cb,th++[("up", x)]⟩=kz ⟨f::(gj::G).map (·.1),cl,cb,th⟩:=rfl;have ap:=ap "up" x;have nl:∀y:AV,(pA (gj::G)++[y]).length-1=(pA (gj::G)).length:=λy=>by rw[lAq,lSq];rfl
    have gl:∀y:AV,(pA (gj::G)++[y])[(pA (gj::G)).length]?=some y:=λy=>by rw[gYq (ae _),bp];rfl
    have dl:∀y:AV,(pA (gj::G)++[y]).dropLast=pA (gj::G):=λy=>cg
    have tp:Bj (.list ((pA (gj::G)).map nM))=some true:=by
     rw[show gj=(gj.1,gj.2) from rfl,um,mBq]
     cases (pA G).map nM <;> rfl
    have q53:(True/\(5:Nat)≠3/\True)=True:=by simp
    generalize hrw:M.getD f.p []=row at a0 md at6;refine⟨gj::G,some (fA f i),some (.sh (dI row)),v7,v8,?_,rfl,λy hy=>hL y (mCo _ hy),by simp⟩
    unfold D5;rw[um,ek];generalize pA (gj::G)=A at *;unfold fA at ix ⊢
    simp_arith [qM,ix,n1,q58,EA,dM,dI,a0,q65,J3,yB,yw,j0,j1,j2,Jd,d0,LB,nl,gl,dl,q53,tp,md,at6,l4,l4',ap]
theorem PZ{i:Nat}{v5 v6 v7 v8:Option AV}(hp:f.p<M.length) (q:f.r=[]):∃v5' v6',qM (D5 M s [(f,i)] v5 v6 v7 v8)=some (.nx (D5 M s [] v5' v6' v7 v8)):=by
 have hrow:=pB hp;have a0:atI (M.map dI) (f.p:Int)=some (dI (M.getD f.p [])):=uo (by rw[gMq,hrow];rfl)
 have ix:AO 1 (-1)=some 0:=rfl;have q58:((5:Nat)≠3/\5<9)=True:=by simp
 have q65:((6:Nat)≠5/\6≠3)=True:=by simp
 have n1:=λL=>DQ [] L
 have j0:∀a b c:D,atI [a,b,c] 0=some a:=λ_ _ _=>rfl
 have j2:∀a b c:D,atI [a,b,c] 2=some c:=λ_ _ _=>rfl
 have d0:decide ((f.r.length:Int)=0)=true:=decide_eq_true (by rw[q];rfl)
 have q53:(True/\(5:Nat)≠3/\True)=True:=by simp
 have tp:Bj (.list [])=some false:=rfl;have g0:∀y:AV,([y]:List AV)[(0:Nat)]?=some y:=λ_=>rfl
 have dl:∀y:AV,([y]:List AV).dropLast=[]:=λ_=>rfl
 refine⟨some (fA f i),some (.sh (dI (M.getD f.p []))),?_⟩;unfold D5;rw[um,show pA []=[] from rfl]
 unfold fA;simp only[bQ,bP]at n1 ⊢
 simp_arith [qM,ix,n1,q58,EA,dM,dI,a0,q65,J3,yB,yw,j0,j2,Jd,d0,LB,g0,dl,q53,tp]
def Wu(N:Nat):AS->Nat
 | [_,_,_,some (.ow ps),some (.ow ts),_,_,_,_]=>2*(N+1-ts.length)+min 1 ps.length
 |_=>0
theorem HC(F:List (Fm×Nat)):(pA F).length=F.length:=by unfold pA;rw[lMq,cY]
theorem walk_ok(hm:Mp M) (h0:0<M.length) (one:∀k,k<M.length->tW M 0 k):yh [dM M]=some (.ow ((run M M.flatten.length).th.map ur)):=by
 have hl:=hm.hl;have pa:=wx hm.hn (by lia)
 have a0:atI (M.map dI) 0=some (dI (M.getD 0 [])):=uo (j:=0) (by rw[gMq,pB h0];rfl)
 have key:=xE (c:=yE (nI 3)) (body:=qM)
  (λS=>(∃n F v5 v6 v7 v8,n<=M.flatten.length/\(run M n).st=F.map (·.1)/\(∀x∈F,Lf M x.1 x.2)/\F≠[]/\S=D5 M (run M n) F v5 v6 v7 v8)∨∃v5 v6 v7 v8,S=D5 M (run M M.flatten.length) [] v5 v6 v7 v8)
  (Wu M.flatten.length)
  (λS=>∃v5 v6 v7 v8,S=D5 M (run M M.flatten.length) [] v5 v6 v7 v8) (by
   rintro S (⟨n,F,v5,v6,v7,v8,hn,hF,hL,ne,rfl⟩|⟨v5,v6,v7,v8,rfl⟩)
   .have w:=tq hm h0 n;have rl:=sS hm h0 one n hn;have tp:Bj (.list ((pA F).map nM))=some true:=by
     cases F with
     |nil=>exact absurd rfl ne
     |cons x F =>
      rw[show x=(x.1,x.2) from rfl,um,mBq]
      cases (pA F).map nM <;> rfl
    refine⟨true,D5 M (run M n) F v5 v6 v7 v8,by unfold D5;simp_arith [tp],λ_=>?_,λz=>(nomatch z)⟩
    by_cases fi:Fin (run M n)
    .have en:n=M.flatten.length:=by
      have:=(w.whole hm fi one).1;lia
     subst en;obtain⟨f,e1,e2⟩:=fi;have hf:=w.ok f (by rw[e1];simp)
     obtain⟨x,rfl⟩:∃x,F=[x]:=by
      rw[e1]at hF;have:=congrArg bo hF;rw[lMq]at this;exact eW.mp this.symm
     have ef:x.1=f:=by
      rw[e1]at hF;exact(gZ.inj hF).1.symm
     obtain⟨g,i⟩:=x;have ef:g=f:=ef;subst ef;obtain⟨v5',v6',e3⟩:=PZ (s:=run M M.flatten.length) (i:=i) (v5:=v5) (v6:=v6) (v7:=v7) (v8:=v8) hf.lt e2;refine⟨_,e3,.inr ⟨_,_,_,_,rfl⟩,?_⟩;unfold D5 Wu;simp only[HC,bP,lSq];lia
    .have lt:=w.less fi;obtain⟨F',v5',v6',v7',v8',e3,hF',hL',ne'⟩:=QF hm w hF hL fi (by lia) (v5:=v5) (v6:=v6) (v7:=v7) (v8:=v8)
     refine⟨_,e3,.inl ⟨n+1,F',v5',v6',v7',v8',by lia,hF',hL',ne',rfl⟩,?_⟩
     have rl2:=sS hm h0 one (n+1) (by lia)
     have e4:(stp M (run M n)).th.length=n+1:=rl2;unfold D5 Wu;simp only[HC,lMq];have:=cX.mpr ne;have:=cX.mpr ne';lia
   .have tp:Bj (.list [])=some false:=rfl;refine⟨false,D5 M (run M M.flatten.length) [] v5 v6 v7 v8,?_,λz=>(nomatch z),λ_=>⟨_,_,_,_,rfl⟩⟩
    unfold D5;rw[show pA []=[] from rfl]
    simp_arith [tp])
 obtain⟨S',ew,v5,v6,v7,v8,rfl⟩:=key 100000 (D5 M (run M 0) [(⟨0,[],[],M.getD 0 []⟩,0)] none none none none) (.inl ⟨0,_,none,none,none,none,bg _,rfl,λx hx=>by rw[mSq.mp hx];exact Y2,by simp,rfl⟩) (by
  unfold D5 Wu;simp only[HC,lSq];show 2*(M.flatten.length+1-0)+_<100000;lia)
 unfold D5 at ew;have e0:pA [(⟨0,[],[],M.getD 0 []⟩,0)]=[.ow [.sh (.int 0),.sh (.int 0),.sh (.int ((M.getD 0 []).length:Int))]]:=rfl;have e1:kI (kz (run M 0))=[(.inl 0,.bl true)]:=rfl;have e2:(run M 0).th.map ur=[]:=rfl;rw[e0,e1,e2]at ew;generalize M.getD 0 []=row at a0 ew
 simp_arith [yh,Eb,pa,dM,dI,a0,ew]
end
end K53
namespace K54
open PySem L2 Mr Z Xe Zl
open K18 (pp cp PC E3 Ln nL)
open K43 (De pB uN)
open K51 (tW)
open K52 (Fm Sw Wi Ld run stp Fin frm IB row_at S5 tq Ca yo sS)
def Ru(s:Sw):List Int:=(s.th.filter λx=>decide (x.1 = "side")).map (·.2)
def big(s:Sw):List Int:=Ru s++s.st.flatMap (·.r)
def Zr(M:List (List Int)) (s:Sw):List (List Int):=((bK M.length).filter λk=>decide (k∉s.ks)).map λk=>M.getD k []
end K54
namespace K47
open PySem L2 Mr Z Xe Zl
open K18 (PC cp Ln nL)
open K43 (De Xm)
open K17 (cls N1 Q0 Jx Je Dw AG Bp)
open K51 (tW Ps Pc)
def pn(M:List (List Int)):Nat:=@dite _ (∃kn PS,Ps M M.length kn PS) (de _) (λh=>(Classical.choose (Classical.choose_spec h)).length) λ_=>0
structure Mv (M:List (List Int)):Prop where
 mp:Mp M
 nz:∀e∈M.flatten,e≠0
 lv:M.length<=450
 le:M.flatten.length<=450
def Bl(M:List (List Int)):Prop:=∃LL,Ln M LL/\4*pn M+M.flatten.length=2*M.length+2*nL M LL
section
variable {M N:List (List Int)}{z:Int}
def kp(S:Int->Bool) (M:List (List Int)):List (List Int):=M.map λr=>r.filter S
end
end K47
namespace K54
open PySem L2 Mr Z Xe Zl
open K43 (De pB)
open K51 (tW)
open K52 (Fm Sw Wi run stp Fin Go Bn Bu tq Ca yo sS)
section
variable {M:List (List Int)}{s t:Sw}
theorem P2(hm:Mp M) (h:Wi M s) {x:Int}(hx:x∈s.th.map (·.2)):plc M x∈s.ks:=by
 rw[h.ck];rcases mAq.mp (h.tl.mem_iff.mp hx) with z|z
 .obtain ⟨f,hf,hxf⟩:=bY.mp z;rw[((h.ok f hf).mem hm (by unfold Fm.c;exact aD _ (ar _ hxf))).2]
  exact aD _ (mMq.mpr ⟨f,hf,rfl⟩)
 .obtain ⟨p,hp,hxp⟩:=bY.mp z;rw[plc_eq hm.hn (pB (h.lc p hp)) hxp];exact ar _ hp
theorem O7{p:Nat}{v:Int}(h:Z.getD (Bn s) (.inl (p:Int))=some (.int v)):v∈s.cb.map (·.2):=by
 unfold Z.getD at h;obtain⟨q,h1,h2⟩:=oMq.mp h;have:=List.mem_of_find?_eq_some h1;rcases ah.mp this with z|z
 .rw [z]at h2;cases h2
 .obtain ⟨c,hc,rfl⟩:=mMq.mp z;have:D.int c.2=D.int v:=h2;cases this;exact mMq.mpr ⟨c,hc,rfl⟩
structure Si (M:List (List Int)) (s:Sw):Prop where
 dn:∀e,("down", e)∈s.th->-e∈s.cb.map (·.2)
 up:∀e,("up", e)∈s.th->e∈s.cb.map (·.2)
 sd:∀e,("side", e)∈s.th->e∉s.cb.map (·.2)/\-e∉s.cb.map (·.2)
 vt:∀v∈s.cb.map (·.2),("down", -v)∈s.th
 pl:∀c∈s.cb,plc M c.2=c.1
 wd:∀x∈s.th,x.1 = "down" ∨ x.1 = "up" ∨ x.1 = "side"
theorem Si.step(hm:Mp M) (w:Wi M s) (h:Si M s) (hn:s.cur∉s.th.map (·.2)) (g:Go M s t):Si M t:=by
 have told:∀{w:String}{e:Int},(w,e)∈s.th->e∈s.th.map (·.2):=λh=>mMq.mpr ⟨_,h,rfl⟩
 have last:∀{a b:String}{e f:Int},(a,e)∈s.th++[(b,f)]->(a,e)∈s.th∨(a=b/\e=f):=λh=>by
  rcases mAq.mp h with z|z
  .exact .inl z
  .have:=mSq.mp z;exact .inr ⟨congrArg Prod.fst this,congrArg Prod.snd this⟩
 rcases g with ⟨a,b,c,_,_⟩|⟨a,b,c,_,_,_,_⟩|⟨a,b,c,⟨v,v1,v2⟩,_,_,_⟩
 .refine ⟨λe he=>?_,λe he=>?_,λe he=>?_,λv hv=>?_,by rw[b];exact h.pl,λx hx=>?_⟩
  .rw [a]at he;rw[b];rcases last he with z|⟨z,_⟩
   .exact h.dn e z
   .exact absurd z (by decide)
  .rw [a]at he;rw[b];rcases last he with z|⟨_,z⟩
   .exact h.up e z
   .rw [z];exact O7 c
  .rw [a]at he;rw[b];rcases last he with z|⟨z,_⟩
   .exact h.sd e z
   .exact absurd z (by decide)
  .rw [b]at hv;rw[a];exact aD _ (h.vt v hv)
  .rw [a]at hx;rcases mAq.mp hx with z|z
   .exact h.wd x z
   .rw [mSq.mp z];exact .inr (.inl rfl)
 .have cv:t.cb.map (·.2)=s.cb.map (·.2)++[-s.cur]:=by rw[b,mBq];rfl
  refine⟨λe he=>?_,λe he=>?_,λe he=>?_,λv hv=>?_,λx hx=>?_,λx hx=>?_⟩
  .rw [a]at he;rw[cv];rcases last he with z|⟨_,z⟩
   .exact aD _ (h.dn e z)
   .rw [z];exact ar _ (mSq.mpr rfl)
  .rw [a]at he;rw[cv];rcases last he with z|⟨z,_⟩
   .exact aD _ (h.up e z)
   .exact absurd z (by decide)
  .rw [a]at he;rw[cv];rcases last he with z|⟨z,_⟩
   .obtain ⟨s1,s2⟩:=h.sd e z;have n1:e ≠ -s.cur:=λq=>c (by rw[←q];exact P2 hm w (told z))
    have n2:-e ≠ -s.cur:=λq=>hn (by
     have:s.cur=e:=by lia
     rw[this];exact told z)
    refine⟨λq=>?_,λq=>?_⟩
    .rcases mAq.mp q with q|q
     .exact s1 q
     .exact n1 (mSq.mp q)
    .rcases mAq.mp q with q|q
     .exact s2 q
     .exact n2 (mSq.mp q)
   .exact absurd z (by decide)
  .rw [cv]at hv;rw[a];rcases mAq.mp hv with z|z
   .exact aD _ (h.vt v z)
   .rw [mSq.mp z,fq];exact ar _ (mSq.mpr rfl)
  .rw [b]at hx;rcases mAq.mp hx with z|z
   .exact h.pl x z
   .rw [mSq.mp z]
  .rw [a]at hx;rcases mAq.mp hx with z|z
   .exact h.wd x z
   .rw [mSq.mp z];exact .inl rfl
 .refine ⟨λe he=>?_,λe he=>?_,λe he=>?_,λv hv=>?_,by rw[b];exact h.pl,λx hx=>?_⟩
  .rw [a]at he;rw[b];rcases last he with z|⟨z,_⟩
   .exact h.dn e z
   .exact absurd z (by decide)
  .rw [a]at he;rw[b];rcases last he with z|⟨z,_⟩
   .exact h.up e z
   .exact absurd z (by decide)
  .rw [a]at he;rw[b];rcases last he with z|⟨_,z⟩
   .exact h.sd e z
   .rw [z];refine⟨λq=>?_,λq=>?_⟩
    .obtain ⟨p,hp,e1⟩:=mMq.mp q;have pp:=h.pl p hp;rw[e1]at pp;have hp2:(p.1,s.cur)∈s.cb:=by rw[←e1];exact hp
     have g1:=Bu w.kn hp2;rw[pp,g1]at v1;cases v1;rw[Ft,decide_eq_true rfl]at v2;cases v2
    .have:=h.vt _ q;rw[fq]at this;exact hn (told this)
  .rw [b]at hv;rw[a];exact aD _ (h.vt v hv)
  .rw [a]at hx;rcases mAq.mp hx with z|z
   .exact h.wd x z
   .rw [mSq.mp z];exact .inr (.inr rfl)
theorem HS(hm:Mp M) (h0:0<M.length) (one:∀k,k<M.length->tW M 0 k):∀n,n<=M.flatten.length->Si M (run M n)
 |0,_=>⟨λe h=>(by cases h),λe h=>(by cases h),λe h=>(by cases h),λv h=>(by cases h),λc h=>(by cases h),λx h=>(by cases h)⟩
 |n+1,hn=>by
  obtain⟨_,b,c,_⟩:=Ca hm h0 one (show n<M.flatten.length by lia)
  exact(HS hm h0 one n (by lia)).step hm (tq hm h0 n) b c
end
end K54
namespace K41
open PySem L2 Mr Z Xe Zl
def thn(g t:List Int):List Int:=t.filter λe=>!decide (e∈g)
def YU(g:List Int) (M:List (List Int)):List (List Int):=M.map (thn g)
variable {M:List (List Int)}
end K41
namespace K41
open PySem L2 Mr Z Xe Zl
open K51 (tW Pc)
def ab(i:Int):Int:=if i<0 then -i else i
theorem Te(i:Int):(if i<0 then -i else i)=ab i:=rfl
variable {M:List (List Int)}{p:Nat}{r:List Int}
end K41
namespace K41
open PySem L2 Mr Z Xe Zl K31
theorem LG(x:Int):ab (-x)=ab x:=by
 unfold ab;split <;> split <;> lia
variable {M:List (List Int)}{p:Nat}{r:List Int}
def Zo(n:Nat) (g:Nat->List (List Int)):List Int:=((bK n).filter λk=>decide (2<=(g k).length)).map λk:Nat=>(k:Int)
end K41
namespace K45
open PySem L2 Mr Z Xe Zl K31 K41
open K51 (tW Pc)
def gr(r:List Int):List Int:=(r.map ab)++(r.map ab).map λz=>-z
def XZ(M:List (List Int)) (z:Int) (a:Nat):Prop:=∃e row,M[a]?=some row/\e∈row/\ab e=z
variable {M:List (List Int)}{p:Nat}{r:List Int}
def Lk(M:List (List Int)) (r:List Int) (p:Nat) (z z':Int):Prop:=∃a b,a≠p/\b≠p/\XZ M z a/\XZ M z' b/\tW (YU (gr r) M) a b
structure Zv (E:Int->Int->Prop) (U:List Int) (X:List (List Int)):Prop where
 so:∀x∈X,vE x=x
 ne:∀x∈X,x≠[]
 fl:X.flatten.Perm U
 eq:∀x∈X,∀z∈x,∀z'∈x,E z z'
 on:∀x∈X,∀y∈X,∀z∈x,∀z'∈y,E z z'->x=y
variable {M:List (List Int)}{p:Nat}{r:List Int}
end K45
namespace K51
open PySem L2 Mr Z Xe Zl
abbrev qQ(x:String×Int):D:=.tup [.str x.1,.int x.2]
end K51
namespace K54
open PySem L2 Mr Z Xe Zl
open K41 (ab Te)
open K51 (qQ)
def we:List Int->List (String×Int)->Option (Int×Int)
 |_,[]=>none
 |op,x::th=>if x.1 = "side" then (if -x.2∈op then (if op.head?=some (-x.2) then we op.tail th else some (ab x.2,ab (op.headD 0))) else we (x.2::op) th) else we op th
def VL(th:List (String×Int)):List Int:=(th.filter λx=>decide (x.1 = "side")).map (·.2)
theorem Oq(x:String×Int) (th:List (String×Int)):VL (x::th)=(if x.1 = "side" then [x.2] else [])++VL th:=by
 unfold VL
 by_cases h:x.1 = "side"
 .rw [oq h,List.filter_cons_of_pos (by simpa using h)]
  rfl
 .rw [oz h,List.filter_cons_of_neg (by simpa using h)]
  rfl
theorem U4{op:List Int}{e:Int}(h:e∉op):ab e∈op.map ab↔-e∈op:=by
 constructor
 .intro q;obtain⟨z,hz,e1⟩:=mMq.mp q;unfold K41.ab at e1;have:z=e∨z = -e:=by split at e1 <;> split at e1 <;> lia
  rcases this with w|w
  .exact absurd (w ▸ hz) h
  .exact w ▸ hz
 .exact λq=>mMq.mpr ⟨_,q,K41.LG e⟩
def CF(o:Option (Int×Int)):D:=match o with
 |none=>.non
 |some p=>.tup [.int p.1,.int p.2]
theorem Yz(L:List Int) (y:Int):((L++[y]).map λn=>AV.sh (.int n))[(L++[y]).length-1]?=some (.sh (.int y)):=by rw[lAq,lSq,fW,mBq,gYq (by rw[lMq];exact ae _),lMq,bp];rfl
theorem Yh(L:List Int) (y:Int):((L++[y]).map λn=>AV.sh (.int n)).dropLast=L.map λn=>.sh (.int n):=by rw[mBq];exact cg
theorem EH:decide (Str.ofString "up" = Str.ofString "side")=false:=by decide +kernel
theorem Ax:decide (Str.ofString "down" = Str.ofString "side")=false:=by decide +kernel
def GQ(v0:Option AV) (op:List Int) (v2 v3 v4 v5:Option AV):AS:=[v0,some (aI (op.reverse.map ab)),v2,v3,v4,v5]
theorem wu:∀(th:List (String×Int)) (op:List Int) {v0 v2 v3 v4 v5:Option AV},(op.reverse++VL th).Nodup->op.length+th.length<=1000->(∀x∈th,x.1 = "down" ∨ x.1 = "up" ∨ x.1 = "side")->∃S,vI 2 3 nR (th.map qQ) (GQ v0 op v2 v3 v4 v5)=some (match we op th with|none=>.nx S|some p=>.rt (.sh (.tup [.int p.1,.int p.2])))
 | [],op,v0,v2,v3,v4,v5,_,_,_=>⟨_,rfl⟩
 |x::th,op,v0,v2,v3,v4,v5,nd,hl,hw=>by
  have hw':=λy hy=>hw y (mCo _ hy)
  rw[lCq]at hl;rw[Oq]at nd;have go:∀{S':AS}{o:A6},nR (GQ v0 op (some (.sh (.str x.1))) (some (.sh (.int x.2))) v4 v5)=some (.nx S')->vI 2 3 nR (th.map qQ) S'=some o->vI 2 3 nR ((x::th).map qQ) (GQ v0 op v2 v3 v4 v5)=some o:=λ{S' o} h1 h2=>by
   show (nR (GQ v0 op (some (.sh (.str x.1))) (some (.sh (.int x.2))) v4 v5)).bind _=_;rw[h1];exact h2
  have sl:=pT (op.reverse.map ab)
  by_cases h:x.1 = "side"
  .rw [oq h]at nd;have ne:x.2∉op:=λq=>(nAq.mp nd).2.2 x.2 (bc.mpr q) x.2 (by simp) rfl
   have dw:decide (Str.ofString x.1=Str.ofString "side")=true:=by rw[h];exact decide_eq_true rfl
   have hin:=Me true (ab x.2) (op.reverse.map ab);rw[oq rfl]at hin;have im:ab x.2∈op.reverse.map ab↔-x.2∈op:=by
    rw[←U4 ne,ir,bc]
   by_cases c:-x.2∈op
   .rw [decide_eq_true (im.mpr c)]at hin;cases op with
    |nil=>cases c
    |cons z op' =>
     have er:(z::op').reverse.map ab=op'.reverse.map ab++[ab z]:=by simp
     have la:=Yz (op'.reverse.map ab) (ab z);have ld:=Yh (op'.reverse.map ab) (ab z);rw[er]at hin sl
     by_cases d:z = -x.2
     .have dz:decide (ab z=ab x.2)=true:=decide_eq_true (by rw[d,K41.LG])
      have ef:we (z::op') (x::th)=we op' th:=by
       show (if x.1 = "side" then (if -x.2∈z::op' then (if (z::op').head?=some (-x.2) then we op' th else _) else _) else _)=_
       rw[oq h,oq c,oq (by rw[d];rfl)]
      have e1:nR (GQ v0 (z::op') (some (.sh (.str x.1))) (some (.sh (.int x.2))) v4 v5)=some (.nx (GQ v0 op' (some (.sh (.str x.1))) (some (.sh (.int x.2))) (some (.sh (.int (ab x.2)))) (some (.sh (.int (ab z)))))):=by
       unfold GQ;rw[er]
       simp_arith [nR,Te,dw,sl,dI,hin,la,ld,dz]
      obtain⟨S,e2⟩:=wu th op' (v0:=v0) (v2:=some (.sh (.str x.1))) (v3:=some (.sh (.int x.2))) (v4:=some (.sh (.int (ab x.2)))) (v5:=some (.sh (.int (ab z)))) (by
       refine nd.sublist ?_;rw[cA,ag];exact cK.append (.refl _) (List.sublist_append_of_sublist_right (dY _ _))) (by rw[lCq]at hl;lia) hw'
      exact⟨S,by rw[ef];exact go e1 e2⟩
     .have dz:decide (ab z=ab x.2)=false:=decide_eq_false λq=>by
       have zx:z≠x.2:=λw=>ne (by rw[w];exact ai ..)
       unfold K41.ab at q;have:z=x.2∨z = -x.2:=by split at q <;> split at q <;> lia
       exact this.elim zx d
      have ef:we (z::op') (x::th)=some (ab x.2,ab z):=by
       show (if x.1 = "side" then (if -x.2∈z::op' then (if (z::op').head?=some (-x.2) then we op' th else some (ab x.2,ab z)) else _) else _)=_
       rw[oq h,oq c,oz (show ¬ (z::op').head?=some (-x.2) from λq=>d (aT.inj q))]
      refine⟨[],?_⟩;rw[ef];show (nR (GQ v0 (z::op') (some (.sh (.str x.1))) (some (.sh (.int x.2))) v4 v5)).bind _=_;have e1:nR (GQ v0 (z::op') (some (.sh (.str x.1))) (some (.sh (.int x.2))) v4 v5)=some (.rt (.sh (.tup [.int (ab x.2),.int (ab z)]))):=by
       unfold GQ;rw[er]
       simp_arith [nR,Te,dw,sl,dI,hin,la,ld,dz]
      rw[e1];rfl
   .rw [decide_eq_false λq=>c (im.mp q)]at hin
    have ef:we op (x::th)=we (x.2::op) th:=by
     show (if x.1 = "side" then (if -x.2∈op then _ else we (x.2::op) th) else _)=_
     rw[oq h,oz c]
    have ap:(op.reverse.map ab).map (λn=>AV.sh (.int n))++[.sh (.int (ab x.2))]=((x.2::op).reverse.map ab).map λn=>.sh (.int n):=by simp
    have l1:op.reverse.length<qW:=by rw[cY];show _<16777216;lia
    have e1:nR (GQ v0 op (some (.sh (.str x.1))) (some (.sh (.int x.2))) v4 v5)=some (.nx (GQ v0 (x.2::op) (some (.sh (.str x.1))) (some (.sh (.int x.2))) (some (.sh (.int (ab x.2)))) v5)):=by
     unfold GQ
     simp_arith [nR,Te,dw,sl,dI,hin,l1,ap]
    obtain⟨S,e2⟩:=wu th (x.2::op) (v0:=v0) (v2:=some (.sh (.str x.1))) (v3:=some (.sh (.int x.2))) (v4:=some (.sh (.int (ab x.2)))) (v5:=v5) (by
     rw[cA,ag];exact nd) (by rw[lCq];lia) hw'
    exact⟨S,by rw[ef];exact go e1 e2⟩
  .rw [oz h,bQ]at nd;have dw:decide (Str.ofString x.1=Str.ofString "side")=false:=by
    rcases hw x (ai ..) with q|q|q
    .rw [q];exact Ax
    .rw [q];exact EH
    .exact absurd q h
   have ef:we op (x::th)=we op th:=by
    show (if x.1 = "side" then _ else we op th)=_
    rw[oz h]
   have e1:nR (GQ v0 op (some (.sh (.str x.1))) (some (.sh (.int x.2))) v4 v5)=some (.nx (GQ v0 op (some (.sh (.str x.1))) (some (.sh (.int x.2))) (some (.sh (.int (ab x.2)))) v5)):=by
    unfold GQ
    simp_arith [nR,Te,dw]
   obtain⟨S,e2⟩:=wu th op (v0:=v0) (v2:=some (.sh (.str x.1))) (v3:=some (.sh (.int x.2))) (v4:=some (.sh (.int (ab x.2)))) (v5:=v5) nd (by lia) hw'
   exact⟨S,by rw[ef];exact go e1 e2⟩
theorem Gm{th:List (String×Int)}(nd:(VL th).Nodup) (hl:th.length<=1000) (hw:∀x∈th,x.1 = "down" ∨ x.1 = "up" ∨ x.1 = "side"):pU [.list (th.map qQ)]=some (.sh (CF (we [] th))):=by
 obtain⟨S,e⟩:=wu th [] (v0:=some (.sh (.list (th.map qQ)))) (v2:=none) (v3:=none) (v4:=none) (v5:=none) nd (by simpa using hl) hw
 unfold GQ at e;have e':vI 2 3 nR (th.map qQ) [some (.sh (.list (th.map qQ))),some (.ow []),none,none,none,none]=_:=e;unfold CF;cases q:we [] th with
 |none =>
  rw[q]at e'
  simp_arith [pU,sW,OL,e']
 |some p =>
  rw[q]at e'
  simp_arith [pU,sW,OL,e']
end K54
namespace K18
open PySem L2 Mr Z Xe Zl
open K12 (cN aP UL uk Nm)
open K11 (Ce Cn)
def Wl(last:List (List Int)):Nat->List Nat->Prop
 |_,[]=>True
 |h,p::rest=>(p<h/\∃e p0 n0,last[p]?=some (p0++[e])/\last[h]?=some (-e::n0))/\Wl last p rest
end K18
namespace K17
open PySem L2 Mr Z Xe Zl
open K15 (nx fw)
open K25 (Rt)
open K43 (De rds)
open K51 (tW Ps Pc)
section
variable {M N:List (List Int)}{S:Int->Prop}
theorem RV{q:List (List Int)}(cn:K11.Cn q) (hneg:∀x,S x->S (-x)) (hrow:∀r∈q,∀x∈r,∀y∈r,S x->S y) {x:Int}(hx:x∈q.flatten) (h:S x):∀y∈q.flatten,S y:=by
 have up:∀k,k<q.length->∀x∈q.getD k [],S x->∀y∈q.getD 0 [],S y:=by
  intro k
  induction k using gD with
  |_ k ih =>
   intro hk x hx h y hy
   by_cases c:0<k
   .obtain ⟨j,e,h1,h2,h3⟩:=cn.tr k c hk;have s:=hneg _ (hrow _ (K11.getD_mem hx) x hx _ h3 h);rw[fq]at s;exact ih j h1 (by lia) e h2 s y hy
   .have:k=0:=by lia
    subst this;exact hrow _ (K11.getD_mem hx) x hx y hy h
 obtain⟨r,hr,hxr⟩:=mFq.mp hx;obtain⟨i,hi⟩:=aV.mp hr;have hD:∀{i:Nat}{r:List Int},q[i]?=some r->q.getD i []=r:=λh=>by rw[gDq,h];rfl
 have h0:=up i (gSq.mp hi).1 x (by rw[hD hi];exact hxr) h
 have down:∀k,k<q.length->∀y∈q.getD k [],S y:=by
  intro k
  induction k using gD with
  |_ k ih =>
   intro hk y hy
   by_cases c:0<k
   .obtain ⟨j,e,h1,h2,h3⟩:=cn.tr k c hk;exact hrow _ (K11.getD_mem hy) _ h3 y hy (hneg e (ih j h1 (by lia) e h2))
   .have:k=0:=by lia
    subst this;exact h0 y hy
 intro y hy;obtain⟨t,ht,hyt⟩:=mFq.mp hy;obtain⟨j,hj⟩:=aV.mp ht;exact down j (gSq.mp hj).1 y (by rw[hD hj];exact hyt)
theorem Iy:∀rs:List (List Int),(rs.map oS).count []=rs.count []
 | []=>rfl
 | []::rs=>by rw[au,xW,fI,fI,Iy rs]
 | (x::r)::rs=>by
  have hg:oS (x::r)≠[]:=λq=>by
   have:=congrArg bo q;rw[yd]at this;cases this
  rw[au,fu hg,fu (by simp),Iy rs]
theorem Eu{P:List (List (List Int))}(hn:P.flatten.flatten.Nodup) (cn:∀p∈P,K11.Cn p) (hm:Mp (tu (P.flatten.map oS))) {kn:List Nat}{PS:List (List Nat)}(hp:Ps (tu (P.flatten.map oS)) (tu (P.flatten.map oS)).length kn PS):PS.length=P.length:=by
 have pm:=K12.xT hp;have fl:(tu (P.flatten.map oS)).flatten.Perm P.flatten.flatten:=(wt (qF _)).trans (qJ qu _);have pnd:∀p∈P,p.flatten.Nodup:=λp h=>by
  rw[fG]at hn;exact hn.sublist (aU (mMq.mpr ⟨p,h,rfl⟩))
 have bB:Bp P:=⟨hn,λp h=>(cn p h).ne,λp h hb=>K11.yu (cn p h) hb (pnd p h)⟩
 have rowM:∀r∈tu (P.flatten.map oS),∃p∈P,∃t∈p,∀x,x∈r↔x∈t:=λr hr=>by
  obtain⟨t,ht,rfl⟩:=mMq.mp ((qF _).mem_iff.mp hr);obtain⟨p,h1,h2⟩:=mFq.mp ht;exact⟨p,h1,t,h2,λx=>(qu t).mem_iff⟩
 have:=Dw (N1 (De hm) hp) bB (λx=>(AG pm).mem_iff.trans fl.mem_iff) (λp h q hq x hx hx' y=>by
  obtain⟨ps,hps,rfl⟩:=mMq.mp h;obtain⟨s,_,pc⟩:=hp.pc ps hps;refine⟨Q0 (S:=(· ∈ q.flatten)) (De hm) pc (λz hz=>(cn q hq).clo z hz) (λr hr a ha b hb h=>?_) hx hx' y,RV (S:=(· ∈ (ps.map λk=>(tu (P.flatten.map oS)).getD k []).flatten)) (cn q hq) (λz hz=>Jx (De hm) pc hz) (λr hr a ha b hb h=>?_) hx' hx y⟩
  .obtain ⟨p',hp',t,ht,qq⟩:=rowM r hr;have:=K11.C4 hn hp' hq (mFq.mpr ⟨t,ht,(qq a).mp ha⟩) h;subst this;exact mFq.mpr ⟨t,ht,(qq b).mp hb⟩
  .exact Je (De hm) pc (r:=oS r) ((qF _).mem_iff.mpr (mMq.mpr ⟨r,mFq.mpr ⟨q,hq,hr⟩,rfl⟩)) ((qu r).mem_iff.mpr ha) ((qu r).mem_iff.mpr hb) h) (by rw[pm.count_eq,(qF _).count_eq,Iy])
 rwa [lMq]at this
end
end K17
namespace K44
open PySem L2 Mr Z Xe Zl
open K15 (nx fw CG Rd)
open K16 (Xq)
open K18 (Ln nL)
open K43 (Xm)
open K51 (tW Ps Pc)
def YK(L:List (List Int)):List (Int×Int):=L.flatMap λl=>l.map λx=>(x,l.headD 0)
end K44
namespace K44
open PySem L2 Mr Z Xe Zl
open K15 (Rd kI EO Ex EG)
open K16 (Xq pm)
open K18 (Ln nL)
def fl(P:List (Int×Int)) (x:Int):Int:=match Z.getD (Xq P) (.inl x) with
 |some (.int y)=>y
 |_=>0
structure Mt (T:List (List Int)):Prop where
 nd:T.flatten.Nodup
 ng:∀z∈T.flatten, -z∈T.flatten
 nz:∀z∈T.flatten,z≠0
 le:T.flatten.length<=60
 lt:T.length<=64
def Pn(T:List (List Int)):Prop:=K11.Cn T/\∃LL u,Ln T LL/\nL T LL+T.length=u+2/\T.flatten.length=2*u
end K44
namespace K52
open PySem L2 Mr Z Xe Zl
open K43 (De pB uN)
open K51 (tW)
section
variable {M:List (List Int)}{g:Nat->Int}
structure Ff (N:List (List Int)):Prop where
 mp:Mp N
 pos:0<N.length
 one:∀k,k<N.length->tW N 0 k
end
end K52
namespace K54
open PySem L2 Mr Z Xe Zl
open K47 (Bl Mv)
open K51 (qQ ur)
open K52 (Ff run tq yo walk_ok)
section
variable {M:List (List Int)}
theorem G4(p:Ff M):K51.uH [dM M]=some (.ok (.ow ((run M M.flatten.length).th.map ur)))/\pU [.list ((run M M.flatten.length).th.map qQ)]=some (.sh (CF (we [] (run M M.flatten.length).th))):=by
 obtain⟨l1,_,tp⟩:=(tq p.mp p.pos M.flatten.length).whole p.mp (yo p.mp p.pos p.one) p.one;have sb:(Ru (run M M.flatten.length)).Sublist ((run M M.flatten.length).th.map (·.2)):=fR.map _;refine⟨walk_ok p.mp p.pos p.one,Gm ((tp.nodup_iff.mpr p.mp.hn).sublist sb) (by have:=p.mp.hl;lia) (HS p.mp p.pos p.one M.flatten.length (ae _)).wd⟩
def qH:List (List (List Int))->Option (Int×Int)
 | []=>none
 |N::P=>match we [] (run N N.flatten.length).th with
  |none=>qH P
  |some q=>some q
theorem A5:∀(P:List (List (List Int))),(∀N∈P,Ff N)->∀{v0 v1 v2:Option AV},∃S,se 1 qh (P.map dM) [v0,v1,v2]=some (match qH P with|none=>.nx S|some q=>.rt (.sh (.tup [.int q.1,.int q.2])))
 | [],_,v0,v1,v2=>⟨_,rfl⟩
 |N::P,h,v0,v1,v2=>by
  obtain⟨w,c⟩:=G4 (h N (ai ..));have sD:((run N N.flatten.length).th.map ur).map nM=(run N N.flatten.length).th.map qQ:=by rw[mPq];exact mCq λr _=>pJ _
  cases q:we [] (run N N.flatten.length).th with
  |none =>
   rw[q]at c;have ef:qH (N::P)=qH P:=by
    show (match we [] (run N N.flatten.length).th with|none=>qH P|some q=>some q)=_
    rw[q]
   have e1:qh [v0,some (.sh (dM N)),v2]=some (.nx [v0,some (.sh (dM N)),some (.sh .non)]):=by
    have nn:AX .non .non=some (.bl false):=rfl;unfold CF at c
    simp_arith [qh,RO,w,WG,sD,c,nn]
   obtain⟨S,e2⟩:=A5 P (λK hK=>h K (mCo _ hK)) (v0:=v0) (v1:=some (.sh (dM N))) (v2:=some (.sh .non))
   refine⟨S,?_⟩;rw[ef];show (qh [v0,some (.sh (dM N)),v2]).bind _=_;rw[e1];exact e2
  |some x =>
   rw[q]at c;have ef:qH (N::P)=some x:=by
    show (match we [] (run N N.flatten.length).th with|none=>qH P|some q=>some q)=_
    rw[q]
   have e1:qh [v0,some (.sh (dM N)),v2]=some (.rt (.sh (.tup [.int x.1,.int x.2]))):=by
    have nn:AX (.tup [.int x.1,.int x.2]) .non=some (.bl true):=rfl;unfold CF at c
    simp_arith [qh,RO,w,WG,sD,c,nn]
   refine⟨[],?_⟩;rw[ef];show (qh [v0,some (.sh (dM N)),v2]).bind _=_;rw[e1];rfl
theorem vD{P:List (List (List Int))}(h:∀N∈P,Ff N) {x:AV}(hx:nM x = .list (P.map dM)) (e:K51.qP [dM M]=some x):rW [dM M]=some (.sh (CF (qH P))):=by
 obtain⟨S,e1⟩:=A5 P h (v0:=some (.sh (dM M))) (v1:=none) (v2:=none);unfold CF;cases q:qH P with
 |none =>
  rw[q]at e1
  simp_arith [rW,xn,e,hx,e1]
 |some p =>
  rw[q]at e1
  simp_arith [rW,xn,e,hx,e1]
end
end K54
namespace K54
open PySem L2 Mr Z Xe Zl
open K18 (Ln nL)
open K47 (Bl Mv pn)
open K43 (rds)
open K52 (Ff)
section
variable {P Q:List (List (List Int))}
theorem LS(h:∀N∈P,∀e∈N.flatten, -e∈N.flatten):∀z∈P.flatten.flatten, -z∈P.flatten.flatten:=λe he=>by
 obtain⟨r,hr,her⟩:=mFq.mp he;obtain⟨K,hK,hrK⟩:=mFq.mp hr;obtain⟨r',hr',he'⟩:=mFq.mp (h K hK e (mFq.mpr ⟨r,hrK,her⟩));exact mFq.mpr ⟨r',mFq.mpr ⟨K,hK,hr'⟩,he'⟩
end
end K54
namespace K54
open PySem L2 Mr Z Xe Zl
open K15 (nx fw CG Rd kI EO Ex EG Y0)
section
variable {P:List (List (List Int))}
def oR(rs:List (List Int)):AV:=.ow (rs.map λr=>.sh (dI r))
theorem xv(rs:List (List Int)):nM (oR rs)=dM rs:=by
 unfold oR;rw[rS,mPq];exact congrArg D.list (mCq λr _=>pJ _)
theorem Aw(hl:P.flatten.length<=1000):uW [.list (P.map dM)]=some (oR (tu P.flatten)):=by
 have key:=AW (x:=2) (body:=vq) (λi S=>∃v2,S=[some (.sh (.list (P.map dM))),some (oR (P.take i).flatten),v2]) (ds:=P.map dM) (S:=[some (.sh (.list (P.map dM))),some (.ow []),none]) ⟨none,rfl⟩ (by
  rintro i d S hd ⟨v2,rfl⟩;rw[gMq]at hd;obtain⟨N,hN,rfl⟩:=oMq.mp hd;have ls:(P.take (i+1)).flatten.length<=P.flatten.length:=by
   have:=congrArg (λz=>z.flatten.length) (aX (i+1) P)
   simp only[fAq,lAq]at this;lia
  have et:(P.take (i+1)).flatten=(P.take i).flatten++N:=by rw[tE hN,fAq,aL]
  rw[et,lAq]at ls;have l1:(P.take i).flatten.length+N.length<=qW:=OB (by lia)
  have ea:(P.take i).flatten.map (λr=>AV.sh (dI r))++N.map (λr=>.sh (dI r))=((P.take i).flatten++N).map λr=>.sh (dI r):=by rw[mBq]
  refine⟨_,?_,some (.sh (dM N)),rfl⟩;rw[et];unfold oR dM
  simp_arith [vq,l1,ea])
 obtain⟨S',e,v2,rfl⟩:=key;rw[lMq,bC]at e;have ro:=yS P.flatten;have sR:(P.flatten.map λr=>AV.sh (dI r)).map nM=P.flatten.map dI:=by rw[mPq];exact mCq λr _=>pJ _
 unfold oR at e ⊢
 simp_arith [uW,A0,e,sR,ro]
end
end K54
namespace K52
open PySem L2 Mr Z Xe Zl
open K31 (zj Ou Wd OW xh CL CM)
open K12 (cN C3 JM Oe Fk uk Af zw)
def Sd:List Nat->MS:=(Cj 3 (yE (nI 1)) (Bm 3 (AZ 10 (Mk yQ (vg 1) (oU Du (rC (.int 1)) (oU yQ (rC (.int 2)) (oU sY (oU C1 (nI 6) (rC (.int 7))) (rC (.int 2))))))) (λpath=>ox ((G8 3 (pV 10)) path) (xK (tU (oU Fw (nI 7) (rC (.int 2)))) (ox (tR 4 (kSc (wg rL (nU (nI 3) oI)))) (tR 3 (uK (oC (kSc (CW tD (nI 10))) pX)))) (tR 5 (pV 10))))) (λ_=>qd))
def Lh:List Nat->MS:=(Cj 3 (yN (tU (oU Fw (rC (.int 4)) (nI 7))) (yE (nI 5))) (Bm 3 (pd 9 (kSc (oU Du (wg rL (nU (nI 5) oI)) (rC (.int 1))))) (Bm 3 (xK (tU (nI 2)) (pd 9 (kSc (oU sY (oU C1 (nI 6) (rC (.int 7))) (wg rL (nU (nI 5) oI))))) qd) (CK 3 (HJ tD (zK 5 (nI 9)))))) (Cj 3 (yN (tU (Os Fw Fw (rC (.int 1)) (nI 7) (rC (.int 4)))) (tU (oU Lb (wg rL (nU (nI 4) oI)) (rC (.int 1))))) (λ_=>(yZ (vg 4))) Sd))
theorem Of:mb_L_piece_0=(ox (pd 7 (kSc (oU sY (nI 6) (rC (.int 7))))) (IH 8 3 (Q2 3 (Gn 3) (oU zY (nI 4) (CW tD (rC (.int 1))))) Lh)):=rfl
def ue(v0:Option AV) (b:Bool) (T:List (List Int)) (t0:List Nat) (h:Nat) (op rd:List Int) (v6 v7 v8 v9 v10:Option AV):AS:=[v0,some (aI rd),some (.sh (.bl b)),some (.ow (T.map aI)),some (aI (cN (t0++[h]))),some (aI op),v6,v7,v8,v9,v10]
section
variable {T:List (List Int)}{t0:List Nat}{h:Nat}{op rd r:List Int}{c k:Int}{b:Bool}{v0 v7 v8 v9 v10:Option AV}
theorem NG:Bj (.list [])=some false:=rfl
theorem LF(u:List Int) (y:Int):Bj (.list ((u++[y]).map D.int))=some true:=by cases u <;> rfl
theorem XT{u:List Int}(h:u≠[]):Bj (.list (u.map D.int))=some true:=by
 cases u with
 |nil=>exact absurd rfl h
 |cons a l=>rfl
theorem Tf(hr:T[h]?=some r):mb_L_piece_0 (ue v0 b T t0 h op rd (some (.sh (.int c))) v7 v8 v9 v10)=Lh [h] (ue v0 b T t0 h op rd (some (.sh (.int c))) (some (.sh (.int (c % 7)))) none v9 v10):=by
 have hh:h<T.length:=(gSq.mp hr).1;have n1:=zj hr;have iL:AO T.length (h:Int)=some h:=JB hh;have sl:=pT (cN (t0++[h]));have at4:atI ((cN (t0++[h])).map D.int) (-1)=some (.int (h:Int)):=by
  unfold K12.cN;rw[mBq,mBq];exact CI _ _
 have m7:=sC (i:=c) (j:=7) (by decide)
 have q:((8:Nat)≠3/\8<11)=True:=by simp
 rw[Of]
 simp_arith [ue,m7,n1,iL,sl,dI,at4,q]
def D3(b:Bool) (c:Int) (op:List Int):Nat:=if b then (c / 7 % op.length).toNat else op.length-1
def FF(c x:Int):Int:=x*(1-2*(c / 7 % 2))
theorem LV(hne:op≠[]):D3 b c op<op.length:=by
 have hpos:0<op.length:=cX.mpr hne;unfold D3;have b0:0<=c / 7 % (op.length:Int):=bA _ (by lia)
 have b1:c / 7 % (op.length:Int)<(op.length:Int):=bx _ (by lia)
 split <;> lia
theorem Sh(hr:T[h]?=some r) (hrl:r.length<500000) (hll:op.length<500000) (hk:4<k) (hne:op≠[]):∃v9',Lh [h] (ue v0 b T t0 h op rd (some (.sh (.int c))) (some (.sh (.int k))) v8 v9 v10)=some (.nx (ue v0 b (T.set h (r++[-(op.getD (D3 b c op) 0)])) t0 h (op.eraseIdx (D3 b c op)) rd (some (.sh (.int c))) (some (.sh (.int k))) v8 v9' v10)):=by
 have hpos:0<op.length:=cX.mpr hne;have d7:=CV (i:=c) (j:=7) (by decide) (by decide)
 have ml:=sC (i:=c / 7) (j:=(op.length:Int)) (by lia)
 have n1:=zj hr;have l1:r.length<qW:=by show _<16777216;lia
 have sl:=pT op;have dk:decide (4<k)=true:=decide_eq_true hk;have tr:=XT hne;have hlt:=LV (b:=b) (c:=c) hne;have ll:op.length<=qW:=by show _<=16777216;lia
 have g1:(op.map λn=>AV.sh (.int n))[D3 b c op]?=some (.sh (.int (op.getD (D3 b c op) 0))):=by
  rw[gMq,gEg hlt,gDq,gEg hlt];rfl
 have g2:(op.map λn=>AV.sh (.int n)).eraseIdx (D3 b c op)=(op.eraseIdx (D3 b c op)).map λn=>.sh (.int n):=Fk _ _ _
 have p2:=Ou (r':=r++[-(op.getD (D3 b c op) 0)]) hr;have a1:=C3 r (-(op.getD (D3 b c op) 0));have q:(0<=((D3 b c op:Nat):Int)/\((D3 b c op:Nat):Int)<(op.length:Int)/\op.length<=qW)=True:=by simp[ll,hlt]
 have tn:((D3 b c op:Nat):Int).toNat=D3 b c op:=cM _;refine⟨some (.sh (.int (D3 b c op:Nat))),?_⟩;cases b with
 |true =>
  have ea:c / 7 % (op.length:Int)=((D3 true c op:Nat):Int):=by
   have b0:0<=c / 7 % (op.length:Int):=bA _ (by lia)
   show _=(((c / 7 % (op.length:Int)).toNat:Nat):Int);lia
  simp_arith [Lh,ue,dk,tr,n1,sl,dI,d7,ml,ea,q,tn,g1,g2,l1,a1,p2,true_and,Oh]
 |false =>
  have ea:(op.length:Int)-1=((D3 false c op:Nat):Int):=by
   show _=((op.length-1:Nat):Int);lia
  simp_arith [Lh,ue,dk,tr,n1,sl,dI,ea,q,tn,g1,g2,l1,a1,p2,true_and,Oh]
theorem R9{t:List Nat}{h':Nat}(hr:T[h]?=some r) (h1:1<k) (h4:k<4):Lh [h] (ue v0 b T (t++[h']) h op rd (some (.sh (.int c))) (some (.sh (.int k))) v8 v9 v10)=some (.nx (ue v0 b T t h' op rd (some (.sh (.int c))) (some (.sh (.int k))) v8 v9 v10)):=by
 have n1:=zj hr;have sl:=pT (cN (t++[h']++[h]));have cl:=CM (t++[h']++[h]);have k1:(1:Int)<((t++[h']++[h]).length:Int):=by simp;lia
 have dk:decide (4<k)=false:=decide_eq_false (by lia)
 have d1:decide (1<k)=true:=decide_eq_true h1;have d4:decide (k<4)=true:=decide_eq_true h4;have ec:(cN (t++[h']++[h])).map (λn=>AV.sh (.int n))=(cN (t++[h'])).map (λn=>AV.sh (.int n))++[.sh (.int (h:Int))]:=(Oe (t++[h']) h).symm
 have p1:((cN (t++[h'])).map (λn=>AV.sh (.int n))++[AV.sh (.int (h:Int))])[((cN (t++[h'])).map (λn=>AV.sh (.int n))++[AV.sh (.int (h:Int))]).length-1]?=some (.sh (.int (h:Int))):=by
  rw[lAq,lSq,gYq (by lia)]
  simp
 have p2:((cN (t++[h'])).map (λn=>AV.sh (.int n))++[AV.sh (.int (h:Int))]).dropLast=(cN (t++[h'])).map (λn=>AV.sh (.int n)):=cg
 simp_arith [Lh,ue,dk,Gb,d1,d4,n1,sl,dI,cl,k1,eq_self,ec,p1,p2]
theorem P8(hr:T[h]?=some r) (h1:¬ (4<k/\op≠[])) (h2:¬ ((1<k/\k<4)/\t0≠[])):Lh [h] (ue v0 b T t0 h op rd (some (.sh (.int c))) (some (.sh (.int k))) v8 v9 v10)=Sd [h] (ue v0 b T t0 h op rd (some (.sh (.int c))) (some (.sh (.int k))) v8 v9 v10):=by
 have n1:=zj hr;have sl:=pT op;have sw:=pT (cN (t0++[h]));have cl:=CM (t0++[h]);have q2:1<k/\k<4->decide ((1:Int)<((t0++[h]).length:Int))=false:=λhh=>by
  by_cases hn:t0=[]
  .subst hn;simp
  .exact absurd ⟨hh,hn⟩ h2
 by_cases e1:4<k
 .have eo:op=[]:=gg λz=>h1 ⟨e1,z⟩
  subst eo;have dk:decide (4<k)=true:=decide_eq_true e1;have d1:decide (1<k)=true:=decide_eq_true (by lia)
  have d4:decide (k<4)=false:=decide_eq_false (by lia)
  simp_arith [Lh,ue,dk,NG,Gb,d1,d4,n1,sl,sw,cl,dI]
 .have dk:decide (4<k)=false:=decide_eq_false e1
  by_cases e2:1<k
  .have d1:decide (1<k)=true:=decide_eq_true e2
   by_cases e3:k<4
   .have d4:decide (k<4)=true:=decide_eq_true e3;have q2':=q2 ⟨e2,e3⟩
    simp_arith [Lh,ue,dk,Gb,d1,d4,n1,sl,sw,cl,dI,q2']
   .have d4:decide (k<4)=false:=decide_eq_false e3
    simp_arith [Lh,ue,dk,Gb,d1,d4,n1,sl,sw,cl,dI]
  .have d1:decide (1<k)=false:=decide_eq_false e2
   simp_arith [Lh,ue,dk,Gb,d1,n1,sl,sw,cl,dI]
theorem To(hr:T[h]?=some r):Sd [h] (ue v0 b T t0 h op [] (some (.sh (.int c))) (some (.sh (.int k))) v8 v9 v10)=some (.nx (ue v0 b T t0 h op [] (some (.sh (.int c))) (some (.sh (.int k))) v8 v9 v10)):=by
 have n1:=zj hr;have sl:=pT []
 simp_arith [Sd,ue,n1,sl,dI,NG]
theorem T5{x:Int}(hr:T[h]?=some r) (hrl:r.length<500000) (hTl:T.length<500000) (htl:t0.length<500000) (hol:op.length<500000):Sd [h] (ue v0 b T t0 h op (rd++[x]) (some (.sh (.int c))) (some (.sh (.int k))) v8 v9 v10)=some (.nx (if k<2 then ue v0 b (T.set h (r++[FF c x])++[[-(FF c x)]]) (t0++[h]) T.length op rd (some (.sh (.int c))) (some (.sh (.int k))) v8 v9 (some (.sh (.int (FF c x)))) else ue v0 b (T.set h (r++[FF c x])) t0 h (op++[FF c x]) rd (some (.sh (.int c))) (some (.sh (.int k))) v8 v9 (some (.sh (.int (FF c x)))))):=by
 have d7:=CV (i:=c) (j:=7) (by decide) (by decide)
 have m2:=sC (i:=c / 7) (j:=2) (by decide)
 have b0:0<=c / 7 % 2:=bA _ (by decide)
 have b1:c / 7 % 2<2:=bx _ (by decide)
 have c1:=Q1 (i:=2) (j:=c / 7 % 2) (by lia) (by lia)
 have c2:=Rh (i:=x) (j:=1-2*(c / 7 % 2)) (by lia) (by lia)
 have n1:=zj hr;have sl:=pT (rd++[x]);have tr:=LF rd x;have l1:r.length<qW:=by show _<16777216;lia
 have es:x*(1-2*(c / 7 % 2))=FF c x:=rfl;have a1:=C3 r (FF c x);have p2:=Ou (r':=r++[FF c x]) hr;have lT:(T.set h (r++[FF c x])).length=T.length:=lZq;have l2:T.length<qW:=by show _<16777216;lia
 have a3:=JM (T.set h (r++[FF c x])) (-(FF c x));have lw:(t0++[h]).length<qW:=by rw[lAq,lSq];show t0.length+1<16777216;lia
 have lo:op.length<qW:=by show _<16777216;lia
 have a2:=Oe (t0++[h]) T.length;have a4:op.map (λn=>AV.sh (.int n))++[.sh (.int (FF c x))]=(op++[FF c x]).map λn=>.sh (.int n):=by rw[mBq];rfl
 have cl:=CM (t0++[h]);have la:((rd++[x]).map λn=>AV.sh (.int n))[(rd++[x]).length-1]?=some (.sh (.int x)):=by rw[lAq,lSq,fW,mBq,gYq (by rw[lMq];exact ae _),lMq,bp];rfl
 have ld:((rd++[x]).map λn=>AV.sh (.int n)).dropLast=rd.map λn=>.sh (.int n):=by rw[mBq];exact cg
 by_cases e:k<2
 .have dk:decide (k<2)=true:=decide_eq_true e;rw[oq e]
  simp_arith [Sd,ue,dk,d7,m2,c1,c2,n1,sl,dI,tr,la,ld,es,l1,a1,p2,lT,l2,a3,cl,lw,a2]
 .have dk:decide (k<2)=false:=decide_eq_false e;rw[oz e]
  simp_arith [Sd,ue,dk,d7,m2,c1,c2,n1,sl,dI,tr,la,ld,es,l1,a1,p2,lT,lo,a4]
abbrev wd(T:List (List Int)) (t0:List Nat) (h:Nat) (op rd:List Int):Wd:=⟨T,t0,h,op.map λz=>-z,rd⟩
theorem J1(a c x:Int):[FF c x].count a+[-(FF c x)].count a=[x, -x].count a:=by
 have b0:0<=c / 7 % 2:=bA _ (by decide)
 have b1:c / 7 % 2<2:=bx _ (by decide)
 rw[show [x, -x]=[x]++[-x] from rfl,cAq]
 unfold FF;have h:c / 7 % 2=0∨c / 7 % 2=1:=by lia
 rcases h with h|h
 .rw [h,show (1:Int)-2*0=1 from rfl,hZ]
 .rw [h,show (1:Int)-2*1 = -1 from rfl,Int.mul_neg,hZ,fq]
  lia
theorem Ot(x:Int) (l:List Int) (a:Int):(xh (l++[x])).count a=(xh l).count a+[x, -x].count a:=by
 unfold K31.xh;rw[gS,cAq];rfl
theorem DT{nm:List Int}{n:Nat}(w:OW nm (wd T t0 h op rd) n) (hn:n<1000) (hm:nm.length<=1000):∃T' t0' h' op' rd' v7' v8' v9' v10',mb_L_piece_0 (ue v0 b T t0 h op rd (some (.sh (.int c))) v7 v8 v9 v10)=some (.nx (ue v0 b T' t0' h' op' rd' (some (.sh (.int c))) v7' v8' v9' v10'))/\OW nm (wd T' t0' h' op' rd') (n+1)/\rd'.Sublist rd:=by
 have hlen:=w.len;obtain⟨hh,ht,lw,lT,lf,cnt,tr⟩:=w;simp only at hh ht lw lT lf cnt tr hlen;have hr:T[h]?=some (T.getD h []):=by rw[gDq,gEg hh];rfl
 have hrl:=zw hr;generalize T.getD h []=r at hr hrl;have lo:op.length<=2000:=by rw[lMq]at hlen;lia
 rw[Tf hr]
 by_cases q1:4<c % 7/\op≠[]
 .obtain ⟨v9',e⟩:=Sh (b:=b) (v0:=v0) (t0:=t0) (rd:=rd) (c:=c) (v8:=none) (v9:=v9) (v10:=v10) hr (by lia) (by lia) q1.1 q1.2
  refine⟨_,_,_,_,_,_,_,_,_,e,⟨?_,?_,?_,?_,lf,λa=>?_,?_⟩,cK.refl _⟩
  .simp only [lZq];exact hh
  .simp only [lZq];exact ht
  .simp only;lia
  .simp only [lZq];lia
  .simp only;have hlt:=LV (b:=b) (c:=c) q1.2;have ce:=Af a (l:=op.map λz=>-z) (j:=D3 b c op) (by rw[lMq];exact hlt)
   rw[Fk]at ce;have gd:(op.map λz=>-z).getD (D3 b c op) 0 = -(op.getD (D3 b c op) 0):=by
    rw[gDq,gMq,gEg hlt,gDq,gEg hlt];rfl
   rw[gd]at ce;rw[uk a hr,←cnt a,←ce];lia
  .exact tr.set hr
 .by_cases q2:(1<c % 7/\c % 7<4)/\t0≠[]
  .rcases dG t0 with z|⟨t,h',z⟩
   .exact absurd z q2.2
   .rw [dJ]at z;subst z;rw[lAq,lSq]at lw;exact⟨_,_,_,_,_,_,_,_,_,R9 hr q2.1.1 q2.1.2,⟨ht _ (by simp),λk hk=>ht k (by simp[hk]),(by simp only;lia),(by simp only;lia),lf,cnt,tr⟩,cK.refl _⟩
  .rw [P8 hr q1 q2];rcases dG rd with z|⟨rd',x,z⟩
   .subst z;exact⟨_,_,_,_,_,_,_,_,_,To hr,⟨hh,ht,(by simp only;lia),(by simp only;lia),lf,cnt,tr⟩,cK.refl _⟩
   .rw [dJ]at z;subst z;rw[lAq,lSq]at lf;have cx:=λa=>Ot x rd' a
    rw[T5 hr (by lia) (by lia) (by lia) (by lia)]
    by_cases e:c % 7<2
    .rw [oq e];refine⟨_,_,_,_,_,_,_,_,_,rfl,⟨?_,?_,?_,?_,(by simp only;lia),λa=>?_,?_⟩,gi _ _⟩
     .simp only [lAq,lZq,lSq];lia
     .intro k hk;simp only[lAq,lZq,lSq]at hk ⊢;rcases mAq.mp hk with hk|hk
      .have:=ht k hk;lia
      .rw [mSq.mp hk];lia
     .simp only [lAq,lSq];lia
     .simp only [lAq,lZq,lSq];lia
     .simp only;rw[fAq,aL,cAq,uk a hr];have:=cnt a;rw[cx a,←J1 a c x]at this;lia
     .exact (tr.set hr).add (by rw[lZq];exact hh) (K11.EL hr (by simp))
    .rw [oz e];refine⟨_,_,_,_,_,_,_,_,_,rfl,⟨?_,?_,?_,?_,(by simp only;lia),λa=>?_,?_⟩,gi _ _⟩
     .simp only [lZq];exact hh
     .simp only [lZq];exact ht
     .simp only;lia
     .simp only [lZq];lia
     .simp only;rw[uk a hr,mBq,cAq];have:=cnt a;rw[cx a,←J1 a c x]at this;show _+(_+[-(FF c x)].count a)+_=_;lia
     .exact tr.set hr
end
end K52
namespace K72
open PySem L2 Mr Z Xe Zl
theorem KF{r:List Int}(hl:r.length<=1000) {v0 v3:Option AV}{X:List (List Int)}(hX:X.length<=1000):∃v2' v3',tM [v0,some (.ow (X.map λr=>.sh (dI r))),some (.sh (dI r)),v3]=some (.nx [v0,some (.ow ((X++[oS r]).map λr=>.sh (dI r))),v2',v3']):=by
 have lX:X.length<qW:=aR (show X.length<2000 by lia) (by decide)
 cases r with
 |nil =>
  have hg:oS []=[]:=rfl;have dt:Bj (.list [])=some false:=rfl;have q:(X.map λr=>AV.sh (dI r))++[AV.sh (.list [])]=(X++[oS []]).map λr=>.sh (dI r):=by rw[mBq];rfl
  refine⟨some (.sh (dI [])),v3,?_⟩
  simp_arith [tM,dI,dt,lX,q]
 |cons n ns =>
  obtain⟨h1,h2⟩:=K0 (n:=n) (ns:=ns);have e:=G9 h1 h2;have hle:=Ho (n::ns);have dt:Bj (dI (n::ns))=some true:=rfl;have hm:Qn [dI (n::ns)]=some (.int (ns.foldl min n)):=by
   show (sL ((n::ns).map D.int)).bind (λns=>(JL ns).map D.int)=_
   rw[wR];rfl
  have hx:AF (dI (n::ns)) [.int (ns.foldl min n)]=some (.int (pN (n::ns) (n::ns).length:Nat)):=by
   show (sL ((n::ns).map D.int)).bind _=_;rw[wR];show (if _ then _ else _)=_
   rw[oq h1,e]
  generalize hN:n::ns=N at *;have hlen:(N.drop (pN N N.length)).length+(N.take (pN N N.length)).length<=qW:=by rw[aG,lTq];show _<=16777216;lia
  have hg:oS N=N.drop (pN N N.length)++N.take (pN N N.length):=rfl;have q:(X.map λr=>AV.sh (dI r))++[AV.sh (.list ((N.drop (pN N N.length)++N.take (pN N N.length)).map D.int))]=(X++[oS N]).map λr=>.sh (dI r):=by rw[mBq (l₁:=X) (l₂:=[oS N])];rfl
  refine⟨some (.sh (dI (oS N))),some (.sh (.int (pN N N.length:Nat))),?_⟩
  simp_arith [tM,dt,hm,hx,sG,BE N _ hle,Ay N _ hle,hlen,←mBq,Jr,lX,q,hg]
theorem Qo{T:List (List Int)}(hT:∀r∈T,r.length<=1000) (hl:T.length<=1000):xY [dM T]=some (.ow ((tu (T.map oS)).map λr=>.sh (dI r))):=by
 have key:=AW (x:=2) (body:=tM) (λi S=>∃v2 v3,S=[some (.sh (dM T)),some (.ow (((T.take i).map oS).map λr=>.sh (dI r))),v2,v3]) (ds:=T.map dI) (S:=[some (.sh (dM T)),some (.ow []),none,none]) ⟨none,none,by simp⟩ (by
  rintro i d S hd ⟨v2,v3,rfl⟩;rw[gMq]at hd;obtain⟨r,hr,rfl⟩:=oMq.mp hd;have et:(T.take (i+1)).map oS=(T.take i).map oS++[oS r]:=by rw[cw,hr,mBq];rfl
  obtain⟨v2',v3',e⟩:=KF (hT r (mGq hr)) (v0:=some (.sh (dM T))) (v3:=v3) (X:=(T.take i).map oS) (by rw[lMq,lTq];lia)
  refine⟨_,e,v2',v3',by rw[et]⟩)
 obtain⟨S',e,v2,v3,rfl⟩:=key;rw[lMq,bC]at e;have sX:((T.map oS).map λr=>AV.sh (dI r)).map nM=(T.map oS).map dI:=by rw[mPq];exact mCq λr _=>pJ _
 generalize T.map oS=X at e sX
 simp_arith [xY,DL,dM,dI,e,sX]
end K72
namespace K52
open PySem L2 Mr Z Xe Zl
open K31 (zj Ou Wd OW xh CM)
open K12 (cN C3 uk zw)
open K43 (De pB)
open K51 (tW Ps)
section
variable {T:List (List Int)}{t0:List Nat}{h:Nat}{op rd r:List Int}{b:Bool}{v0 v6 v7 v8 v9 v10:Option AV}
def BC(l:List Int):List Int:=l.map λz=>-z
theorem DH(hr:T[h]?=some r) (hl:r.length+op.length<=10000) :
  rp (yE (nI 5)) mb_L_piece_1 100000 (ue v0 b T t0 h op rd v6 v7 v8 v9 v10)=some (.nx (ue v0 b (T.set h (r++BC op.reverse)) t0 h [] rd v6 v7 v8 v9 v10)):=by
 have hh:h<T.length:=(gSq.mp hr).1;obtain⟨S',e,l2,rfl,z⟩:=xE (c:=yE (nI 5)) (body:=mb_L_piece_1)
  (λS=>∃l1 l2,S=ue v0 b (T.set h (r++BC l2)) t0 h l1 rd v6 v7 v8 v9 v10/\op=l1++l2.reverse)
  (λS=>match S with|[_,_,_,_,_,some (.ow l),_,_,_,_,_]=>l.length|_=>0)
  (λS'=>∃l2,S'=ue v0 b (T.set h (r++BC l2)) t0 h [] rd v6 v7 v8 v9 v10/\op=l2.reverse) (by
   rintro S ⟨l1,l2,rfl,hz⟩;have hzl:=congrArg bo hz;rw[lAq,cY]at hzl;rcases dG l1 with rfl|⟨l,x,rfl⟩
   .refine ⟨false,ue v0 b (T.set h (r++BC l2)) t0 h [] rd v6 v7 v8 v9 v10,?_,λq=>(nomatch q),λ_=>⟨l2,rfl,by rw[hz];rfl⟩⟩
    have sl:=pT []
    simp_arith [ue,sl,dI,NG]
   .rw [dJ]at hz hzl ⊢;have lng:(BC l2).length=l2.length:=lMq _;have hr2:(T.set h (r++BC l2))[h]?=some (r++BC l2):=aC hh;have n1:=zj hr2;have iL:AO T.length (h:Int)=some h:=JB hh;have lT:(T.set h (r++BC l2)).length=T.length:=lZq;have sw:=pT (cN (t0++[h]));have at4:atI ((cN (t0++[h])).map D.int) (-1)=some (.int (h:Int)):=by
     unfold K12.cN;rw[mBq,mBq];exact CI _ _
    have sl:=pT (l++[x]);have tr:=LF l x;have la:((l++[x]).map λn=>AV.sh (.int n))[(l++[x]).length-1]?=some (.sh (.int x)):=by rw[lAq,lSq,fW,mBq,gYq (by rw[lMq];exact ae _),lMq,bp];rfl
    have ld:((l++[x]).map λn=>AV.sh (.int n)).dropLast=l.map λn=>.sh (.int n):=by rw[mBq];exact cg
    have pp:=Ou (r':=r++BC l2++[-x]) hr2;have a1:=C3 (r++BC l2) (-x);have l1':(r++BC l2).length<qW:=by
     rw[lAq,lSq]at hzl;rw[lAq,lng];show _<16777216;lia
    have ess:(T.set h (r++BC l2)).set h (r++BC l2++[-x])=T.set h (r++BC (l2++[x])):=by
     rw[eI,ag];unfold BC;rw[mBq];rfl
    refine⟨true,ue v0 b (T.set h (r++BC l2)) t0 h (l++[x]) rd v6 v7 v8 v9 v10,?_,λ_=>⟨ue v0 b (T.set h (r++BC (l2++[x]))) t0 h l rd v6 v7 v8 v9 v10,?_,⟨l,l2++[x],rfl,by rw[hz];simp⟩,?_⟩,λq=>(nomatch q)⟩
    .simp_arith [ue,sl,dI,tr]
    .simp_arith [mb_L_piece_1,ue,n1,iL,lT,sw,dI,at4,la,ld,l1',a1,pp,ess,Oh,eq_self,true_and]
    .show (l.map _).length<((l++[x]).map _).length;rw[lMq,lMq,lAq,lSq];lia) 100000 (ue v0 b T t0 h op rd v6 v7 v8 v9 v10) ⟨op,[],by show _=ue v0 b (T.set h (r++[])) t0 h op rd v6 v7 v8 v9 v10;rw[aNq,Z.yi hr],by simp⟩ (by
   show (op.map _).length<100000;rw[lMq];lia)
 rw[e,z,fE]
theorem FN{nm:List Int}(hn:K31.Nm nm) (w:K31.Wm nm T):Ff (tu (T.map oS)):=by
 have pG:(tu (T.map oS)).flatten.Perm T.flatten:=(wt (qF _)).trans (qJ qu _);have lG:(tu (T.map oS)).length=T.length:=by rw[zh,lMq]
 have hl:=w.le;have h1:=hn.len;have h2:=w.len;have h3:=w.pos;have mp:Mp (tu (T.map oS)):=⟨pG.nodup_iff.mpr (w.nodup hn),by rw[pG.length_eq];lia,by lia,λe he=>pG.mem_iff.mpr (w.neg hn (pG.mem_iff.mp he))⟩
 refine⟨mp,by lia,λk hk=>?_⟩
 obtain⟨kn,PS,hp,_⟩:=K51.pieces_ok (De mp);have f1:[T].flatten=T:=aL;have e1:=K17.Eu (P:=[T]) (by rw[f1];exact w.nodup hn) (λp hp=>by
  rw[mSq.mp hp];exact⟨λq=>(by rw[q]at h3;cases h3),λz hz=>w.neg hn hz,w.tr⟩) (by rw[f1];exact mp) (kn:=kn) (PS:=PS) (by rw[f1];exact hp)
 have e1:PS.length=1:=e1;obtain⟨ps,eps⟩:=eW.mp e1;obtain⟨s,_,pc⟩:=hp.pc ps (by rw[eps];exact mSq.mpr rfl)
 have inn:∀j,j<(tu (T.map oS)).length->tW (tu (T.map oS)) s j:=λj hj=>by
  obtain⟨q,hq,hjq⟩:=hp.mem j (hp.all j hj);rw[eps]at hq;rw[mSq.mp hq]at hjq;exact(pc.iff j).mp hjq
 exact((inn 0 (by lia)).symm (De mp)).trans (inn k hk)
end
end K52
namespace K54
open PySem L2 Mr Z Xe Zl
open K31 (Wd OW xh Nm Wm)
open K12 (uk zw)
open K52 (Ff ue wd BC DH FN DT)
theorem NP{np n j:Nat}{m:MS}{k:MK}{as:List AV}{S S' S2:AS}{a r:AV}(hl:as.length=np) (hS:as.map some++aQ (n-as.length) none=S) (e:m S=some (.nx S')) (ek:k S'=some (r,S2)) (ha:S2[j]?.join=some a):AQ np n j m k as=some (r,a):=by
 unfold AQ;rw[oq hl,hS,e];show ((k S').bind _)=_;rw[ek];show (S2[j]?.join).map _=_;rw[ha];rfl
theorem RT{nm rd:List Int}(h:Nm nm) (s:rd.Sublist nm):Nm rd:=⟨by have:=s.length_le;have:=h.len;lia,h.nd.sublist s,λx hx=>h.lo x (s.subset hx)⟩
section
variable {b:Bool}{v0:Option AV}
theorem TB{nm cs:List Int}(hc:cs.length<=63) (hm:nm.length<=1000):∃T t0 h op rd v6 v7 v8 v9 v10,zd 6 mb_L_piece_0 (cs.map D.int) (ue v0 b [[]] [] 0 [] nm none none none none none)=some (.nx (ue v0 b T t0 h op rd v6 v7 v8 v9 v10))/\OW nm (wd T t0 h op rd) cs.length/\rd.Sublist nm:=by
 have key:=Rm (x:=6) (body:=mb_L_piece_0) (λi S=>∃T t0 h op rd v6 v7 v8 v9 v10,S=ue v0 b T t0 h op rd v6 v7 v8 v9 v10/\OW nm (wd T t0 h op rd) i/\rd.Sublist nm) (ds:=cs.map D.int) (S:=ue v0 b [[]] [] 0 [] nm none none none none none) (k:=0) ⟨_,_,_,_,_,_,_,_,_,_,rfl,K31.Vm nm,cK.refl _⟩ (by
  rintro i d S hd ⟨T,t0,h,op,rd,v6,v7,v8,v9,v10,rfl,w,sl⟩;rw[gMq]at hd;obtain⟨c,hc',rfl⟩:=oMq.mp hd;have hi:i<cs.length:=(gSq.mp hc').1;obtain⟨T',t0',h',op',rd',v7',v8',v9',v10',e,w',sl'⟩:=DT (v0:=v0) (b:=b) (c:=c) (v7:=v7) (v8:=v8) (v9:=v9) (v10:=v10) w (by lia) hm
  exact⟨_,e,_,_,_,_,_,_,_,_,_,_,rfl,w',sl'.trans sl⟩)
 obtain⟨S',e,T,t0,h,op,rd,v6,v7,v8,v9,v10,rfl,w,sl⟩:=key;rw[bU,lMq]at w;exact⟨T,t0,h,op,rd,v6,v7,v8,v9,v10,e,w,sl⟩
theorem LQ{i:Nat}{pf:MP}{mm:ME}(S:AS) (o:A6) (e:CZ i pf mm S=some o):∃S',o = .nx S':=by
 obtain⟨x,_,e⟩:=oBq.mp e;obtain⟨avs,_,e⟩:=oBq.mp e;obtain⟨as,_,e⟩:=oBq.mp e;obtain⟨y,_,e⟩:=oBq.mp e;rcases oj e with ⟨_,e⟩|e
 .cases e;exact⟨_,rfl⟩
 .cases e
theorem NK{cs nm:List Int}(hc:cs.length<=63) (hn:Nm nm):∃T rd,uw [.sh (dI cs),aI nm,.sh (.bl b)]=some (oR (tu (T.map oS)),aI rd)/\Wm nm T/\Nm rd/\(∀a,T.flatten.count a+(xh rd).count a=(xh nm).count a)/\T.length<=cs.length+1:=by
 have hnl:=hn.len;obtain⟨T,t0,h,op,rd,v6,v7,v8,v9,v10,e1,w,sl⟩:=TB (v0:=some (.sh (dI cs))) (b:=b) (nm:=nm) hc (by lia)
 have hlen:=w.len;obtain⟨hh,ht,lw,lT,lf,cnt,tr⟩:=w;simp only at hh ht lw lT lf cnt tr hlen;have hr:T[h]?=some (T.getD h []):=by rw[gDq,gEg hh];rfl
 have hrl:=zw hr;generalize T.getD h []=r at hr hrl;rw[lMq]at hlen;have e2:=DS (λS o e=>LQ S o e) (DH (b:=b) (v0:=some (.sh (dI cs))) (t0:=t0) (op:=op) (rd:=rd) (v6:=v6) (v7:=v7) (v8:=v8) (v9:=v9) (v10:=v10) hr (by lia))
 have ngc:∀a,(BC op.reverse).count a=(op.map λz=>-z).count a:=λa=>by
  unfold BC;rw[ir];exact(List.reverse_perm _).count_eq a
 have cn:∀a,(T.set h (r++BC op.reverse)).flatten.count a+(xh rd).count a=(xh nm).count a:=λa=>by
  rw[uk a hr,ngc];exact cnt a
 have wm:Wm nm (T.set h (r++BC op.reverse)):=⟨⟨rd,cn⟩,tr.set hr,by rw[lZq];lia,by rw[lZq];lia⟩
 have lT':(T.set h (r++BC op.reverse)).length<=cs.length+1:=by rw[lZq];exact lT
 generalize T.set h (r++BC op.reverse)=T' at e2 wm cn lT';have wl:=wm.le;have wl2:=wm.len;have go:=K72.Qo (T:=T') (λr hr=>by have:=Ul hr;lia) (by lia)
 have sT:(T'.map aI).map nM=T'.map dI:=by rw[mPq];exact mCq λr _=>pT r
 refine⟨T',rd,?_,wm,RT hn sl,cn,lT'⟩;have e1':zd 6 mb_L_piece_0 (cs.map D.int) [some (.sh (.list (cs.map D.int))),some (aI nm),some (.sh (.bl b)),some (.ow [.ow []]),some (.ow [.sh (.int 0)]),some (.ow []),none,none,none,none,none]=some (.nx (ue (some (.sh (dI cs))) b T t0 h op rd v6 v7 v8 v9 v10)):=e1;have e2':xa (yE (nI 5)) mb_L_piece_1 100000 (ue (some (.sh (dI cs))) b T t0 h op rd v6 v7 v8 v9 v10)=some (.nx (ue (some (.sh (dI cs))) b T' t0 h [] rd v6 v7 v8 v9 v10)):=e2;have em:yY [some (.sh (dI cs)),some (aI nm),some (.sh (.bl b)),none,none,none,none,none,none,none,none]=some (.nx (ue (some (.sh (dI cs))) b T' t0 h [] rd v6 v7 v8 v9 v10)):=by
  unfold ue at e1' e2' ⊢;simp -implicitDefEqProofs only [Z.Yw,iI,iJ,ik,il,gN,↓reduceIte,reduceCtorEq,dI]at e1' e2' ⊢
  simp_arith [yY,RZ,e1',e2']
 refine NP rfl rfl em (S2:=[some (.sh (dI cs)),some (aI rd),some (.sh (.bl b)),some (.sh (dM T')),some (aI (K12.cN (t0++[h]))),some (aI []),v6,v7,v8,v9,v10]) ?_ rfl;unfold ue
 simp_arith [sT,go,oR,dM]
end
end K54
namespace K54
open PySem L2 Mr Z Xe Zl
open K31 (xh Nm)
open K47 (Bl Mv)
open K52 (Ff)
theorem bth_len(l:List Int):(xh l).length=2*l.length:=by
 unfold xh
 induction l with
 |nil=>rfl
 |cons x l ih=>rw[eT,lAq,ih,lCq];simp only[lCq,bP];lia
theorem Lq:Ff [[]]:=⟨⟨by simp,by simp,by simp,by simp⟩,by simp,λk hk=>by
 have:k=0:=by simpa using hk
 rw[this];exact .base⟩
structure Bt (P:List (List (List Int))):Prop where
 cn:∀T∈P,K11.Cn T
 pc:∀T∈P,Ff (tu (T.map oS))
 nd:P.flatten.flatten.Nodup
 nz:∀z∈P.flatten.flatten,z≠0
 le:P.flatten.flatten.length<=134
 lt:P.flatten.length<=140
theorem M4{P:List (List (List Int))}{nm rd:List Int}(hn:Nm nm) (h67:nm.length<=67) (pc:∀N∈P,K11.Cn N/\Ff (tu (N.map oS))) (cnt:∀a,P.flatten.flatten.count a+(xh rd).count a=(xh nm).count a) (lt:P.flatten.length<=140):Bt P:=by
 have bn:=K31.AE hn;have pm:(P.flatten.flatten++xh rd).Perm (xh nm):=cW.mpr λa=>by rw[cAq];exact cnt a
 have ln:=pm.length_eq;rw[lAq,bth_len nm]at ln;refine⟨λT h=>(pc T h).1,λT h=>(pc T h).2,?_,λz hz=>?_,by lia,lt⟩
 .exact (nAq.mp (pm.nodup_iff.mpr bn)).1
 .have h1:=pm.mem_iff.mp (aD _ hz);obtain⟨x,hx,q⟩:=bY.mp h1;have:=hn.lo x hx;simp only[ah,cU,or_false]at q;lia
theorem Qj:K11.Cn [[]]:=⟨by simp,by simp,λk h1 h2=>by simp at h2;lia⟩
theorem GE{nm:List Int}{T:List (List Int)}(hn:Nm nm) (w:K31.Wm nm T):K11.Cn T/\Ff (tu (T.map oS)):=⟨⟨λq=>(by have:=w.pos;rw[q]at this;cases this),λz hz=>w.neg hn hz,w.tr⟩,K52.FN hn w⟩
abbrev gd(T:List (List Int)):List (List Int):=tu (T.map oS)
theorem NN{cs:List Int}{j:Nat}(h:j<=cs.length):wL cs none (some (j:Int))=cs.take j/\wL cs (some (j:Int)) none=cs.drop j:=⟨BE cs j h,Ay cs j h⟩
theorem pieces_ok(ns:List Int) (b:Bool):∃P,qA [.scr ns,.int 67,.bl b]=some (.ow ((uI (P.map gd)).map λm=>.sh (dM m)))/\Bt P:=by
 obtain⟨st,sh,a,b',h1,h1',h2,h2',h3,h4,h5,h6,er⟩:=K51.Lu ns;have hn:(K51.rds st sh a b').Nodup:=K51.KC h1 h3 h4;have hp:∀z∈K51.rds st sh a b',1<=z:=λz hz=>K51.Qz h1 h2 hz
 have hR:(K51.rds st sh a b').length=67:=K51.QP st sh a b';generalize K51.rds st sh a b'=R at er hn hp hR;have nm:Nm R:=⟨by lia,hn,hp⟩
 have hR':wL R none (some 67)=R:=by
  rw[show (67:Int)=((67:Nat):Int) from rfl,BE R 67 (by lia),cE (by lia)]
 have sR:=pT R;have hcs:wL ns (some 3) (some 66)=(ns.drop 3).take 63:=NU ns 3 66;have hl:((ns.drop 3).take 63).length<=63:=by rw[lTq];exact Nat.min_le_left ..
 generalize (ns.drop 3).take 63=cs at hcs hl;have c2:oA [.scr ns,.int 2]=some (.sh (.int (cell ns 2))):=zM ns (by decide)
 have d8:=CV (i:=cell ns 2) (j:=8) (by decide) (by decide)
 have m8:=sC (i:=cell ns 2) (j:=8) (by decide)
 have ml:=sC (i:=cell ns 2 / 8) (j:=(cs.length:Int)+1) (by lia)
 have p0:0<=cell ns 2 / 8 % ((cs.length:Int)+1):=bA _ (by lia)
 have p1:cell ns 2 / 8 % ((cs.length:Int)+1)<(cs.length:Int)+1:=bx _ (by lia)
 obtain⟨j,hj⟩:∃j:Nat,cell ns 2 / 8 % ((cs.length:Int)+1)=(j:Int):=⟨(cell ns 2 / 8 % ((cs.length:Int)+1)).toNat,by lia⟩
 rw[hj]at ml p1;have hjl:j<=cs.length:=by lia
 have q0:0<=cell ns 2 % 8:=bA _ (by lia)
 have q1:cell ns 2 % 8<8:=bx _ (by lia)
 generalize cell ns 2 % 8=t at m8 q0 q1;have sc:=pT cs;have cL:=(NN (cs:=cs) (ae cs.length)).1;rw[bC]at cL;obtain⟨k1,k2⟩:=NN hjl;have l1:(cs.take j).length<=63:=by rw[lTq];lia
 have l2:(cs.drop j).length<=63:=by rw[aG];lia
 generalize cs.take j=A at k1 l1;generalize cs.drop j=B at k2 l2;have sA:=λA:List Int=>pT A
 have pk:=λ{cs nm:List Int}{b:Bool}(hc:cs.length<=63) (hn:Nm nm)=>show ∃M rd,uw [.sh (.list (cs.map D.int)),.ow (nm.map λn=>.sh (.int n)),.sh (.bl b)]=some (oR (gd M),.ow (rd.map λn=>.sh (.int n)))/\K31.Wm nm M/\Nm rd/\(∀a,M.flatten.count a+(xh rd).count a=(xh nm).count a)/\M.length<=cs.length+1 from NK hc hn
 by_cases t3:t<3
 .have dt3:decide (t<3)=true:=decide_eq_true t3;have dt2:decide (2<t)=false:=decide_eq_false (by lia)
  have dt4:decide (4<t)=false:=decide_eq_false (by lia)
  have e5:FC (.int t) (.int 5)=some (.bl true):=by rw[wV,decide_eq_false (by lia)];rfl
  obtain⟨M1,rd1,e1,pc1,_,cn1,lM1⟩:=pk (b:=b) (nm:=R) hl nm;have mo:yg [dM (gd M1)]=some [gd M1]:=wI [gd M1];have sO:=xv (gd M1);have lot:Bt [M1]:=M4 (rd:=rd1) nm (by lia) (λN hN=>by rw[mSq.mp hN];exact GE nm pc1) (λa=>by rw[aL];exact cn1 a) (by rw[aL];lia)
  refine⟨[M1],?_,lot⟩;show _=some (AV.ow ((uI [gd M1]).map λm=>.sh (dM m)))
  cases b with
  |true=>simp_arith [qA,rm,er,sR,dI,hR',hcs,c2,d8,sc,ml,m8,dt3,vK,ym,sG,cL,e5,e1,dt2,dt4,yp,sO,mo]
  |false=>simp_arith [qA,rm,er,sR,dI,hR',hcs,c2,d8,sc,ml,m8,dt3,vK,ym,sG,cL,e1,dt2,dt4,yp,sO,mo]
 .have dt3:decide (t<3)=false:=decide_eq_false t3;have dt2:decide (2<t)=true:=decide_eq_true (by lia)
  obtain⟨b5,e5⟩:∃x,FC (.int t) (.int 5)=some (.bl x):=⟨_,wV _ _⟩;obtain⟨b6,e6⟩:∃x,FC (.int t) (.int 6)=some (.bl x):=⟨_,wV _ _⟩;obtain⟨M1,rd1,e1,pc1,n1,cn1,lM1⟩:=pk (b:=b && b5) (nm:=R) l1 nm;obtain⟨M2,rd2,e2,pc2,n2,cn2,lM2⟩:=pk (b:=b && b6) (nm:=rd1) l2 n1;have sO:=λN=>xv N
  have g1:(0+1<qW)=True:=eq_true (by show 0+1<16777216;decide)
  have g1':(1<qW)=True:=eq_true (by show 1<16777216;decide)
  have g2:(2<qW)=True:=eq_true (by show 2<16777216;decide)
  have b1:∀x:Bool,(true && x)=x:=λx=>rfl
  have b0:∀x:Bool,(false && x)=false:=λx=>rfl
  by_cases t4:4<t
  .have dt4:decide (4<t)=true:=decide_eq_true t4;have mo:yg [dM (gd M1),dM (gd M2),.list [.list []]]=some [gd M1,gd M2,[[]]]:=wI [gd M1,gd M2,[[]]];have lot:Bt [M1,M2,[[]]]:=M4 (rd:=rd2) nm (by lia) (λN hN=>by
    rcases ah.mp hN with q|hN
    .rw [q];exact GE nm pc1
    .rcases ah.mp hN with q|hN
     .rw [q];exact GE n1 pc2
     .rw [mSq.mp hN];exact⟨Qj,by show Ff (tu [oS []]);rw[xW,show tu [([]:List Int)]=[[]] from fQ.mp (qF _)];exact Lq⟩) (λa=>by
    have:=cn1 a;have:=cn2 a;simp only[fCq,fB,fAq,cAq,gJ];lia) (by simp only[fCq,fB,lAq,lCq,bP];lia)
   refine⟨[M1,M2,[[]]],?_,lot⟩;show _=some (AV.ow ((uI [gd M1,gd M2,tu [oS []]]).map λm=>.sh (dM m)))
   rw[xW,show tu [([]:List Int)]=[[]] from fQ.mp (qF _)]
   cases b with
   |true =>
    rw[b1]at e1 e2
    simp_arith [qA,rm,er,sR,dI,hR',hcs,c2,d8,sc,ml,m8,dt3,vK,ym,ES,sG,k1,k2,e5,e6,e1,e2,dt2,dt4,yp,sO,mo,g1,g1',g2]
   |false =>
    rw[b0]at e1 e2
    simp_arith [qA,rm,er,sR,dI,hR',hcs,c2,d8,sc,ml,m8,dt3,vK,ym,ES,sG,k1,k2,e1,e2,dt2,dt4,yp,sO,mo,g1,g1',g2]
  .have dt4:decide (4<t)=false:=decide_eq_false t4;have mo:yg [dM (gd M1),dM (gd M2)]=some [gd M1,gd M2]:=wI [gd M1,gd M2];have lot:Bt [M1,M2]:=M4 (rd:=rd2) nm (by lia) (λN hN=>by
    rcases ah.mp hN with q|hN
    .rw [q];exact GE nm pc1
    .rw [mSq.mp hN];exact GE n1 pc2) (λa=>by
    have:=cn1 a;have:=cn2 a;simp only[fCq,fB,fAq,cAq,gJ];lia) (by simp only[fCq,fB,lAq,lCq,bP];lia)
   refine⟨[M1,M2],?_,lot⟩;show _=some (AV.ow ((uI [gd M1,gd M2]).map λm=>.sh (dM m)))
   cases b with
   |true =>
    rw[b1]at e1 e2
    simp_arith [qA,rm,er,sR,dI,hR',hcs,c2,d8,sc,ml,m8,dt3,vK,ym,ES,sG,k1,k2,e5,e6,e1,e2,dt2,dt4,yp,sO,mo,g1,g1',g2]
   |false =>
    rw[b0]at e1 e2
    simp_arith [qA,rm,er,sR,dI,hR',hcs,c2,d8,sc,ml,m8,dt3,vK,ym,ES,sG,k1,k2,e1,e2,dt2,dt4,yp,sO,mo,g1,g1',g2]
end K54
namespace K53
open PySem L2 Mr Z Xe Zl
open K41 (ab Te)
open K51 (ur qQ)
open K52 (Ff run tq yo)
open K54 (we CF qH vD oR xv Aw gd Bt EH Ax)
theorem Xo(L:List Int) (y:Int):L.map (λn=>AV.sh (.int n))++[.sh (.int y)]=(L++[y]).map λn=>.sh (.int n):=by rw[mBq];rfl
theorem uv:∀(th:List (String×Int)) (op:List Int) {v0 v2:Option AV},op.length+th.length<=1000->(∀x∈th,x.1 = "down" ∨ x.1 = "up" ∨ x.1 = "side")->∃S,se 2 oh (th.map qQ) [v0,some (aI op.reverse),v2]=some (match we op th with|none=>.nx S|some p=>.rt (.sh (.tup [.int p.1,.int p.2])))
 | [],op,v0,v2,_,_=>⟨_,rfl⟩
 |x::th,op,v0,v2,hl,hw=>by
  have hw':=λy hy=>hw y (mCo _ hy)
  rw[lCq]at hl;have go:∀{S':AS}{o:A6},oh [v0,some (aI op.reverse),some (.sh (qQ x))]=some (.nx S')->se 2 oh (th.map qQ) S'=some o->se 2 oh ((x::th).map qQ) [v0,some (aI op.reverse),v2]=some o:=λ{S' o} h1 h2=>by
   show (oh [v0,some (aI op.reverse),some (.sh (qQ x))]).bind _=_;rw[h1];exact h2
  have sl:=pT op.reverse;have i0:BW (.tup [.str x.1,.int x.2]) (.int 0)=some (.str x.1):=rfl;have i1:BW (.tup [.str x.1,.int x.2]) (.int 1)=some (.int x.2):=rfl
  by_cases h:x.1 = "side"
  .have dw:decide (Str.ofString x.1=Str.ofString "side")=true:=by rw[h];exact decide_eq_true rfl
   have hin:=Me false (-x.2) op.reverse;rw[oz (by simp)]at hin
   by_cases c:-x.2∈op
   .rw [decide_eq_true (bc.mpr c)]at hin;cases op with
    |nil=>cases c
    |cons z op' =>
     rw[cA]at hin sl;have la:=K54.Yz op'.reverse z;have ld:=K54.Yh op'.reverse z;have at1:atI ((op'.reverse++[z]).map D.int) (-1)=some (.int z):=by rw[mBq];exact CI _ _
     by_cases d:z = -x.2
     .have dz:FC (.int z) (.int (-x.2))=some (.bl false):=by rw[wV,decide_eq_true d];rfl
      have ef:we (z::op') (x::th)=we op' th:=by
       show (if x.1 = "side" then (if -x.2∈z::op' then (if (z::op').head?=some (-x.2) then we op' th else _) else _) else _)=_
       rw[oq h,oq c,oq (by rw[d];rfl)]
      have e1:oh [v0,some (aI (z::op').reverse),some (.sh (qQ x))]=some (.nx [v0,some (aI op'.reverse),some (.sh (qQ x))]):=by
       rw[cA];unfold K51.qQ
       simp_arith [oh,i0,i1,dw,sl,dI,hin,at1,dz,la,ld]
      obtain⟨S,e2⟩:=uv th op' (v0:=v0) (v2:=some (.sh (qQ x))) (by rw[lCq]at hl;lia) hw'
      exact⟨S,by rw[ef];exact go e1 e2⟩
     .have dz:FC (.int z) (.int (-x.2))=some (.bl true):=by rw[wV,decide_eq_false d];rfl
      have ef:we (z::op') (x::th)=some (ab x.2,ab z):=by
       show (if x.1 = "side" then (if -x.2∈z::op' then (if (z::op').head?=some (-x.2) then we op' th else some (ab x.2,ab z)) else _) else _)=_
       rw[oq h,oq c,oz (show ¬ (z::op').head?=some (-x.2) from λq=>d (aT.inj q))]
      refine⟨[],?_⟩;rw[ef];show (oh [v0,some (aI (z::op').reverse),some (.sh (qQ x))]).bind _=_;have e1:oh [v0,some (aI (z::op').reverse),some (.sh (qQ x))]=some (.rt (.sh (.tup [.int (ab x.2),.int (ab z)]))):=by
       rw[cA];unfold K51.qQ
       simp_arith [oh,i0,i1,dw,sl,dI,hin,at1,dz,Te]
      rw[e1];rfl
   .rw [decide_eq_false λq=>c (bc.mp q)]at hin
    have ef:we op (x::th)=we (x.2::op) th:=by
     show (if x.1 = "side" then (if -x.2∈op then _ else we (x.2::op) th) else _)=_
     rw[oq h,oz c]
    have ap:=Xo op.reverse x.2;have l1:op.reverse.length<qW:=by rw[cY];show _<16777216;lia
    have l1':op.length<qW:=by show _<16777216;lia
    have e1:oh [v0,some (aI op.reverse),some (.sh (qQ x))]=some (.nx [v0,some (aI (x.2::op).reverse),some (.sh (qQ x))]):=by
     rw[cA];unfold K51.qQ
     simp_arith [oh,i0,i1,dw,sl,dI,hin,l1,l1',ap]
    obtain⟨S,e2⟩:=uv th (x.2::op) (v0:=v0) (v2:=some (.sh (qQ x))) (by rw[lCq];lia) hw'
    exact⟨S,by rw[ef];exact go e1 e2⟩
  .have dw:decide (Str.ofString x.1=Str.ofString "side")=false:=by
    rcases hw x (ai ..) with q|q|q
    .rw [q];exact Ax
    .rw [q];exact EH
    .exact absurd q h
   have ef:we op (x::th)=we op th:=by
    show (if x.1 = "side" then _ else we op th)=_
    rw[oz h]
   have e1:oh [v0,some (aI op.reverse),some (.sh (qQ x))]=some (.nx [v0,some (aI op.reverse),some (.sh (qQ x))]):=by
    unfold K51.qQ
    simp_arith [oh,i0,dw]
   obtain⟨S,e2⟩:=uv th op (v0:=v0) (v2:=some (.sh (qQ x))) (by lia) hw'
   exact⟨S,by rw[ef];exact go e1 e2⟩
theorem IJ{th:List (String×Int)}(hl:th.length<=1000) (hw:∀x∈th,x.1 = "down" ∨ x.1 = "up" ∨ x.1 = "side"):sm [.list (th.map qQ)]=some (.sh (CF (we [] th))):=by
 obtain⟨S,e⟩:=uv th [] (v0:=some (.sh (.list (th.map qQ)))) (v2:=none) (by simpa using hl) hw
 have e:se 2 oh (th.map qQ) [some (.sh (.list (th.map qQ))),some (.ow []),none]=_:=e;unfold K54.CF;cases q:we [] th with
 |none =>
  rw[q]at e
  simp_arith [sm,wD,e]
 |some p =>
  rw[q]at e
  simp_arith [sm,wD,e]
theorem VH{M:List (List Int)}(p:Ff M):∀x∈(run M M.flatten.length).th,x.1 = "down" ∨ x.1 = "up" ∨ x.1 = "side" := (K54.HS p.mp p.pos p.one M.flatten.length (ae _)).wd
theorem FL:∀(P:List (List (List Int))),(∀N∈P,Ff N)->∀{v0 v1 v2:Option AV},∃S,se 1 rq (P.map dM) [v0,v1,v2]=some (match qH P with|none=>.nx S|some q=>.rt (.sh (.tup [.int q.1,.int q.2])))
 | [],_,v0,v1,v2=>⟨_,rfl⟩
 |N::P,h,v0,v1,v2=>by
  have p:=h N (ai ..);have w:=walk_ok p.mp p.pos p.one;have c:=IJ (th:=(run N N.flatten.length).th) (by rw[K52.sS p.mp p.pos p.one _ (ae _)];have:=p.mp.hl;lia) (VH p)
  have sD:((run N N.flatten.length).th.map ur).map nM=(run N N.flatten.length).th.map qQ:=by rw[mPq];exact mCq λr _=>pJ _
  cases q:we [] (run N N.flatten.length).th with
  |none =>
   rw[q]at c;have ef:qH (N::P)=qH P:=by
    show (match we [] (run N N.flatten.length).th with|none=>qH P|some q=>some q)=_
    rw[q]
   have e1:rq [v0,some (.sh (dM N)),v2]=some (.nx [v0,some (.sh (dM N)),some (.sh .non)]):=by
    have nn:AX .non .non=some (.bl false):=rfl;unfold K54.CF at c
    simp_arith [rq,w,sD,c,nn]
   obtain⟨S,e2⟩:=FL P (λK hK=>h K (mCo _ hK)) (v0:=v0) (v1:=some (.sh (dM N))) (v2:=some (.sh .non))
   refine⟨S,?_⟩;rw[ef];show (rq [v0,some (.sh (dM N)),v2]).bind _=_;rw[e1];exact e2
  |some x =>
   rw[q]at c;have ef:qH (N::P)=some x:=by
    show (match we [] (run N N.flatten.length).th with|none=>qH P|some q=>some q)=_
    rw[q]
   have e1:rq [v0,some (.sh (dM N)),v2]=some (.rt (.sh (.tup [.int x.1,.int x.2]))):=by
    have nn:AX (.tup [.int x.1,.int x.2]) .non=some (.bl true):=rfl;unfold K54.CF at c
    simp_arith [rq,w,sD,c,nn]
   refine⟨[],?_⟩;rw[ef];show (rq [v0,some (.sh (dM N)),v2]).bind _=_;rw[e1];rfl
theorem TR{P:List (List (List Int))}(h:∀N∈P,Ff N):yt [.list (P.map dM)]=some (.sh (CF (qH P))):=by
 obtain⟨S,e1⟩:=FL P h (v0:=some (.sh (.list (P.map dM)))) (v1:=none) (v2:=none);unfold K54.CF;cases q:qH P with
 |none =>
  rw[q]at e1
  simp_arith [yt,BO,e1]
 |some p =>
  rw[q]at e1
  simp_arith [yt,BO,e1]
end K53
namespace K53
open PySem L2 Mr Z Xe Zl
open K51 (ur qQ)
open K52 (Ff run)
open K54 (CF qH vD oR xv Aw gd Bt)
section
variable {P:List (List (List Int))}
theorem EU:∀P:List (List (List Int)),(P.map gd).flatten.Perm (P.flatten.map oS)
 | []=>.refl _
 |T::P=>by
  rw[au,fCq,fCq,mBq];exact(qF _).append (EU P)
theorem Ug(h:Bt P):Mp (tu (P.flatten.map oS))/\tu (uI (P.map gd)).flatten=tu (P.flatten.map oS)/\∃PS:List (List Nat),K51.qP [dM (tu (P.flatten.map oS))]=some (.ow (PS.map (K51.pA (tu (P.flatten.map oS)))))/\(PS.map λps=>ps.map λk=>(tu (P.flatten.map oS)).getD k [])=uI (P.map gd):=by
 have pG:(tu (P.flatten.map oS)).flatten.Perm P.flatten.flatten:=(wt (qF _)).trans (qJ qu _);have lG:(tu (P.flatten.map oS)).length=P.flatten.length:=by rw[zh,lMq]
 have hle:=h.le;have hlt:=h.lt;have ng:∀z∈P.flatten.flatten, -z∈P.flatten.flatten:=K54.LS λT hT=>(h.cn T hT).clo
 have mp:Mp (tu (P.flatten.map oS)):=⟨pG.nodup_iff.mpr h.nd,by rw[pG.length_eq];lia,by lia,λe he=>pG.mem_iff.mpr (ng e (pG.mem_iff.mp he))⟩
 exact⟨mp,Kv ((vY _).flatten.trans (EU P)),K11.GO ⟨h.nd,K43.De mp⟩ h.cn⟩
end
theorem VX(a b:Int):∃n p,Dk n (.tup [.int a,.int b]) p/\n<=64:=⟨1,.tuple [.int a,.int b],.tup rfl λi d p h1 h2=>by
 match i,h1,h2 with
 |0,h1,h2=>cases h1;cases h2;exact .int
 |1,h1,h2=>cases h1;cases h2;exact .int
 |n+2,h1,h2=>simp at h1,by lia⟩
theorem Um{ns:List Int}(hns:ns.length<=63):Eg [.scr ns]=some (.sh (.bl true)):=by
 have c1:oA [.scr ns,.int 1]=some (.sh (.int (cell ns 1))):=zM ns (by decide)
 have m3:=sC (i:=cell ns 1) (j:=3) (by decide)
 obtain⟨P,ep,hP⟩:=K54.pieces_ok ns (decide (0<cell ns 1 % 3));obtain⟨mp,es,PS,ef,eP⟩:=Ug hP;have hlt:=hP.lt;have ll:(uI (P.map gd)).length=P.length:=by rw[(vY _).length_eq,lMq]
 have lPS:PS.length=P.length:=by rw[←ll,←eP,lMq]
 have lM:(tu (P.flatten.map oS)).length<=140:=by rw[zh,lMq];exact hlt
 have pcL:∀N∈uI (P.map gd),Ff N:=λN hN=>by
  obtain⟨T,hT,rfl⟩:=mMq.mp ((vY _).mem_iff.mp hN);exact hP.pc T hT
 have lF:(uI (P.map gd)).flatten.length<=1000:=by
  have:=((vY (P.map gd)).flatten.trans (EU P)).length_eq;rw[lMq]at this;lia
 have jo:=Aw lF;have cr:=vD pcL (x:=.ow (PS.map (K51.pA (tu (P.flatten.map oS))))) (by
  rw[←eP,rS,mPq,mPq];refine congrArg D.list (mCq λps _=>?_)
  show nM (.ow (ps.map λk=>aI ((tu (P.flatten.map oS)).getD k [])))=dM _
  rw[rS,mPq];show _=D.list ((ps.map λk=>(tu (P.flatten.map oS)).getD k []).map dI)
  rw[mPq];exact congrArg D.list (mCq λk _=>pT _)) ef
 have du:=TR pcL;rw[es]at jo;have wk:K51.uH [dM (tu (P.flatten.map oS))]=(if P.length=1 then some (.ok (.ow ((run (tu (P.flatten.map oS)) (tu (P.flatten.map oS)).flatten.length).th.map ur))) else some (.ex "NotOnePiece" [])):=by
  by_cases c:P.length=1
  .rw [oq c];obtain⟨T,rfl⟩:=eW.mp c;have p:=hP.pc T (mSq.mpr rfl);rw[aL];exact K52.walk_ok p.mp p.pos p.one
  .rw [oz c];have h':¬ ((PS.length:Nat):Int)=1:=by lia
   have er:K51.oB [dM (tu (P.flatten.map oS))]=some (.ex "NotOnePiece" []):=by
    simp_arith [K51.oB,K51.qa,ef,h']
   simp_arith [K51.uH,K51.Bs,er]
 have lL:((uI (P.map gd)).map dM).length=P.length:=by rw[lMq];exact ll
 generalize uI (P.map gd)=L at ep jo cr du ll lL;generalize tu (P.flatten.map oS)=M at jo cr wk lM;have sP:nM (.ow (L.map λm=>.sh (dM m))) = .list (L.map dM):=by rw[rS,mPq];exact congrArg D.list (mCq λr _=>pJ _)
 have sP':(L.map λm=>AV.sh (dM m)).map nM=L.map dM:=by rw[mPq];exact mCq λr _=>pJ _
 have sO:=xv M;have cp:=K51.Qk (rs:=M) (by lia)
 have sM:(M.map aI).map nM=M.map dI:=by rw[mPq];exact mCq λr _=>pT r
 have nd:N3 (.list (M.map dI)) (.list (M.map dI))=some (.bl false):=by
  have:=SC M M;rw[decide_eq_true rfl]at this;exact this
 have dn:∀b:Bool,FC (.bl b) (.bl b)=some (.bl false):=λb=>by cases b <;> rfl
 have wh:∀n:Int,K51.uy [.int n]=some (.sh (.bl true)):=λn=>by simp_arith [K51.uy,K51.B6]
 have ie:=wV (P.length:Int) 1;cases q:qH L with
 |none =>
  rw[q]at cr du;have i0:Ij (CF none) .non=some (.bl true):=rfl
  by_cases c:P.length=1
  .rw [oq c]at wk;rw[decide_eq_true (show (P.length:Int)=1 by lia)]at ie
   simp_arith [Eg,BU,c1,m3,ep,sP',jo,sO,cp,sM,dM,cr,du,nd,i0,dn,wk,lL,ie,ll]
  .rw [oz c]at wk;rw[decide_eq_false (show ¬ (P.length:Int)=1 by lia)]at ie
   simp_arith [Eg,BU,c1,m3,ep,sP',jo,sO,cp,sM,dM,cr,du,nd,i0,dn,wk,lL,ie,ll]
 |some p =>
  rw[q]at cr du;have i0:Ij (CF (some p)) .non=some (.bl false):=rfl;have is:Dr [CF (some p),.ty "tuple"]=some (.bl true):=rfl;have l2:rL [CF (some p)]=some (.int 2):=rfl;have n2:FC (.int 2) (.int 2)=some (.bl false):=rfl;have x0:J9 (CF (some p)) (.int 0)=some (.int p.1):=rfl;have x1:J9 (CF (some p)) (.int 1)=some (.int p.2):=rfl;have eq:Pg (CF (some p)) (CF (some p))=some (.bl true):=ud ⟨rfl,VX p.1 p.2⟩ _
  by_cases c:P.length=1
  .rw [oq c]at wk;rw[decide_eq_true (show (P.length:Int)=1 by lia)]at ie
   simp_arith [Eg,BU,c1,m3,ep,sP',jo,sO,cp,sM,dM,cr,du,nd,i0,dn,wk,lL,ie,ll,is,l2,n2,x0,x1,wh,eq]
  .rw [oz c]at wk;rw[decide_eq_false (show ¬ (P.length:Int)=1 by lia)]at ie
   simp_arith [Eg,BU,c1,m3,ep,sP',jo,sO,cp,sM,dM,cr,du,nd,i0,dn,wk,lL,ie,ll,is,l2,n2,x0,x1,wh,eq]
end K53
namespace K53
open PySem L2 Mr Z Xe
theorem Uq{l:W.OpenLaw}{w:jf}{K:W.Frag}{h:Heap}{mg:Str->Option Value}{fa:Addr}(X:K.In h) (G:h.Ns jd mg) (hfa:mg "law" = some (.ref fa))
  {M:Addr}
  {rQ:Addr}
  (a0:At K "places_at" rZ f0 fd0)
  (a1:At K "nexts" zo f1 fd1)
  (a2:At K "reached" vU f2 fd2)
  (a3:At K "pieces" vN f3 fd3)
  (a4:At K "refuse_not_one_piece" pP f4 fd4)
  (a5:At K "walk" Ai f5 fd5)
  (a6:At K "first_crossing" qG f6 fd6)
  (a7:At K "crossing" uP f7 fd7)
  (a8:At K "_law_cell" uF f8 fd8)
  (a9:At K "_law_roads" vX f9 fd9)
  (a10:At K "_law_good" xB f10 fd10)
  (a11:At K "_law_piece" vW f11 fd11)
  (a12:At K "_law_pieces" uS f12 fd12)
  (a13:At K "_law_joined" uO f13 fd13)
  (a14:At K "_law_copy" xp f14 fd14)
  (a15:At K "_law_places" uM f15 fd15)
  (a16:At K "_law_walk" xC f16 fd16)
  (a17:At K "_law_crossed" tN f17 fd17)
  (a18:At K "_law_due" zO f18 fd18)
  (a19:At K "_law_whole" vO f19 fd19)
  (a20:W.nsIn K jd "law" = some (some (.ref f20))) (l20:K.lookup f20=some ⟨oc20,od20,.func (W.fnOf "law" "law" (uf yK) (sN yK) (nX yK) .none kV20 dc20 pm20 an20 cd20 ct20),sl20⟩) (c20:W.codeIn K cd20 "law" = true) (k20:W.keepIn K (.ref f20)=true)
  (aM:W.nsIn K jd "MapError" = some (some (.ref M))) (xM:yC K "MapError" M Dd=true)
  (Dj:W.nsIn K jd "NotOnePiece" = some (some (.ref rQ))) (Dl:yC K "NotOnePiece" rQ (.ref M::Dd)=true) (Ds:WV K rQ=true)
  (Dq:W.findIn K (.ref rQ) "__init__" = some (some (.builtin "ValueError.__init__"))) (B1:W.keepIn K (.ref rQ)=true)
  (btu:W.nsIn K jd "tuple" = some none)
  (z0:W.nsIn K jd "len" = some none) (z1:W.nsIn K jd "min" = some none) (z2:W.nsIn K jd "max" = some none) (z3:W.nsIn K jd "abs" = some none) (z4:W.nsIn K jd "all" = some none) (z5:W.nsIn K jd "sorted" = some none) (z6:W.nsIn K jd "isinstance" = some none) (z7:W.nsIn K jd "list" = some none) (z8:W.nsIn K jd "int" = some none) (z9:W.nsIn K jd "bool" = some none) (z10:W.nsIn K jd "str" = some none) (z11:W.nsIn K jd "dict" = some none) (z12:W.nsIn K jd "zip" = some none) (z13:W.nsIn K jd "enumerate" = some none) (z14:W.nsIn K jd "range" = some none) (z15:W.nsIn K jd "reversed" = some none) :
  ∃fd:jl,(∀(s:iV) (v:Value),ly s fd ⟨[v],[]⟩ [("_law_script", v)])/\∀base:Heap,K.In base->base.Ns jd mg->yP l.prog w K mg base Uz 7 fa fd ["_law_script"] (JY K):=by
 have e:=hfa.symm.trans (W.mg_of X G a20);cases e;have B:Bt mg:=⟨W.mg_none_of X G z0,W.mg_none_of X G z1,W.mg_none_of X G z2,W.mg_none_of X G z3,W.mg_none_of X G z4,W.mg_none_of X G z5,W.mg_none_of X G z6,W.mg_none_of X G z7,W.mg_none_of X G z8,W.mg_none_of X G z9,W.mg_none_of X G z10,W.mg_none_of X G z11,W.mg_none_of X G z12,W.mg_none_of X G z13,W.mg_none_of X G z14,W.mg_none_of X G z15⟩;have D20:Bd K mg "law" yK ["_law_script"] _ _:=⟨IC l20 c20 k20,W.mg_of X G a20,b1 (IC l20 c20 k20) λ_ _ _ _ _ _ _=>rfl⟩
 refine⟨W.fnOf "law" "law" (uf yK) (sN yK) (nX yK) .none kV20 dc20 pm20 an20 cd20 ct20,λs v=>.of_eq rfl,λbase kb nb=>?_⟩
 have bTU:=W.mg_none_of X G btu;have RS:=PM X G aM xM;have Do:=TQ Dj aM Dl xM Ds;have pC:=Po X G Do Dq B1;have F0:=Fe (P:=l.prog) (w:=w) (base:=base) (DK X G a0 (b1 a0.F λ_ _ _ _ _ _ _=>rfl)) B
 have F1:=M6 (P:=l.prog) (w:=w) (base:=base) (DK X G a1 (b1 a1.F λ_ _ _ _ _ _ _=>rfl)) B
 have F2:=Ik (DK X G a2 (b2 a2.F λ_ _ _ _ _ _ _ _=>rfl)) B F0
 have F3:=KG (DK X G a3 (b1 a3.F λ_ _ _ _ _ _ _=>rfl)) B F2
 have F4:=vR (DK X G a4 (b1 a4.F λ_ _ _ _ _ _ _=>rfl)) B pC F3
 have F5:=O0 (DK X G a5 (b1 a5.F λ_ _ _ _ _ _ _=>rfl)) B F4 F0 F1
 have F6:=zu (P:=l.prog) (w:=w) (base:=base) (DK X G a6 (b1 a6.F λ_ _ _ _ _ _ _=>rfl)) B
 have F7:=Gr (DK X G a7 (b1 a7.F λ_ _ _ _ _ _ _=>rfl)) B F3 F6 F5
 have F8:=KQ (P:=l.prog) (w:=w) (base:=base) (DK X G a8 (b2 a8.F λ_ _ _ _ _ _ _ _=>rfl)) B
 have F9:=HY (DK X G a9 (b1 a9.F λ_ _ _ _ _ _ _=>rfl)) B F8
 have F10:=K2 (P:=l.prog) (w:=w) (base:=base) (DK X G a10 (b1 a10.F λ_ _ _ _ _ _ _=>rfl)) B
 have F11:=Hn (DK X G a11 (b3 a11.F λ_ _ _ _ _ _ _ _ _=>rfl)) B F10
 have F12:=FG (DK X G a12 (b3 a12.F λ_ _ _ _ _ _ _ _ _=>rfl)) B F8 F9 F11
 have F13:=GT (P:=l.prog) (w:=w) (base:=base) (DK X G a13 (b1 a13.F λ_ _ _ _ _ _ _=>rfl)) B
 have F14:=KD (P:=l.prog) (w:=w) (base:=base) (DK X G a14 (b1 a14.F λ_ _ _ _ _ _ _=>rfl)) B
 have F15:=GL (P:=l.prog) (w:=w) (base:=base) (DK X G a15 (b1 a15.F λ_ _ _ _ _ _ _=>rfl)) B
 have F16:=Ki (DK X G a16 (b1 a16.F λ_ _ _ _ _ _ _=>rfl)) B F15
 have F17:=EZ (P:=l.prog) (w:=w) (base:=base) (DK X G a17 (b1 a17.F λ_ _ _ _ _ _ _=>rfl)) B
 have F18:=Ov (DK X G a18 (b1 a18.F λ_ _ _ _ _ _ _=>rfl)) B F17 F16
 have F19:=Ip (P:=l.prog) (w:=w) (base:=base) (DK X G a19 (b1 a19.F λ_ _ _ _ _ _ _=>rfl)) B
 have F20:=Up D20 B pC bTU F12 F13 F14 F7 F18 F5 F19 F8;exact F20.ok.imp (QB λns h=>Um h)
theorem Xl{l:W.OpenLaw}{q:je}{loose:List Str}{XP:(Str->Option Value)->Heap->Prop}{YP:jf->Heap->Prop}{d:DefRec}{K:Params->W.Frag}(hn:l.most=some 63) (hdf:d.params.defaults=[])
  (hY:∀(w:jf) (h:Heap),YP w h->(K w.params).In h)
  (F:∀(w:jf) (mg:Str->Option Value) (fa:Addr) (h:Heap),(K w.params).In h->h.Ns jd mg->mg d.name=some (.ref fa) ->
   ∃fd:jl,(∀(s:iV) (u:Value),ly s fd ⟨[u],[]⟩ [("_law_script", u)])/\∀base:Heap,(K w.params).In base->base.Ns jd mg->yP l.prog w (K w.params) mg base Uz 7 fa fd ["_law_script"] (JY (K w.params))) :
  W.WalkO q loose XP YP l.row.toRowW d [] (λf vs=>PySem.call f vs) :=
 L2.O3 (n:=63) (k:=7) (x := "_law_script") (CX:=λ_=>Uz) (sp:=λw=>JY (K w.params)) hn (by decide) hdf ⟨rfl,by decide,by decide⟩ hY F (λ_ _ a ns hl _ hS=>⟨a,ns,rfl,hS,hl,λ_=>rfl⟩) λ_ _ _ _ _ z=>z
end K53
structure PySem.W.Fast:Prop where(tw5480652130114307479 tw4945444099029624677 tw12550550607563529405 tw9340721877789497557 tw9855724516632607989 tw5037644047728159336 tw8483648345574762242 tw17288362337525524491 tw8837593534220669407 tw15177721569435952954 tw668038849770858459 tw3143942166471569590 tw3632072852441309617 tw12667940404949823301 tw4533970891922208256 tw6298280623643229769 tw6779794404601937746 tw15266644222742619163 tw12550872955390519790 tw8096408493403433418 tw7947454713709614902 tw17041791167329217793 tw11781546880532408166 tw4055190276177350638 tw2253812951699884995 tw12989438381652519552 tw13631808508210036401 tw5450049559580723809 tw17046878734055273986 tw2224944543683276381 tw14290917716614884158 tw18124368698933711568 tw13974909981053203493 tw12031295164877635499 tw14151410146461440509 tw9199315428531110406 tw303358807485533142 tw1259121625051756309 tw211675017019959315 tw1995635566779107796 tw7880869176939272259 tw17681564038260235141 tw9097954219142487788 tw14673657247019512115 tw9756286970383338148 tw14476694958233876308 tw4765674637083644415 tw6647893940136546436 tw8024657415607556285 tw10197889167360687584 tw1697028643487509187 tw17237894929800581505 tw13115940909964048417 tw10874899671555253685 tw6251610706200067290 tw17963835584177144326 tw12136590786037487695 tw6732491246805837848 tw3275528069502424181 tw2266849703061230504 tw14203018222510542808 tw3287685387384575078 tw12309200569530647662 tw4909601658593397736 tw16376600470533459581 tw15599997878488109236 tw986932006235802309 tw4036643857477739532 tw13495229671857575338 tw18292742608935361992 tw16289406163154145563 tw6323857632784109961 tw6055273959298225272 tw9072614371731630198 tw9761615009422462430 tw9342712926619613682 tw2952950738060942151 tw7605819442660917043 tw16087847994617785837 tw17689124133112966563 tw17853253965008869330 tw14642391823984072624 tw8521006751544471347 tw12084296580313945680 tw7470153225654015350 tw15161975764912415402 tw4503580007269054108 tw1905371088475876999 tw17451445254631752902 tw16971197346508540466 tw10143436866588956031 tw123088246618136078 tw15811650774640256354 tw8749995678062190404 tw5401076291137170968 tw1769472061194874500 tw1738482017027968086 tw1089540225981358955 tw4119945154543417633 tw16516575743182643493 tw9670402602994336394 tw17367835720147521504 tw2162131236716252095 tw11302208506896376022 tw47465556458384088 tw9883894959164514096 tw5907670782311446428 tw12111564027887573701 tw9928812583839479243 tw8142637348431897549 tw2385205730118502240 tw9696968546187872191 tw12682914051786409384 tw14702431455348478941 tw15617941006366505163 tw2161116235719247259:True)
open PySem PySem.W PyProof.Rows
set_option maxRecDepth 100000 in
set_option maxHeartbeats 0 in
theorem PySem.Challenge.cw_mapround_k53_the_crossing_holds : PySem.Challenge.rw_mapround_k53_the_crossing.Holds := by
 w_on;o_law;k_head;(case hw=>w_witness2)
 k_fill
 refine K53.Xl (l:=PySem.Challenge.rw_mapround_k53_the_crossing) rfl rfl (λw h Y=>W.kIn_of Y) ?F
 case F =>
  intro w mg fa h KX G hmg;apply K53.Uq KX G hmg
  all_goals first|exact Mr.VW (by k_is) (by k_is) (by k_is) (by k_is)|exact Mr.atM_mk (by k_is) (by k_is) (by k_is) (by k_is) (by k_is)|k_is|kernel_rfl

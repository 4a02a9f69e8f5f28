import PyProof.Rows.All
import Wide.All
import OpenK.AllK
import Wide.FinOn
import Lean
import PyProof.EqAt
import PyProof.EqKinds
import PyProof.TupleCall
import KE.KIntText
import PyProof.ConsumeWalk
import PySem.Challenge.RW_mapround_k35_codes_of_pieces
set_option Elab.async false
set_option linter.all false
set_option maxRecDepth 100000
set_option maxHeartbeats 4000000
open Option renaming bind_eq_some_iff->oBq,map_eq_some_iff->oMq
open List renaming getElem?_eq_some_iff->gSq,getElem?_eq_getElem->gEg,getD_eq_getElem?_getD->gDq,length_append->lAq,length_map->lMq,mem_append->mAq,mem_flatten->mFq,mem_map->mMq,getElem?_map->gMq,mem_of_getElem?->mGq,map_congr_left->mCq,getElem_mem->gRq,length_singleton->lSq,mem_singleton->mSq,length_take->lTq,nodup_append->nAq,append_nil->aNq,flatten_append->fAq,getElem?_append_right->gYq,getElem?_append_left->gZq,length_cons->lCq,map_map->mPq,map_append->mBq,mem_cons_of_mem->mCo,length_set->lZq,flatten_cons->fCq,count_append->cAq,mem_cons->aj,map_cons->ak,mem_append_right->ar,drop_eq_getElem_cons->au,getElem?_set_ne->ax,mem_cons_self->ay,size_toArray->az,append_assoc->aA,pairwise_append->aB,getElem?_set_self->aD,replicate->aE,nodup_cons->aH,sublist_flatten_of_mem->aQ,length_drop->aR,nodup_nil->aT,length_eq_zero_iff->aV,flatten_singleton->aY,take_append_drop->aZ,mem_of_mem_drop->ba,mem_iff_getElem?->bf,take_sublist->bh,getElem?_set->bo,mem_of_mem_take->bp,drop_of_length_le->bq,drop_sublist->bz,pairwise_map->bA,mem_iff_getElem->bB,length_nil->bC,mem_append_left->bE,length->bF,mem_reverse->bG,take_length->bH,Pairwise->bI,pairwise_iff_getElem->bJ,foldl_cons->bK,getElem?_eq_none->bM,Perm->bO,range->bP,nodup_iff_pairwise_ne->bQ,perm_append_comm->bR,getElem?_replicate->bY,eraseIdx_cons_succ->bZ,find?_cons_of_neg->cu,drop_zero->cw,flatMap_cons->cF,exists_mem_of_ne_nil->cG,dropLast_concat->cH,nodup_iff_count->cI,take_succ_eq_append_getElem->cJ,eq_of_mem_replicate->cK,set_cons_zero->cS,contains_cons->cT,count_eq_zero->cU,find?_cons->cV,take_of_length_le->cW,drop_eq_nil_of_le->cX,find?_cons_of_pos->cY,length_replicate->dc,take_add_one->df,map_id->dg,length_range->dh,eq_nil_or_concat->dk,concat_eq_append->dm,Sublist->du,length_eraseIdx->dv,drop_length->dz,extract_eq_take_drop->dB,perm_singleton->dE,idxOf_lt_length_iff->dF,pairwise_cons->dO,set_cons_succ->dQ,pairwise_mergeSort->dU,eraseIdx_cons_zero->dW,pairwise_singleton->dX,mem_range->dY,getElem_drop->ee,ext_getElem?->eg,length_pos_of_mem->eB,findIdx_lt_length_of_exists->eC,eraseIdxIfInBounds_toArray->eD,any_cons->eE,set_getElem_self->eJ,mem_flatMap->eK,count_cons_of_ne->eM,reverse_reverse->eQ,reduceReplicate->eU,count_cons_self->eV,countP_map->eW,map_nil->eX,set_set->eZ,filterMap_cons->fb,mergeSort_perm->fc,toList_toArray->fe,length_pos_iff->ff,perm_iff_count->fg,flatMap_append->fh,getElem?_drop->fm,count_pos_iff->fo,perm_ext_iff_of_nodup->ft,getElem_take->fv,foldl_append->fA,getElem?_take_of_lt->fB,not_mem_nil->fF,any_eq_true->fL,getLast?_singleton->fV,of_mem_zip->fW,nil_append->fX,flatMap_singleton->gb,getElem?_zipWith->gh,getElem?_toArray->gj,take_zero->gq,findIdx_getElem->gw,getLast?_append->gA,reverse_append->gC,replicate_succ->gE,getElem?_range->gF,mem_filterMap->gK,zip_cons_cons->gL,getElem_idxOf->gN,map_replicate->gO,countP_congr->gT,find?_isSome->gU,ext_getElem->gY,nodup_range->hV,mem_filter->hW,drop_drop->ij,perm_nil->iu,zipWith->iw,any_map->ix,lookup->iB
open And renaming intro->aa
open PySem.Heap renaming get?_push_of_some->ae,lt_size->ah,get?_update_other->aJ,get?_push_size->aU,get?_update_ne->bx,get?_update_self->bL,size_update->bS,get?_none_of_le->bT,get?_push_ne->cE,size_push->dZ,MadeExcOf->fi,get?_push_at->fw,SameBut->fN
open Nat renaming le_refl->af,ne_of_lt->aw,lt_of_lt_of_le->aN,zero_le->aW,lt_succ_of_lt->bj,le_trans->br,le_succ->bw,zero_add->bD,not_lt_zero->bW,le_of_lt->bX,lt_irrefl->cf,min_eq_left->cB,lt_succ_iff_lt_or_eq->cM,sub_self->cP,ne_of_gt->dr,lt_succ_self->dw,add_one_sub_one->dD,lt_or_eq_of_le->dN,le_of_eq->dR,le_of_not_lt->eF,add_assoc->eG,pos_of_ne_zero->fk,reduceAdd->fy,succ_le_succ->fE,reduceEqDiff->fJ,reduceLeDiff->fK,add_sub_cancel_left->fO,add_zero->fP,strongRecOn->gc,reduceSub->gG,le_of_lt_succ->gQ,lt_trichotomy->gR,max_eq_right->gX,min_eq_right->gZ,add_comm->iy
open Array renaming getElem?_eq_getElem->ag,length_toList->aq,getElem?_toList->aC,getElem?_eq_some_iff->aF,toList_append->aG,getElem_mem->aX,toList_reverse->bU,toList_push->de,size_extract->dP,toList_extract->eO,toArray_toList->eS,size_map->fj,toList_setIfInBounds->fq,getElem?_extract->fY,mem_toList_iff->gu,getD->gB,Perm->gD,append_assoc->gJ
open PySem.F renaming plainAttrs_list->ai,slot_list_append->aK,type_list_append->aL,slot_list_pop->cz,type_list_pop->cA,slot_list_count->cQ,excBase_ValueError->dA,slot_list_extend->dG,type_list_extend->dJ,slot_list_index->dS,args_list_count_2->fx,entry_list_count->fD,type_list_index->fR,type_list_count->fU,store_object->gv
open PySem.Value renaming ref->ao,none->cZ,type->eA,int->gf,bool->hX,isStrOf->iq,str->ir,isInt->iz
open Bool renaming false_ne_true->aO,eq_iff_iff->bV,not_eq_true->cj,false_eq_true->cy,not_eq_true'->eh,and_eq_true->eI,or_true->eY,eq_false_iff->gS,false_and->ie
open Sum renaming inl->aS,inr->fu
open Int renaming emod_lt_of_pos->bb,emod_nonneg->bg,toNat_natCast->cC,le_refl->gg,toNat->gn,toNat_of_nonneg->gH,zero_add->gP,mul_one->gV,neg_neg->hU
open Option renaming some->bc,getD_some->cO,isSome_map->ed,bind_some->fG,map_some->fZ,isSome_some->gM,getD_none->gW,some_or->ik,none->iA
open PyProof.Rows renaming boot_sorted->bN,boot_list->cv,callWith_type1->dq,callWith_builtin1->eN,boot_tuple->fS,boot_min->gk,boot_isinstance->ic,eq_dataH_same->il,ne_dataH_same->ip,lt_int->iC
open Classical renaming propDecidable->fQ
open Prod renaming ext->gI
open PySem renaming Shared->iD,wpAny_bind->iF,model->iG,wpAny->iI,Program->iK,mainGlobals->iM,sizeLine->iN,wpAny_pure->iO,World->iP,starEach->iR,FuncData->iT,wpAny_mono->iU,wpAny_loadPart_at->iV,cLine->iX,sizeLine_eq->iY,typeLookup->ja,call_isinstance->je,wpAny_holding->jg,excClassObj->ji,compareOp->jk,wpAny_passesOwn->jl,isinstance_true->jm,codeAny_builtin->jn,sysModules->jq,argBest->jr,wpAny_Call_Name_kw->jt,wpAny_truthy_bool->jv,backTo->jx,call_meets->jA,wpAny_newList->jC,plainId_quiet->jD,sliceBounds->jF,wpAny_isSubtype_exc->jH,Scope->jJ,bootBuiltins->jK,OwnTail->jL,unsupported->jN,behindInMarks->jQ,Model->jR,binaryOp->jT,codeAny->jU,codeAny_call_builtin->jV,wpAny_execs_nil->jW,letOwnedTupleGo->jX,wpAny_call->jZ,rawInt->ka,wpAny_tryCatch->kc,relabel->kf,richCompare->ki,tupleKind_room_in1->kj,wpAny_standAt->km,wpAny_newObj_type->ko,foldedSetIterable->kq,wpAny_check_type_call_sub->kr,codeAny_call_builtin_code->ku,assignEach->ky,valueAt->kz,callerA->kA,wpAny_comprehension_free->kB,wpAny_call_entry->kC,codeAny_mono->kE,codeAny_call_builtin_at->kF,wpAny_updateSeq->kG,tupleKind->kI,swapsWith->kJ,atKey->kK,richCompare_meets_room->kL,wpAny_letGo->kM,wpAny_field->kN,subscripted->kO,wpAny_isTrue_Compare1->kP,wpAny_check_init_subT->kQ,wpAny_setField->kR,wpAny_seqItems->kS,isSubtype_type->kU,getItem->kX,BindsTo->kY,wpAny_loadName_local->kZ,wpAny_check_new_subT->lg,lookup_relabel_local->lj,codeAny_exc_new_subT->lr,GenState->lu,wpAny_loadName_cell->lz,seqIndex?->lI
open PyProof.Rows renaming Keyed->iE,wpS_bind->iH,wpS_pure->iJ,arrOf->iQ,seqObj->iS,IntsAre->iW,SortKind->iZ,pairsOf->jb,wpS_forRange->jc,setArr->jd,wpS_mono->jf,elem'->jh,pairsOf_size->jj,envOfC->jo,pendingOf->ju,wpS_modify->jy,sortedHeap->jz,oneType'->jB,listUpdate_at->jE,wpS_get->jG,getElem?_mirror_all->jI,AllBare->jM,seqEpoch_at->jO,reverseSlice'->jP,gallopOf->jS,get?_update_seq->jY,keyKind'->ke,size_push'->kx,entry_list_sort->kH,slot_list_sort->kT,args_list_sort->kW,subscriptTail->ly,plain_sorted->lD,entry_sorted->lF,args_sorted1->lH,kind_sorted->lJ
open PySem.W renaming looks_findIn->jw
noncomputable section
open Array renaming mem_of_getElem?->aQq
local macro_rules|`(tactic|trivial)=>`(tactic|first|exact Or.inl rfl|exact Or.inr rfl|exact Or.inr (Or.inl rfl)|exact Or.inr (Or.inr rfl)|exact⟨rfl,rfl,rfl,by decide +kernel,rfl,by decide +kernel,by decide +kernel⟩|fail)
theorem nK{c:Prop}{_:Decidable c}(h:c){α}{t e:α}:ite c t e=t:=if_pos h
theorem nS{c:Prop}{_:Decidable c}(h:¬c){α}{t e:α}:ite c t e=e:=if_neg h
namespace L2
open PySem PySem.Spec PyProof.Rows
abbrev nX:=Sum Int Str
def B1:nX->Value->Bool
 | .inl k,v=>iz k v
 | .inr x,v=>iq x v
def TH(w:iP):nX->Int
 | .inl k=>hashInt k
 | .inr x=>hashStr w x
theorem pJ:∀{k:nX}{v:Value},B1 k v=true->(∃i t,k=aS i/\v=gf i t)∨(∃x t,k=fu x/\v=ir x t)
 | .inl i,v,h=>by
  obtain⟨t,e⟩:=Value.isInt_shape (k:=i) (v:=v) h;exact .inl ⟨i,t,rfl,e⟩
 | .inr x,v,h=>by
  obtain⟨t,e⟩:=Value.isStrOf_shape (x:=x) (v:=v) h;exact .inr ⟨x,t,rfl,e⟩
theorem Jj(i:Int) (t:Tok):B1 (.inl i) (.int i t)=true:=by simp[B1,iz]
theorem Ij(x:Str) (t:Tok):B1 (.inr x) (.str x t)=true:=by simp[B1,iq]
theorem PU(a b:Int):decide ((aS a:nX)=aS b)=(a == b):=by
 by_cases e:a=b
 .subst e;simp
 .have h:¬ (aS a:nX)=aS b:=λq=>e (aS.inj q)
  rw[decide_eq_false h];exact(beq_eq_false_iff_ne.mpr e).symm
theorem Pa(a b:Str):decide ((fu a:nX)=fu b)=decide (a=b):=by
 by_cases e:a=b
 .subst e;simp
 .have h:¬ (fu a:nX)=fu b:=λq=>e (fu.inj q)
  rw[decide_eq_false h,decide_eq_false e]
theorem QA(a:Int) (b:Str):decide ((aS a:nX)=fu b)=false:=decide_eq_false (λq=>nomatch q)
theorem Qe(a:Str) (b:Int):decide ((fu a:nX)=aS b)=false:=decide_eq_false (λq=>nomatch q)
def pW(prog:iK) (w:iP):PySem.KeyKind prog w nX where
 is:=B1
 hash:=TH w
 inj:=λv a b ha hb=>by
  rcases pJ ha with ⟨i,t,rfl,rfl⟩|⟨x,t,rfl,rfl⟩
  .rcases pJ hb with ⟨j,u,rfl,e⟩|⟨y,u,rfl,e⟩
   .injection e with e1 _;rw[e1]
   .exact nomatch e
  .rcases pJ hb with ⟨j,u,rfl,e⟩|⟨y,u,rfl,e⟩
   .exact nomatch e
   .injection e with e1 _;rw[e1]
 byValue:=λk v h=>by
  rcases pJ h with ⟨i,t,rfl,rfl⟩|⟨x,t,rfl,rfl⟩ <;> rfl
 pyHash:=λhv h=>by
  rcases pJ hv with ⟨i,t,rfl,rfl⟩|⟨x,t,rfl,rfl⟩
  .exact wpAny_pyHash_int h
  .exact wpAny_pyHash_str h
 eqBool:=λhu hv h=>by
  rcases pJ hu with ⟨i,t,rfl,rfl⟩|⟨x,t,rfl,rfl⟩
  .rcases pJ hv with ⟨j,u,rfl,rfl⟩|⟨y,u,rfl,rfl⟩
   .rw [PU]at h;exact wpAny_eqBool_int h
   .rw [QA]at h;exact SeqAt.EqAt.int_str i t y u _ _ _ _ h
  .rcases pJ hv with ⟨j,u,rfl,rfl⟩|⟨y,u,rfl,rfl⟩
   .rw [Qe]at h;exact SeqAt.EqAt.str_int x t j u _ _ _ _ h
   .rw [Pa]at h;exact wpAny_eqBool_str h
 «strs»:=λk x t v h=>by
  rcases pJ h with ⟨i,u,rfl,e⟩|⟨y,u,rfl,e⟩
  .exact nomatch e
  .injection e with e1 _
   subst e1;cases v <;> rfl
theorem DZ(prog:iK) (w:iP) (i:Int) (t:Tok):(pW prog w).is (.inl i) (.int i t)=true:=Jj i t
theorem EE(prog:iK) (w:iP) (x:Str) (t:Tok):(pW prog w).is (.inr x) (.str x t)=true:=Ij x t
inductive V where
 |non|bl (b:Bool)|int (i:Int)|str (x:Str)|byt (b:Array UInt8)|flt (b:UInt64)|ref (a:Addr)|ty (n:String)
 deriving DecidableEq
def oX:V->Value->Prop
 | .non,u=>u=cZ
 | .bl b,u=>u=hX b
 | .int i,u=>∃t,u=gf i t
 | .str x,u=>∃t,u=ir x t
 | .byt b,u=>∃t,u=Value.bytes b t
 | .flt b,u=>∃t,u=Value.float b t
 | .ref a,u=>u=ao a
 | .ty n,u=>u=eA n
abbrev ou:List V->List Value->Prop:=Paired oX
theorem ou.length{xs:List V}{us:List Value}(r:ou xs us):xs.length=us.length:=Paired.length r
theorem ou.get:∀{xs:List V}{us:List Value}{i:Nat}{x:V},ou xs us->xs[i]?=some x->∃u,us[i]?=some u/\oX x u
 |_,_,_,_,.nil,e=>by simp at e
 |_,_,0,_,.cons r _,e=>by simp at e;subst e;exact⟨_,rfl,r⟩
 |_,_,i+1,x,.cons _ t,e=>by
  obtain⟨u,h1,h2⟩:=ou.get (i:=i) (x:=x) t (by simpa using e)
  exact⟨u,by simpa using h1,h2⟩
theorem ou.set{x:V}{u:Value}(r:oX x u):∀{xs:List V}{us:List Value}(i:Nat),ou xs us->ou (xs.set i x) (us.set i u)
 |_,_,_,.nil=>.nil
 |_,_,0,.cons _ t=>.cons r t
 |_,_,i+1,.cons q t=>.cons q (ou.set r i t)
theorem ou.append:∀{xs ys:List V}{us ws:List Value},ou xs us->ou ys ws->ou (xs++ys) (us++ws)
 |_,_,_,_,.nil,s=>s
 |_,_,_,_,.cons r t,s=>.cons r (ou.append t s)
theorem ou.take:∀{xs:List V}{us:List Value}(n:Nat),ou xs us->ou (xs.take n) (us.take n)
 |_,_,0,_=>.nil
 |_,_,_+1,.nil=>.nil
 |_,_,n+1,.cons r t=>.cons r (ou.take n t)
theorem ou.drop:∀{xs:List V}{us:List Value}(n:Nat),ou xs us->ou (xs.drop n) (us.drop n)
 |_,_,0,r=>r
 |_,_,_+1,.nil=>.nil
 |_,_,n+1,.cons _ t=>ou.drop n t
def zB:Option V->Option Value->Prop
 |some v,some u=>oX v u
 |none,none=>True
 |_,_=>False
def KV{κ:Type}:List (κ×V)->List (κ×Value)->Prop:=Paired λ(p:κ×V) (q:κ×Value)=>p.1=q.1/\oX p.2 q.2
def kV:nX->V
 | .inl i=>.int i
 | .inr x=>.str x
inductive HO where
 /-- a list -/
 |lst (xs:List V)
 /-- a tuple (never changes) -/
 |tup (xs:List V)
 /-- a dict whose keys are ints and texts;one whose keys are tuples of ints and texts (the empty one is both) -/
 |dK (kvs:List (nX×V))|dT (kvs:List (List nX×V))
 /-- a set of ints: its members,its size -/
 |set (S:Int->Bool) (n:Nat)
 /-- an instance of the class at C,its dict at dx,its attributes -/
 |ins (C dx:Addr) (fs:List (Str×V))
 /-- the dict of the instance at x -/
 |own (x:Addr)
 /-- the dict of an exception -/
 |xd (fs:List (Str×V))
 /-- a bound method,f of x -/
 |met (f x:Addr)
 /-- a range object lo,lo+1,.. below hi -/
 |rng (lo hi:Int)
 /-- a thing that is known to the object (the script;a dict while a loop walks it): read,never written while it is so -/
 |frz (o:Obj) (u:HO)
 /-- a CN object's table -/
 |tbl (ps:Array Value)
 /-- any other thing,by what is true of its one object (a def of one's own: SetO a S n:=HO.ext λh=>..) -/
 |ext (φ:Heap->Prop)
abbrev Hp:=Addr->Option HO
def oK(H:Hp) (a:Addr) (o:HO):Hp:=λb=>if b=a then some o else H b
theorem nu{H:Hp}{a:Addr}{o:HO}:oK H a o a=some o:=by unfold oK;rw[nK rfl]
theorem nh{H:Hp}{a b:Addr}{o:HO}(h:b≠a):oK H a o b=H b:=by unfold oK;rw[nS h]
theorem HQ{H:Hp}{a:Addr}{o u:HO}:oK (oK H a o) a u=oK H a u:=by
 funext b;unfold oK;split <;> rfl
theorem Rx{H:Hp}{a b:Addr}{o u:HO}(h:H a=some o) (h':H b=some u) (d:o≠u):a≠b:=by
 intro e;subst e;rw[h]at h';exact d (bc.inj h')
theorem pd{H:Hp}{a b:Addr}{o:HO}(h:H a=some o) (h':H b=none):a≠b:=by
 intro e;subst e;rw[h]at h';cases h'
section
variable (P:iK) (w:iP)
def pL(H:Hp) (h:Heap) (a:Addr):HO->Prop
 | .lst xs=>xs.length<=iN/\∃(its:List Value) (n:Nat),ou xs its/\h.get? a=some { cls:=.type "list", data:=.seq its.toArray n }
 | .tup xs=>xs.length<=iN/\∃its:List Value,ou xs its/\IsTup h a its.toArray
 | .dK kvs=>kvs.length<=iN/\(a == jq)=false/\∃vs,KV kvs vs/\h.DictOf (pW P w) a vs
 | .dT kvs=>kvs.length<=iN/\(a == jq)=false/\∃xs:List (List nX×Addr×Value),
   Paired (λ(p:List nX×V) (q:List nX×Addr×Value)=>p.1=q.1/\H q.2.1=some (.tup (p.1.map kV))/\oX p.2 q.2.2) kvs xs /\
   ∃o es ep,h.get? a=some o/\o.ExactDict/\o.data = .dict es ep/\es.toList=xs.map (entryOfKey (kI (pW P w)))/\(xs.map (·.1)).Nodup
 | .set S n=>h.SetOf (intKind P w) a S n
 | .ins C dx fs=>H dx=some (.own a)/\fs.length<=1000/\dx≠a/\h.get? a=some (W.instObj C dx) /\
   ∃mA,h.Ns1 dx mA/\(∀f,zB (fs.lookup f) (mA f))/\PySem.Within mA (fs.map (·.1))
 | .own _=>∃o,h.get? a=some o
 | .xd fs=>∃mA,h.Ns1 a mA/\∀f,zB (fs.lookup f) (mA f)
 | .rng lo hi=>∃t u v,h.get? a=some { cls:=.type "range", data:=.fields #[.int lo t,.int hi u,.int 1 v] }
 | .frz o u=>h.get? a=some o/\pL H h a u
 | .tbl ps=>h.get? a=some { cls:=.none,data:=.fields ps }
 | .met f x=>h.get? a=some (W.methodObj (.ref f) (.ref x))
 | .ext φ=>φ h/\(∃o,h.get? a=some o)/\∀h1 h2:Heap,φ h1->(∀o,h1.get? a=some o->h2.get? a=some o)->φ h2
def wH(H:Hp) (h:Heap):Prop:=∀a o,H a=some o->pL P w H h a o
end
section
variable {P:iK}{w:iP}{H H':Hp}{h h':Heap}{a:Addr}{o:HO}
theorem pL.lt(x:pL P w H h a o):a<h.objs.size:=by
 cases o with
 |lst xs=>obtain⟨_,_,_,_,e⟩:=x;exact ah e
 |tup xs=>obtain⟨_,_,_,p⟩:=x;exact p.lt
 |dK kvs=>obtain⟨_,_,_,_,o,_,_,e,_⟩:=x;exact ah e
 |dT kvs=>obtain⟨_,_,_,_,o,_,_,e,_⟩:=x;exact ah e
 |set S n=>obtain⟨o,_,_,_,e,_⟩:=x;exact ah e
 |ins C dx fs=>obtain⟨_,_,_,e,_⟩:=x;exact ah e
 |own y=>obtain⟨_,e⟩:=x;exact ah e
 |xd fs=>obtain⟨_,⟨_,_,_,e,_⟩,_⟩:=x;exact ah e
 |rng lo hi=>obtain⟨_,_,_,e⟩:=x;exact ah e
 |frz ob u=>obtain⟨e,_⟩:=x;exact ah e
 |tbl ps=>exact ah (show h.get? a=some _ from x)
 |met f y=>exact ah (show h.get? a=some _ from x)
 |ext φ=>obtain⟨_,⟨_,e⟩,_⟩:=x;exact ah e
theorem Paired.mapP{α β:Type}{F G:α->β->Prop}:∀{l₁:List α}{l₂:List β},Paired F l₁ l₂->(∀a b,F a b->G a b)->Paired G l₁ l₂
 |_,_,.nil,_=>.nil
 |_,_,.cons r t,f=>.cons (f _ _ r) (Paired.mapP t f)
theorem pL.stay(x:pL P w H h a o) (k:∀b u,(b=a∨H b=some (.own a))->h.get? b=some u->h'.get? b=some u)
  (ho:∀b,H b=some (.own a)->H' b=some (.own a)) (ht:∀b xs,H b=some (.tup xs)->H' b=some (.tup xs)):pL P w H' h' a o:=by
 induction o with
 |lst xs=>obtain⟨z,its,n,r,e⟩:=x;exact⟨z,its,n,r,k _ _ (.inl rfl) e⟩
 |tup xs=>obtain⟨z,its,r,ob,e,c⟩:=x;exact⟨z,its,r,ob,k _ _ (.inl rfl) e,c⟩
 |dK kvs=>obtain⟨z,y,vs,r,ob,es,ep,e,c⟩:=x;exact⟨z,y,vs,r,ob,es,ep,k _ _ (.inl rfl) e,c⟩
 |dT kvs =>
  obtain⟨z,y,xs,r,ob,es,ep,e,c⟩:=x;exact⟨z,y,xs,Paired.mapP r λp q z=>⟨z.1,ht _ _ z.2.1,z.2.2⟩,ob,es,ep,k _ _ (.inl rfl) e,c⟩
 |set S n=>obtain⟨ob,es,ep,t,e,c⟩:=x;exact⟨ob,es,ep,t,k _ _ (.inl rfl) e,c⟩
 |ins C dx fs =>
  obtain⟨d,z,ne,e,mA,⟨od,es,ep,e2,c⟩,r⟩:=x;exact⟨ho _ d,z,ne,k _ _ (.inl rfl) e,mA,⟨od,es,ep,k _ _ (.inr d) e2,c⟩,r⟩
 |own y=>obtain⟨ob,e⟩:=x;exact⟨ob,k _ _ (.inl rfl) e⟩
 |xd fs=>obtain⟨mA,⟨od,es,ep,e,c⟩,r⟩:=x;exact⟨mA,⟨od,es,ep,k _ _ (.inl rfl) e,c⟩,r⟩
 |rng lo hi=>obtain⟨t,u,v,e⟩:=x;exact⟨t,u,v,k _ _ (.inl rfl) e⟩
 |frz ob u ih=>obtain⟨e,q⟩:=x;exact⟨k _ _ (.inl rfl) e,ih q⟩
 |tbl ps =>
  have e:h.get? a=some { cls:=.none,data:=.fields ps }:=x;show h'.get? a=some { cls:=.none,data:=.fields ps };exact k a _ (.inl rfl) e
 |met f y =>
  have e:h.get? a=some (W.methodObj (.ref f) (.ref y)):=x;show h'.get? a=some (W.methodObj (.ref f) (.ref y));exact k a _ (.inl rfl) e
 |ext φ=>obtain⟨p,⟨o,e⟩,st⟩:=x;exact⟨st _ _ p λo q=>k _ _ (.inl rfl) q,⟨o,k _ _ (.inl rfl) e⟩,st⟩
theorem wH.lt(x:wH P w H h) (e:H a=some o):a<h.objs.size:=(x a o e).lt
theorem wH.fresh(x:wH P w H h) (e:h.objs.size<=a):H a=none:=by
 cases q:H a with
 |none=>rfl
 |some u=>exact absurd (aN (x.lt q) e) (cf _)
theorem wH.kept(x:wH P w H h) (k:∀b u,h.get? b=some u->h'.get? b=some u):wH P w H h':=λa o e =>
 (x a o e).stay (λb u _ q=>k b u q) (λ_ q=>q) λ_ _ q=>q
theorem wH.laid(x:wH P w H h) (k:∀b u,h.get? b=some u->h'.get? b=some u) (hp:h.objs.size<=a) (new:pL P w (oK H a o) h' a o):wH P w (oK H a o) h':=λb u e=>by
 have hn:=x.fresh hp
 by_cases hb:b=a
 .subst hb;rw[nu]at e;cases e;exact new
 .rw [nh hb]at e;exact(x b u e).stay (λc v _ q=>k c v q) (λc q=>by rw[nh (pd q hn)];exact q) λc xs q=>by rw[nh (pd q hn)];exact q
end
def Rd(H:Hp) (a:Addr) (u:HO):Prop:=H a=some u∨∃o,H a=some (.frz o u)
theorem Rd.ok{P:iK}{w:iP}{H:Hp}{h:Heap}{a:Addr}{u:HO}(r:Rd H a u) (x:wH P w H h):pL P w H h a u:=by
 rcases r with r|⟨o,r⟩
 .exact x a u r
 .obtain ⟨_,q⟩:=x a _ r;exact q
def Sj:Option HO->Prop
 |some (.lst _)=>True
 |some (.dK _)=>True
 |some (.dT _)=>True
 |some (.set _ _)=>True
 |some (.ins _ _ _)=>True
 |some (.ext _)=>True
 |_=>False
section
variable {P:iK}{w:iP}{H:Hp}{h h':Heap}{x e:Addr}{o':HO}
theorem wH.write(ok:wH P w H h) (mu:Sj (H x)) (he:e=x∨H e=some (.own x)) (k:∀b u,b≠e->h.get? b=some u->h'.get? b=some u) (heo:∃u,h'.get? e=some u)
  (new:pL P w (oK H x o') h' x o'):wH P w (oK H x o') h':=λb u q=>by
 have nown:∀c y,H c=some (.own y)->c≠x:=λc y r z=>by subst z;rw[r]at mu;exact mu
 have ntup:∀c xs,H c=some (.tup xs)->c≠x:=λc xs r z=>by subst z;rw[r]at mu;exact mu
 by_cases hb:b=x
 .subst hb;rw[nu]at q;cases q;exact new
 .rw [nh hb]at q
  by_cases hbe:b=e
  .have q':H b=some (.own x):=by
    rcases he with z|z
    .exact absurd (hbe.trans z) hb
    .rw [hbe];exact z
   rw[q]at q';cases q';obtain⟨v,hv⟩:=heo;exact⟨v,by rw[hbe];exact hv⟩
  .refine (ok b u q).stay (λc v hc r=>k c v ?_ r) (λc r=>by rw[nh (nown c b r)];exact r) λc xs r=>by rw[nh (ntup c xs r)];exact r
   rcases hc with rfl|hc
   .exact hbe
   .rintro rfl;rcases he with z|z
    .exact nown c b hc z
    .rw [hc]at z;cases z;exact hb rfl
end
structure Un (fs ex:List Addr) (H H':Hp) (h h':Heap):Prop where
 keep:∀b o,h.get? b=some o->H b=none->b∉fs->b∉ex->h'.get? b=some o
 slot:∀b o,h.get? b=some o->H b=none->b∈fs->b∉ex->∃sl,h'.get? b=some { o with slots:=sl }
 free:∀b o,h.get? b=some o->H b=none->b∉ex->H' b=none
 there:∀b o,h.get? b=some o->b∉ex->∃o',h'.get? b=some o'
 tups:∀b xs,H b=some (.tup xs)->H' b=some (.tup xs)
 frzs:∀b o u,H b=some (.frz o u)->H' b=some (.frz o u)
 tbls:∀b ps,H b=some (.tbl ps)->∃more,H' b=some (.tbl (ps++more))
section
variable {fs fs' ex ex':List Addr}{H H1 H2:Hp}{h h1 h2 h':Heap}{a x e:Addr}{o:HO}
theorem Un.any(u:Un fs ex H H1 h h1) {b:Addr}{ob:Obj}(q:h.get? b=some ob) (n:H b=none) (hx:b∉ex):∃sl,h1.get? b=some { ob with slots:=sl }:=by
 by_cases hb:b∈fs
 .exact u.slot b ob q n hb hx
 .exact ⟨ob.slots,u.keep b ob q n hb hx⟩
theorem Un.kept(k:∀b u,h.get? b=some u->h'.get? b=some u):Un fs ex H H h h' :=
 ⟨λb ob q _ _ _=>k b ob q,λb ob q _ _ _=>⟨ob.slots,k b ob q⟩,λ_ _ _ n _=>n,λb ob q _=>⟨ob,k b ob q⟩,λ_ _ q=>q,λ_ _ _ q=>q,λ_ ps q=>⟨#[],by rw[q];simp⟩⟩
theorem Un.refl:Un fs ex H H h h:=Un.kept λ_ _ q=>q
theorem Un.laid(k:∀b u,h.get? b=some u->h'.get? b=some u) (hp:h.objs.size<=a) (hn:H a=none):Un fs ex H (oK H a o) h h' where
 keep:=λb u q _ _ _=>k b u q
 slot:=λb u q _ _ _=>⟨u.slots,k b u q⟩
 free:=λb u q n _=>by rw[nh (aw (aN (ah q) hp))];exact n
 there:=λb u q _=>⟨u,k b u q⟩
 tups:=λb xs q=>by rw[nh (pd q hn)];exact q
 frzs:=λb u xs q=>by rw[nh (pd q hn)];exact q
 tbls:=λb ps q=>⟨#[],by rw[nh (pd q hn),q];simp⟩
theorem Un.write(mu:Sj (H x)) (he:e=x∨H e=some (.own x)) (k:∀b u,b≠e->h.get? b=some u->h'.get? b=some u) (heo:∃u,h'.get? e=some u):Un fs ex H (oK H x o) h h':=by
 have hx:∀b,H b=none->b≠x:=λb n z=>by subst z;rw[n]at mu;exact mu
 have hb:∀b,H b=none->b≠e:=λb n z=>by
  subst z;rcases he with r|r
  .exact hx b n r
  .rw [n]at r;cases r
 have hm:∀b u,H b=some u->¬ Sj (some u)->b≠x:=λb u q nm z=>by subst z;rw[q]at mu;exact nm mu
 refine⟨λb u q n _ _=>k b u (hb b n) q,λb u q n _ _=>⟨u.slots,k b u (hb b n) q⟩,λb u q n _=>by rw[nh (hx b n)];exact n,λb u q _=>?_,
  λb xs q=>by rw[nh (hm b _ q λz=>z)];exact q,λb u xs q=>by rw[nh (hm b _ q λz=>z)];exact q,λb ps q=>⟨#[],by rw[nh (hm b _ q λz=>z),q];simp⟩⟩
 by_cases hbe:b=e
 .subst hbe;exact heo
 .exact ⟨u,k b u hbe q⟩
end
def S9(h:Heap) (H:Hp):List Addr:=(bP h.objs.size).filter λa=>(H a).isSome
def CC(h:Heap) (H:Hp):Heap:=W.hideAll h (S9 h H)
theorem IW(h:Heap) (H:Hp):(CC h H).objs.size=h.objs.size:=W.hideAll_size _ _
theorem JB{h:Heap}{H:Hp}{b:Addr}{o:Obj}(e:h.get? b=some o) (n:H b=none):(CC h H).get? b=some o :=
 W.hideAll_get _ e λhm=>by
  have q:(H b).isSome=true:=(hW.mp hm).2;rw[n]at q;simp at q
theorem M3{h:Heap}{H:Hp}{b:Addr}{o:Obj}(e:(CC h H).get? b=some o):h.get? b=some o/\H b=none:=by
 have e':h.get? b=some o:=W.of_hideAll (S9 h H) e;refine⟨e',?_⟩;cases q:H b with
 |none=>rfl
 |some x =>
  have hm:b∈S9 h H:=hW.mpr ⟨dY.mpr (ah e'),by simp[q]⟩
  have z:(CC h H).get? b=none:=W.hideAll_none (S9 h H) hm;rw[z]at e;cases e
def NZ(g h:Heap) (L:Addr):List (Addr×Obj):=(bP h.objs.size).filterMap λa=>if a=L∨(g.get? a).isSome=true then none else (h.get? a).map λo=>(a,o)
def rest(g h:Heap) (L d:Addr):List (Addr×Obj):=(NZ g h L).filter λp=>decide (p.1≠d)
structure Mod (K:W.Frag) (mg:Str->Option Value) (base:Heap):Prop where
 kin:K.In base
 glob:base.Ns iM mg
 blt:∃mb,base.Ns builtinsNs mb/\∀x:Str,x ≠ "__name__" -> mb x=jK x
 nolimit:base.NoLimit
structure Cx where
 prog:iK
 w:iP
 K:W.Frag
 mg:Str->Option Value
 base:Heap
 A:Around
 N:List Str
 s₀:iD
 H₀:Hp
 env:Env
 outer:List Env
 stack:List Env
 ex:List Addr
 fn:Str->Bool
 calm:Bool
 pn:List (Addr×Obj)
 xe:Value->iD->Prop
def GP(l:List Env):List Addr:=l.filterMap (·.frame)
abbrev Cx.fs(X:Cx):List Addr:=GP X.outer
def SU(sc:jJ) (x:Str):Prop:=sc.names.lookup x=some .local∨sc.names.lookup x=some .cell∨sc.names.lookup x=some .free
def Ra(sc:jJ) (x:Str):Prop:=sc.names.lookup x=some .local∨sc.names.lookup x=some .cell
def TC(env:Env) (h:Heap) (m:Str->Option Value) (x:Str) (u:Value):Prop :=
 (env.kindOf x=some .local/\m x=some u)∨((env.kindOf x=some .cell∨env.kindOf x=some .free)/\∃c,env.cells.lookup x=some c/\h.IsCell c (some u))
structure Cx.Ok (X:Cx):Prop where
 mod:Mod X.K X.mg X.base
 kind:X.env.scope.kind = .function
 glob:X.env.globals=iM
 blt:X.env.builtins=builtinsNs
 above:X.s₀.heap.objs.size<=X.env.locals
 inj:∀x y c,X.env.cells.lookup x=some c->X.env.cells.lookup y=some c->x=y
 has:∀x,(X.env.kindOf x=some .cell∨X.env.kindOf x=some .free)->∃c,X.env.cells.lookup x=some c
 cab:∀x c,X.fn x=true->X.env.cells.lookup x=some c->X.s₀.heap.objs.size<=c
 hd:X.calm=true->X.A.handled=none
 frames:X.A.frames=some X.stack
 stk:X.stack=X.outer∨(X.stack=X.env::X.outer/\X.env.frame=some X.env.locals)
 exf:∀b∈X.ex,b≠X.env.locals/\∀x c,X.env.cells.lookup x=some c->c≠b
 bs:∀b o,X.base.get? b=some o->X.s₀.heap.get? b=some o/\X.H₀ b=none
 bsz:X.base.objs.size<=X.s₀.heap.objs.size
 noex:∀b o,X.base.get? b=some o->b∉X.ex
 exfs:∀b∈X.ex,b∉X.fs
 funs:X.s₀.heap.FunFrames X.base X.outer
 frf:∀b∈X.fs,X.H₀ b=none
structure Inv (X:Cx) (mU:List (Addr×Obj)) (σ:List (Option V)) (H:Hp) (s:iD):Prop where
 ok:X.Ok
 os:s.os=X.s₀.os
 bare:jM s.gens
 base:Un X.fs X.ex X.H₀ H X.s₀.heap s.heap
 loc:∃m,s.heap.Ns X.env.locals m/\∀(i:Nat) (x:Str) (v:V),X.N[i]?=some x->σ[i]?=some (some v)->SU X.env.scope x->∃u,oX v u/\TC X.env s.heap m x u
 cell:∀x c,X.env.cells.lookup x=some c->∃v,s.heap.IsCell c v
 free:H X.env.locals=none
 freeC:∀x c,X.env.cells.lookup x=some c->H c=none
 pin:∀p∈X.pn++mU,s.heap.get? p.1=some p.2/\H p.1=none/\p.1≠X.env.locals/\p.1∉X.fs/\∀v,p.2.data ≠ .cell v
 hok:wH X.prog X.w H s.heap
 len:σ.length=X.N.length
section
variable {X:Cx}{mU:List (Addr×Obj)}{σ:List (Option V)}{H H':Hp}{s:iD}{h':Heap}
theorem Cx.Ok.nofr(ok:X.Ok) {b:Addr}{o:Obj}(e:X.base.get? b=some o):b∉X.fs:=λhb=>by
 have:=(ok.funs.mem hb).1;rw[e]at this;cases this
theorem Inv.bs(I:Inv X mU σ H s):∀b o,X.base.get? b=some o->s.heap.get? b=some o/\H b=none:=λb o e =>
 ⟨I.base.keep b o (I.ok.bs b o e).1 (I.ok.bs b o e).2 (I.ok.nofr e) (I.ok.noex b o e),I.base.free b o (I.ok.bs b o e).1 (I.ok.bs b o e).2 (I.ok.noex b o e)⟩
theorem Inv.bk(I:Inv X mU σ H s):∀b o,X.base.get? b=some o->s.heap.get? b=some o:=λb o e=>(I.bs b o e).1
theorem Inv.mod(I:Inv X mU σ H s):Mod X.K X.mg X.base:=I.ok.mod
theorem Inv.kIn(I:Inv X mU σ H s):X.K.In s.heap:=I.ok.mod.kin.keeps I.bk
theorem Inv.lt(I:Inv X mU σ H s):X.env.locals<s.heap.objs.size:=let ⟨_,hn,_⟩:=I.loc;hn.lt
theorem Inv.sz(I:Inv X mU σ H s):X.s₀.heap.objs.size<=s.heap.objs.size:=br I.ok.above (bX I.lt)
theorem Inv.nofs(I:Inv X mU σ H s) {a:Addr}(h:s.heap.objs.size<=a):a∉X.fs:=λhb=>by
 obtain⟨_,o,ho,_⟩:=I.ok.funs.mem hb;exact absurd (aN (ah ho) (br I.sz h)) (cf _)
theorem Inv.cne(I:Inv X mU σ H s):∀x c,X.env.cells.lookup x=some c->c≠X.env.locals:=λx c e z=>by
 obtain⟨v,o,ho,hd⟩:=I.cell x c e;obtain⟨m,⟨o',es,ep,ho',hd',_⟩,_⟩:=I.loc;rw[z,ho']at ho;cases ho;rw[hd']at hd;cases hd
theorem Inv.funs(I:Inv X mU σ H s):s.heap.FunFrames X.base X.outer:=by
 have all:∀(l:List Env),(∀b∈GP l,b∈X.fs)->X.s₀.heap.FunFrames X.base l->s.heap.FunFrames X.base l:=by
  intro l
  induction l with
  |nil=>intro _ _;trivial
  |cons env r ih =>
   intro hs hl;obtain⟨hk,⟨L,o,hf,hn,ho,hd⟩,hr⟩:=hl;have hL:L∈X.fs:=hs L (by unfold GP;rw[fb,hf];exact ay)
   obtain⟨sl,e⟩:=I.base.slot L o ho (I.ok.frf L hL) hL λz=>I.ok.exfs L z hL
   exact⟨hk,⟨L,_,hf,hn,e,hd⟩,ih (λb hb=>hs b (by unfold GP;rw[fb,hf];exact mCo _ hb)) hr⟩
 exact all X.outer (λ_ hb=>hb) I.ok.funs
theorem Inv.stack(I:Inv X mU σ H s):s.heap.FunFrames X.base X.stack:=by
 rcases I.ok.stk with e|⟨e,hf⟩
 .rw [e];exact I.funs
 .rw [e];obtain⟨m,hn,_⟩:=I.loc;refine .cons (by rw[I.ok.kind];decide) hf hn ?_ I.funs
  exact bT (br I.ok.bsz I.ok.above)
theorem Inv.stkSub(I:Inv X mU σ H s):∀b∈GP X.stack,b∈X.env.locals::X.fs:=λb hb=>by
 rcases I.ok.stk with e|⟨e,hf⟩
 .rw [e]at hb;exact mCo _ hb
 .rw [e]at hb;unfold GP at hb;rw[fb,hf]at hb;exact hb
theorem Inv.stkFree(I:Inv X mU σ H s):∀b∈GP X.stack,H b=none:=λb hb=>by
 rcases aj.mp (I.stkSub b hb) with e|hb
 .rw [e];exact I.free
 .obtain ⟨_,o,ho,_⟩:=I.ok.funs.mem hb;exact I.base.free b o ho (I.ok.frf b hb) λz=>I.ok.exfs b z hb
theorem Inv.step{g':Array lu}{t':Nat}{d':Drawn}{ch:List Addr}(I:Inv X mU σ H s)
  (hch:∀b∈ch,(b∈X.ex∨X.s₀.heap.objs.size<=b)/\b≠X.env.locals/\(∀x c,X.env.cells.lookup x=some c->c≠b)/\∀p∈X.pn++mU,p.1≠b)
  (keep:∀b o,b≠X.env.locals->b∉X.fs->b∉ch->s.heap.get? b=some o->H b=none->h'.get? b=some o)
  (slot:∀b o,b≠X.env.locals->b∈X.fs->b∉ch->s.heap.get? b=some o->H b=none->∃sl,h'.get? b=some { o with slots:=sl }) (free:∀b o,b∉ch->s.heap.get? b=some o->H b=none->H' b=none)
  (there:∀b o,b∉ch->s.heap.get? b=some o->∃o',h'.get? b=some o')
  (tups:∀b xs,H b=some (.tup xs)->H' b=some (.tup xs)) (frzs:∀b o u,H b=some (.frz o u)->H' b=some (.frz o u)) (tbls:∀b ps,H b=some (.tbl ps)->∃more,H' b=some (.tbl (ps++more)))
  (ns:∀m,s.heap.Ns X.env.locals m->h'.Ns X.env.locals m) (hok:wH X.prog X.w H' h') (hg:jM g') :
  Inv X mU σ H' { s with heap:=h',gens:=g',drawn:=d',toks:=t' }:=by
 have neL:∀b o,X.s₀.heap.get? b=some o->b≠X.env.locals:=λb o e=>aw (aN (ah e) I.ok.above)
 have neC:∀b o,X.s₀.heap.get? b=some o->b∉X.ex->b∉ch:=λb o e hx hb=>by
  rcases (hch b hb).1 with z|z
  .exact hx z
  .exact absurd (aN (ah e) z) (cf _)
 have cellK:∀x c,X.env.cells.lookup x=some c->∀v,s.heap.IsCell c v->h'.IsCell c v:=λx c e v ⟨o,ho,hd⟩=>by
  have nch:c∉ch:=λz=>(hch c z).2.2.1 x c e rfl
  by_cases hc:c∈X.fs
  .obtain ⟨sl,q⟩:=slot c o (I.cne x c e) hc nch ho (I.freeC x c e);exact⟨_,q,hd⟩
  .exact ⟨o,keep c o (I.cne x c e) hc nch ho (I.freeC x c e),hd⟩
 refine⟨I.ok,I.os,hg,⟨λb o e n hb hx=>?_,λb o e n hb hx=>?_,λb o e n hx=>?_,λb o e hx=>?_,λb xs e=>tups b xs (I.base.tups b xs e),λb o xs e=>frzs b o xs (I.base.frzs b o xs e),λb ps e=>?_⟩,?_,λx c e=>?_,?_,λx c e=>?_,λp hp=>?_,hok,I.len⟩
 .exact keep b o (neL b o e) hb (neC b o e hx) (I.base.keep b o e n hb hx) (I.base.free b o e n hx)
 .obtain ⟨sl,e1⟩:=I.base.slot b o e n hb hx;obtain⟨sl',e2⟩:=slot b _ (neL b o e) hb (neC b o e hx) e1 (I.base.free b o e n hx);exact⟨sl',e2⟩
 .obtain ⟨o',e1⟩:=I.base.there b o e hx;exact free b o' (neC b o e hx) e1 (I.base.free b o e n hx)
 .obtain ⟨o',e1⟩:=I.base.there b o e hx;exact there b o' (neC b o e hx) e1
 .obtain ⟨m1,e1⟩:=I.base.tbls b ps e;obtain⟨m2,e2⟩:=tbls b _ e1;exact⟨m1++m2,by rw[e2,gJ]⟩
 .obtain ⟨m,hn,hl⟩:=I.loc;refine⟨m,ns m hn,λi x v e1 e2 e3=>?_⟩
  obtain⟨u,r,l⟩:=hl i x v e1 e2 e3;refine⟨u,r,?_⟩;rcases l with l|⟨k,c,e,z⟩
  .exact .inl l
  .exact .inr ⟨k,c,e,cellK x c e _ z⟩
 .obtain ⟨v,z⟩:=I.cell x c e;exact⟨v,cellK x c e v z⟩
 .obtain ⟨m,⟨o,_,_,ho,_⟩,_⟩:=I.loc;exact free _ o (λz=>(hch _ z).2.1 rfl) ho I.free
 .obtain ⟨v,o,ho,hd⟩:=I.cell x c e;exact free c o (λz=>(hch c z).2.2.1 x c e rfl) ho (I.freeC x c e)
 .obtain ⟨e,n,ne,nf,d⟩:=I.pin p hp;have nch:p.1∉ch:=λz=>(hch p.1 z).2.2.2 p hp rfl
  exact⟨keep p.1 p.2 ne nf nch e n,free p.1 p.2 nch e n,ne,nf,d⟩
theorem Inv.un{t':Nat}(I:Inv X mU σ H s) (u:Un X.fs [] H H' s.heap h') (hok:wH X.prog X.w H' h'):Inv X mU σ H' { s with heap:=h',toks:=t' }:=by
 obtain⟨m,⟨o,es,ep,ho,r⟩,_⟩:=id I.loc;obtain⟨sl,hL⟩:=u.any ho I.free (by simp)
 exact I.step (g':=s.gens) (d':=s.drawn) (ch:=[]) (λ_ z=>nomatch z) (λb o _ hb _ e n=>u.keep b o e n hb (by simp)) (λb o _ hb _ e n=>u.slot b o e n hb (by simp)) (λb o _ e n=>u.free b o e n (by simp)) (λb o _ e=>u.there b o e (by simp)) u.tups u.frzs u.tbls (λm' hm=>by
  obtain⟨o',es',ep',ho',r'⟩:=hm;rw[ho]at ho';cases ho';exact⟨_,es',ep',hL,r'⟩) hok I.bare
theorem Inv.call{g':Array lu}{t':Nat}{d':Drawn}{ch:List Addr}(I:Inv X mU σ H s) (u:Un (GP X.stack) ch H H' s.heap h') (hok:wH X.prog X.w H' h') (hg:jM g')
  (hch:∀b∈ch,(b∈X.ex∨X.s₀.heap.objs.size<=b)/\b≠X.env.locals/\(∀x c,X.env.cells.lookup x=some c->c≠b)/\∀p∈X.pn++mU,p.1≠b) :
  Inv X mU σ H' { s with heap:=h',gens:=g',drawn:=d',toks:=t' }:=by
 obtain⟨m,⟨o,es,ep,ho,r⟩,_⟩:=id I.loc;obtain⟨sl,hL⟩:=u.any ho I.free λz=>(hch _ z).2.1 rfl
 exact I.step (ch:=ch) hch (λb o hL hb hc e n=>u.keep b o e n (λz=>(aj.mp (I.stkSub b z)).elim hL hb) hc) (λb o _ _ hc e n=>u.any e n hc) (λb o hc e n=>u.free b o e n hc) (λb o hc e=>u.there b o e hc) u.tups u.frzs u.tbls (λm' hm=>by
  obtain⟨o',es',ep',ho',r'⟩:=hm;rw[ho]at ho';cases ho';exact⟨_,es',ep',hL,r'⟩) hok hg
theorem Inv.turned{t':Nat}{it:Addr}(I:Inv X mU σ H s) (k:∀b o,b≠it->s.heap.get? b=some o->h'.get? b=some o) (hn:H it=none) (hL:it≠X.env.locals)
  (h1:it∈X.ex∨X.s₀.heap.objs.size<=it) (h2:∀x c,X.env.cells.lookup x=some c->c≠it) (h3:∀p∈X.pn++mU,p.1≠it):Inv X mU σ H { s with heap:=h',toks:=t' }:=by
 have nit:∀b u,H b=some u->b≠it:=λb u e z=>by rw[z,hn]at e;cases e
 refine I.step (g':=s.gens) (d':=s.drawn) (ch:=[it]) (λb hb=>?_) (λb o _ _ hc e _=>k b o (λz=>hc (by simp[z])) e) (λb o _ _ hc e _=>⟨o.slots,k b o (λz=>hc (by simp[z])) e⟩) (λ_ _ _ _ n=>n)
  (λb o hc e=>⟨o,k b o (λz=>hc (by simp[z])) e⟩) (λ_ _ e=>e) (λ_ _ _ e=>e) (λb ps e=>⟨#[],by rw[e];simp⟩) (λm hm=>?_) (λb u e=>?_) I.bare
 .have e:b=it:=by simpa using hb
  subst e;exact⟨h1,hL,h2,h3⟩
 .obtain ⟨o,es,ep,ho,r⟩:=hm;exact⟨o,es,ep,k _ o (Ne.symm hL) ho,r⟩
 .refine (I.hok b u e).stay (λc v hc q=>k c v ?_ q) (λ_ q=>q) λ_ _ q=>q
  rcases hc with z|z
  .rw [z];exact nit b u e
  .exact nit c _ z
theorem Inv.tok(I:Inv X mU σ H s) (t:Nat):Inv X mU σ H { s with toks:=t }:=I.un (h':=s.heap) (t':=t) Un.refl I.hok
theorem Inv.kept{t':Nat}(I:Inv X mU σ H s) (k:∀b u,s.heap.get? b=some u->h'.get? b=some u):Inv X mU σ H { s with heap:=h',toks:=t' }:=I.un (Un.kept k) (I.hok.kept k)
theorem Inv.laid{a:Addr}{o:HO}{t':Nat}(I:Inv X mU σ H s) (k:∀b u,s.heap.get? b=some u->h'.get? b=some u) (hp:s.heap.objs.size<=a) (new:pL X.prog X.w (oK H a o) h' a o) :
  Inv X mU σ (oK H a o) { s with heap:=h',toks:=t' }:=I.un (Un.laid k hp (I.hok.fresh hp)) (I.hok.laid k hp new)
theorem Inv.write{x e:Addr}{o:HO}{t':Nat}(I:Inv X mU σ H s) (mu:Sj (H x)) (he:e=x∨H e=some (.own x)) (k:∀b u,b≠e->s.heap.get? b=some u->h'.get? b=some u) (heo:∃u,h'.get? e=some u)
  (new:pL X.prog X.w (oK H x o) h' x o):Inv X mU σ (oK H x o) { s with heap:=h',toks:=t' }:=I.un (Un.write mu he k heo) (I.hok.write mu he k heo new)
theorem Inv.pins_of{pins':List (Addr×Obj)}(I:Inv X mU σ H s) (h:∀p∈pins',s.heap.get? p.1=some p.2/\H p.1=none/\p.1≠X.env.locals/\p.1∉X.fs/\∀v,p.2.data ≠ .cell v):Inv X pins' σ H s :=
 ⟨I.ok,I.os,I.bare,I.base,I.loc,I.cell,I.free,I.freeC,λp hp=>(mAq.mp hp).elim (λz=>I.pin p (bE _ z)) (h p),I.hok,I.len⟩
theorem EH{N:List Str}(hN:N.Nodup) {i j:Nat}{x:Str}(a:N[i]?=some x) (b:N[j]?=some x):i=j:=by
 obtain⟨h1,e1⟩:=gSq.mp a;obtain⟨h2,e2⟩:=gSq.mp b;exact(List.getElem_inj hN).mp (e1.trans e2.symm)
theorem Im{M:jR}{A:Around}{E:Value->iD->Prop}{i:Nat}{x:Str}{v:V}{u:Value}{Q:Unit->iD->Prop}(I:Inv X mU σ H s) (hN:X.N.Nodup) (hi:X.N[i]?=some x) (hx:Ra X.env.scope x) (r:oX v u)
  (h:∀s',Inv X mU (σ.set i (some v)) H s'->(∃a,fN a s.heap s'.heap/\(a=X.env.locals∨X.env.cells.lookup x=some a))->Q () s') (hf:X.fn x=true∨X.env.scope.names.lookup x=some .local:=by trivial):iI M A (storeName X.env x u) Q E s:=by
 obtain⟨m,hn,hl⟩:=id I.loc;have hcls:(X.env.scope.kind == .class || (X.env.scope.kind == .module && X.env.locals != X.env.globals))=false:=by rw[I.ok.kind];rfl
 have hiσ:i<σ.length:=by rw[I.len];exact(gSq.mp hi).1
 have cne:=I.cne;have tracked:∀{a:Addr}{h':Heap},(∃o,s.heap.get? a=some o/\H a=none)->fN a s.heap h'->wH X.prog X.w H h':=λ{a h'} ha hs b ob e=>by
  obtain⟨_,_,hfree⟩:=ha;refine(I.hok b ob e).stay (λc w' hc q=>(hs.2 c ?_).trans q) (λ_ q=>q) λ_ _ q=>q
  rintro rfl;rcases hc with rfl|hc
  .rw [hfree]at e;cases e
  .rw [hfree]at hc;cases hc
 rcases hx with hk|hk
 .refine wpAny_storeName_local hk hn (λh' hn' hs=>?_) hcls
  obtain⟨oL,_,_,hoL,_⟩:=id hn;refine h _ ⟨I.ok,I.os,I.bare,⟨λb o e n hb hx=>?_,λb o e n hb hx=>?_,I.base.free,λb o e hx=>?_,I.base.tups,I.base.frzs,I.base.tbls⟩,⟨_,hn',λj y v' e1 e2 e3=>?_⟩,λy c e=>?_,I.free,I.freeC,λp hp=>?_,tracked ⟨oL,hoL,I.free⟩ hs,by simpa using I.len⟩ ⟨_,hs,.inl rfl⟩
  .exact (hs.2 b (aw (aN (ah e) I.ok.above))).trans (I.base.keep b o e n hb hx)
  .obtain ⟨sl,e1⟩:=I.base.slot b o e n hb hx;exact⟨sl,(hs.2 b (aw (aN (ah e) I.ok.above))).trans e1⟩
  .obtain ⟨o',e1⟩:=I.base.there b o e hx;exact⟨o',(hs.2 b (aw (aN (ah e) I.ok.above))).trans e1⟩
  .by_cases hj:j=i
   .subst hj;rw[hi]at e1;cases e1;rw[aD hiσ]at e2;cases e2;exact⟨u,r,.inl ⟨hk,by simp⟩⟩
   .rw [ax (Ne.symm hj)]at e2;obtain⟨u',r',q⟩:=hl j y v' e1 e2 e3;refine⟨u',r',?_⟩;rcases q with ⟨k,e⟩|⟨k,c,e,z⟩
    .refine .inl ⟨k,?_⟩;have:y≠x:=λe=>hj (EH hN e1 (e ▸ hi))
     simp[this,e]
    .exact .inr ⟨k,c,e,z.sameBut hs (cne y c e)⟩
  .obtain ⟨w',z⟩:=I.cell y c e;exact⟨w',z.sameBut hs (cne y c e)⟩
  .obtain ⟨e,n,ne,nf,d⟩:=I.pin p hp;exact⟨(hs.2 p.1 ne).trans e,n,ne,nf,d⟩
 .have hfn:X.fn x=true:=by
   rcases hf with z|z
   .exact z
   .rw [z]at hk;cases hk
  obtain⟨c,hc⟩:=I.ok.has x (.inl hk);obtain⟨w',z⟩:=I.cell x c hc;refine wpAny_storeName_cell I.ok.kind hk hc z (λh' hc' hs=>?_)
  obtain⟨oc,hoc,hocd⟩:=id z;refine h { s with heap:=h' } ⟨I.ok,I.os,I.bare,⟨λb o e n hb hx=>?_,λb o e n hb hx=>?_,I.base.free,λb o e hx=>?_,I.base.tups,I.base.frzs,I.base.tbls⟩,⟨m,hn.sameBut hs (Ne.symm (cne x c hc)),λj y v' e1 e2 e3=>?_⟩,λy c' e=>?_,I.free,I.freeC,λp hp=>?_,tracked ⟨oc,hoc,I.freeC x c hc⟩ hs,by simpa using I.len⟩ ⟨c,hs,.inr hc⟩
  .exact (hs.2 b (aw (aN (ah e) (I.ok.cab x c hfn hc)))).trans (I.base.keep b o e n hb hx)
  .obtain ⟨sl,e1⟩:=I.base.slot b o e n hb hx;exact⟨sl,(hs.2 b (aw (aN (ah e) (I.ok.cab x c hfn hc)))).trans e1⟩
  .obtain ⟨o',e1⟩:=I.base.there b o e hx;exact⟨o',(hs.2 b (aw (aN (ah e) (I.ok.cab x c hfn hc)))).trans e1⟩
  .by_cases hj:j=i
   .subst hj;rw[hi]at e1;cases e1;rw[aD hiσ]at e2;cases e2;exact⟨u,r,.inr ⟨.inl hk,c,hc,hc'⟩⟩
   .rw [ax (Ne.symm hj)]at e2;obtain⟨u',r',q⟩:=hl j y v' e1 e2 e3;refine⟨u',r',?_⟩;rcases q with q|⟨k,c',e,z'⟩
    .exact .inl q
    .refine .inr ⟨k,c',e,z'.sameBut hs ?_⟩;rintro rfl;exact hj (EH hN e1 (I.ok.inj _ _ _ e hc ▸ hi))
  .by_cases hcc:c'=c
   .subst hcc;exact⟨_,hc'⟩
   .obtain ⟨w2,z2⟩:=I.cell y c' e;exact⟨w2,z2.sameBut hs hcc⟩
  .obtain ⟨e,n,ne,nf,d⟩:=I.pin p hp;refine⟨(hs.2 p.1 ?_).trans e,n,ne,nf,d⟩;intro q;rw[q,hoc]at e;have q':oc=p.2:=bc.inj e;exact d w' (by rw[←q'];exact hocd)
theorem Bk{M:jR}{A:Around}{E:Value->iD->Prop}{i:Nat}{x:Str}{v:V}{u:Value}{Q:Unit->iD->Prop}(I:Inv X mU σ H s) (hN:X.N.Nodup) (hi:X.N[i]?=some x) (hx:Ra X.env.scope x) (r:oX v u)
  (h:∀s',Inv X mU (σ.set i (some v)) H s'->Q () s') (hf:X.fn x=true∨X.env.scope.names.lookup x=some .local:=by trivial):iI M A (storeName X.env x u) Q E s :=
 Im I hN hi hx r (λs' I' _=>h s' I') hf
theorem Inv.call'{s':iD}{ch:List Addr}(I:Inv X mU σ H s) (ho:s'.os=s.os) (u:Un (GP X.stack) ch H H' s.heap s'.heap) (hok:wH X.prog X.w H' s'.heap) (hg:jM s'.gens)
  (hch:∀b∈ch,(b∈X.ex∨X.s₀.heap.objs.size<=b)/\b≠X.env.locals/\(∀x c,X.env.cells.lookup x=some c->c≠b)/\∀p∈X.pn++mU,p.1≠b):Inv X mU σ H' s':=by
 obtain⟨h',g',d',t',o'⟩:=s';have e:o'=s.os:=ho;subst e;exact I.call (g':=g') (t':=t') (d':=d') u hok hg hch
end
abbrev XK:=Value->Option Addr->Hp->Prop
abbrev St:=List (Option V)
abbrev VK:=V->Hp->Prop
abbrev TE:=St->Hp->VK->Prop
abbrev TT:=St->Hp->(Bool->Hp->Prop)->Prop
abbrev TA:=St->Hp->(List V->Hp->Prop)->Prop
structure vk where
 nx:St->Hp->Prop
 rt:VK
 bk:St->Hp->Prop:=λ_ _=>False
 ct:St->Hp->Prop:=λ_ _=>False
abbrev TS:=vk->St->Hp->Prop
def EP(X:Cx) (mU:List (Addr×Obj)) (σ:St) (Q:VK) (u:Value) (s':iD):Prop:=∃v H',Inv X mU σ H' s'/\oX v u/\Q v H'
def TP(X:Cx) (mU:List (Addr×Obj)) (σ:St) (Q:Bool->Hp->Prop) (b:Bool) (s':iD):Prop:=∃H',Inv X mU σ H' s'/\Q b H'
def AP(X:Cx) (mU:List (Addr×Obj)) (σ:St) (Q:List V->Hp->Prop) (us:List Value) (s':iD):Prop:=∃vs H',Inv X mU σ H' s'/\ou vs us/\Q vs H'
def SP(X:Cx) (mU:List (Addr×Obj)) (D:vk) (f:Flow) (s':iD):Prop :=
 match f with
 | .next=>∃σ' H',Inv X mU σ' H' s'/\D.nx σ' H'
 | .brk=>∃σ' H',Inv X mU σ' H' s'/\D.bk σ' H'
 | .cont=>∃σ' H',Inv X mU σ' H' s'/\D.ct σ' H'
 | .ret u=>∃v σ' H',Inv X mU σ' H' s'/\oX v u/\D.rt v H'
def PE(X:Cx) (e:Expr) (t:TE):Prop :=
 ∀(mU:List (Addr×Obj)) (s:iD) (σ:St) (H:Hp) (Q:VK),Inv X mU σ H s->t σ H Q->iI (iG X.prog X.w) X.A (eval e X.env) (EP X mU σ Q) X.xe s
def PT(X:Cx) (e:Expr) (t:TT):Prop :=
 ∀(mU:List (Addr×Obj)) (s:iD) (σ:St) (H:Hp) (Q:Bool->Hp->Prop),Inv X mU σ H s->t σ H Q->iI (iG X.prog X.w) X.A (isTrue e X.env (eval e X.env)) (TP X mU σ Q) X.xe s
def PW(X:Cx) (e:Expr) (t:TT):Prop :=
 ∀(whole:Sem Value) (mU:List (Addr×Obj)) (s:iD) (σ:St) (H:Hp) (Q:Bool->Hp->Prop),Inv X mU σ H s->t σ H Q->iI (iG X.prog X.w) X.A (isTrue e X.env whole) (TP X mU σ Q) X.xe s
theorem PW.pt{X:Cx}{e:Expr}{t:TT}(h:PW X e t):PT X e t:=h _
def PA(X:Cx) (es:List Expr) (t:TA):Prop :=
 ∀(pos:Pos) (mU:List (Addr×Obj)) (s:iD) (σ:St) (H:Hp) (Q:List V->Hp->Prop),Inv X mU σ H s->t σ H Q->iI (iG X.prog X.w) X.A (spliced (jx pos (iR es X.env))) (AP X mU σ Q) X.xe s
def PS(X:Cx) (st:Stmt) (t:TS):Prop :=
 ∀(mU:List (Addr×Obj)) (s:iD) (σ:St) (H:Hp) (D:vk),Inv X mU σ H s->t D σ H->iI (iG X.prog X.w) X.A (exec st X.env) (SP X mU D) X.xe s
def HP(X:Cx) (st:List Stmt) (t:TS):Prop :=
 ∀(mU:List (Addr×Obj)) (s:iD) (σ:St) (H:Hp) (D:vk),Inv X mU σ H s->t D σ H->iI (iG X.prog X.w) X.A (execs st X.env) (SP X mU D) X.xe s
theorem qC{α:Type}{t:Sem α}{Q Q':α->iD->Prop}{M:jR}{A:Around}{E:Value->iD->Prop}{s:iD}(h:iI M A t Q E s) (hQ:∀a s,Q a s->Q' a s):iI M A t Q' E s:=iU h hQ λ_ _ x=>x
section
variable {X:Cx}
def vo(i:Nat):TE:=λσ H Q=>∃v,σ[i]?=some (some v)/\Q v H
def tC(v:V):TE:=λ_ H Q=>Q v H
theorem PJ{i:Nat}{x:Str}{pos:Pos}(hN:X.N[i]?=some x) (hv:SU X.env.scope x) (hd:(x == ("__debug__" : Str))=false:=by decide) (hcd:(x == ("__classdict__" : Str))=false:=by decide):PE X (.Name x pos) (vo i):=by
 intro mU s σ H Q I h;obtain⟨v,e,h⟩:=h;obtain⟨m,hn,hl⟩:=I.loc;obtain⟨u,r,l⟩:=hl i x v hN e hv;have fin:EP X mU σ Q u s:=⟨v,H,I,r,h⟩;rcases l with ⟨hk,hm⟩|⟨hk,c,hc,hcell⟩
 .exact wpAny_Name (kZ I.ok.kind hk hn hm fin) hd
 .rcases hk with hk|hk
  .exact wpAny_Name (lz I.ok.kind hk hc hcell fin) hd
  .exact wpAny_Name (wpAny_loadName_free I.ok.kind hk hc hcell fin hcd) hd
theorem nk{i j pos}:PE X (.Constant (.int i) j pos) (tC (.int i)):=λ_ _ _ H _ I h=>wpAny_Constant_int ⟨.int i,H,I.tok _,⟨_,rfl⟩,h⟩
theorem zj{b j pos}:PE X (.Constant (.bool b) j pos) (tC (.bl b)):=λ_ _ _ H _ I h=>Constant_bool ⟨.bl b,H,I,rfl,h⟩
theorem Pg{x j pos}:PE X (.Constant (.str x) j pos) (tC (.str x)):=λ_ _ _ H _ I h=>Calls.Constant_str ⟨.str x,H,I.tok _,⟨_,rfl⟩,h⟩
def Gl(X:Cx) (x:Str):Prop:=X.env.kindOf x=some .globalImplicit
theorem zM{E:Value->iD->Prop}{mU:List (Addr×Obj)}{s:iD}{σ:St}{H:Hp}{x:Str}{u:Value}{pos:Pos}{Q:Value->iD->Prop}(I:Inv X mU σ H s) (hg:Gl X x) (hm:X.mg x=some u) (h:Q u s)
  (hd:(x == ("__debug__" : Str))=false:=by decide):iI (iG X.prog X.w) X.A (eval (.Name x pos) X.env) Q E s :=
 Calls.Name_function_global I.ok.kind hg (Calls.loadGlobal_global (by rw[I.ok.glob];exact I.mod.glob.keeps I.bk) hm h) hd
theorem Ad{E:Value->iD->Prop}{mU:List (Addr×Obj)}{s:iD}{σ:St}{H:Hp}{x:Str}{u:Value}{pos:Pos}{Q:Value->iD->Prop}(I:Inv X mU σ H s) (hg:Gl X x) (hm:X.mg x=none) (hv:jK x=some u) (h:Q u s)
  (hn:x ≠ "__name__" := by decide) (hd:(x == ("__debug__" : Str))=false:=by decide):iI (iG X.prog X.w) X.A (eval (.Name x pos) X.env) Q E s:=by
 obtain⟨mb,h1,h2⟩:=I.mod.blt;exact Calls.Name_function_global I.ok.kind hg (Calls.loadGlobal_builtin (by rw[I.ok.glob];exact I.mod.glob.keeps I.bk) hm (by rw[I.ok.blt];exact h1.keeps I.bk) ((h2 x hn).trans hv) h) hd
theorem N0{x:Str}{v:V}{u:Value}{pos:Pos}(hg:Gl X x) (hm:X.mg x=none) (hv:jK x=some u) (r:oX v u) (hn:x ≠ "__name__" := by decide) (hd:(x == ("__debug__" : Str))=false:=by decide):PE X (.Name x pos) (tC v) :=
 λ_ _ _ H _ I h=>Ad I hg hm hv ⟨v,H,I,r,h⟩ hn hd
variable {a b:Expr}{ta tb:TE}{pos:Pos}
def PC(X:Cx) (op:CmpOp) (a b:Expr) (t:TE):Prop :=
 ∀(mU:List (Addr×Obj)) (s:iD) (σ:St) (H:Hp) (Q:VK),Inv X mU σ H s->t σ H Q ->
  iI (iG X.prog X.w) X.A (eval a X.env) (λv s₁=>iI (iG X.prog X.w) X.A (eval b X.env) (λu s₂=>iI (iG X.prog X.w) X.A (jk op v u) (EP X mU σ Q) X.xe s₂) X.xe s₁) X.xe s
def tB(t:TE):TT:=λσ H Q=>t σ H λx H1=>∃c,x = .bl c/\Q c H1
theorem CJ{op:CmpOp}{t:TE}(h:PC X op a b t) (h1:jQ op b=false:=by first|exact nobehind _ (by decide) (by decide)|rfl):PT X (.Compare a [op] [b] pos) (tB t):=by
 intro mU s σ H Q I hw;refine kP (qC (h mU s σ H _ I hw) λv s1 h1=>qC h1 λu s2 h2=>qC h2 λc s3 ⟨x,H1,I1,r1,q1⟩=>?_) h1
 obtain⟨d,rfl,q⟩:=q1;cases r1;exact jv ⟨H1,I1,q⟩
theorem Lu{e:Expr}{t:TE}(h:PE X e t) (he:∀whole,isTrue e X.env whole=(do let v ←whole;standAt e.pos;holding [v] (truthy v)):=by intro _;rfl):PT X e (tB t):=by
 intro mU s σ H Q I hw;refine isTrue_plain (qC (h mU s σ H _ I hw) λv s1 ⟨x,H1,I1,r1,q1⟩=>?_) (he _)
 obtain⟨d,rfl,q⟩:=q1;cases r1;exact jv ⟨H1,I1,q⟩
variable {tA tB':TT}{rest:List Expr}
def Rt(t u:TT):TT:=λσ H Q=>t σ H λc H1=>if c=true then u σ H1 Q else Q false H1
def UM(t u:TT):TT:=λσ H Q=>t σ H λc H1=>if c=true then Q true H1 else u σ H1 Q
def SC(t:TT):TT:=λσ H Q=>t σ H λc H1=>Q (!c) H1
theorem Hk(ha:PT X a tA):PW X (.BoolOp .And [a] pos) tA:=by
 intro wh mU s σ H Q I h;refine isTrue_and (qC (ha mU s σ H Q I h) λc s1 e=>?_)
 cases c with
 |true=>exact isTrue_and_nil e
 |false=>exact e
theorem Mf(ha:PT X a tA):PW X (.BoolOp .Or [a] pos) tA:=by
 intro wh mU s σ H Q I h;refine isTrue_or (qC (ha mU s σ H Q I h) λc s1 e=>?_)
 cases c with
 |false=>exact isTrue_or_nil e
 |true=>exact e
theorem K3(ha:PT X a tA) (hb:PW X (.BoolOp .And (b::rest) pos) tB'):PW X (.BoolOp .And (a::b::rest) pos) (Rt tA tB'):=by
 intro wh mU s σ H Q I h;refine isTrue_and (qC (ha mU s σ H _ I h) λc s1 ⟨H1,I1,q1⟩=>?_)
 cases c with
 |true=>exact hb wh mU s1 σ H1 Q I1 q1
 |false=>exact⟨H1,I1,q1⟩
theorem Lg(ha:PT X a tA) (hb:PW X (.BoolOp .Or (b::rest) pos) tB'):PW X (.BoolOp .Or (a::b::rest) pos) (UM tA tB'):=by
 intro wh mU s σ H Q I h;refine isTrue_or (qC (ha mU s σ H _ I h) λc s1 ⟨H1,I1,q1⟩=>?_)
 cases c with
 |true=>exact⟨H1,I1,q1⟩
 |false=>exact hb wh mU s1 σ H1 Q I1 q1
theorem Ql(ha:PT X a tA):PT X (.UnaryOp .Not a pos) (SC tA):=by
 intro mU s σ H Q I h;exact isTrue_not (ha mU s σ H (λc H1=>Q (!c) H1) I h)
end
def qJ(K:W.Frag) (H:Hp) (a:Addr) (xs:List V):Prop :=
 Rd H a (.lst xs) ∨
  ∃(o:Obj) (its:Array Value) (n:Nat),K.lookup a=some o/\o.cls = .type "list" /\ o.dict=none/\o.data = .seq its n/\its.size<=iN/\ou xs its.toList
def BP(K:W.Frag) (H:Hp) (a:Addr) (xs:List V):Prop :=
 Rd H a (.tup xs) ∨
  ∃(o:Obj) (its:Array Value) (n:Nat),K.lookup a=some o/\o.cls = .type "tuple" /\ o.data = .seq its n/\its.size<=iN/\ou xs its.toList
def Uh:Value->Option V
 | .none=>some .non
 | .bool b=>some (.bl b)
 | .int i _=>some (.int i)
 | .str x _=>some (.str x)
 | .bytes b _=>some (.byt b)
 | .float b _=>some (.flt b)
 | .ref a=>some (.ref a)
 | .type n=>some (.ty n)
 |_=>none
theorem oX.abs{x:V}{u:Value}(r:oX x u):Uh u=some x:=by
 cases x with
 |non=>cases r;rfl
 |bl _=>cases r;rfl
 |int _=>obtain⟨t,rfl⟩:=r;rfl
 |str _=>obtain⟨t,rfl⟩:=r;rfl
 |byt _=>obtain⟨t,rfl⟩:=r;rfl
 |flt _=>obtain⟨t,rfl⟩:=r;rfl
 |ref _=>cases r;rfl
 |ty _=>cases r;rfl
theorem oX.inj{x y:V}{u:Value}(r:oX x u) (q:oX y u):x=y:=bc.inj (r.abs.symm.trans q.abs)
theorem ou.inj:∀{xs ys:List V}{us:List Value},ou xs us->ou ys us->xs=ys
 |_,_,_,.nil,.nil=>rfl
 |_,_,_,.cons r t,.cons r' t'=>by rw[r.inj r',ou.inj t t']
section
variable {X:Cx}{mU:List (Addr×Obj)}{σ:St}{H:Hp}{s:iD}{a:Addr}{xs ys:List V}
theorem qJ.of{K:W.Frag}(h:H a=some (.lst xs)):qJ K H a xs:=.inl (.inl h)
theorem BP.of{K:W.Frag}(h:H a=some (.tup xs)):BP K H a xs:=.inl (.inl h)
theorem Inv.list(I:Inv X mU σ H s) (h:qJ X.K H a xs):∃its:List Value,ou xs its/\PlainL s.heap a its.toArray/\xs.length<=iN:=by
 rcases h with h|⟨o,its,n,hk,hc,hd,hs,hz,r⟩
 .obtain ⟨z,its,n,r,e⟩:=h.ok I.hok;exact⟨its,r,⟨_,n,e,rfl,rfl,rfl⟩,z⟩
 .refine ⟨its.toList,r,⟨o,n,I.kIn a o hk,hc,hd,by simpa using hs⟩,?_⟩
  have e:=r.length;simp only[aq]at e;lia
theorem Inv.tuple(I:Inv X mU σ H s) (h:BP X.K H a xs):∃its:List Value,ou xs its/\IsTup s.heap a its.toArray/\xs.length<=iN:=by
 rcases h with h|⟨o,its,n,hk,hc,hs,hz,r⟩
 .obtain ⟨z,its,r,p⟩:=h.ok I.hok;exact⟨its,r,p,z⟩
 .refine ⟨its.toList,r,⟨o,I.kIn a o hk,hc,n,by simpa using hs⟩,?_⟩
  have e:=r.length;simp only[aq]at e;lia
theorem Inv.list_inj(I:Inv X mU σ H s) (h:qJ X.K H a xs) (h':qJ X.K H a ys):xs=ys:=by
 obtain⟨its,r,⟨o,n,e,_,_,d⟩,_⟩:=I.list h;obtain⟨its',r',⟨o',n',e',_,_,d'⟩,_⟩:=I.list h';rw[e]at e';cases e';rw[d]at d';injection d' with d1 _
 have:its=its':=by simpa using congrArg Array.toList d1
 subst this;exact r.inj r'
end
abbrev Cx.wish(X:Cx) (E:Value->iD->Prop):Cx:={ X with xe:=E }
abbrev Cx.nox(X:Cx):Cx:=X.wish λ_ _=>False
theorem Cx.Ok.wish{X:Cx}(ok:X.Ok) (E:Value->iD->Prop):(X.wish E).Ok :=
 ⟨ok.mod,ok.kind,ok.glob,ok.blt,ok.above,ok.inj,ok.has,ok.cab,ok.hd,ok.frames,ok.stk,ok.exf,ok.bs,ok.bsz,ok.noex,ok.exfs,ok.funs,ok.frf⟩
theorem Cx.Ok.unwish{X:Cx}{E:Value->iD->Prop}(ok:(X.wish E).Ok):X.Ok :=
 ⟨ok.mod,ok.kind,ok.glob,ok.blt,ok.above,ok.inj,ok.has,ok.cab,ok.hd,ok.frames,ok.stk,ok.exf,ok.bs,ok.bsz,ok.noex,ok.exfs,ok.funs,ok.frf⟩
section
variable {X:Cx}{mU:List (Addr×Obj)}{σ:St}{H:Hp}{s:iD}{E:Value->iD->Prop}
theorem Inv.wish(I:Inv X mU σ H s) (E:Value->iD->Prop):Inv (X.wish E) mU σ H s:=⟨I.ok.wish E,I.os,I.bare,I.base,I.loc,I.cell,I.free,I.freeC,I.pin,I.hok,I.len⟩
theorem Inv.unwish(I:Inv (X.wish E) mU σ H s):Inv X mU σ H s:=⟨I.ok.unwish,I.os,I.bare,I.base,I.loc,I.cell,I.free,I.freeC,I.pin,I.hok,I.len⟩
theorem SP.unwish{D:vk}{f:Flow}{s':iD}(h:SP (X.wish E) mU D f s'):SP X mU D f s':=by
 cases f with
 |next=>obtain⟨σ',H',I,q⟩:=h;exact⟨σ',H',I.unwish,q⟩
 |brk=>obtain⟨σ',H',I,q⟩:=h;exact⟨σ',H',I.unwish,q⟩
 |cont=>obtain⟨σ',H',I,q⟩:=h;exact⟨σ',H',I.unwish,q⟩
 |ret u=>obtain⟨v,σ',H',I,r,q⟩:=h;exact⟨v,σ',H',I.unwish,r,q⟩
theorem HP.nox{st:List Stmt}{t:TS}(h:HP X.nox st t):HP X st t:=λmU s σ H D I hw =>
 iU (h mU s σ H D (I.wish _) hw) (λ_ _ q=>q.unwish) λ_ _ z=>False.elim z
end
section
variable {X:Cx}{st:Stmt}{rest:List Stmt}{t u:TS}{e:Expr}{te:TE}{pos:Pos}
def OP:TS:=λD σ H=>D.nx σ H
def GX(t u:TS):TS:=λD σ H=>t { D with nx:=u D } σ H
theorem qT:HP X [] OP:=λ_ _ σ H _ I h=>jW ⟨σ,H,I,h⟩
theorem mX(h1:PS X st t) (h2:HP X rest u):HP X (st::rest) (GX t u):=by
 intro mU s σ H D I h;refine wpAny_execs_cons (qC (h1 mU s σ H { D with nx:=u D } I h) λf s1 q=>?_)
 cases f with
 |next =>
  obtain⟨σ',H',I',q⟩:=q;exact h2 mU s1 σ' H' D I' q
 |ret v=>exact q
 |brk=>exact q
 |cont=>exact q
theorem nr(h1:PS X st t):HP X [st] t:=by
 intro mU s σ H D I h;refine wpAny_execs_cons (qC (h1 mU s σ H D I h) λf s1 q=>?_)
 cases f with
 |next=>exact jW q
 |ret v=>exact q
 |brk=>exact q
 |cont=>exact q
theorem Inv.quiet{mU:List (Addr×Obj)}{σ:St}{H:Hp}{s:iD}(I:Inv X mU σ H s):interactive X.env=false:=by simp[interactive,I.ok.kind]
def xT(te:TE):TS:=λD σ H=>te σ H λ_ H1=>D.nx σ H1
theorem pH(he:PE X e te) (hs:kJ e none pos.line X.env=pure false:=by rfl):PS X (.Expr e pos) (xT te):=by
 intro mU s σ H D I h;exact wpAny_Expr_any (qC (he mU s σ H _ I h) λv s1 ⟨x,H1,I1,r1,q1⟩=>⟨σ,H1,I1,q1⟩) I.quiet hs
def Q1(te:TE):TS:=λD σ H=>te σ H D.rt
theorem pE(he:PE X e te):PS X (.Return (some e) pos) (Q1 te):=by
 intro mU s σ H D I h;exact wpAny_Return_some (qC (he mU s σ H _ I h) λv s1 ⟨x,H1,I1,r1,q1⟩=>⟨x,σ,H1,I1,r1,q1⟩)
def Ku(c:TT) (t u:TS):TS:=λD σ H=>c σ H λb H1=>if b=true then t D σ H1 else u D σ H1
theorem tJ{c:Expr}{a b:List Stmt}{tc:TT}(hc:PT X c tc) (ha:HP X a t) (hb:HP X b u):PS X (.If c a b pos) (Ku tc t u):=by
 intro mU s σ H D I h;refine wpAny_If (qC (hc mU s σ H _ I h) λd s1 ⟨H1,I1,q1⟩=>?_)
 cases d with
 |true=>exact ha mU s1 σ H1 D I1 q1
 |false=>exact hb mU s1 σ H1 D I1 q1
end
abbrev TG:=V->St->Hp->(St->Hp->Prop)->Prop
abbrev Q5:=List V->St->Hp->(St->Hp->Prop)->Prop
def PG(X:Cx) (target:Expr) (t:TG):Prop :=
 ∀(mU:List (Addr×Obj)) (s:iD) (σ:St) (H:Hp) (v:V) (u:Value) (Q:St->Hp->Prop),Inv X mU σ H s->oX v u->t v σ H Q ->
  iI (iG X.prog X.w) X.A (assign target X.env u) (λ_ s'=>∃σ' H',Inv X mU σ' H' s'/\Q σ' H') X.xe s
def S0(X:Cx) (ts:List Expr) (t:Q5):Prop :=
 ∀(mU:List (Addr×Obj)) (s:iD) (σ:St) (H:Hp) (vs:List V) (us:List Value) (Q:St->Hp->Prop),Inv X mU σ H s->ou vs us->t vs σ H Q ->
  iI (iG X.prog X.w) X.A (assignInOrder ((ky ts X.env).map (·.2)) us) (λ_ s'=>∃σ' H',Inv X mU σ' H' s'/\Q σ' H') X.xe s
abbrev Tf:=V->V->Hp->VK->Prop
def UK(X:Cx) (op:Operator) (t:Tf):Prop :=
 ∀(mU:List (Addr×Obj)) (s:iD) (σ:St) (H:Hp) (x y:V) (v u:Value) (Q:VK),Inv X mU σ H s->oX x v->oX y u->t x y H Q ->
  iI (iG X.prog X.w) X.A (inplaceOp op v u) (EP X mU σ Q) X.xe s
section
variable {X:Cx}{pos:Pos}
def sL(i:Nat):TG:=λv σ H Q=>Q (σ.set i (some v)) H
theorem qS{i:Nat}{x:Str}(hN:X.N.Nodup) (hi:X.N[i]?=some x) (hx:Ra X.env.scope x) (hf:X.fn x=true∨X.env.scope.names.lookup x=some .local:=by trivial):PG X (.Name x pos) (sL i):=by
 intro mU s σ H v u Q I r h;exact wpAny_assign_Name (Bk I hN hi hx r (λs' I'=>⟨_,H,I',h⟩) hf)
def NA:Q5:=λvs σ H Q=>vs=[]/\Q σ H
def Bl(t:TG) (u:Q5):Q5:=λvs σ H Q=>∃v r,vs=v::r/\t v σ H λσ' H'=>u r σ' H' Q
theorem HR:S0 X [] NA:=by
 intro mU s σ H vs us Q I r h;obtain⟨e,h⟩:=h;subst e;cases r;exact assignInOrder_nil ⟨σ,H,I,h⟩
theorem xY{e:Expr}{es:List Expr}{t:TG}{u:Q5}(h1:PG X e t) (h2:S0 X es u)
  (hs:(ky (e::es) X.env).map (·.2)=assign e X.env::(ky es X.env).map (·.2):=by rfl):S0 X (e::es) (Bl t u):=by
 intro mU s σ H vs us Q I r h;obtain⟨v,vr,e1,h⟩:=h;subst e1;cases r with
 |cons r rr =>
  rw[hs];refine assignInOrder_cons (qC (h1 mU s σ H _ _ _ I r h) λ_ s1 ⟨σ1,H1,I1,q1⟩=>?_)
  exact h2 mU s1 σ1 H1 _ _ Q I1 rr q1
def NL(K:W.Frag) (n:Nat) (t:Q5):TG:=λv σ H Q=>∃a xs,v = .ref a/\BP K H a xs/\xs.length=n/\t xs σ H Q
theorem Ky{es:List Expr}{k:Nat}{t:Q5}{n:Nat}(hc:X.calm=true) (h:S0 X es t)
  (hn:(ky es X.env).length=n:=by rfl) (hst:(ky es X.env).findIdx? (·.1)=none:=by rfl):PG X (.Tuple es k pos) (NL X.K n t):=by
 intro mU s σ H v u Q I r hw;obtain⟨a,xs,e1,hq,hl,hw⟩:=hw;subst e1;cases r;obtain⟨its,rv,ht,hz⟩:=I.tuple hq;refine assign_Tuple_tuple (I.ok.hd hc) ht (by simp[hn,←hl,rv.length]) hst λh' hx=>?_
 have I1:Inv X mU σ H { s with heap:=h' }:=I.kept (t':=s.toks) λb o e=>hx b o (aw (ah e)) e
 exact h mU _ σ H xs _ Q I1 (by simpa using rv) hw
def GH(te:TE) (g:TG):TS:=λD σ H=>te σ H λx H1=>g x σ H1 D.nx
theorem nJ{i:Nat}{x:Str}{e:Expr}{te:TE}{pos':Pos}(hN:X.N.Nodup) (hi:X.N[i]?=some x) (hx:Ra X.env.scope x) (he:PE X e te) (hs:kJ e (some (.Name x pos')) pos.line X.env=pure false:=by rfl) (hf:X.fn x=true∨X.env.scope.names.lookup x=some .local:=by trivial) :
  PS X (.Assign [.Name x pos'] e pos) (GH te (sL i)):=by
 intro mU s σ H D I h;refine wpAny_Assign_Name (qC (he mU s σ H _ I h) λv s1 ⟨y,H1,I1,r1,q1⟩=>?_) hs
 exact Bk I1 hN hi hx r1 (λs2 I2=>⟨_,H1,I2,q1⟩) hf
def SI(i:Nat) (te:TE) (ti:Tf):TS:=λD σ H=>∃x,σ[i]?=some (some x)/\te σ H λy H1=>ti x y H1 λz H2=>D.nx (σ.set i (some z)) H2
theorem PM{i:Nat}{x:Str}{e:Expr}{te:TE}{op:Operator}{ti:Tf}{pos':Pos}(hN:X.N.Nodup) (hi:X.N[i]?=some x) (hx:Ra X.env.scope x) (he:PE X e te) (ho:UK X op ti) (hf:X.fn x=true∨X.env.scope.names.lookup x=some .local:=by trivial) :
  PS X (.AugAssign (.Name x pos') op e pos) (SI i te ti):=by
 intro mU s σ H D I h;obtain⟨v,e1,h⟩:=h;obtain⟨m,hn,hl⟩:=I.loc;have vis:SU X.env.scope x:=by rcases hx with k|k;exact .inl k;exact .inr (.inl k)
 obtain⟨u,r,l⟩:=hl i x v hi e1 vis;refine wpAny_AugAssign_Name ?_;have go:iI (iG X.prog X.w) X.A (eval e X.env) (λw s₂=>iI (iG X.prog X.w) X.A (inplaceOp op u w) (λr s₃=>iI (iG X.prog X.w) X.A (storeName X.env x r) (λ_=>SP X mU D .next) X.xe s₃) X.xe s₂) X.xe s:=by
  refine qC (he mU s σ H _ I h) λw s1 ⟨y,H1,I1,r1,q1⟩=>?_
  refine qC (ho mU s1 σ H1 v y u w _ I1 r r1 q1) λz s2 ⟨zv,H2,I2,r2,q2⟩=>?_
  exact Bk I2 hN hi hx r2 (λs3 I3=>⟨_,H2,I3,q2⟩) hf
 rcases l with ⟨hk,hm⟩|⟨hk,c,hc,hcell⟩
 .exact kZ I.ok.kind hk hn hm go
 .rcases hk with hk|hk
  .exact lz I.ok.kind hk hc hcell go
  .rcases hx with k|k
   .have:X.env.scope.names.lookup x=some .free:=hk;rw[k]at this;cases this
   .have:X.env.scope.names.lookup x=some .free:=hk;rw[k]at this;cases this
def Tv(f:Int->Int->Int):Tf:=λx y H Q=>∃i j,x = .int i/\y = .int j/\Q (.int (f i j)) H
theorem PL:UK X .Add (Tv λi j=>i+j):=by
 intro mU s σ H x y v u Q I r1 r2 h;obtain⟨i,j,e1,e2,q⟩:=h;subst e1;subst e2;obtain⟨t,rfl⟩:=r1;obtain⟨t',rfl⟩:=r2;exact iadd_int ⟨.int _,H,I.tok _,⟨_,rfl⟩,q⟩
end
section
variable {X:Cx}{pos:Pos}
def KU(c:TT) (tb:TS):TS:=λD σ H=>∃W:Nat->St->Hp->Prop,(∃m,W m σ H)/\∀m σ H,W m σ H ->
 c σ H λb H1=>if b=true then ∃N:St->Hp->Prop,(∀σ' H',N σ' H'->∃m',m'<m/\W m' σ' H')/\tb { D with nx:=N,ct:=N,bk:=D.nx } σ H1 else D.nx σ H1
theorem A9{c:Expr}{body:List Stmt}{tc:TT}{tb:TS}(hp:PassesOwn (iG X.prog X.w) X.A X.env X.xe) (hc:PT X c tc) (hb:HP X body tb):PS X (.While c body [] pos) (KU tc tb):=by
 intro mU s σ H D I h;obtain⟨W,⟨m0,w0⟩,turn⟩:=h;refine wpAny_While (codeAny_whileLoop (λn s'=>∃σ' H',Inv X mU σ' H' s'/\W n σ' H') ?_ m0 ⟨σ,H,I,w0⟩)
 rintro n s1 ⟨σ1,H1,I1,w1⟩;refine jl hp (qC (hc mU s1 σ1 H1 _ I1 (turn n σ1 H1 w1)) λb s2 ⟨H2,I2,q2⟩=>?_)
 cases b with
 |true =>
  obtain⟨N,hN,q2⟩:=q2;rw[nK rfl];refine jl hp (qC (hb mU s2 σ1 H2 _ I2 q2) λf s3 q3=>?_)
  cases f with
  |next =>
   obtain⟨σ3,H3,I3,n3⟩:=q3;obtain⟨m',hm,w3⟩:=hN σ3 H3 n3;exact⟨m',hm,σ3,H3,I3,w3⟩
  |cont =>
   obtain⟨σ3,H3,I3,n3⟩:=q3;obtain⟨m',hm,w3⟩:=hN σ3 H3 n3;exact⟨m',hm,σ3,H3,I3,w3⟩
  |brk=>exact q3
  |ret v=>exact q3
 |false =>
  rw[nS aO];exact jW ⟨σ1,H2,I2,q2⟩
end
structure It where
 go:Nat->Hp->Prop
 yld:Nat->Hp->V->Hp->Prop
 stop:Nat->Hp->Prop
def Aq(X:Cx) (mU:List (Addr×Obj)) (H:Hp) (b:Addr):Prop :=
 H b=none/\b≠X.env.locals/\b∉X.fs/\(b∈X.ex∨X.s₀.heap.objs.size<=b)/\(∀x c,X.env.cells.lookup x=some c->c≠b)/\∀p∈X.pn++mU,p.1≠b
theorem Inv.fpOk{X:Cx}{mU:List (Addr×Obj)}{σ:St}{H H':Hp}{s:iD}{b:Addr}(I:Inv X mU σ H s) (hb:s.heap.objs.size<=b) (hn:H' b=none):Aq X mU H' b:=by
 refine⟨hn,dr (aN I.lt hb),I.nofs hb,.inr (br I.sz hb),λx c e z=>?_,λp hp z=>?_⟩
 .obtain ⟨v,q⟩:=I.cell x c e;exact absurd (aN q.lt (by rw[z];exact hb)) (cf _)
 .exact absurd (aN (ah (I.pin p hp).1) (by rw[z];exact hb)) (cf _)
structure KF (P:iK) (w:iP) (K:W.Frag) (tg:Expr) (J:It) (fp:List Addr) (it:Addr) (tn:Nat->Heap->Prop):Prop where
 mem:it∈fp
 obj:∀i h,tn i h->∀b∈fp,∃o,h.get? b=some o/\∀v,o.data ≠ .cell v
 keep:∀i h h',tn i h->(∀b∈fp,∀o,h.get? b=some o->h'.get? b=some o)->tn i h'
 item:∀(X:Cx),X.prog=P->X.w=w->X.K=K->X.calm=true->∀(i:Nat) (mU:List (Addr×Obj)) (s:iD) (σ:St) (H:Hp) (E:Value->iD->Prop),Inv X mU σ H s->(∀b∈fp,Aq X mU H b)->tn i s.heap->J.go i H ->
  iI (iG P w) X.A (pyNext (.ref it)) (λr s1=>∃u,r=some u /\
   iI (iG P w) X.A (jX tg (.ref it) u) (λ_ s2=>∃x H',Inv X mU σ H' s2/\oX x u/\J.yld i H x H'/\tn (i+1) s2.heap/\∀b∈fp,H' b=none) E s1) E s
 done:∀(X:Cx),X.prog=P->X.w=w->X.K=K->X.calm=true->∀(i:Nat) (mU:List (Addr×Obj)) (s:iD) (σ:St) (H:Hp) (E:Value->iD->Prop),Inv X mU σ H s->(∀b∈fp,Aq X mU H b)->tn i s.heap->J.stop i H ->
  iI (iG P w) X.A (pyNext (.ref it)) (λr s1=>r=none/\Inv X mU σ H s1) E s
 self:∀(A:Around) (i:Nat) (s:iD) (Q:Value->iD->Prop) (E:Value->iD->Prop),tn i s.heap->Q (.ref it) s->iI (iG P w) A (pyIter (.ref it)) Q E s
abbrev TI:=St->Hp->(It->Hp->Prop)->Prop
def UL(X:Cx) (mU:List (Addr×Obj)) (σ:St) (tg:Expr) (R:It->Hp->Prop) (itv:Value) (s2:iD):Prop :=
 ∃(it:Addr) (fp:List Addr) (tn:Nat->Heap->Prop) (J:It) (H':Hp),itv = .ref it/\Inv X mU σ H' s2/\KF X.prog X.w X.K tg J fp it tn/\tn 0 s2.heap/\(∀b∈fp,Aq X mU H' b)/\R J H'
def PI(X:Cx) (tg iter:Expr) (wi:TI):Prop :=
 ∀(mU:List (Addr×Obj)) (s:iD) (σ:St) (H:Hp) (R:It->Hp->Prop),Inv X mU σ H s->wi σ H R ->
  iI (iG X.prog X.w) X.A (eval iter X.env) (λv s1=>iI (iG X.prog X.w) X.A (pyIter v) (UL X mU σ tg R) X.xe s1) X.xe s
theorem OV{M:jR}{A:Around}{E:Value->iD->Prop}{s:iD}{tg:Expr}{it:Addr}{u:Value}{o:Obj}{n:String}{vs:Array Value}{Q:Unit->iD->Prop}(ho:s.heap.get? it=some o) (hc:o.cls = .type n) (hd:o.data = .fields vs)
    (hn:["enumerate", "zip", "dict_itemiterator", "dict_reverseitemiterator", "odict_iterator", "itertools.zip_longest", "itertools.pairwise"].contains n=false) (hQ:Q () s):iI M A (jX tg (.ref it) u) Q E s:=by
  unfold jX;cases tg <;> first
    |exact iO hQ
    | (cases u <;> first
        |exact iO hQ
        | (refine iF (wpAny_load ho ?_)
           rw[hc,hd];show iI M A (if (["enumerate", "zip", "dict_itemiterator", "dict_reverseitemiterator", "odict_iterator", "itertools.zip_longest", "itertools.pairwise"].contains n && vs[0]? == some (ka _))=true then _ else _) Q E s
           rw[nS (by intro h;rw[hn,ie]at h;cases h)]
           exact iO hQ))
def Ss(K:W.Frag) (a:Addr):It :=
 ⟨λi H=>∃xs x,qJ K H a xs/\xs[i]?=some x,λi H x H'=>H'=H/\∀xs,qJ K H a xs->xs[i]?=some x,λi H=>∃xs,qJ K H a xs/\xs.length<=i⟩
def Ny(lo:Int) (n:Nat):It:=⟨λi _=>i<n,λi H x H'=>H'=H/\x = .int (lo+i),λi _=>n<=i⟩
theorem Iv{P:iK}{w:iP}{K:W.Frag}{tg:Expr}(a it:Addr):KF P w K tg (Ss K a) [it] it (λi h=>h.IsListIter it a i) where
 mem:=by simp
 obj:=λi h st b hb=>by
  have e:b=it:=by simpa using hb
  subst e;obtain⟨o,e,c,d⟩:=st;exact⟨o,e,λv z=>by rw[d]at z;cases z⟩
 keep:=λi h h' st k=>st.at λo e=>k it (by simp) o e
 item:=by
  intro X hP hw hK hc i mU s σ H E I hf st hg;subst hP hw hK;obtain⟨xs,x,hq,hx⟩:=hg;obtain⟨its,rv,p,hz⟩:=I.list hq;obtain⟨u,hu,ru⟩:=rv.get hx;obtain⟨f0,f1,f2,f3,f4,f5⟩:=hf it (by simp)
  refine wpAny_pyNext_list_item st p.isList (x:=u) (by simpa using hu) λh' st' sb=>?_
  have I1:Inv X mU σ H { s with heap:=h' }:=I.turned (t':=s.toks) (λb o hb e=>(sb.2 b hb).trans e) f0 f1 f3 f4 f5
  obtain⟨o,e,c,d⟩:=id st';exact⟨u,rfl,OV (s:={ s with heap:=h' }) e c d (by decide) ⟨x,H,I1,ru,⟨rfl,λys hy=>by rw[I.list_inj hy hq];exact hx⟩,st',λb hb=>(hf b hb).1⟩⟩
 done:=by
  intro X hP hw hK hc i mU s σ H E I hf st hg;subst hP hw hK;obtain⟨xs,hq,hx⟩:=hg;obtain⟨its,rv,p,hz⟩:=I.list hq;obtain⟨f0,f1,f2,f3,f4,f5⟩:=hf it (by simp)
  have hl:=rv.length;exact wpAny_pyNext_list_end (I.ok.hd hc) st p.isList (by simp;lia) λh' eb=>⟨rfl,I.turned (t':=s.toks) (λb o hb e=>eb b o hb e) f0 f1 f3 f4 f5⟩
 self:=λ_ _ _ _ _ st h=>wpAny_pyIter_listiter st h
theorem Gg{P:iK}{w:iP}{K:W.Frag}{tg:Expr}(it:Addr) (lo:Int) (n:Nat):KF P w K tg (Ny lo n) [it] it (λi h=>IsRangeIter h it (lo+(i:Nat)*1) ((n:Int)-(i:Nat)) 1) where
 mem:=by simp
 obj:=λi h st b hb=>by
  have e:b=it:=by simpa using hb
  subst e;exact⟨_,st,λv z=>by
   have z':Data.fields _=Data.cell v:=z;cases z'⟩
 keep:=λi h h' st k=>k it (by simp) _ st
 item:=by
  intro X hP hw hK hc i mU s σ H E I hf st hg;subst hP hw hK;obtain⟨f0,f1,f2,f3,f4,f5⟩:=hf it (by simp)
  have W:=Walks.range (prog:=X.prog) (w:=X.w) (I.ok.hd hc) it lo 1 n;refine W.item i s _ _ hg st λv h' tk hv st' kk=>?_
  obtain⟨t,rfl⟩:=hv;have I1:Inv X mU σ H { s with heap:=h',toks:=tk }:=I.turned (λb o hb e=>kk b o (by simpa using hb) e) f0 f1 f3 f4 f5
  refine⟨_,rfl,OV (s:={ s with heap:=h',toks:=tk }) (n := "range_iterator") st' rfl rfl (by decide) ⟨.int (lo+i),H,I1,⟨t,?_⟩,⟨rfl,rfl⟩,st',λb hb=>(hf b hb).1⟩⟩
  rw[gV]
 done:=by
  intro X hP hw hK hc i mU s σ H E I hf st hg;subst hP hw hK;obtain⟨f0,f1,f2,f3,f4,f5⟩:=hf it (by simp)
  exact wpAny_pyNext_range_end (I.ok.hd hc) st (by have:n<=i:=hg;lia) λh' eb=>⟨rfl,I.turned (t':=s.toks) (λb o hb e=>eb b o hb e) f0 f1 f3 f4 f5⟩
 self:=λ_ _ _ _ _ st h=>wpAny_pyIter_rangeiter st h
section
variable {X:Cx}{tg:Expr}
def J9(K:W.Frag) (tl:TE):TI:=λσ H R=>tl σ H λx H1=>∃a,x = .ref a/\(∃xs,qJ K H1 a xs)/\R (Ss K a) H1
theorem qW{l:Expr}{tl:TE}(hl:PE X l tl):PI X tg l (J9 X.K tl):=by
 intro mU s σ H R I h;refine qC (hl mU s σ H _ I h) λv s1 ⟨x,H1,I1,r1,q1⟩=>?_
 obtain⟨a,e,⟨xs,hq⟩,q⟩:=q1;subst e;cases r1;obtain⟨its,rv,p,hz⟩:=I1.list hq;refine wpAny_pyIter_list p.isList ?_;refine⟨s1.heap.objs.size,[s1.heap.objs.size],_,_,H1,rfl,I1.kept (t':=s1.toks) λb o e=>ae _ e,Iv a _,⟨_,aU _ rfl,rfl,rfl⟩,λb hb=>?_,q⟩
 have e:b=s1.heap.objs.size:=by simpa using hb
 subst e;exact I1.fpOk (af _) (I1.hok.fresh (af _))
theorem Me{mU:List (Addr×Obj)}{σ:St}{H:Hp}{s:iD}{R:It->Hp->Prop}{E:Value->iD->Prop}{lo hi:Int}{t u v:Tok}{tk:Nat}(I:Inv X mU σ H s) (h1:-(2 ^ 62)<=lo) (h2:lo<2 ^ 62) (h3:-(2 ^ 62)<=hi) (h4:hi<2 ^ 62)
  (q:R (Ny lo (hi-lo).toNat) H):iI (iG X.prog X.w) X.A (pyIter (.ref s.heap.objs.size)) (UL X mU σ tg R) E { s with heap:=s.heap.push { cls:=.type "range", data:=.fields #[.int lo t,.int hi u,.int 1 v] },toks:=tk }:=by
 refine wpAny_pyIter_range (IsRange.new ..) (small_one h1 h2 h3 h4) ?_;have I1:Inv X mU σ H { s with heap:=s.heap.push { cls:=.type "range", data:=.fields #[.int lo t,.int hi u,.int 1 v] },toks:=tk }:=I.kept λb o e=>ae _ e
 refine⟨(s.heap.push { cls:=.type "range", data:=.fields #[.int lo t,.int hi u,.int 1 v] }).objs.size,[(s.heap.push { cls:=.type "range", data:=.fields #[.int lo t,.int hi u,.int 1 v] }).objs.size],_,_,H,rfl,
  I1.kept (t':=tk) λb o e=>ae _ e,Gg _ lo (hi-lo).toNat,?_,λb hb=>?_,q⟩
 .have e1:lo+((0:Nat):Int)*1=lo:=by simp
  have e2:(((hi-lo).toNat:Nat):Int)-((0:Nat):Int)=Builtin.Range.rangeSize lo hi 1:=by rw[rangeSize_one];split <;> lia
  show IsRangeIter _ _ (lo+((0:Nat):Int)*1) ((((hi-lo).toNat:Nat):Int)-((0:Nat):Int)) 1;rw[e1,e2];exact aU _ rfl
 .have e:b=(s.heap.push { cls:=.type "range", data:=.fields #[.int lo t,.int hi u,.int 1 v] }).objs.size:=by simpa using hb
  subst e;exact I1.fpOk (af _) (I1.hok.fresh (af _))
def J5(ta:TA):TI:=λσ H R=>ta σ H λvs H1=>∃j:Int,vs=[.int j]/\-(2 ^ 62)<=j/\j<2 ^ 62/\R (Ny 0 j.toNat) H1
theorem yF{a:Expr}{ta:TA}{p pos:Pos}(hg:Gl X "range") (hm:X.mg "range" = none) (ha:PA X [a] ta) (hs:iR [a] X.env=[(false,eval a X.env)]:=by rfl):PI X tg (.Call (.Name "range" p) [a] [] pos) (J5 ta):=by
 intro mU s σ H R I h;refine Call_ (Ad I hg hm boot_range (dq (qC (ha pos mU s σ H _ I h) λus s1 ⟨vs,H1,I1,r1,q1⟩=>?_) hs rfl))
 obtain⟨j,e,q1,q2,q⟩:=q1;subst e;cases r1 with
 |cons r rr =>
  cases rr;obtain⟨t,rfl⟩:=r;exact call_range_1 (Me I1 (by lia) (by lia) q1 q2 (by simpa using q))
def M8(wi:TI) (g:TG) (tb:TS):TS:=λD σ H=>wi σ H λJ H1=>∃W:Nat->Nat->St->Hp->Prop,(∃m,W 0 m σ H1)/\∀i m σ H,W i m σ H ->
 (J.stop i H/\D.nx σ H)∨(J.go i H/\∃N:St->Hp->Prop,(∀σ' H',N σ' H'->∃m',m'<m/\W (i+1) m' σ' H')/\∀x H',J.yld i H x H'->g x σ H' λσ2 H2=>tb { D with nx:=N,ct:=N,bk:=D.nx } σ2 H2)
def zY(fp:List Addr) (h:Heap):List (Addr×Obj):=fp.filterMap λb=>(h.get? b).map λo=>(b,o)
theorem vK{fp:List Addr}{h:Heap}{b:Addr}{o:Obj}(hb:b∈fp) (e:h.get? b=some o):(b,o)∈zY fp h:=gK.mpr ⟨b,hb,by rw[e];rfl⟩
theorem Iq{fp:List Addr}{h:Heap}{p:Addr×Obj}(hp:p∈zY fp h):p.1∈fp/\h.get? p.1=some p.2:=by
 obtain⟨b,hb,e⟩:=gK.mp hp;cases q:h.get? b with
 |none=>rw[q]at e;cases e
 |some o =>
  rw[q]at e;have e':(b,o)=p:=bc.inj e;subst e';exact⟨hb,q⟩
theorem Inv.pinned{mU:List (Addr×Obj)}{σ:St}{H:Hp}{s:iD}{fp:List Addr}(I:Inv X mU σ H s) (hf:∀b∈fp,Aq X mU H b) (ho:∀b∈fp,∃o,s.heap.get? b=some o/\∀v,o.data ≠ .cell v):Inv X (mU++zY fp s.heap) σ H s :=
 I.pins_of λp hp=>(mAq.mp hp).elim (λz=>I.pin p (ar _ z)) λz=>by
  obtain⟨hb,e⟩:=Iq z;obtain⟨f0,f1,f2,_⟩:=hf p.1 hb;obtain⟨o,e',d⟩:=ho p.1 hb;rw[e]at e';cases e';exact⟨e,f0,f1,f2,d⟩
theorem Inv.unpinned{mU pl:List (Addr×Obj)}{σ:St}{H:Hp}{s:iD}(I:Inv X (mU++pl) σ H s):Inv X mU σ H s:=I.pins_of λp hp=>I.pin p (ar _ (bE _ hp))
theorem vF{iter:Expr}{body:List Stmt}{wi:TI}{g:TG}{tb:TS}{pos:Pos}(hp:PassesOwn (iG X.prog X.w) X.A X.env X.xe) (hc:X.calm=true) (hi:PI X tg iter wi) (hg:PG X tg g) (hb:HP X body tb)
  (hs:∀x,kq iter X.env x=pure x:=by intro _;rfl):PS X (.For tg iter body [] pos) (M8 wi g tb):=by
 intro mU s σ H D I h;refine wpAny_For (qC (hi mU s σ H _ I h) λv s1 h1=>qC h1 λitv s2 h2=>?_) hs
 obtain⟨it,fp,tn,J,H2,e,I2,T,DK,f2,W,⟨m0,w0⟩,turn⟩:=h2;subst e;have stat:∀{H':Hp},(∀b∈fp,H' b=none)->∀b∈fp,Aq X mU H' b:=λhn b hb=>⟨hn b hb,(f2 b hb).2⟩
 refine codeAny_forLoop_any (λn s'=>∃i σ' H',Inv X mU σ' H' s'/\tn i s'.heap/\(∀b∈fp,H' b=none)/\W i n σ' H') ?_ m0 ⟨0,σ,H2,I2,DK,λb hb=>(f2 b hb).1,w0⟩
 rintro n s3 ⟨i,σ3,H3,I3,S4,fr3,w3⟩;rcases turn i n σ3 H3 w3 with ⟨stop,qn⟩|⟨go,N,hN,step⟩
 .refine jl hp (qC (T.done X rfl rfl rfl hc i mU s3 σ3 H3 X.xe I3 (stat fr3) S4 stop) λr s4 ⟨hr,I4⟩=>?_)
  subst hr;exact jW ⟨σ3,H3,I4,qn⟩
 .refine jl hp (qC (T.item X rfl rfl rfl hc i mU s3 σ3 H3 X.xe I3 (stat fr3) S4 go) λr s4 ⟨u,hr,h4⟩=>?_)
  subst hr;refine jl hp (qC h4 λ_ s5 ⟨x,H5,I5,r5,y5,st5,fr5⟩=>?_)
  have I5':=I5.pinned (stat fr5) (T.obj _ _ st5);refine jl hp (qC (hg _ s5 σ3 H5 x u _ I5' r5 (step x H5 y5)) λ_ s6 ⟨σ6,H6,I6,q6⟩=>?_)
  refine jl hp (qC (hb _ s6 σ6 H6 _ I6 q6) λf s7 q7=>?_)
  have again:∀{σ7:St}{H7:Hp},Inv X (mU++zY fp s5.heap) σ7 H7 s7->N σ7 H7->∃m,m<n/\∃i σ' H',Inv X mU σ' H' s7/\tn i s7.heap/\(∀b∈fp,H' b=none)/\W i m σ' H':=λ{σ7 H7} I7 n7=>by
   obtain⟨m',hm,w7⟩:=hN σ7 H7 n7;refine⟨m',hm,i+1,σ7,H7,I7.unpinned,T.keep _ _ _ st5 λb hb o e=>(I7.pin (b,o) (ar _ (ar _ (vK hb e)))).1,λb hb=>?_,w7⟩
   obtain⟨o,e,d⟩:=T.obj _ _ st5 b hb;exact(I7.pin (b,o) (ar _ (ar _ (vK hb e)))).2.1
  cases f with
  |next=>obtain⟨σ7,H7,I7,n7⟩:=q7;exact again I7 n7
  |cont=>obtain⟨σ7,H7,I7,n7⟩:=q7;exact again I7 n7
  |brk=>obtain⟨σ7,H7,I7,q7⟩:=q7;exact⟨σ7,H7,I7.unpinned,q7⟩
  |ret v=>obtain⟨x7,σ7,H7,I7,r7,q7⟩:=q7;exact⟨x7,σ7,H7,I7.unpinned,r7,q7⟩
end
theorem KR{K:W.Frag}{a:Addr}{xs:List V}{g:TG}{tb:TS}{D:vk}{σ:St}{H:Hp}(Pv:Nat->St->Hp->Prop) (h0:Pv 0 σ H) (hl:∀i σ H,i<=xs.length->Pv i σ H->qJ K H a xs)
  (hs:∀i x σ H,xs[i]?=some x->Pv i σ H->g x σ H λσ2 H2=>tb { D with nx:=Pv (i+1),ct:=Pv (i+1),bk:=D.nx } σ2 H2) (hd:∀σ H,Pv xs.length σ H->D.nx σ H) :
  ∃W:Nat->Nat->St->Hp->Prop,(∃m,W 0 m σ H)/\∀i m σ H,W i m σ H ->
   ((Ss K a).stop i H/\D.nx σ H)∨((Ss K a).go i H/\∃N:St->Hp->Prop,(∀σ' H',N σ' H'->∃m',m'<m/\W (i+1) m' σ' H')/\∀x H',(Ss K a).yld i H x H'->g x σ H' λσ2 H2=>tb { D with nx:=N,ct:=N,bk:=D.nx } σ2 H2):=by
 refine⟨λi m σ H=>m=xs.length-i/\i<=xs.length/\Pv i σ H,⟨xs.length,by simp,aW _,h0⟩,?_⟩
 rintro i m σ H ⟨rfl,hi,p⟩;have q:=hl i σ H hi p
 by_cases hlt:i<xs.length
 .refine .inr ⟨⟨xs,xs[i],q,by simp[hlt]⟩,Pv (i+1),λσ' H' p'=>⟨xs.length-(i+1),by lia,rfl,hlt,p'⟩,λx H' y=>?_⟩
  obtain⟨e,y⟩:=y;subst e;exact hs i x σ _ (y xs q) p
 .have e:i=xs.length:=by lia
  subst e;exact .inl ⟨⟨xs,q,af _⟩,hd σ H p⟩
theorem Je{lo:Int}{n:Nat}{g:TG}{tb:TS}{D:vk}{σ:St}{H:Hp}(Pv:Nat->St->Hp->Prop) (h0:Pv 0 σ H)
  (hs:∀i σ H,i<n->Pv i σ H->g (.int (lo+i)) σ H λσ2 H2=>tb { D with nx:=Pv (i+1),ct:=Pv (i+1),bk:=D.nx } σ2 H2) (hd:∀σ H,Pv n σ H->D.nx σ H) :
  ∃W:Nat->Nat->St->Hp->Prop,(∃m,W 0 m σ H)/\∀i m σ H,W i m σ H ->
   ((Ny lo n).stop i H/\D.nx σ H)∨((Ny lo n).go i H/\∃N:St->Hp->Prop,(∀σ' H',N σ' H'->∃m',m'<m/\W (i+1) m' σ' H')/\∀x H',(Ny lo n).yld i H x H'->g x σ H' λσ2 H2=>tb { D with nx:=N,ct:=N,bk:=D.nx } σ2 H2):=by
 refine⟨λi m σ H=>m=n-i/\i<=n/\Pv i σ H,⟨n,by simp,aW _,h0⟩,?_⟩
 rintro i m σ H ⟨rfl,hi,p⟩
 by_cases hlt:i<n
 .refine .inr ⟨hlt,Pv (i+1),λσ' H' p'=>⟨n-(i+1),by lia,rfl,hlt,p'⟩,λx H' y=>?_⟩
  obtain⟨e,y⟩:=y;subst e y;exact hs i σ _ hlt p
 .have e:i=n:=by lia
  subst e;exact .inl ⟨af _,hd σ H p⟩
abbrev R2:=V->V->Hp->VK->Prop
def DJ(X:Cx) (f:Value->Value->Sem Value) (r:R2):Prop :=
 ∀(mU:List (Addr×Obj)) (s:iD) (σ:St) (H:Hp) (x y:V) (v u:Value) (Q:VK),Inv X mU σ H s->oX x v->oX y u->r x y H Q ->
  iI (iG X.prog X.w) X.A (f v u) (EP X mU σ Q) X.xe s
def To(X:Cx) (f:Value->Sem Value) (r:V->Hp->VK->Prop):Prop :=
 ∀(mU:List (Addr×Obj)) (s:iD) (σ:St) (H:Hp) (x:V) (v:Value) (Q:VK),Inv X mU σ H s->oX x v->r x H Q ->
  iI (iG X.prog X.w) X.A (f v) (EP X mU σ Q) X.xe s
def vS(X:Cx) (f:Value) (r:List V->Hp->VK->Prop):Prop :=
 ∀(mU:List (Addr×Obj)) (s:iD) (σ:St) (H:Hp) (xs:List V) (us:List Value) (Q:VK),Inv X mU σ H s->ou xs us->r xs H Q ->
  iI (iG X.prog X.w) X.A (call f us) (EP X mU σ Q) X.xe s
def MC(r:R2) (ta tb:TE):TE:=λσ H Q=>ta σ H λx H1=>tb σ H1 λy H2=>r x y H2 Q
def Uw(r:V->Hp->VK->Prop) (ta:TE):TE:=λσ H Q=>ta σ H λx H1=>r x H1 Q
def rI(C:Int->Int->Prop) (g:Int->Int->V):R2:=λx y H Q=>∃i j,x = .int i/\y = .int j/\C i j/\Q (g i j) H
def JU(g:Int->Int->V):R2:=λx y H Q=>∃i j,x = .int i/\y = .int j/\Q (g i j) H
def rU(g:Int->V):V->Hp->VK->Prop:=λx H Q=>∃i,x = .int i/\Q (g i) H
section
variable {X:Cx}{a b c:Expr}{ta tb tc:TE}{pos:Pos}
theorem QU(ha:PE X a ta) (hb:PE X b tb) {mU:List (Addr×Obj)}{s:iD}{σ:St}{H:Hp}{R:V->V->Hp->Prop}(I:Inv X mU σ H s)
  (h:ta σ H λx H1=>tb σ H1 λy H2=>R x y H2) {Q:Value->iD->Prop}{f:Value->Value->Sem Value}
  (hf:∀v u s2 x y H2,Inv X mU σ H2 s2->oX x v->oX y u->R x y H2->iI (iG X.prog X.w) X.A (f v u) Q X.xe s2) :
  iI (iG X.prog X.w) X.A (eval a X.env) (λv s₁=>iI (iG X.prog X.w) X.A (eval b X.env) (λu s₂=>iI (iG X.prog X.w) X.A (f v u) Q X.xe s₂) X.xe s₁) X.xe s:=by
 refine qC (ha mU s σ H _ I h) λv s1 ⟨x,H1,I1,r1,q1⟩=>?_
 refine qC (hb mU s1 σ H1 _ I1 q1) λu s2 ⟨y,H2,I2,r2,q2⟩=>?_
 exact hf v u s2 x y H2 I2 r1 r2 q2
theorem om{op:Operator}{r:R2}(ho:DJ X (jT op) r) (ha:PE X a ta) (hb:PE X b tb):PE X (.BinOp a op b pos) (MC r ta tb):=by
 intro mU s σ H Q I h;exact wpAny_BinOp (QU ha hb I h λv u s2 x y H2 I2 rx ry q=>ho mU s2 σ H2 x y v u Q I2 rx ry q)
theorem Cm{op:UnaryOp}{r:V->Hp->VK->Prop}(ho:To X (unaryOp op) r) (ha:PE X a ta):PE X (.UnaryOp op a pos) (Uw r ta):=by
 intro mU s σ H Q I h;exact UnaryOp_ (qC (ha mU s σ H _ I h) λv s1 ⟨x,H1,I1,r1,q1⟩=>ho mU s1 σ H1 x v Q I1 r1 q1)
theorem SY{f:Value->Value->Sem Value}{C:Int->Int->Prop}{g:Int->Int->Int}
  (rule:∀(i j:Int) (t u:Tok) (s:iD) (Q:Value->iD->Prop) (E:Value->iD->Prop),C i j->Q (.int (g i j) s.toks) { s with toks:=s.toks+1 }->iI (iG X.prog X.w) X.A (f (.int i t) (.int j u)) Q E s) :
  DJ X f (rI C λi j=>.int (g i j)):=by
 intro mU s σ H x y v u Q I rx ry h;obtain⟨i,j,rfl,rfl,hc,q⟩:=h;obtain⟨t,rfl⟩:=rx;obtain⟨t',rfl⟩:=ry;exact rule i j t t' s _ _ hc ⟨.int (g i j),H,I.tok _,⟨_,rfl⟩,q⟩
theorem Rl{f:Value->Value->Sem Value}{g:Int->Int->Int}
  (rule:∀(i j:Int) (t u:Tok) (s:iD) (Q:Value->iD->Prop) (E:Value->iD->Prop),Q (.int (g i j) s.toks) { s with toks:=s.toks+1 }->iI (iG X.prog X.w) X.A (f (.int i t) (.int j u)) Q E s) :
  DJ X f (JU λi j=>.int (g i j)):=by
 intro mU s σ H x y v u Q I rx ry h;obtain⟨i,j,rfl,rfl,q⟩:=h;obtain⟨t,rfl⟩:=rx;obtain⟨t',rfl⟩:=ry;exact rule i j t t' s _ _ ⟨.int (g i j),H,I.tok _,⟨_,rfl⟩,q⟩
theorem Sa{f:Value->Value->Sem Value}{g:Int->Int->Bool}
  (rule:∀(i j:Int) (t u:Tok) (s:iD) (Q:Value->iD->Prop) (E:Value->iD->Prop),Q (.bool (g i j)) s->iI (iG X.prog X.w) X.A (f (.int i t) (.int j u)) Q E s) :
  DJ X f (JU λi j=>.bl (g i j)):=by
 intro mU s σ H x y v u Q I rx ry h;obtain⟨i,j,rfl,rfl,q⟩:=h;obtain⟨t,rfl⟩:=rx;obtain⟨t',rfl⟩:=ry;exact rule i j t t' s _ _ ⟨.bl (g i j),H,I,rfl,q⟩
def Q2(i j:Int):Prop:=0<j/\j<1073741824
def QI(i j:Int):Prop:=0<=j/\j<=1000000/\i.natAbs<2 ^ 64
def KH(i j:Int):Prop:=(-(2 ^ 64)<i/\i<2 ^ 64)∨(-(2 ^ 64)<j/\j<2 ^ 64)
theorem KH.ok{i j:Int}(h:KH i j):IntMulOk i j:=by
 rcases h with ⟨h1,h2⟩|⟨h1,h2⟩
 .exact .of_left (intBits_le_64 h1 h2)
 .exact .of_right (intBits_le_64 h1 h2)
theorem wU:DJ X (jT .Add) (JU λi j=>.int (i+j)):=Rl λ_ _ _ _ _ _ _ q=>add_int q
theorem A5:DJ X (jT .Sub) (JU λi j=>.int (i-j)):=Rl λ_ _ _ _ _ _ _ q=>sub_int q
theorem C0:DJ X (jT .Mult) (rI KH λi j=>.int (i*j)):=SY λ_ _ _ _ _ _ _ hc q=>mul_int q hc.ok
theorem uI:DJ X (jT .FloorDiv) (rI Q2 λi j=>.int (i / j)):=SY λi j _ _ _ _ _ hc q=>by
 have h1:(0:Int)<j:=hc.1;have h2:j<1073741824:=hc.2;exact floordiv_int (by lia) (by rw[Int.fdiv_eq_ediv_of_nonneg i (by lia)];exact q) (.inl (PyProof.noPylong_small (by lia)))
theorem rm:DJ X (jT .Mod) (rI (λ_ j=>0<j) λi j=>.int (i % j)):=SY λi j _ _ _ _ _ hc q=>by
 have h1:(0:Int)<j:=hc;exact mod_int' (by lia) (by rw[Int.fmod_eq_emod_of_nonneg i (by lia)];exact q)
theorem KY:DJ X (jT .Pow) (rI QI λi j=>.int (i ^ j.toNat)):=SY λ_ _ _ _ _ _ _ hc q=>pow_int_small hc.1 hc.2.1 hc.2.2 q
theorem U9{f:Value->Sem Value}{g:Int->Int}
  (rule:∀(i:Int) (t:Tok) (s:iD) (Q:Value->iD->Prop) (E:Value->iD->Prop),Q (.int (g i) s.toks) { s with toks:=s.toks+1 }->iI (iG X.prog X.w) X.A (f (.int i t)) Q E s) :
  To X f (rU λi=>.int (g i)):=by
 intro mU s σ H x v Q I rx h;obtain⟨i,rfl,q⟩:=h;obtain⟨t,rfl⟩:=rx;exact rule i t s _ _ ⟨.int (g i),H,I.tok _,⟨_,rfl⟩,q⟩
theorem yJ:To X (unaryOp .USub) (rU λi=>.int (-i)):=U9 λ_ _ _ _ _ q=>neg_int q
end
def scal:V->V->Bool
 | .non,.non=>true|.non,.int _=>true|.int _,.non=>true|.non,.bl _=>true|.bl _,.non=>true|.non,.str _=>true|.str _,.non=>true
 | .int _,.int _=>true|.bl _,.bl _=>true|.str _,.str _=>true|.byt _,.byt _=>true
 | .int _,.str _=>true|.str _,.int _=>true|.bl _,.str _=>true|.str _,.bl _=>true
 |_,_=>false
def UQ:R2:=λx y H Q=>scal x y=true/\Q (.bl (decide (x=y))) H
def UI:R2:=λx y H Q=>scal x y=true/\Q (.bl (!decide (x=y))) H
theorem HS{i j:Int}:decide (V.int i=V.int j)=(i == j):=by
 rw[bV];simp
theorem KW{i j:Bool}:decide (V.bl i=V.bl j)=(i == j):=by
 rw[bV];simp
theorem Hm{i j:Str}:decide (V.str i=V.str j)=(i == j):=by
 rw[bV];simp
theorem HI{i j:Array UInt8}:decide (V.byt i=V.byt j)=(i.toList == j.toList):=by
 rw[bV];cases i;cases j;simp
section
variable {X:Cx}{a b c:Expr}{ta tb tc:TE}{pos:Pos}
theorem oA{mU:List (Addr×Obj)}{σ:St}{H:Hp}{s:iD}{Q:VK}{k k':Bool}(I:Inv X mU σ H s) (q:Q (.bl k) H) (e:k=k'):EP X mU σ Q (.bool k') s:=by
 subst e;exact⟨.bl k,H,I,rfl,q⟩
theorem Ao:DJ X (jk .Eq) UQ:=by
 intro mU s σ H x y v u Q I rx ry h;obtain⟨hs,q⟩:=h;cases x with
 |non =>
  cases rx;cases y with
  |non=>cases ry;exact PySem.EqNone.eq_none_none (oA I q (by simp))
  |bl j=>cases ry;exact PySem.EqNone.eq_none_bool (oA I q (by simp))
  |int j=>obtain⟨t',rfl⟩:=ry;exact PySem.EqNone.eq_none_int (oA I q (by simp))
  |str j=>obtain⟨t',rfl⟩:=ry;exact PySem.EqNone.eq_none_str (oA I q (by simp))
  |_=>exact absurd (show false=true from hs) aO
 |bl i =>
  cases rx;cases y with
  |non=>cases ry;exact PySem.EqNone.eq_bool_none (oA I q (by simp))
  |bl j=>cases ry;exact eq_bool (oA I q KW)
  |str j=>obtain⟨t',rfl⟩:=ry;exact PySem.EqMixed.eq_bool_str (oA I q (by simp))
  |_=>exact absurd (show false=true from hs) aO
 |int i =>
  obtain⟨t,rfl⟩:=rx;cases y with
  |non=>cases ry;exact PySem.EqNone.eq_int_none (oA I q (by simp))
  |int j=>obtain⟨t',rfl⟩:=ry;exact eq_int (oA I q HS)
  |str j=>obtain⟨t',rfl⟩:=ry;exact PySem.EqMixed.eq_int_str (oA I q (by simp))
  |_=>exact absurd (show false=true from hs) aO
 |str i =>
  obtain⟨t,rfl⟩:=rx;cases y with
  |non=>cases ry;exact PySem.EqNone.eq_str_none (oA I q (by simp))
  |bl j=>cases ry;exact PySem.EqMixed.eq_str_bool (oA I q (by simp))
  |int j=>obtain⟨t',rfl⟩:=ry;exact PySem.EqMixed.eq_str_int (oA I q (by simp))
  |str j=>obtain⟨t',rfl⟩:=ry;exact eq_str (oA I q Hm)
  |_=>exact absurd (show false=true from hs) aO
 |byt i =>
  obtain⟨t,rfl⟩:=rx;cases y with
  |byt j=>obtain⟨t',rfl⟩:=ry;exact W.eq_bytes (oA I q HI)
  |_=>exact absurd (show false=true from hs) aO
 |_=>cases y <;> exact absurd (show false=true from hs) aO
theorem OX:DJ X (jk .NotEq) UI:=by
 intro mU s σ H x y v u Q I rx ry h;obtain⟨hs,q⟩:=h;cases x with
 |non =>
  cases rx;cases y with
  |non=>cases ry;exact PySem.EqNone.ne_none_none (oA I q (by simp))
  |bl j=>cases ry;exact PySem.EqNone.ne_none_bool (oA I q (by simp))
  |int j=>obtain⟨t',rfl⟩:=ry;exact PySem.EqNone.ne_none_int (oA I q (by simp))
  |str j=>obtain⟨t',rfl⟩:=ry;exact PySem.EqNone.ne_none_str (oA I q (by simp))
  |_=>exact absurd (show false=true from hs) aO
 |bl i =>
  cases rx;cases y with
  |non=>cases ry;exact PySem.EqNone.ne_bool_none (oA I q (by simp))
  |bl j=>cases ry;exact ne_bool (oA I q (congrArg not KW))
  |str j=>obtain⟨t',rfl⟩:=ry;exact PySem.EqMixed.ne_bool_str (oA I q (by simp))
  |_=>exact absurd (show false=true from hs) aO
 |int i =>
  obtain⟨t,rfl⟩:=rx;cases y with
  |non=>cases ry;exact PySem.EqNone.ne_int_none (oA I q (by simp))
  |int j=>obtain⟨t',rfl⟩:=ry;exact ne_int (oA I q (congrArg not HS))
  |str j=>obtain⟨t',rfl⟩:=ry;exact PySem.EqMixed.ne_int_str (oA I q (by simp))
  |_=>exact absurd (show false=true from hs) aO
 |str i =>
  obtain⟨t,rfl⟩:=rx;cases y with
  |non=>cases ry;exact PySem.EqNone.ne_str_none (oA I q (by simp))
  |bl j=>cases ry;exact PySem.EqMixed.ne_str_bool (oA I q (by simp))
  |int j=>obtain⟨t',rfl⟩:=ry;exact PySem.EqMixed.ne_str_int (oA I q (by simp))
  |str j=>obtain⟨t',rfl⟩:=ry;exact ne_str (oA I q (congrArg not Hm))
  |_=>exact absurd (show false=true from hs) aO
 |byt i =>
  obtain⟨t,rfl⟩:=rx;cases y with
  |byt j=>obtain⟨t',rfl⟩:=ry;exact W.ne_bytes (oA I q (congrArg not HI))
  |_=>exact absurd (show false=true from hs) aO
 |_=>cases y <;> exact absurd (show false=true from hs) aO
theorem OL:DJ X (jk .Lt) (JU λi j=>.bl (decide (i<j))):=Sa λ_ _ _ _ _ _ _ q=>lt_int q
theorem BV:DJ X (jk .Gt) (JU λi j=>.bl (decide (j<i))):=Sa λ_ _ _ _ _ _ _ q=>gt_int q
theorem qd(b:Expr) {op:CmpOp}(h:op ≠ .In:=by decide) (h2:op ≠ .NotIn:=by decide):jQ op b=false:=by
 have e1:(op == CmpOp.In)=false:=by cases op <;> first|rfl|exact absurd rfl h
 have e2:(op == CmpOp.NotIn)=false:=by cases op <;> first|rfl|exact absurd rfl h2
 cases b <;> simp[jQ,e1,e2]
theorem Dr{op:CmpOp}{r:R2}(ho:DJ X (jk op) r) (ha:PE X a ta) (hb:PE X b tb) (hm:jQ op b=false):PE X (.Compare a [op] [b] pos) (MC r ta tb):=by
 intro mU s σ H Q I h;exact wpAny_Compare1 (QU ha hb I h λv u s2 x y H2 I2 rx ry q=>ho mU s2 σ H2 x y v u Q I2 rx ry q) hm
def Oy(t:TE):TT:=λσ H Q=>t σ H λx H'=>∃k,x = .bl k/\Q k H'
theorem pN{op:CmpOp}{r:R2}(ho:DJ X (jk op) r) (ha:PE X a ta) (hb:PE X b tb) (hm:jQ op b=false):PT X (.Compare a [op] [b] pos) (Oy (MC r ta tb)):=by
 intro mU s σ H Q I h;refine kP (qC (ha mU s σ H _ I h) λv s1 ⟨x,H1,I1,r1,q1⟩=>qC (hb mU s1 σ H1 _ I1 q1) λu s2 ⟨y,H2,I2,r2,q2⟩ =>
  qC (ho mU s2 σ H2 x y v u _ I2 r1 r2 q2) λc s3 ⟨z,H3,I3,r3,k,e,q3⟩=>?_) hm
 subst e;cases r3;exact jv ⟨H3,I3,q3⟩
theorem Li:(iN:Nat)<2 ^ 63:=by rw[iY];decide
theorem uP{x:V}{us:List Value}(r:ou [x] us):∃u,us=[u]/\oX x u:=by
 cases r with
 |cons r1 r2=>cases r2;exact⟨_,rfl,r1⟩
theorem Sb{x y:V}{us:List Value}(r:ou [x,y] us):∃u w',us=[u,w']/\oX x u/\oX y w':=by
 cases r with
 |cons r1 r2 =>
  cases r2 with
  |cons r3 r4=>cases r4;exact⟨_,_,rfl,r1,r3⟩
def Rk(K:W.Frag) (x:V) (H:Hp) (n:Nat):Prop :=
 match x with
 | .str y=>y.length<=iN/\n=y.length
 | .byt y=>y.size<=iN/\n=y.size
 | .ref p=>(∃xs,qJ K H p xs/\n=xs.length)∨∃xs,BP K H p xs/\n=xs.length
 |_=>False
theorem oW:vS X (.builtin "len") (λxs H Q=>∃x n,xs=[x]/\Rk X.K x H n/\Q (.int n) H):=by
 intro mU s σ H xs us Q I r h;obtain⟨x,n,rfl,e,q⟩:=h;obtain⟨u,rfl,rx⟩:=uP r;have hl:=Li;have hs:iN=16777216:=iY;cases x with
 |str y =>
  obtain⟨t,rfl⟩:=rx;obtain⟨hy,e'⟩:y.length<=iN/\n=y.length:=e;subst e';exact len_str (by lia) ⟨.int _,H,I.tok _,⟨_,rfl⟩,q⟩
 |byt y =>
  obtain⟨t,rfl⟩:=rx;obtain⟨hy,e'⟩:y.size<=iN/\n=y.size:=e;subst e';exact W.len_bytes (by lia) ⟨.int _,H,I.tok _,⟨_,rfl⟩,q⟩
 |ref p =>
  cases rx;have e':(∃xs,qJ X.K H p xs/\n=xs.length)∨∃xs,BP X.K H p xs/\n=xs.length:=e;rcases e' with ⟨xs,hx,e'⟩|⟨xs,hx,e'⟩
  .subst e';obtain⟨its,r',pl,hz⟩:=I.list hx;have hlen:=r'.length;exact Calls.call_len_list pl.isList (by simp only[az];lia) ⟨.int xs.length,H,I.tok _,⟨_,by simp only[az];rw[hlen]⟩,q⟩
  .subst e';obtain⟨its,r',pl,hz⟩:=I.tuple hx;have hlen:=r'.length;exact len_tuple pl (by simp only[az];lia) ⟨.int xs.length,H,I.tok _,⟨_,by simp only[az];rw[hlen]⟩,q⟩
 |_=>exact(show False from e).elim
end
theorem zB.some_of{v:V}{o:Option Value}(r:zB (some v) o):∃u,o=some u/\oX v u:=by
 cases o with
 |none=>exact(show False from r).elim
 |some u=>exact⟨u,rfl,r⟩
structure sk (k:Nat) (A:Around):Prop where
 hd:A.handled=none
 dp:A.depth+3*k+5<recursionLimit
 un:A.units+16*k+200<iX
theorem sk.mono{j k:Nat}{A:Around}(r:sk k A) (h:j<=k):sk j A:=⟨r.hd,by have:=r.dp;lia,by have:=r.un;lia⟩
theorem sk.deeper{k:Nat}{A:Around}(r:sk (k+1) A) (env:Env):sk k (A.deeper env) :=
 ⟨r.hd,by have:=r.dp;show A.depth+1+3*k+5<_;lia,by have:=r.un;show A.units+3+16*k+200<_;lia⟩
theorem Fz{A:Around}{C:Addr}{us:List Value}{kw:List (Str×Value)}:(A.under (.builtin "type.__call__" ⟨.ref C::us,kw⟩)).depth=A.depth+1:=by
 first|rfl|simp[Around.under,Code.weight,Code.isCreation,Code.isGuard,Code.isCaller,Code.frames,Code.isFrame,guardIds]
theorem FR{A:Around}{C:Addr}{us:List Value}{kw:List (Str×Value)}:(A.under (.builtin "type.__call__" ⟨.ref C::us,kw⟩)).units=A.units+1:=by
 first|rfl|simp[Around.under,Code.cUnits,Code.frames,Code.isFrame]
theorem sk.make{k:Nat}{A:Around}(r:sk (k+1) A) (C:Addr) (us:List Value) (kw:List (Str×Value)):sk k (A.under (.builtin "type.__call__" ⟨.ref C::us,kw⟩)) :=
 ⟨r.hd,by have:=r.dp;rw[Fz];lia,by have:=r.un;rw[FR];lia⟩
theorem sk.depth{k:Nat}{A:Around}(r:sk k A):A.depth<recursionLimit:=by have:=r.dp;lia
theorem sk.units{k:Nat}{A:Around}(r:sk k A):A.units+64<iX:=by have:=r.un;lia
def uu:TA:=λ_ H Q=>Q [] H
def rE(ta:TE) (tr:TA):TA:=λσ H Q=>ta σ H λx H1=>tr σ H1 λxs H2=>Q (x::xs) H2
section
variable {X:Cx}{e:Expr}{es:List Expr}{te:TE}{t:TA}{pos:Pos}
theorem mW:PA X [] uu:=λ_ _ _ _ H Q I h=>Calls.spliced_nil ⟨[],H,I,.nil,h⟩
theorem mV(ha:PE X e te) (hr:PA X es t) (hs:iR (e::es) X.env=(false,eval e X.env)::iR es X.env:=by rfl):PA X (e::es) (rE te t):=by
 intro pos mU s σ H Q I h;rw[hs];show iI _ _ (spliced ((false,eval e X.env)::jx pos (iR es X.env))) _ _ s;refine Calls.spliced_cons (qC (ha mU s σ H _ I h) λu s1 ⟨x,H1,I1,r1,q1⟩=>?_)
 exact qC (hr pos mU s1 σ H1 _ I1 q1) λus s2 ⟨xs,H2,I2,r2,q2⟩=>⟨x::xs,H2,I2,.cons r1 r2,q2⟩
def Si(t:TA):TE:=λσ H Q=>t σ H λxs H1=>xs.length<=iN/\∀p,H1 p=none->Q (.ref p) (oK H1 p (.tup xs))
def Pb(t:TA):TE:=λσ H Q=>t σ H λxs H1=>xs.length<=iN/\∀p,H1 p=none->Q (.ref p) (oK H1 p (.lst xs))
theorem DA{x1} (h:PA X es t):PE X (.Tuple es x1 pos) (Si t):=by
 intro mU s σ H Q I hq;refine wpAny_Tuple_spliced (qC (h pos mU s σ H _ I hq) λus s1 ⟨xs,H1,I1,r,z,q⟩=>⟨by rw[←r.length];exact z,?_⟩)
 have hf:H1 s1.heap.objs.size=none:=I1.hok.fresh (af _);refine⟨.ref s1.heap.objs.size,oK H1 s1.heap.objs.size (.tup xs),I1.laid (t':=s1.toks) (λb u e=>ae _ e) (af _) ?_,rfl,q _ hf⟩
 exact⟨z,us,r,⟨_,aU _ rfl,rfl,_,rfl⟩⟩
theorem qG(h:PA X es t):PE X (.List es pos) (Pb t):=by
 intro mU s σ H Q I hq;refine wpAny_List_spliced (qC (h pos mU s σ H _ I hq) λus s1 ⟨xs,H1,I1,r,z,q⟩=>⟨by rw[←r.length];exact z,?_⟩)
 have hf:H1 s1.heap.objs.size=none:=I1.hok.fresh (af _);refine⟨.ref s1.heap.objs.size,oK H1 s1.heap.objs.size (.lst xs),I1.laid (t':=s1.toks) (λb u e=>ae _ e) (af _) ?_,rfl,q _ hf⟩
 exact⟨z,us,0,r,aU _ rfl⟩
end
abbrev Sp:=List V->Hp->VK->XK->Prop
abbrev Jx:=List Env->Hp->iD->XK->Value->iD->Prop
structure FI (P:iK) (w:iP) (K:W.Frag) (mg:Str->Option Value) (base:Heap) (A:Around) (outer:List Env) (s:iD) (H:Hp):Prop where
 frames:A.frames=some outer
 mod:Mod K mg base
 bs:∀b o,base.get? b=some o->s.heap.get? b=some o/\H b=none
 bsz:base.objs.size<=s.heap.objs.size
 funs:s.heap.FunFrames base outer
 frf:∀b∈GP outer,H b=none
 hok:wH P w H s.heap
 bare:jM s.gens
def CE(outer:List Env) (P:iK) (w:iP) (H:Hp) (s:iD) (Q:VK) (u:Value) (s':iD):Prop :=
 ∃v H',s'.os=s.os/\jM s'.gens/\Un (GP outer) [] H H' s.heap s'.heap/\wH P w H' s'.heap/\oX v u/\Q v H'
def CR(CX:Jx) (outer:List Env) (P:iK) (w:iP) (H:Hp) (s:iD) (Q:VK) (E:XK) (r:Result) (s':iD):Prop :=
 match r with
 | .ok (.ret u)=>CE outer P w H s Q u s'
 | .ok _=>False
 | .error e=>CX outer H s E e s'
structure xC (P:iK) (w:iP) (K:W.Frag) (mg:Str->Option Value) (base:Heap) (CX:Jx) (k:Nat) (f:Addr) (fd:iT) (ps:List Str) (sp:Sp):Prop where
 len:∀vs H Q E,sp vs H Q E->vs.length=ps.length
 run:∀(A:Around) (outer:List Env) (s:iD) (H:Hp) (args:Args) (us:List Value) (vs:List V) (Q:VK) (E:XK),sk k A->FI P w K mg base A outer s H->kY s fd args (ps.zip us)->ou vs us->sp vs H Q E ->
  jU (iG P w) A (.call (.ref f) args) (CR CX outer P w H s Q E) s
theorem xC.imp{P:iK}{w:iP}{K:W.Frag}{mg:Str->Option Value}{base:Heap}{CX:Jx}{k:Nat}{f:Addr}{fd:iT}{ps:List Str}{sp sp':Sp}(F:xC P w K mg base CX k f fd ps sp)
  (h:∀vs H Q E,sp' vs H Q E->sp vs H Q E):xC P w K mg base CX k f fd ps sp' :=
 ⟨λvs H Q E q=>F.len vs H Q E (h _ _ _ _ q),λA outer s H args us vs Q E hr he hb hv hs=>F.run A outer s H args us vs Q E hr he hb hv (h _ _ _ _ hs)⟩
theorem FI.make{P:iK}{w:iP}{K:W.Frag}{mg:Str->Option Value}{base:Heap}{A:Around}{outer:List Env}{s:iD}{H:Hp}(e:FI P w K mg base A outer s H) (C:Addr) (us:List Value) (kw:List (Str×Value)) :
  FI P w K mg base (A.under (.builtin "type.__call__" ⟨.ref C::us,kw⟩)) outer s H:=⟨by first|exact e.frames|(simpa [Around.under,Code.envs,Code.isFrame,pushEnvs] using e.frames),e.mod,e.bs,e.bsz,e.funs,e.frf,e.hok,e.bare⟩
section
variable {X:Cx}{mU:List (Addr×Obj)}{σ:St}{H:Hp}{s s':iD}
theorem Inv.env0(I:Inv X mU σ H s):FI X.prog X.w X.K X.mg X.base X.A X.stack s H :=
 ⟨I.ok.frames,I.ok.mod,I.bs,br I.ok.bsz I.sz,I.stack,I.stkFree,I.hok,I.bare⟩
theorem Inv.after{Q:VK}{u:Value}(I:Inv X mU σ H s) (h:CE X.stack X.prog X.w H s Q u s'):EP X mU σ Q u s':=by
 obtain⟨v,H',os,bare,un,hok,r,q⟩:=h;obtain⟨hh,g,d,t,os'⟩:=s';obtain rfl:os'=s.os:=os;exact⟨v,H',I.call (h':=hh) (g':=g) (d':=d) (t':=t) (ch:=[]) un hok bare (λb z=>absurd z (by simp)),r,q⟩
end
def xV(sp:Sp) (dvs:List V) (E:XK) (t:TA):TE:=λσ H Q=>t σ H λvs H1=>sp (vs++dvs) H1 Q E
def vU(K:W.Frag) (fd:iT) (ps:List Str) (ds:List Value):Prop :=
 ∀(s:iD) (us:List Value),K.In s.heap->(us++ds).length=ps.length->kY s fd ⟨us,[]⟩ (ps.zip (us++ds))
theorem vU.all{K:W.Frag}{fd:iT}{ps:List Str}(h:∀us:List Value,us.length=ps.length->bindArgs fd ⟨us,[]⟩=pure (ps.zip us)):vU K fd ps []:=λs us _ hl=>by
 rw[aNq]at hl ⊢;exact .of_eq (h us hl)
def yR(CX:Jx) (X:Cx) (E:XK):Prop:=∀(mU:List (Addr×Obj)) (σ:St) (H:Hp) (s:iD) (e:Value) (s':iD),Inv X mU σ H s->CX X.stack H s E e s'->X.xe e s'
section
variable {X:Cx}{CX:Jx}{k:Nat}{f C:Addr}{fd:iT}{ps:List Str}{sp:Sp}{dvs:List V}{ds:List Value}{E:XK}{x m:Str}{p pos apos:Pos}{e o:Expr}{es:List Expr}{ta:TE}{t:TA}
theorem O0{mU:List (Addr×Obj)}{σ:St}{H:Hp}{s:iD}{Q:VK}{us:List Value}{vs:List V}(F:xC X.prog X.w X.K X.mg X.base CX k f fd ps sp) (hr:sk k X.A) (hb:vU X.K fd ps ds) (hd:ou dvs ds) (hx:yR CX X E)
  (I:Inv X mU σ H s) (r:ou vs us) (h:sp (vs++dvs) H Q E):iI (iG X.prog X.w) X.A (call (.ref f) us) (EP X mU σ Q) X.xe s:=by
 have r2:ou (vs++dvs) (us++ds):=r.append hd;have hl:(us++ds).length=ps.length:=by rw[←r2.length];exact F.len _ _ _ _ h
 refine jZ (kE (F.run X.A X.stack s H ⟨us,[]⟩ (us++ds) (vs++dvs) Q E hr I.env0 (hb s us I.kIn hl) r2 h) λr s' hq=>?_)
 cases r with
 |error e=>exact hx mU σ H s e s' I hq
 |ok fl =>
  cases fl with
  |ret u=>exact I.after hq
  |next=>exact False.elim hq
  |brk=>exact False.elim hq
  |cont=>exact False.elim hq
theorem Dz(F:xC X.prog X.w X.K X.mg X.base CX k f fd ps sp) (hr:sk k X.A) (hg:Gl X x) (hm:X.mg x=some (.ref f)) (hk:W.keepIn X.K (.ref f)=true) (hb:vU X.K fd ps ds) (hd:ou dvs ds) (hx:yR CX X E)
  (ha:PA X (e::es) t) (hdb:(x == ("__debug__" : Str))=false:=by decide) (he:iR (e::es) X.env=(false,eval e X.env)::iR es X.env:=by rfl) (hpl:(jx pos (iR es X.env)).any (·.1)=false:=by rfl) :
  PE X (.Call (.Name x p) (e::es) [] pos) (xV sp dvs E t):=by
 intro mU s σ H Q I h;refine jt (zM I hg hm ?_ hdb);refine W.callWith_K (h₀:=X.base) I.ok.mod.kin hk (qC (ha pos mU s σ H _ I h) λus s1 ⟨vs,H1,I1,r,q⟩=>⟨I1.kIn,?_⟩) he hpl
 exact O0 F hr hb hd hx I1 r q
end
structure oE (N P:List Str) (sc:jJ):Prop where
 kind:sc.kind = .function
 co:sc.isCoroutine=false
 gen:sc.isGenerator=false
 nd:N.Nodup
 pre:N.take P.length=P
 par:∀x∈P,sc.names.lookup x=some .local∨sc.names.lookup x=some .cell
 nofree:∀y∈sc.names,y.2 ≠ .free
theorem Cd{kindOf:Str->Option NameKind}{x:Str}:∀{binds:List (Str×Value)}{m:Str->Option Value},(∀v,(x,v)∉binds)->bindL kindOf binds m x=m x
 | [],_,_=>rfl
 | (n,v)::r,m,h=>by
  unfold bindL;rw[Cd λw hw=>h w (mCo _ hw)]
  split
  .have:x≠n:=by rintro rfl;exact h v ay
   simp[this]
  .rfl
theorem Cj{kindOf:Str->Option NameKind}{x:Str}:∀{binds:List (Str×Value)}{m:Str->Option Value},(∀v,(x,v)∉binds)->bindC kindOf binds m x=m x
 | [],_,_=>rfl
 | (n,v)::r,m,h=>by
  unfold bindC;rw[Cj λw hw=>h w (mCo _ hw)]
  split
  .rfl
  .have:x≠n:=by rintro rfl;exact h v ay
   simp[this]
theorem Cr{kindOf:Str->Option NameKind}{x:Str}{v:Value}:∀{P:List Str}{vs:List Value}{i:Nat}{m:Str->Option Value},P.Nodup->P[i]?=some x->vs[i]?=some v->kindOf x=some .local ->
  bindL kindOf (P.zip vs) m x=some v
 | [],_,_,_,_,h,_,_=>by simp at h
 |_::_,[],_,_,_,_,h,_=>by simp at h
 |p::P,w::vs,0,m,nd,h1,h2,hk=>by
  simp at h1 h2;subst h1;subst h2;show bindL kindOf ((p,w)::P.zip vs) m p=_;unfold bindL;rw[Cd λv hv=>(aH.mp nd).1 (fW hv).1,nK hk]
  simp
 |p::P,w::vs,i+1,m,nd,h1,h2,hk=>by
  show bindL kindOf ((p,w)::P.zip vs) m x=_;unfold bindL;exact Cr (i:=i) (aH.mp nd).2 (by simpa using h1) (by simpa using h2) hk
theorem BX{kindOf:Str->Option NameKind}{x:Str}{v:Value}:∀{P:List Str}{vs:List Value}{i:Nat}{m:Str->Option Value},P.Nodup->P[i]?=some x->vs[i]?=some v->kindOf x≠some .local ->
  bindC kindOf (P.zip vs) m x=some v
 | [],_,_,_,_,h,_,_=>by simp at h
 |_::_,[],_,_,_,_,h,_=>by simp at h
 |p::P,w::vs,0,m,nd,h1,h2,hk=>by
  simp at h1 h2;subst h1;subst h2;show bindC kindOf ((p,w)::P.zip vs) m p=_;unfold bindC;rw[Cj λv hv=>(aH.mp nd).1 (fW hv).1,nS hk]
  simp
 |p::P,w::vs,i+1,m,nd,h1,h2,hk=>by
  show bindC kindOf ((p,w)::P.zip vs) m x=_;unfold bindC;exact BX (i:=i) (aH.mp nd).2 (by simpa using h1) (by simpa using h2) hk
def ud(N:List Str) (vs:List V):St:=vs.map some++aE (N.length-vs.length) none
def Ds(CX:Jx) (P:iK) (w:iP) (K:W.Frag) (mg:Str->Option Value) (base:Heap) (N:List Str) (qual:Str) (scope:jJ) (f:Addr) (cd:Value) (A:Around) (outer:List Env) (s:iD) (H:Hp) (E:XK):Cx where
 prog:=P
 w:=w
 K:=K
 mg:=mg
 base:=base
 A:=A.deeper (jo qual scope s.heap.objs.size f cd)
 N:=N
 s₀:=s
 H₀:=H
 env:=jo qual scope s.heap.objs.size f cd
 outer:=outer
 stack:=jo qual scope s.heap.objs.size f cd::outer
 ex:=[]
 calm:=true
 fn:=λ_=>true
 pn:=[]
 xe:=λe s'=>iI (iG P w) (A.deeper (jo qual scope s.heap.objs.size f cd)) (leaving (jo qual scope s.heap.objs.size f cd) e) (λ_ s''=>CX outer H s E e s'') (λe' s''=>CX outer H s E e' s'') s'
theorem DY{sc:jJ}{n:Nat}{x:Str}(h:sc.names.lookup x=some .cell):∃c,(cellsFrom n sc.names []).lookup x=some c:=by
 have q:=W.cellsFrom_some sc.names n [] (.inl h);exact Option.isSome_iff_exists.mp q
theorem Ie{CX:Jx}{P:iK}{w:iP}{K:W.Frag}{mg:Str->Option Value}{base:Heap}{N ps:List Str}{qual:Str}{scope:jJ}{f:Addr}{cd:Value}{A:Around}{outer:List Env}{s s1:iD}{H:Hp}{E:XK}{us:List Value}{vs:List V}
  (S:oE N ps scope) (hd:A.handled=none) (e0:FI P w K mg base A outer s H) (hl:vs.length=ps.length) (r:ou vs us)
  (x:InCallC s s.heap.objs.size (bindL (jo qual scope s.heap.objs.size f cd).kindOf (ps.zip us) λ_=>none) (cellsFrom (s.heap.objs.size+1) scope.names []) (bindC (jo qual scope s.heap.objs.size f cd).kindOf (ps.zip us) λ_=>none) s1) :
  Inv (Ds CX P w K mg base N qual scope f cd A outer s H E) [] (ud N vs) H s1:=by
 have hpl:ps.length<=N.length:=by have:=congrArg bF S.pre;rw[lTq]at this;lia
 obtain⟨h1,tk,rfl,hk⟩:=x.done;have noA:∀b:Addr,b∉(Ds CX P w K mg base N qual scope f cd A outer s H E).ex:=λb z=>absurd (show b∈([]:List Addr) from z) (by simp)
 refine⟨⟨e0.mod,S.kind,rfl,rfl,af _,λy z c h1 h2=>?_,λy hy=>?_,λy c _ h=>?_,λ_=>hd,Around.frames_deeper e0.frames,.inr ⟨rfl,rfl⟩,λb z=>absurd z (noA b),e0.bs,e0.bsz,λb _ _=>noA b,λb z=>absurd z (noA b),e0.funs,e0.frf⟩,
  rfl,e0.bare,Un.kept hk,⟨_,x.toInCall.ns,λi y v h1 h2 h3=>?_⟩,λy c h=>⟨_,x.cell y c h⟩,e0.hok.fresh (af _),λy c h=>?_,λp hp=>absurd (show p∈([]:List (Addr×Obj)) from hp) (by simp),e0.hok.kept hk,?_⟩
 .exact name_of_addr x.apart (PySem.mem_of_lookup h1) (PySem.mem_of_lookup h2)
 .have hy:scope.names.lookup y=some .cell∨scope.names.lookup y=some .free:=hy;rcases hy with hy|hy
  .exact DY hy
  .exact absurd rfl (S.nofree _ (PySem.mem_of_lookup hy))
 .exact bX (x.above y c (PySem.mem_of_lookup h))
 .have hi:i<vs.length:=by
   unfold ud at h2
   by_cases hi:i<vs.length
   .exact hi
   .rw [gYq (by simpa using hi)]at h2
    rw[bY]at h2;split at h2 <;> cases h2
  have ha:vs[i]?=some v:=by
   unfold ud at h2;rw[gZq (by simpa using hi),gMq]at h2
   cases e:vs[i]? with
   |none=>rw[e]at h2;cases h2
   |some a=>rw[e]at h2;cases h2;rfl
  obtain⟨u,hu,rv⟩:=r.get ha;have hp:ps[i]?=some y:=by
   rw[←S.pre,fB (by lia)];exact h1
  have ndP:ps.Nodup:=by rw[←S.pre];exact S.nd.sublist (bh _ _)
  refine⟨u,rv,?_⟩;rcases S.par y (mGq hp) with k|k
  .exact .inl ⟨k,Cr ndP hp hu k⟩
  .obtain ⟨c,e⟩:=DY (n:=s.heap.objs.size+1) k;refine .inr ⟨.inl k,c,e,?_⟩;have q:=x.cell y c e;rw[BX ndP hp hu (by show scope.names.lookup y≠_;rw[k];decide)]at q
   exact q
 .exact e0.hok.fresh (bX (x.above y c (PySem.mem_of_lookup h)))
 .unfold ud;show _=N.length;rw[lAq,lMq,dc];lia
theorem OI{CX:Jx}{P:iK}{w:iP}{K:W.Frag}{mg:Str->Option Value}{base:Heap}{k:Nat}{f:Addr}{name qual:Str}{params:Arguments}{body:List Stmt}{scope:jJ}{dV kV doc pm sI ct oc:Value}{an od:Option Addr}
  {osl:Array (Option Value)}{N ps:List Str}{sp:Sp}(lk:K.lookup f=some ⟨oc,od,.func (W.fnOf name qual params body scope dV kV doc pm an sI ct),osl⟩) (hcd:W.codeIn K sI qual=true) (S:oE N ps scope)
  (len:∀vs H Q E,sp vs H Q E->vs.length=ps.length)
  (hbody:∀(A:Around) (outer:List Env) (s:iD) (H:Hp) (vs:List V) (Q:VK) (E:XK),sk k (A.deeper (jo qual scope s.heap.objs.size f sI))->sp vs H Q E ->
   ∃t,HP (Ds CX P w K mg base N qual scope f sI A outer s H E) body t/\t { nx:=λ_ H'=>Q .non H',rt:=Q } (ud N vs) H) :
  xC P w K mg base CX (k+1) f (W.fnOf name qual params body scope dV kV doc pm an sI ct) ps sp:=by
 refine⟨len,λA outer s H args us vs Q E hr e0 hb r hsp=>?_⟩
 have hl:=len _ _ _ _ hsp;have KX:K.In s.heap:=e0.mod.kin.keeps λb o e=>(e0.bs b o e).1
 have lim:s.heap.NoLimit:=e0.mod.nolimit.keeps λb o e=>(e0.bs b o e).1
 have hkind:∀y∈ps.zip us,scope.names.lookup y.1=some .local∨(scope.names.lookup y.1=some .cell/\((cellsFrom (s.heap.objs.size+1) scope.names []).lookup y.1).isSome=true):=λ⟨n,v⟩ hy=>by
  rcases S.par n (fW hy).1 with q|q
  .exact .inl q
  .exact .inr ⟨q,W.cellsFrom_some _ _ _ (.inl q)⟩
 refine codeAny_call_function hr.depth (KX _ _ lk) rfl S.co S.gen rfl (W.codeRec_of KX hcd) (hb _ _ _ _ ?_);refine wpAny_newFunctionEnv_cells S.kind hkind λenv he s1 x=>?_
 subst he;refine⟨lim.keeps x.toInCall.keep,codeAny_func ?_⟩;obtain⟨t,ht,hq⟩:=hbody A outer s H vs Q E (hr.deeper _) hsp;have I:Inv (Ds CX P w K mg base N qual scope f sI A outer s H E) [] (ud N vs) H s1:=Ie S hr.hd e0 hl r x;refine iU (ht [] s1 (ud N vs) H _ I hq) (λfl s' hs=>?_) λe s' hs=>hs
 have fin:∀{σ':St}{H':Hp}{v:V}{u:Value},Inv (Ds CX P w K mg base N qual scope f sI A outer s H E) [] σ' H' s'->oX v u->Q v H'->CE outer P w H s Q u s' :=
  λ{σ' H' v u} J rv q=>⟨v,H',J.os,J.bare,J.base,J.hok,rv,q⟩
 cases fl with
 |ret u =>
  obtain⟨v,σ',H',J,rv,q⟩:=hs;exact fin J rv q
 |next =>
  obtain⟨σ',H',J,q⟩:=hs;exact fin (v:=V.non) (u:=cZ) J rfl q
 |brk =>
  obtain⟨_,_,_,q⟩:=hs;exact False.elim q
 |cont =>
  obtain⟨_,_,_,q⟩:=hs;exact False.elim q
section
variable {X:Cx}{x:Str}{p pos:Pos}{e:Expr}{es:List Expr}{t:TA}{id T:String}{r:List V->Hp->VK->Prop}
def Mj(r:List V->Hp->VK->Prop) (t:TA):TE:=λσ H Q=>t σ H λvs H1=>r vs H1 Q
theorem nT(hc:vS X (.builtin id) r) (hg:Gl X x) (hm:X.mg x=none) (hv:jK x=some (.builtin id)) (ha:PA X (e::es) t) (hn:x ≠ "__name__" := by decide) (hdb:(x == ("__debug__" : Str))=false:=by decide)
  (he:iR (e::es) X.env=(false,eval e X.env)::iR es X.env:=by rfl) (hpl:(jx pos (iR es X.env)).any (·.1)=false:=by rfl):PE X (.Call (.Name x p) (e::es) [] pos) (Mj r t):=by
 intro mU s σ H Q I h;refine jt (Ad I hg hm hv ?_ hn hdb);exact eN (qC (ha pos mU s σ H _ I h) λus s1 ⟨vs,H1,I1,r1,q1⟩=>hc mU s1 σ H1 vs us Q I1 r1 q1) he hpl
theorem tV(hc:vS X (.type T) r) (hg:Gl X x) (hm:X.mg x=none) (hv:jK x=some (.type T)) (ha:PA X (e::es) t) (hn:x ≠ "__name__" := by decide) (hdb:(x == ("__debug__" : Str))=false:=by decide)
  (he:iR (e::es) X.env=(false,eval e X.env)::iR es X.env:=by rfl) (hpl:(jx pos (iR es X.env)).any (·.1)=false:=by rfl):PE X (.Call (.Name x p) (e::es) [] pos) (Mj r t):=by
 intro mU s σ H Q I h;refine jt (Ad I hg hm hv ?_ hn hdb);exact dq (qC (ha pos mU s σ H _ I h) λus s1 ⟨vs,H1,I1,r1,q1⟩=>hc mU s1 σ H1 vs us Q I1 r1 q1) he hpl
end
end L2
namespace HT
open PySem PyProof.Rows
def pB:List Int->List Int->Bool
 | [],[]=>false
 | [],_::_=>true
 |_::_,[]=>false
 |x::xs,y::ys=>if x=y then pB xs ys else decide (x<y)
theorem ui(x y:Int) (xs ys:List Int):pB (x::xs) (y::ys)=if x=y then pB xs ys else decide (x<y):=rfl
theorem xv:pB [] []=false:=rfl
theorem wO(y:Int) (ys:List Int):pB [] (y::ys)=true:=rfl
theorem wN(x:Int) (xs:List Int):pB (x::xs) []=false:=rfl
theorem Fi(A:Around) (s:iD) (a:Int) (t:Tok) (c:Int) (u:Tok):∃e,SeqAt.EqAt A s (.int a t) (.int c u) e/\(e=true↔a=c) :=
 ⟨(a == c),SeqAt.EqAt.int_int a t c u,by simp⟩
theorem EU(A:Around) (s:iD) (a:Int) (t:Tok) (c:Int) (u:Tok) (prog:iK) (w:iP) (E:Value->iD->Prop) (Q:Value->iD->Prop) (h:Q (.bool (decide (a<c))) s) :
  iI (iG prog w) A (ki .Lt (.int a t) (.int c u)) Q E s :=
 (iC h:iI (iG prog w) A (jk .Lt (.int a t) (.int c u)) Q E s)
section
open PySem.SeqAt
open PySem.AutoSeq1 (wpAny_loadPart')
open PySem.MeetsSeq PySem.MeetsSeq2 PySem.MeetsSeq3
theorem BO(l b:Addr) (items items2:Array Value) (n n2:Nat) (dd dd2:Option Addr) (sl sl2:Array (Option Value)) (ns ms:List Int) (hi:iW items.toList ns) (hj:iW items2.toList ms) :
  Meets (Builtin.«tuple.__lt__» ⟨[.ref l,.ref b],[]⟩)
   (λ_ R s=>s.heap.get? l=some { cls:=.type "tuple", dict:=dd,data:=.seq items n,slots:=sl }/\s.heap.get? b=some { cls:=.type "tuple", dict:=dd2,data:=.seq items2 n2,slots:=sl2 } /\
    R (.ok (.ret (.bool (pB ns ms)))) s) :=
 .of_wp λprog w A R s h=>by
  obtain⟨hp,g,d,tk,os⟩:=s;obtain⟨hl,hb,h⟩:=h;have f2:=AutoSeq1.sub_tuple_tuple;have z1:items.size=ns.length:=by rw[←hi.length];simp
  have z2:items2.size=ms.length:=by rw[←hj.length];simp
  wp_walk using wpAny_loadPart' hl,wpAny_loadPart' hb,wpAny_forIn_list _ (λrest b s'=>b.1=none/\s'=⟨hp,g,d,tk,os⟩/\∃(vs ws:List Value) (ns' ms':List Int),rest=vs.zip ws /\
   iW vs ns'/\iW ws ms'/\ns'.length+items2.size=ms'.length+items.size/\R (.ok (.ret (.bool (pB ns' ms')))) ⟨hp,g,d,tk,os⟩) _
  case turn =>
   rintro⟨y,x⟩ rest b s' ⟨hb',rfl,vs,ws,ns',ms',hz,hvi,hwi,hlen,hR⟩;cases hvi with
   |nil=>rw[List.zip_nil_left]at hz;cases hz
   |cons a t hvi' =>
    cases hwi with
    |nil=>rw[List.zip_nil_right]at hz;cases hz
    |cons c u hwi' =>
     rw[gL]at hz;injection hz with hyx hrest
     injection hyx with hy hx
     subst hy hx;rw[ui]at hR;simp only[lCq]at hlen;obtain⟨e,he,hiff⟩:=Fi A.in1 ⟨hp,g,d,tk,os⟩ a t c u;refine iF (he prog w _ _ ?_);cases e with
     |true =>
      rw[nK (hiff.mp rfl)]at hR
      wp_walk
      exact⟨rfl,rfl,_,_,_,_,hrest,hvi',hwi',by lia,hR⟩
     |false =>
      rw[nS (λq=>absurd (hiff.mpr q) aO)]at hR
      have hri:=EU A.in1 ⟨hp,g,d,tk,os⟩ a t c u prog w
      wp_walk using hri
      exact⟨_,rfl,by simpa using hR⟩
  case fin =>
   rintro⟨b1,b2⟩ s' ⟨hb',rfl,vs,ws,ns',ms',hz,hvi,hwi,hlen,hR⟩;simp only at hb';subst hb';have hv:pB ns' ms'=decide (items.size<items2.size):=by
    cases hvi with
    |nil =>
     cases hwi with
     |nil =>
      simp only[bC]at hlen;rw[xv];exact(decide_eq_false (by lia)).symm
     |cons c u hw =>
      simp only[bC,lCq]at hlen;rw[wO];exact(decide_eq_true (by lia)).symm
    |cons a t hv =>
     cases hwi with
     |nil =>
      simp only[bC,lCq]at hlen;rw[wN];exact(decide_eq_false (by lia)).symm
     |cons c u hw =>
      rw[gL]at hz;cases hz
   rw[hv]at hR
   wp_walk
   exact⟨_,rfl,by simpa [Builtin.Tuple.tupleCompareSizes] using hR⟩
  case h =>
   exact⟨rfl,rfl,items.toList,items2.toList,ns,ms,rfl,hi,hj,by lia,h⟩
end
section
variable {prog:iK}{w:iP}{A:Around}{E:Value->iD->Prop}{s:iD}
theorem FD{l b:Addr}{items items2:Array Value}{ns ms:List Int}{Q:Value->iD->Prop}(hl:IsTup s.heap l items) (hb:IsTup s.heap b items2) (hi:iW items.toList ns) (hj:iW items2.toList ms)
  (hu:A.units<iX) (h:Q (.bool (pB ns ms)) s):iI (iG prog w) A (jk .Lt (.ref l) (.ref b)) Q E s:=by
 obtain⟨⟨cls,dd,data,sl⟩,ho,hc,n,hd⟩:=id hl;obtain⟨⟨cls2,dd2,data2,sl2⟩,ho2,hc2,n2,hd2⟩:=id hb;simp only at hc hd hc2 hd2;subst hc hd hc2 hd2;exact kL (op:=.Lt) ⟨_,ho,rfl⟩ ⟨_,ho2,rfl⟩ PySem.F.slot_tuple_lt PySem.F.entry_tuple_lt (PySem.F.args_tuple_lt_2 _ _) (BO l b items items2 n n2 dd dd2 sl sl2 ns ms hi hj)
  ⟨ho,ho2,show hX (pB ns ms)≠Value.notImplemented/\Q (.bool (pB ns ms)) s from ⟨(λx=>nomatch x),h⟩⟩ hu
def BS(n d:Nat):Option Int->Nat
 |none=>d
 |some v=>if v<0 then (v+(n:Int)).toNat else min v.toNat n
theorem Eh(n d:Nat):BS n d none=d:=rfl
theorem zQ(n d k:Nat):BS n d (some (k:Int))=min k n:=by
 show (if (k:Int)<0 then ((k:Int)+(n:Int)).toNat else min (k:Int).toNat n)=min k n
 rw[nS (by lia),cC]
end
end HT
namespace L2
open PySem PySem.Spec PyProof.Rows
abbrev TO:=St->Hp->(Option Int->Hp->Prop)->Prop
def PO(X:Cx) (e:Option Expr) (t:TO):Prop :=
 ∀(mU:List (Addr×Obj)) (s:iD) (σ:St) (H:Hp) (Q:Option Int->Hp->Prop),Inv X mU σ H s->t σ H Q ->
  iI (iG X.prog X.w) X.A (evalPart e X.env) (λu s'=>∃o H',Inv X mU σ H' s'/\IsPart u o/\Q o H') X.xe s
def HG:TO:=λ_ H Q=>Q none H
def Ow(t:TE):TO:=λσ H Q=>t σ H λx H1=>∃i,x = .int i/\Q (some i) H1
theorem vC{ns:List Int}:∀{us:List Value},ou (ns.map V.int) us->iW us ns:=by
 induction ns with
 |nil=>intro us r;rw[eX]at r;cases r;exact .nil
 |cons n ns ih =>
  intro us r;rw[ak]at r;cases r with
  |cons r1 r2 =>
   obtain⟨t,e⟩:=r1;subst e;exact .cons n t (ih r2)
section
variable {X:Cx}{e:Expr}{te:TE}{lo hi:Option Expr}{tl th:TO}{pos p2:Pos}
theorem sZ:PO X none HG:=by
 intro mU s σ H Q I h;rw[evalPart_none];exact iO ⟨none,H,I,.none,h⟩
theorem qH(h:PE X e te):PO X (some e) (Ow te):=by
 intro mU s σ H Q I hw;rw[evalPart_some];refine qC (h mU s σ H _ I hw) λu s1 ⟨x,H1,I1,r1,q1⟩=>?_
 obtain⟨i,rfl,q⟩:=q1;obtain⟨t,rfl⟩:=r1;exact⟨some i,H1,I1,.int i t,q⟩
def UY(X:Cx) (r:V->Option Int->Option Int->Hp->VK->Prop):Prop :=
 ∀(mU:List (Addr×Obj)) (s:iD) (σ:St) (H:Hp) (x:V) (v vl vu:Value) (lo hi:Option Int) (sl:Addr) (Q:VK),Inv X mU σ H s->oX x v->s.heap.IsSliceOf sl vl vu .none->IsPart vl lo->IsPart vu hi->r x lo hi H Q ->
  ∃T id,ja (.type T) "__getitem__" = pure (some (.builtin id))/\s.TypeIs v T/\iI (iG X.prog X.w) X.A (kX v (.ref sl)) (EP X mU σ Q) X.xe s
def Uu(r:V->Option Int->Option Int->Hp->VK->Prop) (te:TE) (tl th:TO):TE:=λσ H Q=>te σ H λx H1=>tl σ H1 λl H2=>th σ H2 λu H3=>r x l u H3 Q
theorem qv{r:V->Option Int->Option Int->Hp->VK->Prop}(hr:UY X r) (he:PE X e te) (hl:PO X lo tl) (hu:PO X hi th):PE X (.Subscript e (.Slice lo hi none p2) pos) (Uu r te tl th):=by
 intro mU s σ H Q I h;refine Subscript_ (qC (he mU s σ H _ I h) λv s1 ⟨x,H1,I1,r1,q1⟩=>?_)
 refine wpAny_Slice (qC (hl mU s1 σ H1 _ I1 q1) λvl s2 ⟨l,H2,I2,pl,q2⟩=>qC (hu mU s2 σ H2 _ I2 q2) λvu s3 ⟨u,H3,I3,pu,q3⟩=>?_)
 rw[evalPart_none];refine iO ?_;have I4:Inv X mU σ H3 { s3 with heap:=s3.heap.push { cls:=.type "slice", data:=.fields #[vl,vu,.none] } }:=I3.kept (t':=s3.toks) λb ob q=>ae _ q
 obtain⟨T,id,hT,ht,hg⟩:=hr mU { s3 with heap:=s3.heap.push { cls:=.type "slice", data:=.fields #[vl,vu,.none] } } σ H3 x v vl vu l u s3.heap.objs.size Q I4 r1 (Heap.IsSliceOf.new ..) pl pu q3
 show iI (iG X.prog X.w) X.A (ly e (.Slice lo hi none p2) v (.ref s3.heap.objs.size)) (EP X mU σ Q) X.xe { s3 with heap:=s3.heap.push { cls:=.type "slice", data:=.fields #[vl,vu,.none] } }
 exact tail_any (ops:=[.ref s3.heap.objs.size,v]) ht hT hg (by with_unfolding_all rfl)
def GJ(xs:List V) (lo hi:Option Int):List V:=(xs.drop (HT.BS xs.length 0 lo)).take (HT.BS xs.length xs.length hi-HT.BS xs.length 0 lo)
theorem Fq(xs:List V) (lo hi:Option Int):(GJ xs lo hi).length<=xs.length:=by
 unfold GJ;rw[lTq,aR];lia
end
def Ed(n:Nat) (i:Int):Option Nat:=if 0<=i then (if i<n then some i.toNat else none) else if -(n:Int)<=i then some (i+n).toNat else none
def atI{α:Type}(xs:List α) (i:Int):Option α:=(Ed xs.length i).bind λj=>xs[j]?
theorem HZ{n:Nat}{i:Int}{j:Nat}(h:Ed n i=some j):lI i n=some j/\j<n/\-(n:Int)<=i/\i<n:=by
 unfold Ed at h
 by_cases h0:0<=i
 .rw [nK h0]at h
  by_cases h1:i<n
  .rw [nK h1]at h;have e:i.toNat=j:=bc.inj h;exact⟨by rw[seqIndex_of h0 h1,e],by lia,by lia,h1⟩
  .rw [nS h1]at h;cases h
 .rw [nS h0]at h
  by_cases h1:-(n:Int)<=i
  .rw [nK h1]at h;have e:(i+n).toNat=j:=bc.inj h;exact⟨by rw[seqIndex_neg (by lia) h1,e],by lia,h1,by lia⟩
  .rw [nS h1]at h;cases h
theorem NV{α:Type}{xs:List α}{i:Int}{v:α}(h:atI xs i=some v):∃j,lI i xs.length=some j/\xs[j]?=some v/\j<xs.length/\-(xs.length:Int)<=i/\i<xs.length:=by
 unfold atI at h;cases e:Ed xs.length i with
 |none=>rw[e]at h;cases h
 |some j =>
  rw[e]at h;obtain⟨h1,h2,h3,h4⟩:=HZ e;exact⟨j,h1,h,h2,h3,h4⟩
theorem xX{α:Type}{xs:List α}{j:Nat}{v:α}(h:xs[j]?=some v):atI xs (j:Int)=some v:=by
 have hj:j<xs.length:=(gSq.mp h).1;have e:Ed xs.length (j:Int)=some j:=by
  unfold Ed;rw[nK (by lia),nK (by lia)];simp
 unfold atI;rw[e];exact h
theorem KN{α:Type}(xs:List α) (v:α):atI (xs++[v]) (-1)=some v:=by
 have hl:(xs++[v]).length=xs.length+1:=by simp
 have e:Ed (xs++[v]).length (-1)=some xs.length:=by
  unfold Ed;rw[hl,nS (by decide),nK (by lia)]
  congr 1;lia
 unfold atI;rw[e];show (xs++[v])[xs.length]?=some v;simp
def N9(b:Expr):Prop:=∀o i,kO b false o i=operate [o,i] (kX o i)
def UT(X:Cx) (r:R2):Prop :=
 ∀(value slice:Expr) (mU:List (Addr×Obj)) (s:iD) (σ:St) (H:Hp) (x y:V) (v u:Value) (Q:VK),Inv X mU σ H s->oX x v->oX y u->r x y H Q ->
  kO slice false v u=operate [v,u] (kX v u)->iI (iG X.prog X.w) X.A (ly value slice v u) (EP X mU σ Q) X.xe s
def Q7(X:Cx) (id:String) (r:V->List V->Hp->VK->Prop):Prop :=
 ∀(mU:List (Addr×Obj)) (s:iD) (σ:St) (H:Hp) (x:V) (xs:List V) (v:Value) (us:List Value) (Q:VK),Inv X mU σ H s->oX x v->ou xs us->r x xs H Q ->
  iI (iG X.prog X.w) X.A (call (.builtin id) (v::us)) (EP X mU σ Q) X.xe s
section
variable {X:Cx}{a b:Expr}{ta tb:TE}{pos:Pos}
theorem vO{r:R2}(hr:UT X r) (ha:PE X a ta) (hb:PE X b tb) (hs:N9 b):PE X (.Subscript a b pos) (MC r ta tb):=by
 intro mU s σ H Q I h;exact Subscript_ (QU ha hb I h λv u s2 x y H2 I2 rx ry q=>hr a b mU s2 σ H2 x y v u Q I2 rx ry q (hs _ _))
def Mz(K:W.Frag):R2:=λx y H Q=>∃p xs i v,x = .ref p/\y = .int i/\qJ K H p xs/\atI xs i=some v/\Q v H
theorem rL:UT X (Mz X.K):=by
 intro value slice mU s σ H x y v u Q I rx ry h hs;obtain⟨p,xs,i,z,rfl,rfl,hq,he,q⟩:=h;cases rx;obtain⟨t,rfl⟩:=ry;obtain⟨its,r,pl,hz⟩:=I.list hq;obtain⟨j,h1,h2,h3,h4,h5⟩:=NV he;obtain⟨w,ew,rw'⟩:=r.get h2;have hl:=r.length;have hn:=Li;have fin:EP X mU σ Q w s:=⟨z,H,I,rw',q⟩
 by_cases h0:0<=i
 .have hj:i.toNat=j:=by
   rw[seqIndex_of h0 h5]at h1;exact bc.inj h1
  exact item_listR pl.isList h0 (by lia) (by rw[hj];simpa using ew) fin hs
 .have hj:(i+(its.toArray.size:Int)).toNat=j:=by
   rw[seqIndex_neg (by lia) h4]at h1
   rw[az,←hl];exact bc.inj h1
  exact subscriptTail_builtinR (x:=w) pl.isList.typeIs slot_list_getitem.lookup
   (wpAny_getItem_list_neg (Q:=λr s'=>r=w/\EP X mU σ Q r s') pl.isList (by lia) (by rw[az] <;> lia) (by lia) (by rw[hj];simpa using ew) ⟨rfl,fin⟩) hs
theorem DC(lo hi:Option Int) (n:Nat):(jF lo hi none n).1=((HT.BS n 0 lo:Nat):Int)/\(jF lo hi none n).2.1=((HT.BS n n hi:Nat):Int)/\(jF lo hi none n).2.2=1:=by
 refine⟨?_,?_,rfl⟩
 .cases lo with
  |none=>simp[jF,HT.BS]
  |some i =>
   simp only[jF,HT.BS,gW,show (1:Int)>0 by decide,if_true]
   by_cases h:i<0
   .simp only [h,if_true] <;> lia
   .simp only [h,if_false] <;> lia
 .cases hi with
  |none=>simp[jF,HT.BS]
  |some i =>
   simp only[jF,HT.BS,gW,show (1:Int)>0 by decide,if_true]
   by_cases h:i<0
   .simp only [h,if_true] <;> lia
   .simp only [h,if_false] <;> lia
theorem BJ(its:List Value) (lo hi:Option Int):slicePick its.toArray lo hi none=((its.drop (HT.BS its.length 0 lo)).take (HT.BS its.length its.length hi-HT.BS its.length 0 lo)).toArray:=by
 obtain⟨h1,h2,h3⟩:=DC lo hi its.toArray.size;unfold slicePick;rw[h1,h2,h3];simp only[sliceRange_one,pick_run,az] <;> rfl
def RH(K:W.Frag):V->Option Int->Option Int->Hp->VK->Prop:=λx lo hi H Q=>∃a xs,x = .ref a/\qJ K H a xs/\∀p,H p=none->Q (.ref p) (oK H p (.lst (GJ xs lo hi)))
theorem rH:UY X (RH X.K):=by
 intro mU s σ H x v vl vu lo hi sl Q I rx hs pl pu h;obtain⟨a,xs,rfl,hx,q⟩:=h;cases rx;obtain⟨its,r,ht,hz⟩:=I.list hx;have hlen:=r.length;refine⟨"list", _,slot_list_getitem.lookup,ht.isList.typeIs,?_⟩;refine wpAny_getItem_list_slice ht.isList hs pl pu .none (by simp) ?_ (by rw[az] <;> lia)
 rw[BJ,←hlen];refine⟨.ref s.heap.objs.size,_,I.laid (t':=s.toks) (o:=.lst (GJ xs lo hi)) (λb ob q=>ae _ q) (af _) ?_,rfl,q _ (I.hok.fresh (af _))⟩
 exact⟨br (Fq xs lo hi) hz,_,0,(r.drop (HT.BS xs.length 0 lo)).take (HT.BS xs.length xs.length hi-HT.BS xs.length 0 lo),aU _ rfl⟩
theorem tO:vS X (.type "list") (λxs H Q=>∃p ys,xs=[.ref p]/\(qJ X.K H p ys∨BP X.K H p ys)/\∀l,H l=none->Q (.ref l) (oK H l (.lst ys))):=by
 intro mU s σ H xs us Q I r h;obtain⟨p,ys,rfl,hq,q⟩:=h;obtain⟨u,rfl,rx⟩:=uP r;cases rx;have fin:∀(its:List Value),ou ys its->ys.length<=iN->∀(h':Heap) (c':Nat),(∀b o',s.heap.get? b=some o'->h'.get? b=some o') ->
   h'.get? s.heap.objs.size=some { cls:=.type "list", dict:=none,data:=.seq its.toArray c',slots:=#[] }->EP X mU σ Q (.ref s.heap.objs.size) { s with heap:=h' }:=λits r' hz h' c' kp e =>
  ⟨.ref s.heap.objs.size,_,I.laid (t':=s.toks) kp (af _) (show pL X.prog X.w _ h' _ (.lst ys) from ⟨hz,its,c',r',e⟩),rfl,q _ (I.hok.fresh (af _))⟩
 rcases hq with hq|hq
 .obtain ⟨its,r',pl,hz⟩:=I.list hq;have hlen:=r'.length;obtain⟨o,ho,hc,n,hd⟩:=pl.isList;exact call_list_seq p (.inl rfl) ho hc hd (λh' c' kp e=>fin its r' hz h' c' kp e) (by simp only[az] <;> lia)
 .obtain ⟨its,r',pl,hz⟩:=I.tuple hq;have hlen:=r'.length;obtain⟨o,ho,hc,n,hd⟩:=pl;exact call_list_seq p (.inr rfl) ho hc hd (λh' c' kp e=>fin its r' hz h' c' kp e) (by simp only[az] <;> lia)
theorem xx:vS X (.type "tuple") (λxs H Q=>∃p ys,xs=[.ref p]/\((qJ X.K H p ys/\∀l,H l=none->Q (.ref l) (oK H l (.tup ys)))∨(BP X.K H p ys/\Q (.ref p) H))):=by
 intro mU s σ H xs us Q I r h;obtain⟨p,ys,rfl,h⟩:=h;obtain⟨u,rfl,rx⟩:=uP r;cases rx;rcases h with ⟨hq,q⟩|⟨hq,q⟩
 .obtain ⟨its,r',pl,hz⟩:=I.list hq;have hlen:=r'.length;refine call_tuple_list pl.isList (λh' kp=>?_) (by simp only[az] <;> lia)
  have I1:Inv X mU σ H { s with heap:=h' }:=I.kept (t':=s.toks) kp
  have I2:Inv X mU σ (oK H h'.objs.size (.tup ys)) { s with heap:=h'.push { cls:=.type "tuple", data:=.seq its.toArray } } :=
   I1.laid (t':=s.toks) (λb o e=>ae _ e) (af _) (show pL X.prog X.w _ _ _ (.tup ys) from ⟨hz,its,r',IsTup.new _ _⟩)
  exact⟨.ref h'.objs.size,_,I2,rfl,q _ (I1.hok.fresh (af _))⟩
 .obtain ⟨its,r',pl,hz⟩:=I.tuple hq;exact call_tuple_same pl ⟨.ref p,H,I,rfl,q⟩
def SX(K:W.Frag) (T:String) (x:V) (H:Hp):Prop:=match x with
 | .str _=>T = "str"
 | .int _=>T = "int"
 | .ref p=>(T = "list" /\ ∃xs,qJ K H p xs)∨(T = "tuple" /\ ∃o,K.lookup p=some o/\o.cls = .type "tuple" /\ o.dict=none) ∨
   (T = "dict" /\ ((∃kvs,H p=some (.dK kvs))∨∃kvs,H p=some (.dT kvs)))∨(T = "set" /\ ∃S n,H p=some (.set S n))
 |_=>False
theorem LI{mU:List (Addr×Obj)}{σ:St}{H:Hp}{s:iD}{T:String}{x:V}{v:Value}(I:Inv X mU σ H s) (r:oX x v) (ty:SX X.K T x H) :
  s.TypeIs v T/\∀a,v = .ref a->∃ob,s.heap.get? a=some ob/\ob.dict=none:=by
 cases x with
 |str z =>
  obtain⟨t,rfl⟩:=r;cases (show T = "str" from ty)
  exact⟨typeIs_str s z t,λ_ e=>nomatch e⟩
 |int i =>
  obtain⟨t,rfl⟩:=r;cases (show T = "int" from ty)
  exact⟨typeIs_int s i t,λ_ e=>nomatch e⟩
 |ref p =>
  cases r;rcases ty with ⟨rfl,xs,hq⟩|⟨rfl,o,hk,hc,hd⟩|⟨rfl,hk⟩|⟨rfl,S,n,hk⟩
  .obtain ⟨its,_,pl,_⟩:=I.list hq;refine⟨pl.isList.typeIs,λa e=>?_⟩
   cases e;obtain⟨o,n,e,c,hd,_⟩:=pl;exact⟨o,e,hd⟩
  .refine ⟨⟨o,I.kIn p o hk,hc⟩,λa e=>?_⟩
   cases e;exact⟨o,I.kIn _ o hk,hd⟩
  .have z:∃o,s.heap.get? p=some o/\o.ExactDict:=by
    rcases hk with ⟨kvs,hk⟩|⟨kvs,hk⟩
    .obtain ⟨_,_,_,_,o,_,_,e,ex,_⟩:=I.hok p _ hk;exact⟨o,e,ex⟩
    .obtain ⟨_,_,_,_,o,_,_,e,ex,_⟩:=I.hok p _ hk;exact⟨o,e,ex⟩
   obtain⟨o,e,ex⟩:=z;refine⟨⟨o,e,ex.1⟩,λa e2=>?_⟩
   cases e2;exact⟨o,e,ex.2.1⟩
  .obtain ⟨o,_,_,_,e,ex,_⟩:=I.hok p _ hk;refine⟨⟨o,e,ex.1⟩,λa e2=>?_⟩
   cases e2;exact⟨o,e,ex.2.1⟩
 |_=>exact False.elim ty
def SB(K:W.Frag) (T:String) (r:V->List V->Hp->VK->Prop) (to:TE):TE:=λσ H Q=>to σ H λx H1=>SX K T x H1/\r x [] H1 Q
def Mh(K:W.Frag) (T:String) (r:V->List V->Hp->VK->Prop) (to:TE) (t:TA):TE:=λσ H Q=>to σ H λx H1=>SX K T x H1/\t σ H1 λxs H2=>r x xs H2 Q
variable {o e:Expr}{es:List Expr}{to:TE}{t:TA}{name:Str}{apos cpos:Pos}{T id:String}{r:V->List V->Hp->VK->Prop}
theorem FH(pa:PlainAttrs T) (slot:Slot T name id) (hty:typeOf (.builtin id)=pure (.type "method_descriptor")) (hm:Q7 X id r) (ho:PE X o to)
  (hbase:attributeBase o name X.env (eval o X.env)=eval o X.env:=by rfl) (hline:(apos.endLine == cpos.line)=true:=by rfl):PE X (.Call (.Attribute o name apos) [] [] cpos) (SB X.K T r to):=by
 intro mU s σ H Q I h;refine wpAny_Call_method0_late hbase hline (qC (ho mU s σ H _ I h) λv s1 ⟨x,H1,I1,r1,ty,q1⟩=>?_)
 obtain⟨h1,h2⟩:=LI I1 r1 ty;exact⟨T,id,pa,slot,hty,h1,h2,Calls.callWith_builtin rfl (PySem.evalArgs_none (hm mU s1 σ H1 x [] v [] Q I1 r1 .nil q1))⟩
theorem qX(pa:PlainAttrs T) (slot:Slot T name id) (hty:typeOf (.builtin id)=pure (.type "method_descriptor")) (hm:Q7 X id r) (ho:PE X o to) (ha:PA X (e::es) t)
  (hbase:attributeBase o name X.env (eval o X.env)=eval o X.env:=by rfl)
  (hfew:((jx cpos (iR (e::es) X.env)).all (λx=>!x.1) && (backToKw cpos (keywordEach [] X.env)).all (λx=>x.1.isSome)
   && decide ((e::es).length+([]:List Keyword).length+(if ([]:List Keyword).isEmpty then 0 else 1)<30))=true:=by rfl)
  (hline:(apos.endLine == cpos.line)=true:=by rfl) (hs:iR (e::es) X.env=(false,eval e X.env)::iR es X.env:=by rfl) (hplain:(jx cpos (iR es X.env)).any (·.1)=false:=by rfl) :
  PE X (.Call (.Attribute o name apos) (e::es) [] cpos) (Mh X.K T r to t):=by
 intro mU s σ H Q I h;refine wpAny_Call_method_late hbase hfew hline rfl (qC (ho mU s σ H _ I h) λv s1 ⟨x,H1,I1,r1,ty,q1⟩=>?_)
 obtain⟨h1,h2⟩:=LI I1 r1 ty;refine⟨T,id,pa,slot,hty,h1,h2,?_⟩;have hA:=ha cpos mU s1 σ H1 _ I1 q1;rw[hs]at hA ⊢;refine Calls.callWith_builtin (by show (false || (jx cpos (iR es X.env)).any (·.1))=false;rw[hplain] <;> rfl) (Calls.evalArgs_plain ?_)
 exact qC hA λus s2 ⟨vs,H2,I2,r2,q2⟩=>hm mU s2 σ H2 x vs v us Q I2 r1 r2 q2
/- xs.append(e),list.index on a module's tuple .. are Q7 facts of 06m -/
end
def SZ(X:Cx) (id:String) (r:V->List V->Hp->VK->Prop):Prop :=
 ∀(mU:List (Addr×Obj)) (s:iD) (σ:St) (H:Hp) (x:V) (xs:List V) (v:Value) (us:List Value) (Q:VK),Inv X mU σ H s->oX x v->ou xs us->r x xs H Q ->
  iI (iG X.prog X.w) X.A (call (.builtin id) (v::us)) (EP X mU σ Q) X.xe s
theorem ou.one:∀{x:V}{us:List Value},ou [x] us->∃u,us=[u]/\oX x u
 |_,_,.cons r .nil=>⟨_,rfl,r⟩
theorem ou.zero:∀{us:List Value},ou [] us->us=[]
 |_,.nil=>rfl
theorem ou.dropLast{xs:List V}{us:List Value}(h:ou xs us):ou xs.dropLast us.dropLast:=by
 induction h with
 |nil=>exact .nil
 |cons r t ih =>
  cases t with
  |nil=>exact .nil
  |cons q t'=>exact .cons r ih
theorem ou.eraseIdx:∀{xs:List V}{us:List Value}(i:Nat),ou xs us->ou (xs.eraseIdx i) (us.eraseIdx i)
 |_,_,_,.nil=>.nil
 |_,_,0,.cons _ t=>t
 |_,_,i+1,.cons r t=>.cons r (ou.eraseIdx i t)
theorem xH{α:Type}(l:List α):l.eraseIdx (l.length-1)=l.dropLast:=by
 induction l with
 |nil=>rfl
 |cons a r ih =>
  cases r with
  |nil=>rfl
  |cons b r =>
   have e:(a::b::r).length-1=((b::r).length-1)+1:=by
    have h1:(a::b::r).length=r.length+2:=rfl;have h2:(b::r).length=r.length+1:=rfl;lia
   rw[e,bZ,ih]
   all_goals rfl
theorem Cp{α:Type}:∀(l:List α) (i:Nat),(l.eraseIdx i).length<=l.length
 | [],_=>af _
 |_::_,0=>bw _
 |_::r,i+1=>fE (Cp r i)
section
variable {X:Cx}{mU:List (Addr×Obj)}{σ:St}{H:Hp}{s:iD}{l b:Addr}{xs ys zs:List V}
theorem Inv.lset{its its':List Value}{n:Nat}{f:Array Value->Array Value}{t':Nat}(I:Inv X mU σ H s) (hH:H l=some (.lst xs))
  (e:s.heap.get? l=some { cls:=.type "list", data:=.seq its.toArray n }) (hf:f its.toArray=its'.toArray) (hv:ou ys its') (hz:ys.length<=iN) :
  Inv X mU σ (oK H l (.lst ys)) { s with heap:=s.heap.update l (Obj.mapSeq f),toks:=t' }:=by
 have q:=PySem.IsL.update e f;rw[hf]at q;refine I.write (x:=l) (e:=l) (by rw[hH];exact trivial) (.inl rfl) (λb' u hb hu=>(aJ s.heap (Obj.mapSeq f) (Ne.symm hb)).trans hu) ⟨_,q⟩ ?_
 exact⟨hz,its',_,hv,q⟩
theorem Inv.lnew{its:List Value}{t':Nat}(I:Inv X mU σ H s) (hv:ou ys its) (hz:ys.length<=iN) :
  Inv X mU σ (oK H s.heap.objs.size (.lst ys)) { s with heap:=s.heap.push { cls:=.type "list", data:=.seq its.toArray },toks:=t' } :=
 I.laid (λ_ _ q=>ae _ q) (af _) ⟨hz,its,0,hv,aU _ rfl⟩
theorem Inv.fresh(I:Inv X mU σ H s):H s.heap.objs.size=none:=I.hok.fresh (af _)
theorem Inv.lstM(I:Inv X mU σ H s) (hH:H l=some (.lst xs)):xs.length<=iN/\∃(its:List Value) (n:Nat),ou xs its/\xs.length=its.length/\s.heap.get? l=some { cls:=.type "list", data:=.seq its.toArray n }:=by
 obtain⟨z,its,n,r,e⟩:=I.hok l _ hH;exact⟨z,its,n,r,r.length,e⟩
theorem JZ{n:Nat}(h:n<=iN):Builtin.List.listTooLong n=false:=by
 unfold Builtin.List.listTooLong;exact decide_eq_false (by lia)
end
section
variable {X:Cx}
def xU:V->List V->Hp->VK->Prop:=λx vs H Q=>∃l xs y,x = .ref l/\vs=[y]/\H l=some (.lst xs)/\xs.length<iN/\Q .non (oK H l (.lst (xs++[y])))
theorem oZ:SZ X "list.append" xU:=by
 intro mU s σ H x vs v us Q I rx rv h;obtain⟨l,xs,y,rfl,rfl,hH,hz,q⟩:=h;cases rx;obtain⟨u,rfl,ru⟩:=rv.one;obtain⟨z,its,n,r,hl,e⟩:=I.lstM hH;refine jA F.slot_list_append ⟨_,e,rfl⟩ F.entry_list_append (F.args_list_append_2 _ _) (PySem.list_append l its.toArray n u (by rw[az];lia)) ⟨e,?_⟩
 refine⟨.non,_,I.lset (its':=its++[u]) hH e (by simp) (r.append (.cons ru .nil)) ?_,rfl,q⟩
 rw[lAq,lSq];lia
def HM:V->List V->Hp->VK->Prop:=λx vs H Q=>∃l b xs zs,x = .ref l/\vs=[.ref b]/\H l=some (.lst xs)/\H b=some (.lst zs)/\xs.length+zs.length<=iN/\Q .non (oK H l (.lst (xs++zs)))
theorem yA:SZ X "list.extend" HM:=by
 intro mU s σ H x vs v us Q I rx rv h;obtain⟨l,b,xs,zs,rfl,rfl,hH,hB,hz,q⟩:=h;cases rx;obtain⟨u,rfl,ru⟩:=rv.one;cases ru;obtain⟨z,its,n,r,hl,e⟩:=I.lstM hH;obtain⟨z2,its2,n2,r2,hl2,e2⟩:=I.lstM hB;have hsz:its.toArray.size+its2.toArray.size<=iN:=by rw[az,az];lia
 have hlong:¬ (!its.toArray.isEmpty && Builtin.List.listTooLong (its.toArray.size+its2.toArray.size))=true:=by
  rw[JZ hsz,Bool.and_false];exact aO
 refine jA F.slot_list_extend ⟨_,e,rfl⟩ F.entry_list_extend (F.args_list_extend_2 _ _)
  (AutoSeq1.list_extend_list_list_0 l its.toArray n b its2.toArray n2 hlong (by rw[az];lia) (by lia)) ⟨e,e2,?_⟩
 refine⟨.non,_,I.lset (its':=its++its2) hH e (by simp) (r.append r2) ?_,rfl,q⟩
 rw[lAq];lia
def Q4:V->List V->Hp->VK->Prop:=λx vs H Q=>∃l xs y,x = .ref l/\vs=[]/\H l=some (.lst xs)/\xs[xs.length-1]?=some y/\Q y (oK H l (.lst xs.dropLast))
theorem Gd:SZ X "list.pop" Q4:=by
 intro mU s σ H x vs v us Q I rx rv h;obtain⟨l,xs,y,rfl,rfl,hH,hy,q⟩:=h;cases rx;have hus:=rv.zero;subst hus;obtain⟨z,its,n,r,hl,e⟩:=I.lstM hH;obtain⟨u,hu,ru⟩:=r.get hy;have hy':its.toArray[its.toArray.size-1]?=some u:=by
  show its.toArray[its.length-1]?=some u;rw[←aC,←hl];exact hu
 refine jA F.slot_list_pop ⟨_,e,rfl⟩ F.entry_list_pop (F.args_list_pop_1 _) (MeetsSeq.list_pop_last l its.toArray n u hy' (by rw[az];lia)) ⟨e,?_⟩
 refine⟨y,_,I.lset (its':=its.dropLast) hH e ?_ r.dropLast ?_,ru,q⟩
 .show its.toArray.eraseIdxIfInBounds (its.toArray.size-1)=its.dropLast.toArray;rw[az,eD,xH]
 .rw [List.length_dropLast];lia
def Ko:V->List V->Hp->VK->Prop:=λx vs H Q=>∃l xs i k y,x = .ref l/\vs=[.int i]/\H l=some (.lst xs)/\-(2 ^ 63)<=i/\i<2 ^ 63/\lI i xs.length=some k/\xs[k]?=some y/\Q y (oK H l (.lst (xs.eraseIdx k)))
theorem EW:SZ X "list.pop" Ko:=by
 intro mU s σ H x vs v us Q I rx rv h;obtain⟨l,xs,i,k,y,rfl,rfl,hH,h1,h2,hk,hy,q⟩:=h;cases rx;obtain⟨u,rfl,ru⟩:=rv.one;obtain⟨t,rfl⟩:=ru;obtain⟨z,its,n,r,hl,e⟩:=I.lstM hH;obtain⟨w,hw,rw'⟩:=r.get hy;refine jA F.slot_list_pop ⟨_,e,rfl⟩ F.entry_list_pop (F.args_list_pop_2 _ _)
  (MeetsSeq.list_pop_at l its.toArray n i t k w (fitsIndex_both h1 h2) (by rw[az,←hl];exact hk) (by rw[←aC];exact hw) (by rw[az];lia)) ⟨e,?_⟩
 refine⟨y,_,I.lset (its':=its.eraseIdx k) hH e ?_ (r.eraseIdx k) ?_,rw',q⟩
 .show its.toArray.eraseIdxIfInBounds k=(its.eraseIdx k).toArray;rw[eD]
 .have:=Cp xs k;lia
def RU:R2:=λx y H Q=>∃l b xs zs,x = .ref l/\y = .ref b/\H l=some (.lst xs)/\H b=some (.lst zs)/\xs.length+zs.length<=iN/\∀p,H p=none->Q (.ref p) (oK H p (.lst (xs++zs)))
theorem Gz:DJ X (jT .Add) RU:=by
 intro mU s σ H x y v u Q I rx ry h;obtain⟨l,b,xs,zs,rfl,rfl,hH,hB,hz,q⟩:=h;cases rx;cases ry;obtain⟨z,its,n,r,hl,e⟩:=I.lstM hH;obtain⟨z2,its2,n2,r2,hl2,e2⟩:=I.lstM hB;refine PySem.P.add_list e e2 ?_ (by rw[az,az];lia)
 have ea:its.toArray++its2.toArray=(its++its2).toArray:=by simp
 rw[ea];exact⟨.ref _,_,I.lnew (t':=s.toks) (r.append r2) (by rw[lAq];lia),rfl,q _ I.fresh⟩
end
section
variable {κ:Type} [DecidableEq κ]
def xW(kvs:List (κ×V)) (k:κ):Option V:=(kvs.find? λkv=>decide (kv.1=k)).map (·.2)
def wm(kvs:List (κ×V)) (k:κ) (v:V):List (κ×V) :=
 if (kvs.any λkv=>decide (kv.1=k))=true then kvs.map (λkv=>if kv.1=k then (kv.1,v) else kv) else kvs++[(k,v)]
theorem Ag{p:κ×V}{r:List (κ×V)}{k:κ}(e:p.1=k):xW (p::r) k=some p.2:=by simp[xW,cV,e]
theorem Ap{p:κ×V}{r:List (κ×V)}{k:κ}(e:¬ p.1=k):xW (p::r) k=xW r k:=by simp[xW,cV,e]
theorem D7(k:κ):∀kvs:List (κ×V),(kvs.any λkv=>decide (kv.1=k))=(xW kvs k).isSome
 | []=>rfl
 |p::r=>by
  rw[eE]
  by_cases e:p.1=k
  .simp only [Ag e,decide_eq_true e,Bool.true_or,gM]
  .rw [Ap e,decide_eq_false e,Bool.false_or];exact D7 k r
theorem wB(kvs:List (κ×V)) (k:κ) (v:V):(wm kvs k v).length<=kvs.length+1:=by
 unfold wm;split
 .rw [lMq];lia
 .rw [lAq,lCq,bC];lia
theorem zB.isSome_eq{o:Option V}{u:Option Value}(r:zB o u):o.isSome=u.isSome:=by
 cases o with
 |none=>cases u with
  |none=>rfl
  |some _=>exact(show False from r).elim
 |some _=>cases u with
  |none=>exact(show False from r).elim
  |some _=>rfl
theorem KV.val{kvs:List (κ×V)}{vs:List (κ×Value)}(r:KV kvs vs) (k:κ):zB (xW kvs k) (kz vs k):=by
 unfold KV at r
 induction r with
 |nil=>exact True.intro
 | @cons p q ps qs h t ih =>
  obtain⟨h1,h2⟩:=h
  by_cases e:p.1=k
  .have e':q.1=k:=h1.symm.trans e;have b:kz (q::qs) k=some q.2:=by simp[kz,cV,e']
   rw[Ag e,b];exact h2
  .have e':¬ q.1=k:=λz=>e (h1.trans z)
   have b:kz (q::qs) k=kz qs k:=by simp[kz,cV,e']
   rw[Ap e,b];exact ih
theorem KV.any{kvs:List (κ×V)}{vs:List (κ×Value)}(r:KV kvs vs) (k:κ):(kvs.any λkv=>decide (kv.1=k))=vs.any λkv=>decide (kv.1=k):=by
 unfold KV at r
 induction r with
 |nil=>rfl
 |cons h t ih=>rw[eE,eE,ih,h.1]
theorem KV.repl{kvs:List (κ×V)}{vs:List (κ×Value)}(r:KV kvs vs) (k:κ) {y:V}{u:Value}(ry:oX y u) :
  KV (kvs.map λkv=>if kv.1=k then (kv.1,y) else kv) (vs.map λkv=>if kv.1=k then (kv.1,u) else kv):=by
 unfold KV at r ⊢
 induction r with
 |nil=>exact .nil
 | @cons p q ps qs h t ih =>
  rw[ak,ak];refine .cons ?_ ih;obtain⟨h1,h2⟩:=h
  by_cases e:p.1=k
  .rw [nK e,nK (h1.symm.trans e)];exact⟨h1,ry⟩
  .rw [nS e,nS (λz=>e (h1.trans z))];exact⟨h1,h2⟩
theorem KV.put{kvs:List (κ×V)}{vs:List (κ×Value)}(r:KV kvs vs) (k:κ) {y:V}{u:Value}(ry:oX y u):KV (wm kvs k y) (stored vs k u):=by
 unfold wm stored;rw[r.any k]
 by_cases e:(vs.any λkv=>decide (kv.1=k))=true
 .rw [nK e,nK e];exact r.repl k ry
 .rw [nS e,nS e];exact Paired.snoc r ⟨rfl,ry⟩
theorem KV.length{kvs:List (κ×V)}{vs:List (κ×Value)}(r:KV kvs vs):kvs.length=vs.length:=Paired.length r
end
theorem Ej{P:iK}{w:iP}{k:nX}{u:Value}(r:oX (kV k) u):(pW P w).is k u=true:=by
 cases k with
 |inl i=>obtain⟨t,e⟩:=(show ∃t,u=gf i t from r);subst e;exact DZ P w i t
 |inr x=>obtain⟨t,e⟩:=(show ∃t,u=ir x t from r);subst e;exact EE P w x t
theorem Cc{P:iK}{w:iP}:∀{ks:List nX}{us:List Value},ou (ks.map kV) us->ItemsAre (pW P w) ks us
 | [],_,r=>by rw[eX]at r;cases r;exact .nil
 |k::ks,_,r=>by
  rw[ak]at r;cases r with
  |cons h t=>exact .cons (Ej h) (Cc t)
abbrev KT(H:Hp):List (List nX×V)->List (List nX×Addr×Value)->Prop:=Paired λp q=>p.1=q.1/\H q.2.1=some (.tup (p.1.map kV))/\oX p.2 q.2.2
theorem KT.val{H:Hp}{kvs:List (List nX×V)}{xs:List (List nX×Addr×Value)}(r:KT H kvs xs) (k:List nX):zB (xW kvs k) ((kK xs k).map (·.2)):=by
 induction r with
 |nil=>exact True.intro
 | @cons p q ps qs h t ih =>
  obtain⟨h1,_,h2⟩:=h
  by_cases e:p.1=k
  .have e':q.1=k:=h1.symm.trans e;have b:kK (q::qs) k=some q.2:=by simp[kK,cV,e']
   rw[Ag e,b];exact h2
  .have e':¬ q.1=k:=λz=>e (h1.trans z)
   have b:kK (q::qs) k=kK qs k:=by simp[kK,cV,e']
   rw[Ap e,b];exact ih
theorem KT.repl{H:Hp}{kvs:List (List nX×V)}{xs:List (List nX×Addr×Value)}(r:KT H kvs xs) (k:List nX) {y:V}{u:Value}(ry:oX y u) :
  KT H (kvs.map λkv=>if kv.1=k then (kv.1,y) else kv) (xs.map (putAt k u)):=by
 induction r with
 |nil=>exact .nil
 | @cons p q ps qs h t ih =>
  rw[ak,ak];refine .cons ?_ ih;obtain⟨h1,h2,h3⟩:=h;unfold putAt
  by_cases e:p.1=k
  .rw [nK e,nK (h1.symm.trans e)];exact⟨h1,h2,ry⟩
  .rw [nS e,nS (λz=>e (h1.trans z))];exact⟨h1,h2,h3⟩
theorem KT.put{H:Hp}{kvs:List (List nX×V)}{xs:List (List nX×Addr×Value)}(r:KT H kvs xs) (k:List nX) {b:Addr}{y:V}{u:Value}(hb:H b=some (.tup (k.map kV))) (ry:oX y u) :
  KT H (wm kvs k y) (storedH xs k b u):=by
 have e:(kvs.any λkv=>decide (kv.1=k))=(kK xs k).isSome:=by
  rw[D7,(r.val k).isSome_eq,ed]
 unfold wm storedH;rw[e]
 by_cases q:(kK xs k).isSome=true
 .rw [nK q,nK q];exact r.repl k ry
 .rw [nS q,nS q];exact Paired.snoc r ⟨rfl,hb,ry⟩
theorem KT.keeps{H H':Hp}{kvs:List (List nX×V)}{xs:List (List nX×Addr×Value)}(r:KT H kvs xs) (ht:∀b ys,H b=some (.tup ys)->H' b=some (.tup ys)):KT H' kvs xs :=
 Paired.mapP r λ_ _ z=>⟨z.1,ht _ _ z.2.1,z.2.2⟩
section
variable {P:iK}{w:iP}{H:Hp}{h:Heap}{a:Addr}
theorem Ou{u:HO}(ok:wH P w H h) (e:Rd H a u):pL P w H h a u:=e.ok ok
theorem EG{kvs:List (nX×V)}(ok:wH P w H h) (e:Rd H a (.dK kvs)):kvs.length<=iN/\(a == jq)=false/\∃vs,KV kvs vs/\h.DictOf (pW P w) a vs :=
 show pL P w H h a (.dK kvs) from Ou ok e
theorem OM{kvs:List (nX×V)}(ok:wH P w H h) (e:H a=some (.dK kvs)):kvs.length<=iN/\(a == jq)=false/\∃vs,KV kvs vs/\h.DictOf (pW P w) a vs:=EG ok (.inl e)
theorem Dv{ks:List nX}(ok:wH P w H h) (e:H a=some (.tup (ks.map kV))):(kI (pW P w)).is h ks a:=by
 obtain⟨_,its,r,o,h1,h2,n,h3⟩:=(show pL P w H h a (.tup (ks.map kV)) from ok a _ e)
 exact⟨o,its.toArray,n,h1,h2,h3,by simpa using Cc r⟩
theorem ET{kvs:List (List nX×V)}(ok:wH P w H h) (e:Rd H a (.dT kvs)):kvs.length<=iN/\(a == jq)=false /\
  ∃xs,KT H kvs xs/\h.DictOfH (kI (pW P w)) a xs:=by
 obtain⟨z,y,xs,r,o,es,ep,h1,h2,h3,h4,h5⟩:=(show pL P w H h a (.dT kvs) from Ou ok e)
 refine⟨z,y,xs,r,o,es,ep,h1,h2,h3,h4,λx hx=>?_,h5⟩
 have all:∀{l:List (List nX×V)}{m:List (List nX×Addr×Value)},KT H l m->∀x∈m,(kI (pW P w)).is h x.1 x.2.1:=by
  intro l m q
  induction q with
  |nil=>intro x hx;exact nomatch hx
  | @cons p q ps qs hq t ih =>
   intro x hx;rcases aj.mp hx with e|hx
   .subst e;exact Dv ok (by rw[←hq.1];exact hq.2.1)
   .exact ih x hx
 exact all r x hx
theorem RW{kvs:List (List nX×V)}(ok:wH P w H h) (e:H a=some (.dT kvs)):kvs.length<=iN/\(a == jq)=false /\
  ∃xs,KT H kvs xs/\h.DictOfH (kI (pW P w)) a xs:=ET ok (.inl e)
end
def zV(H:Hp) (a:Addr) (y:V) (r:Option V):Prop :=
 (∃kvs k,Rd H a (.dK kvs)/\y=kV k/\r=xW kvs k)∨∃kvs k b,Rd H a (.dT kvs)/\y = .ref b/\H b=some (.tup (k.map kV))/\r=xW kvs k
def JR(H:Hp) (a:Addr) (y v:V) (H':Hp):Prop :=
 (∃kvs k,H a=some (.dK kvs)/\y=kV k/\kvs.length<iN/\H'=oK H a (.dK (wm kvs k v))) ∨
 ∃kvs k b,H a=some (.dT kvs)/\y = .ref b/\H b=some (.tup (k.map kV))/\kvs.length<iN/\H'=oK H a (.dT (wm kvs k v))
theorem zV.k{H:Hp}{a:Addr}{kvs:List (nX×V)}{k:nX}(e:H a=some (.dK kvs)):zV H a (kV k) (xW kvs k):=.inl ⟨kvs,k,.inl e,rfl,rfl⟩
theorem JR.k{H:Hp}{a:Addr}{kvs:List (nX×V)}{k:nX}{v:V}(e:H a=some (.dK kvs)) (hl:kvs.length<iN):JR H a (kV k) v (oK H a (.dK (wm kvs k v))):=.inl ⟨kvs,k,e,rfl,hl,rfl⟩
section
variable {X:Cx}{mU:List (Addr×Obj)}{σ:St}{H:Hp}{s:iD}{a:Addr}{y v:V}{u r:Value}{o:Option V}{A:Around}{E:Value->iD->Prop}
theorem Inv.big(I:Inv X mU σ H s):jq<s.heap.objs.size:=by
 have h:iM<s.heap.objs.size:=(I.mod.glob.keeps I.bk).lt;exact Nat.lt_trans (by decide) h
theorem Iw{Q:Value->iD->Prop}(hu:A.units+1<iX) (I:Inv X mU σ H s) (g:zV H a y (some v)) (ry:oX y u) (h:∀w' s',Inv X mU σ H s'->oX v w'->Q w' s') :
  iI (iG X.prog X.w) A (kX (.ref a) u) Q E s:=by
 rcases g with ⟨kvs,k,e,ey,l⟩|⟨kvs,k,b,e,ey,eb,l⟩
 .subst ey;obtain⟨z,hd,vs,rel,dd⟩:=EG I.hok e;obtain⟨w',hw,rw'⟩:=zB.some_of (v:=v) (o:=kz vs k) (by rw[l];exact rel.val k)
  exact wpAny_getItem_of (Ej ry) dd.mapOf hw (h w' _ (I.tok _) rw')
 .subst ey;cases (show u=ao b from ry)
  obtain⟨z,hd,xs,rel,dd⟩:=ET I.hok e;obtain⟨w',hw,rw'⟩:=zB.some_of (v:=v) (o:=(kK xs k).map (·.2)) (by rw[l];exact rel.val k)
  obtain⟨p,hp,hp2⟩:=oMq.mp hw;refine wpAny_getItem_heap (kj hu) (Dv I.hok eb) dd hp ?_;rw[hp2];exact h w' _ (I.tok _) rw'
theorem Nq{Q:Value->iD->Prop}(hu:A.units+1<iX) (I:Inv X mU σ H s) (g:zV H a y o) (ry:oX y u) (h:∀s',Inv X mU σ H s'->Q (.bool (!o.isSome)) s') :
  iI (iG X.prog X.w) A (jk .NotIn u (.ref a)) Q E s:=by
 rcases g with ⟨kvs,k,e,ey,l⟩|⟨kvs,k,b,e,ey,eb,l⟩
 .subst ey;obtain⟨z,hd,vs,rel,dd⟩:=EG I.hok e;refine wpAny_notIn_of (Ej ry) hd dd.mapOf ?_;rw[← (rel.val k).isSome_eq,←l];exact h _ (I.tok _)
 .subst ey;cases (show u=ao b from ry)
  obtain⟨z,hd,xs,rel,dd⟩:=ET I.hok e;refine wpAny_notIn_heap (kj hu) (Dv I.hok eb) hd dd ?_;have q:=(rel.val k).isSome_eq;rw[ed]at q;rw[←q,←l];exact h _ (I.tok _)
theorem De{h':Heap}{t':Nat}{ob:HO}(I:Inv X mU σ H s) (mu:Sj (H a)) (hs:fN a s.heap h') (he:∃q,h'.get? a=some q) (new:pL X.prog X.w (oK H a ob) h' a ob) :
  Inv X mU σ (oK H a ob) { s with heap:=h',toks:=t' } :=
 I.write (x:=a) (e:=a) mu (.inl rfl) (λb q hb z=>(hs.2 b hb).trans z) he new
theorem K4{P:iK}{w:iP}{H':Hp}{h':Heap}{kvs:List (nX×V)}{vs:List (nX×Value)}(z:kvs.length<=iN) (hd:(a == jq)=false) (rel:KV kvs vs) (dd:h'.DictOf (pW P w) a vs) :
  pL P w H' h' a (.dK kvs):=⟨z,hd,vs,rel,dd⟩
theorem IE{H':Hp}{Q:Unit->iD->Prop}(hu:A.units+1<iX) (I:Inv X mU σ H s) (g:JR H a y v H') (ry:oX y u) (rv:oX v r) (h:∀s',Inv X mU σ H' s'->Q () s') :
  iI (iG X.prog X.w) A (setItem (.ref a) u r) Q E s:=by
 rcases g with ⟨kvs,k,e,ey,l,eH⟩|⟨kvs,k,b,e,ey,eb,l,eH⟩
 .subst ey eH;obtain⟨z,hd,vs,rel,dd⟩:=OM I.hok e;have hz:vs.length<=iN:=by rw[←rel.length];exact z
  have hl:(wm kvs k v).length<=iN:=by have:=wB kvs k v;lia
  refine wpAny_setItem_pairs (hsz:=hz) (Ej ry) dd λh' dd' hs=>h _ ?_
  have he:∃q,h'.get? a=some q:=let ⟨q,_,_,hq,_⟩:=dd';⟨q,hq⟩
  exact De I (by rw[e];exact True.intro) hs he (K4 hl hd (rel.put k rv) dd')
 .subst ey eH;cases (show u=ao b from ry)
  obtain⟨z,hd,xs,rel,dd⟩:=RW I.hok e;have hz:xs.length<=iN:=by rw[←Paired.length rel];exact z
  have hl:(wm kvs k v).length<=iN:=by have:=wB kvs k v;lia
  refine wpAny_setItem_heap (hsz:=hz) (kj hu) (Dv I.hok eb) dd λh' dd' hs=>h _ ?_
  obtain⟨q,es,ep,hq,h2,h3,h4,_,h5⟩:=dd';refine De I (by rw[e];exact True.intro) hs ⟨q,hq⟩ ⟨hl,hd,_,(rel.put k eb rv).keeps λc ys ec=>?_,q,es,ep,hq,h2,h3,h4,h5⟩
  rw[nh (Rx ec e (λz=>nomatch z))]
  exact ec
end
def Sv(i:Expr):Prop:=∀ov iv,kO i false ov iv=operate [ov,iv] (kX ov iv)
theorem Ni{prog:iK}{w:iP}{A:Around}{E:Value->iD->Prop}{s:iD}{env:Env}{value slice:Expr}{pos:Pos}{T id:String}{Q:Value->iD->Prop}
  (hl:ja (.type T) "__getitem__" = pure (some (.builtin id))) (hs:Sv slice)
  (h:iI (iG prog w) A (eval value env) (λo s₁=>iI (iG prog w) A (eval slice env) (λi s₂=>s₂.TypeIs o T/\iI (iG prog w) A (kX o i) Q E s₂) E s₁) E s) :
  iI (iG prog w) A (eval (.Subscript value slice pos) env) Q E s:=by
 refine Subscript_ (iU h (λo s₁ h₁=>iU h₁ (λi s₂ h₂=>?_) λ_ _ x=>x) λ_ _ x=>x)
 obtain⟨hT,h₂⟩:=h₂;unfold ly;refine iF ?_;rw[getitemInPython_of_ne hT.not_modules];refine iF (wpAny_specialOf hT hl ?_);have fin:iI (iG prog w) A (kO slice false o i) (λr s₃=>iI (iG prog w) A (letTemporaryGo value o r >>= λ_=>pure r) Q E s₃) E s₂:=by
  rw[hs o i];exact wpAny_operating (iU h₂ (λr s₃ h₃=>iF (wpAny_letTemporaryGo (iO h₃))) λ_ _ x=>x)
 first
  |exact iO (iF fin)
  |exact iF (iO (iF fin))
  |exact iF fin
theorem D3{X:Cx}{mU:List (Addr×Obj)}{σ:St}{H:Hp}{s:iD}{a:Addr}{y:V}{o:Option V}(I:Inv X mU σ H s) (g:zV H a y o):s.TypeIs (.ref a) "dict" := by
 rcases g with ⟨kvs,k,e,_,_⟩|⟨kvs,k,b,e,_,_,_⟩
 .obtain ⟨_,_,vs,_,dd⟩:=EG I.hok e;exact dd.typeIs
 .obtain ⟨_,_,xs,_,dd⟩:=ET I.hok e;exact dd.typeIs
def OJ(td ty:TE):TE:=λσ H Q=>td σ H λx H1=>ty σ H1 λy H2=>∃a v,x = .ref a/\zV H2 a y (some v)/\Q v H2
def HL(ty td:TE):TE:=λσ H Q=>ty σ H λy H1=>td σ H1 λx H2=>∃a o,x = .ref a/\zV H2 a y o/\Q (.bl (!o.isSome)) H2
def OY(td ty tv:TE):TS:=λD σ H=>tv σ H λv H1=>td σ H1 λx H2=>ty σ H2 λy H3=>∃a H4,x = .ref a/\JR H3 a y v H4/\D.nx σ H4
section
variable {X:Cx}{o i e value:Expr}{pos pos' tpos:Pos}{td ty tv:TE}
theorem yl(hu:X.A.units+1<iX) (ho:PE X o td) (hi:PE X i ty) (hs:Sv i):PE X (.Subscript o i pos) (OJ td ty):=by
 intro mU s σ H Q I h;refine Ni PySem.F.slot_dict_getitem.lookup hs (qC (ho mU s σ H _ I h) λu s1 ⟨x,H1,I1,rx,q1⟩=>qC (hi mU s1 σ H1 _ I1 q1) λiv s2 ⟨y,H2,I2,ry,a,v,ex,g,q2⟩=>?_)
 subst ex;obtain rfl:u=ao a:=rx;exact⟨D3 I2 g,Iw hu I2 g ry λw' s3 I3 rw'=>⟨v,H2,I3,rw',q2⟩⟩
theorem wZ(hu:X.A.units+1<iX) (hi:PE X i ty) (ho:PE X o td):PC X .NotIn i o (HL ty td):=by
 intro mU s σ H Q I h;refine qC (hi mU s σ H _ I h) λiv s1 ⟨y,H1,I1,ry,q1⟩=>qC (ho mU s1 σ H1 _ I1 q1) λu s2 ⟨x,H2,I2,rx,a,ov,ex,g,q2⟩=>?_
 subst ex;obtain rfl:u=ao a:=rx;exact Nq hu I2 g ry λs3 I3=>⟨.bl (!ov.isSome),H2,I3,rfl,q2⟩
theorem xO(hu:X.A.units+1<iX) (ho:PE X o td) (hi:PE X i ty) (hv:PE X value tv) (hs:kJ value (some (.Subscript o i pos')) pos.line X.env=pure false) :
  PS X (.Assign [.Subscript o i pos'] value pos) (OY td ty tv):=by
 intro mU s σ H D I h;refine wpAny_Assign_Subscript (qC (hv mU s σ H _ I h) λr s1 ⟨v,H1,I1,rv,q1⟩=>qC (ho mU s1 σ H1 _ I1 q1) λu s2 ⟨x,H2,I2,rx,q2⟩=>qC (hi mU s2 σ H2 _ I2 q2) λiv s3 ⟨y,H3,I3,ry,a,H4,ex,g,q3⟩=>?_) hs
 subst ex;obtain rfl:u=ao a:=rx;exact IE hu I3 g ry rv λs4 I4=>⟨σ,H4,I4,q3⟩
end
theorem Fo{P:iK}{w:iP}{H:Hp}(h:Heap) (hb:jq<h.objs.size):pL P w H (h.push { cls:=.type "dict", data:=.dict #[] }) h.objs.size (.dK []) :=
 ⟨aW _,beq_eq_false_iff_ne.mpr (Ne.symm (aw hb)),[],.nil,Heap.DictOf.new h⟩
def Lv:TE:=λ_ H Q=>∀p,H p=none->Q (.ref p) (oK H p (.dK []))
section
variable {X:Cx}{pos:Pos}
theorem zU:PE X (.Dict [] [] pos) Lv:=λmU s σ H Q I h =>
 wpAny_Dict_empty ⟨.ref s.heap.objs.size,_,I.laid (a:=s.heap.objs.size) (o:=.dK []) (t':=s.toks) (λ_ _ q=>ae _ q) (af _) (Fo s.heap I.big),rfl,h _ (I.hok.fresh (af _))⟩
end
def Gc:List (TE×TE)->St->Hp->(List (V×V)->Hp->Prop)->Prop
 | [],_,H,Q=>Q [] H
 | (tk,tv)::r,σ,H,Q=>tk σ H λx H1=>tv σ H1 λy H2=>Gc r σ H2 λps H3=>Q ((x,y)::ps) H3
abbrev VV:List (V×V)->List (Value×Value)->Prop:=Paired λp q=>oX p.1 q.1/\oX p.2 q.2
def S6(X:Cx) (pos:Pos) (keys:List (Option Expr)) (values:List Expr) (trs:List (TE×TE)):Prop :=
 ∀(mU:List (Addr×Obj)) (s:iD) (σ:St) (H:Hp) (Q:List (V×V)->Hp->Prop),Inv X mU σ H s->Gc trs σ H Q ->
  iI (iG X.prog X.w) X.A (evalPairs (pairTrees keys values X.env pos)) (λvs s'=>∃ps H',Inv X mU σ H' s'/\VV ps vs/\Q ps H') X.xe s
theorem G5{X:Cx}{pos:Pos}:S6 X pos [] [] []:=λmU s σ H Q I h=>pairTrees_nil_walk ⟨[],H,I,.nil,h⟩
theorem DO{X:Cx}{pos:Pos}{k v:Expr}{ks:List (Option Expr)}{vs:List Expr}{tk tv:TE}{trs:List (TE×TE)}(hk:PE X k tk) (hv:PE X v tv) (hr:S6 X pos ks vs trs) :
  S6 X pos (some k::ks) (v::vs) ((tk,tv)::trs):=λmU s σ H Q I h =>
 pairTrees_cons_walk (qC (hk mU s σ H _ I h) λu s1 ⟨x,H1,I1,rx,q1⟩=>qC (hv mU s1 σ H1 _ I1 q1) λw2 s2 ⟨y,H2,I2,ry,q2⟩ =>
  qC (hr mU s2 σ H2 _ I2 q2) λws s3 ⟨ps,H3,I3,rel,q3⟩=>⟨(x,y)::ps,H3,I3,.cons ⟨rx,ry⟩ rel,q3⟩)
def yU(kvs more:List (nX×V)):List (nX×V):=more.foldl (λacc kv=>wm acc kv.1 kv.2) kvs
theorem KV.merge:∀{more:List (nX×V)}{rs:List (nX×Value)}{kvs:List (nX×V)}{vs:List (nX×Value)},KV more rs->KV kvs vs->KV (yU kvs more) (merged vs rs):=by
 intro more rs kvs vs r;unfold KV at r
 induction r generalizing kvs vs with
 |nil=>intro q;exact q
 | @cons p q ps qs h t ih =>
  intro r0;have e:KV (wm kvs p.1 p.2) (stored vs q.1 q.2):=by
   have:=r0.put p.1 h.2;rw[←h.1];exact this
  exact ih e
theorem xt:∀(more kvs:List (nX×V)),(yU kvs more).length<=kvs.length+more.length
 | [],kvs=>by show kvs.length<=kvs.length+0;lia
 |p::r,kvs=>by
  have h1:=xt r (wm kvs p.1 p.2);have h2:=wB kvs p.1 p.2;show (yU (wm kvs p.1 p.2) r).length<=_;rw[lCq];lia
theorem AK{P:iK}{w:iP}:∀{kvs:List (nX×V)}{ws:List (Value×Value)},VV (kvs.map λkv=>(kV kv.1,kv.2)) ws->∃rs,Carries (pW P w) ws rs/\KV kvs rs
 | [],_,r=>by rw[eX]at r;cases r;exact⟨[],True.intro,.nil⟩
 |p::kvs,_,r=>by
  rw[ak]at r;cases r with
  | @cons a b as bs h t =>
   obtain⟨rs,c,q⟩:=AK (P:=P) (w:=w) t;obtain⟨b1,b2⟩:=b;exact⟨(p.1,b2)::rs,⟨Ej h.1,rfl,c⟩,.cons ⟨rfl,h.2⟩ q⟩
def OA(trs:List (TE×TE)):TE:=λσ H Q=>∀p,H p=none->Gc trs σ (oK H p (.dK [])) λps H2=>H2 p=some (.dK [])/\∃kvs:List (nX×V),ps=kvs.map (λkv=>(kV kv.1,kv.2))/\kvs.length<=15/\Q (.ref p) (oK H2 p (.dK (yU [] kvs)))
theorem G9{X:Cx}{pos:Pos}{keys:List (Option Expr)}{values:List Expr}{trs:List (TE×TE)}(h:S6 X pos keys values trs) (hall:keys.all (·.isSome)=true) (hl:keys.length=values.length) (h0:keys≠[])
  (h15:keys.length<=15):PE X (.Dict keys values pos) (OA trs):=by
 intro mU s σ H Q I q;have hn:=I.hok.fresh (af s.heap.objs.size);have I1:=I.laid (a:=s.heap.objs.size) (o:=.dK []) (h':=s.heap.push { cls:=.type "dict", data:=.dict #[] }) (t':=s.toks) (λ_ _ q=>ae _ q) (af _) (Fo s.heap I.big)
 refine wpAny_Dict_walk (knd:=pW X.prog X.w) hall hl h0 h15 (qC (h mU _ σ _ _ I1 (q _ hn)) λws s2 ⟨ps,H2,I2,rel,e,kvs,ep,lk,q2⟩=>?_)
 subst ep;obtain⟨rs,c,rk⟩:=AK (P:=X.prog) (w:=X.w) rel;obtain⟨z,hd,vs0,r0,dd⟩:=OM I2.hok e;cases r0;refine⟨rs,c,dd,λh' dd' hs=>⟨.ref s.heap.objs.size,_,?_,rfl,q2⟩⟩
 have hz:(yU [] kvs).length<=iN:=by
  have h1:=xt kvs [];rw[bC]at h1;rw[iY];lia
 have he:∃q,h'.get? s.heap.objs.size=some q:=let ⟨q,_,_,hq,_⟩:=dd';⟨q,hq⟩
 exact De I2 (by rw[e];exact True.intro) hs he (K4 hz hd (rk.merge .nil) dd')
def Vl(H:Hp) (a:Addr):Prop:=(∃kvs,Rd H a (.dK kvs))∨∃kvs,Rd H a (.dT kvs)
theorem Qt{X:Cx}{mU:List (Addr×Obj)}{σ:St}{H:Hp}{s:iD}{a:Addr}(I:Inv X mU σ H s) (d:Vl H a) :
  s.TypeIs (.ref a) "dict" /\ (∀b,ao a = .ref b->∃ob,s.heap.get? b=some ob/\ob.dict=none)/\(a == jq)=false:=by
 rcases d with ⟨kvs,e⟩|⟨kvs,e⟩
 .obtain ⟨_,hd,vs,_,dd⟩:=EG I.hok e;refine⟨dd.typeIs,λb q=>?_,hd⟩
  cases q;obtain⟨ob,_,_,h1,h2,_⟩:=dd;exact⟨ob,h1,h2.2.1⟩
 .obtain ⟨_,hd,xs,_,dd⟩:=ET I.hok e;refine⟨dd.typeIs,λb q=>?_,hd⟩
  cases q;obtain⟨ob,_,_,h1,h2,_⟩:=dd;exact⟨ob,h1,h2.2.1⟩
end L2
namespace Att
open PySem PySem.W PySem.Calls PyProof.Rows
theorem zw{P:Params}{h:Heap}:∀(ns:List Int) (vs:List Value),WellAll P h vs (ns.map WData.int)->iW vs ns:=by
 intro ns
 induction ns with
 |nil =>
  intro vs w;rw[eX]at w;cases w;exact .nil
 |cons n ns ih =>
  intro vs w;rw[ak]at w;cases w with
  |cons a b =>
   cases a;exact .cons _ _ (ih _ b)
theorem IQ{l:OpenLaw}{n:Nat}(hn:l.most=some n) {P:Params}{h:Heap}{args:List WData}{vals:List Value}
  (hpre:l.row.toRowW.claim.pre args=true) (hwl:WellAll P h vals args) :
  ∃a vs ns,vals=[ao a]/\args=[WData.list (ns.map WData.int)]/\h.get? a=some { cls:=.type "list", data:=.seq vs.toArray }/\iW vs ns/\ns.length<=n:=by
 have hsh:WShape.hasAll [] args [.list .int]=true:=(pre_splitW hpre).1;have hc:l.pre.holds [] { args:=args }=true:=(pre_splitW hpre).2;obtain⟨d,r,rfl,h1,h2⟩:=hasAllW_cons hsh;obtain rfl:=hasAllW_nil h2;obtain⟨xs,rfl,h3⟩:=hasW_list h1;obtain⟨ns,rfl⟩:=items_int h3;have hlen:ns.length<=n:=by
  unfold OpenLaw.pre at hc;have h4:(WTm.not (.lt (.lit (.int (n:Int))) (.len (.arg 0)))).holds [] { args:=[.list (ns.map .int)] }=true:=by
   have h4:=(holds_andW hc).1;rw[hn]at h4;exact h4
  have h5:=condW_of h4 (w_not (w_lt w_lit (w_len_list (w_arg rfl))));rw[lMq]at h5;refine eF λq=>?_
  have q':(n:Int)<((ns.length:Nat):Int):=by lia
  first
   | (rw[decide_eq_true q']at h5;exact absurd h5 (by decide))
   | (simp at h5;lia)
 cases hwl with
 |cons w1 w2 =>
  cases w2;cases w1 with
  |list ho hall=>exact⟨_,_,ns,rfl,rfl,ho,zw ns _ hall,hlen⟩
theorem Ig(l:OpenLaw) (args:List WData):l.row.toRowW.claim.post args (.bool true) args=true :=
 postW_of (r:=l.row.toRowW) (X:=(true == true))
  (show WShape.has [] (.bool true) .bool=true by first|rfl|decide|simp[WShape.has,WShape.arms,WShape.armsAll])
  (show (WTm.eq .res (.lit (.bool true))).value [] { args:=args,res:=some (.bool true),after:=args }=some (.bool (true == true)) from w_eq_bool (w_res rfl) w_lit) rfl
theorem Fv{l:OpenLaw}{n:Nat}{q:iK}{loose:List Str}{XP:(Str->Option Value)->Heap->Prop}{YP:iP->Heap->Prop}{d:DefRec}
  (hn:l.most=some n) (hdf:d.params.defaults=[])
  (call:∀(w:iP) (s₀ s₁:iD) (mg mb:Str->Option Value) (fa:Addr) (o:Obj) (pm cd doc:Value) (a:Addr) (vs:List Value) (ns:List Int),
   Ground q loose [] XP w s₀ mg mb s₁.heap->YP w s₁.heap ->
   s₁.heap.get? fa=some o->o.data = .func (docDef d.name d.params d.body d.scope pm cd doc)->s₁.heap.CodeRec cd d.name->mg d.name=some (.ref fa) ->
   s₁.heap.get? a=some { cls:=.type "list", data:=.seq vs.toArray }->iW vs ns->ns.length<=n->s₁.gens=#[] ->
   jU (iG l.prog w) kA (.call (.ref fa) ⟨[.ref a],[]⟩) (λr s'=>r = .ok (.ret (.bool true))/\OldK s₁.heap s'.heap/\s'.os=s₁.os/\jM s'.gens) s₁) :
  WalkO q loose XP YP l.row.toRowW d [] (λf vs=>PySem.call f vs):=by
 intro w s₀ s₁ mg mb G Y fa o pm cd doc dV kV ho hd hcd hD hmg hg args vals as hpre hlay hrd hwl hlo;obtain rfl:dV = .none:=Dflts.none hD hdf;obtain rfl:kV = .none:=Dflts.noKw hD;obtain⟨a,vs,ns,rfl,rfl,hobj,hints,hlen⟩:=IQ hn hpre hwl;refine enter_call (kE (call w s₀ s₁ mg mb fa o pm cd doc a vs ns G Y ho (fd_plain hd) hcd hmg hobj hints hlen hg) λr s' hq=>?_)
 obtain⟨rfl,h2,h3,h4⟩:=hq;exact⟨.inl ⟨.bool true,.bool true,[],rfl,λ_=>rfl,.bool true,Ig l _,λ_=>⟨bI.nil,λ_ hm=>(nomatch hm)⟩⟩,h2,h3,h4⟩
end Att
namespace L2
open PySem PySem.Spec PyProof.Rows
theorem vals_ints:∀{vs:List Value}{ns:List Int},iW vs ns->ou (ns.map V.int) vs
 |_,_,.nil=>.nil
 |_,_,.cons n t h=>.cons ⟨t,rfl⟩ (vals_ints h)
def Qa(H:Hp):Prop:=∀b,H b=none∨∃o xs,H b=some (.frz o (.lst xs))
theorem Km{P:iK}{w:iP}{K:W.Frag}{mg mb:Str->Option Value}{CX:Jx}{k:Nat}{fa a:Addr}{fd:iT}{x:Str}{sp:Sp}{s₁:iD}{vs:List Value}{ns:List Int}
  (KX:K.In s₁.heap) (hns:s₁.heap.Ns iM mg) (hb:s₁.heap.Ns builtinsNs mb) (hbb:∀x:Str,x ≠ "__name__" -> mb x=jK x) (hlim:s₁.heap.NoLimit) (hg:s₁.gens=#[])
  (ha:s₁.heap.get? a=some { cls:=.type "list", data:=.seq vs.toArray }) (hi:iW vs ns) (hl:ns.length<=iN) (hr:sk k kA)
  (F:∀base:Heap,K.In base->base.Ns iM mg->xC P w K mg base CX k fa fd [x] sp) (hbind:∀(s:iD) (u:Value),kY s fd ⟨[u],[]⟩ [(x,u)])
  (hsp:∀H:Hp,Qa H->qJ K H a (ns.map V.int)->sp [.ref a] H (λv _=>v = .bl true) λ_ _ _=>False)
  (hCX:∀H e s',CX [] H s₁ (λ_ _ _=>False) e s'->False) :
  jU (iG P w) kA (.call (.ref fa) ⟨[.ref a],[]⟩) (λr s'=>r = .ok (.ret (.bool true))/\OldK s₁.heap s'.heap/\s'.os=s₁.os/\jM s'.gens) s₁:=by
 have rv:=vals_ints hi;have lenV:=hi.length;have core:∀H:Hp,Qa H->qJ K H a (ns.map V.int)->wH P w H s₁.heap->(∀b,H b≠none->b=a)->(H a≠none->K.lookup a=none) ->
   jU (iG P w) kA (.call (.ref fa) ⟨[.ref a],[]⟩) (λr s'=>r = .ok (.ret (.bool true))/\OldK s₁.heap s'.heap/\s'.os=s₁.os/\jM s'.gens) s₁:=by
  intro H hO hS hok hA hK;have base_of:∀{b:Addr}{o:Obj},s₁.heap.get? b=some o->H b=none->(CC s₁.heap H).get? b=some o:=λe n=>JB e n
  have noA:∀{b:Addr}{o:Obj}{es:Array DictEntry}{ep:Nat},s₁.heap.get? b=some o->o.data = .dict es ep->H b=none:=λ{b o es ep} e d=>by
   cases q:H b with
   |none=>rfl
   |some u =>
    have e':b=a:=hA b (by rw[q];simp)
    subst e';rw[ha]at e;cases e;have d':Data.seq vs.toArray _=Data.dict es ep:=d;cases d'
  have nsK:∀{b:Addr}{m:Str->Option Value},s₁.heap.Ns b m->(CC s₁.heap H).Ns b m:=λ{b m} ⟨o,es,ep,e,d,r⟩=>⟨o,es,ep,base_of e (noA e d),d,r⟩
  have hKb:K.In (CC s₁.heap H):=λb o e=>base_of (KX b o e) (by
   cases q:H b with
   |none=>rfl
   |some u =>
    have e':b=a:=hA b (by rw[q];simp)
    subst e';rw[hK (by rw[q];simp)]at e;cases e)
  have hM:Mod K mg (CC s₁.heap H):=⟨hKb,nsK hns,⟨mb,nsK hb,hbb⟩,let ⟨mc,h1,h2⟩:=hlim;⟨mc,nsK h1,h2⟩⟩
  have e0:FI P w K mg (CC s₁.heap H) kA [] s₁ H:=⟨rfl,hM,λb o e=>M3 e,dR (IW _ _),trivial,λb hb=>absurd (show b∈([]:List Addr) from hb) (by simp),hok,.of_eq hg⟩
  refine kE ((F _ hKb (nsK hns)).run kA [] s₁ H ⟨[.ref a],[]⟩ [.ref a] [.ref a] _ _ hr e0 (hbind s₁ (.ref a)) (.cons rfl .nil) (hsp H hO hS)) λr s' h=>?_
  cases r with
  |error e=>exact(hCX H e s' h).elim
  |ok fl =>
   cases fl with
   |next=>exact False.elim h
   |brk=>exact False.elim h
   |cont=>exact False.elim h
   |ret u =>
    obtain⟨v,H',os,bare,un,hok',r',q⟩:=h;have q':v = .bl true:=q;subst q';obtain rfl:u=hX true:=r';refine⟨rfl,OldK.of_keep λb o e=>?_,os,bare⟩
    cases q:H b with
    |none=>exact un.keep b o e q (by intro z;exact absurd (show b∈([]:List Addr) from z) (by simp)) (by simp)
    |some u =>
     rcases hO b with z|⟨ob,xs,z⟩
     .rw [q]at z;cases z
     .have z2:=un.frzs b ob _ z;obtain⟨e1,_⟩:=hok b _ z;obtain⟨e2,_⟩:=hok' b _ z2;rw[e]at e1;cases e1;exact e2
 cases hk:K.lookup a with
 |some o =>
  have e:=KX a o hk;rw[ha]at e;cases e;refine core (λ_=>none) (λ_=>.inl rfl) (.inr ⟨_,vs.toArray,_,hk,rfl,rfl,rfl,by rw[az,lenV];exact hl,by simpa using rv⟩) (λb u z=>by have z':(none:Option HO)=some u:=z;cases z') (λb z=>absurd rfl z) λz=>absurd rfl z
 |none =>
  refine core (λb=>if b=a then some (.frz { cls:=.type "list", data:=.seq vs.toArray } (.lst (ns.map V.int))) else none) (λb=>?_) (.inl (.inr ⟨{ cls:=.type "list", data:=.seq vs.toArray },nK rfl⟩)) (λb u z=>?_) (λb z=>?_) λ_=>hk
  .by_cases hb:b=a
   .exact .inr ⟨_,_,nK hb⟩
   .exact .inl (nS hb)
  .by_cases hb:b=a
   .have z':=(nK hb).symm.trans z;cases z';subst hb;exact⟨ha,by rw[lMq];exact hl,vs,_,rv,ha⟩
   .have z':=(nS hb).symm.trans z;cases z'
  .by_cases hb:b=a
   .exact hb
   .exact absurd (nS hb) z
theorem Np{l:W.OpenLaw}{n k:Nat}{q:iK}{loose:List Str}{XP:(Str->Option Value)->Heap->Prop}{YP:iP->Heap->Prop}{d:DefRec}{K:Params->W.Frag}{CX:iP->Jx}{sp:iP->Sp}{x:Str}
  (hn:l.most=some n) (hn2:n<=iN) (hdf:d.params.defaults=[]) (hr:sk k kA)
  (hY:∀(w:iP) (h:Heap),YP w h->(K w.params).In h)
  (F:∀(w:iP) (mg:Str->Option Value) (fa:Addr) (h:Heap),(K w.params).In h->h.Ns iM mg->mg d.name=some (.ref fa) ->
   ∃fd:iT,(∀(s:iD) (u:Value),kY s fd ⟨[u],[]⟩ [(x,u)]) /\
    ∀base:Heap,(K w.params).In base->base.Ns iM mg->xC l.prog w (K w.params) mg base (CX w) k fa fd [x] (sp w))
  (hsp:∀(w:iP) (H:Hp) (a:Addr) (ns:List Int),ns.length<=n->Qa H->qJ (K w.params) H a (ns.map V.int)->sp w [.ref a] H (λv _=>v = .bl true) λ_ _ _=>False)
  (hCX:∀(w:iP) (H:Hp) (s:iD) (e:Value) (s':iD),CX w [] H s (λ_ _ _=>False) e s'->False) :
  W.WalkO q loose XP YP l.row.toRowW d [] (λf vs=>PySem.call f vs):=by
 refine Att.Fv hn hdf λw s₀ s₁ mg mb fa o pm cd doc a vs ns G Y ho hd hcd hmg hobj hints hlen hg=>?_
 have KX:=hY w _ Y;obtain⟨fd,hb,hF⟩:=F w mg fa _ KX G.T.g hmg;exact Km KX G.T.g G.T.b G.T.builtins G.T.nolimit hg hobj hints (br hlen hn2) hr hF hb (λH hO hS=>hsp w H a ns hlen hO hS) λH e s'=>hCX w H s₁ e s'
def tj(s:Stmt):Arguments:=match s with
 | .FunctionDef _ a _ _ _ _ _ _ _ _=>a
 |_=>{ posonlyargs:=[],args:=[],vararg:=none,kwonlyargs:=[],kw_defaults:=[],kwarg:=none,defaults:=[] }
def rJ(s:Stmt):List Stmt:=match s with
 | .FunctionDef _ _ b _ _ _ _ _ _ _=>b
 |_=>[]
def nD(s:Stmt):jJ:=match s with
 | .FunctionDef _ _ _ _ _ _ sc _ _ _=>sc
 |_=>{ kind:=.function,names:=[],isGenerator:=false,isCoroutine:=false }
abbrev Os:Jx:=λ_ _ _ _ _ _=>False
abbrev E0:XK:=λ_ _ _=>False
theorem Sd{X:Cx}:yR Os X E0:=λ_ _ _ _ _ _ _ h=>h.elim
structure Mm (K:W.Frag) (x qual:Str) (st:Stmt) (f:Addr) (fd:iT):Prop where
 ex:∃(oc:Value) (od:Option Addr) (kV doc pm:Value) (an:Option Addr) (sI ct:Value) (osl:Array (Option Value)),
  fd=W.fnOf x qual (tj st) (rJ st) (nD st) .none kV doc pm an sI ct/\K.lookup f=some ⟨oc,od,.func fd,osl⟩/\W.codeIn K sI qual=true
 kp:W.keepIn K (.ref f)=true
section
variable {P:iK}{w:iP}{K:W.Frag}{mg:Str->Option Value}{base:Heap}
theorem Mm.ok{x qual:Str}{st:Stmt}{f:Addr}{fd:iT}{N ps:List Str}{k:Nat}{sp:Sp}(F:Mm K x qual st f fd) (S:oE N ps (nD st)) (len:∀vs H Q E,sp vs H Q E->vs.length=ps.length)
  (hbody:∀(sI:Value) (A:Around) (outer:List Env) (s:iD) (H:Hp) (vs:List V) (Q:VK) (E:XK),sk k (A.deeper (jo qual (nD st) s.heap.objs.size f sI))->sp vs H Q E ->
   ∃t,HP (Ds Os P w K mg base N qual (nD st) f sI A outer s H E).nox (rJ st) t/\t { nx:=λ_ H'=>Q .non H',rt:=Q } (ud N vs) H):xC P w K mg base Os (k+1) f fd ps sp:=by
 obtain⟨oc,od,kV,doc,pm,an,sI,ct,osl,rfl,lk,hcd⟩:=F.ex;refine OI lk hcd S len λA outer s H vs Q E hr hsp=>?_
 obtain⟨t,h,q⟩:=hbody sI A outer s H vs Q E hr hsp;exact⟨t,h.nox,q⟩
theorem Mm.binds{x qual:Str}{st:Stmt}{f:Addr}{fd:iT}{ps:List Str}(F:Mm K x qual st f fd)
  (h:∀(kV doc pm:Value) (an:Option Addr) (sI ct:Value) (us:List Value),us.length=ps.length->bindArgs (W.fnOf x qual (tj st) (rJ st) (nD st) .none kV doc pm an sI ct) ⟨us,[]⟩=pure (ps.zip us)):vU K fd ps []:=by
 obtain⟨oc,od,kV,doc,pm,an,sI,ct,osl,rfl,lk,hcd⟩:=F.ex;exact .all (h kV doc pm an sI ct)
theorem Bp{x qual:Str}{st:Stmt}{f:Addr}{oc:Value}{od an:Option Addr}{osl:Array (Option Value)}{kV doc pm sI ct:Value}(l:K.lookup f=some ⟨oc,od,.func (W.fnOf x qual (tj st) (rJ st) (nD st) .none kV doc pm an sI ct),osl⟩)
  (c:W.codeIn K sI qual=true) (k:W.keepIn K (.ref f)=true):Mm K x qual st f (W.fnOf x qual (tj st) (rJ st) (nD st) .none kV doc pm an sI ct):=⟨⟨oc,od,kV,doc,pm,an,sI,ct,osl,rfl,l,c⟩,k⟩
end
theorem uy{A:Around}{k:Nat}(hr:sk k A):A.units+1<iX:=Nat.lt_of_le_of_lt (Nat.add_le_add_left (by decide:1<=64) _) hr.units
section
variable {X:Cx}
theorem pv(i:Nat) {x:Str}{pos:Pos}(hN:X.N[i]?=some x:=by rfl) (hv:SU X.env.scope x:=by trivial) (hd:(x == ("__debug__" : Str))=false:=by decide)
  (hcd:(x == ("__classdict__" : Str))=false:=by decide):PE X (.Name x pos) (vo i):=PJ hN hv hd hcd
end
theorem FA{A B:Prop}(h:B):if false=true then A else B:=by
 rw[nS aO];exact h
theorem Gq{A B:Prop}(h:A):if true=true then A else B:=by
 rw[nK rfl];exact h
def nU(H H':Hp):Prop:=∀b o,H b=some o->H' b=some o
theorem nU.refl(H:Hp):nU H H:=λ_ _ h=>h
theorem nU.trans{H H1 H2:Hp}(a:nU H H1) (b:nU H1 H2):nU H H2:=λc o h=>b c o (a c o h)
theorem nU.free{H H':Hp}(e:nU H H') {l:Addr}(h:H' l=iA):H l=iA:=by
 cases q:H l with
 |none=>rfl
 |some o =>
  rw[e l o q]at h;cases h
theorem nU.seq{K:W.Frag}{H H':Hp}{a:Addr}{xs:List V}(e:nU H H') (h:qJ K H a xs):qJ K H' a xs:=by
 rcases h with (h|⟨o,h⟩)|h
 .exact .inl (.inl (e _ _ h))
 .exact .inl (.inr ⟨o,e _ _ h⟩)
 .exact .inr h
end L2
namespace Mr
def cell(ns:List Int) (k:Nat):Int:=ns.getD k 0
def pO(ns:List Int):Nat->Nat
 |0=>0
 |k+1=>if ns.getD k 0<ns.getD (pO ns k) 0 then k else pO ns k
def rot(ns:List Int) (i:Nat):List Int:=ns.drop i++ns.take i
def tF(ns:List Int):List Int:=rot ns (pO ns ns.length)
theorem vJ(ns:List Int):∀n,(0<n->pO ns n<n)/\(∀j,j<n->ns.getD (pO ns n) 0<=ns.getD j 0)/\(∀j,j<pO ns n->ns.getD (pO ns n) 0<ns.getD j 0)
 |0=>⟨λh=>absurd h (cf _),λj h=>absurd h (bW _),λj h=>absurd h (bW _)⟩
 |n+1=>by
  obtain⟨h1,h2,h3⟩:=vJ ns n;simp only[pO]
  by_cases c:ns.getD n 0<ns.getD (pO ns n) 0
  .rw [nK c];refine⟨λ_=>dw n,λj hj=>?_,λj hj=>?_⟩
   .rcases dN (gQ hj) with q|q
    .have:=h2 j q;lia
    .subst q;exact gg _
   .have:=h2 j hj;lia
  .rw [nS c];refine⟨λ_=>?_,λj hj=>?_,h3⟩
   .by_cases hn:0<n
    .exact bj (h1 hn)
    .have:n=0:=by lia
     subst this;exact dw 0
   .rcases dN (gQ hj) with q|q
    .exact h2 j q
    .subst q;lia
theorem FO(ns:List Int):pO ns ns.length<=ns.length:=by
 by_cases h:0<ns.length
 .exact bX ((vJ ns ns.length).1 h)
 .have:ns.length=0:=by lia
  rw[this];exact af 0
theorem zP{ns:List Int}{j:Nat}(h:j<ns.length):ns.getD j 0=ns[j]:=by
 rw[gDq,gEg h];rfl
theorem Em{ns:List Int}{M:Int}(hm:M∈ns) (hl:∀a,a∈ns->M<=a):ns.idxOf M=pO ns ns.length:=by
 have h0:0<ns.length:=eB hm;obtain⟨h1,h2,h3⟩:=vJ ns ns.length;have h1:=h1 h0;have hi:ns.idxOf M<ns.length:=dF.mpr hm;have e:ns.getD (ns.idxOf M) 0=M:=by rw[zP hi];exact gN hi
 have eL:ns.getD (pO ns ns.length) 0=M:=by
  have q1:=h2 _ hi;rw[e]at q1;have q2:=hl _ (by rw[zP h1];exact gRq h1:ns.getD (pO ns ns.length) 0∈ns)
  lia
 rcases gR (ns.idxOf M) (pO ns ns.length) with q|q|q
 .have:=h3 _ q;lia
 .exact q
 .exfalso;have:=List.not_of_lt_findIdx (p:=(· == M)) (xs:=ns) (i:=pO ns ns.length) (by simpa [List.idxOf] using q)
  rw[zP h1]at eL;simp[eL]at this
theorem A7:tF []=[]:=rfl
theorem FY(ns:List Int) (i:Nat):(rot ns i).length=ns.length:=by
 unfold rot;rw[lAq,aR,lTq];lia
theorem uG(ns:List Int):(tF ns).length=ns.length:=FY _ _
def step(ns:List Int):Int:=if 0<cell ns 0 % 3 then cell ns 0 % 10 ^ 40+1 else 1
theorem rot_perm(t:List Int) (i:Nat):(rot t i).Perm t:=by
 unfold rot;exact bR.trans (by rw[aZ])
theorem qg(t:List Int):(tF t).Perm t:=rot_perm t _
theorem vt{rs ts:List (List Int)}(h:rs.Perm ts):rs.flatten.Perm ts.flatten:=by
 induction h with
 |nil=>exact .refl _
 |cons x _ ih=>rw[fCq,fCq];exact bO.append (.refl x) ih
 |swap x y l =>
  rw[fCq,fCq,fCq,fCq,←aA,←aA];exact bO.append bR (.refl _)
 |trans _ _ a b=>exact a.trans b
theorem qe{f:List Int->List Int}(hf:∀r,(f r).Perm r):∀rs:List (List Int),(rs.map f).flatten.Perm rs.flatten
 | []=>.refl _
 |r::rs=>by
  rw[ak,fCq,fCq];exact bO.append (hf r) (qe hf rs)
theorem HF:∀t:Fin 66,∀d:Fin 67,0<d.val->(t.val+1)*d.val % 67≠0:=by decide +kernel
end Mr
namespace MrS
open PySem PyProof.Rows
def uH:Bool->iE->Array iE->Nat->Nat->Nat->StateT SortSt Sem (Option Nat):=sortPriv% PySem.Builtin.gallop
structure wc (prog:iK) (w:iP) (A:Around) (s:iD) (κ:iZ) (P:iE->Prop) (lt:iE->iE->Bool):Prop where
 ask:∀x y,P x->P y->∀(E:Value->iD->Prop) (Q:Bool->iD->Prop),Q (lt x y) s->iI (iG prog w) A (keyLt' κ x.1 y.1) Q E s
 asym:∀x y,P x->P y->lt x y=true->lt y x=false
 trans:∀x y z,P x->P y->P z->lt y x=false->lt z y=false->lt z x=false
section
variable {prog:iK}{w:iP}{A:Around}{E:Value->iD->Prop}{s:iD}{κ:iZ}{P:iE->Prop}{lt:iE->iE->Bool}
theorem wc.refl(C:wc prog w A s κ P lt) {x:iE}(hx:P x):lt x x=false:=by
 cases e:lt x x with
 |false=>rfl
 |true=>rw[←C.asym x x hx hx e,e]
theorem wc.cmp(C:wc prog w A s κ P lt) {x y:iE}{st:SortSt}{Q:Option Bool->SortSt->Prop}(hx:P x) (hy:P y) (hk:kindOf st=κ) (h:Q (some (lt x y)) st) :
  wpS (iG prog w) A E s (lt' x y) Q st:=by
 rw[lt'_eq];refine iH (jG ?_);rw[hk];refine iH (wpS_lift (wpAny_attempt (C.ask x y hx hy _ _ ⟨rfl,?_⟩)));exact iJ h
theorem oi{arr:Array iE}{i:Nat}{x:iE}{st:SortSt}{Q:iE->SortSt->Prop}(hx:arr[i]?=some x) (h:Q x st):wpS (iG prog w) A E s (jh arr i) Q st:=by
 rw[elem'_eq,hx];exact iJ h
theorem wc.at(C:wc prog w A s κ P lt) {i j:Nat}{x y:iE}{st:SortSt}{Q:Option Bool->SortSt->Prop}(hi:(iQ st)[i]?=some x) (hj:(iQ st)[j]?=some y) (hx:P x) (hy:P y) (hk:kindOf st=κ) (h:Q (some (lt x y)) st) :
  wpS (iG prog w) A E s (ltAt' i j) Q st:=by
 rw[ltAt'_eq];refine iH (jG ?_);exact iH (oi hi (iH (oi hj (C.cmp hx hy hk h))))
def vn(lt:iE->iE->Bool) (left:Bool) (key:iE) (arr:Array iE) (base i:Nat):Bool :=
 if left then lt (arr.getD (base+i) key) key else !lt key (arr.getD (base+i) key)
theorem Gu(left:Bool) (key:iE) (arr:Array iE) (base n hint:Nat):uH left key arr base n hint=(do
 let beyond (i:Nat):StateT SortSt Sem (Option Bool):=do
  let x ←jh arr (base+i)
  if left then lt' x key else return (←lt' key x).map (!·)
 let mut lastofs:=0
 let mut ofs:=1
 let mut lo:=0
 let mut hi:=0
 let some right ←beyond hint|return none
 if right then
  let maxofs:=n-hint
  for _ in [0:n] do
   if ofs ≥ maxofs then break
   let some more ←beyond (hint+ofs)|return none
   if !more then break
   lastofs:=ofs
   ofs:=2*ofs+1
  lo:=hint+lastofs+1
  hi:=hint+min ofs maxofs
 else
  let maxofs:=hint+1
  for _ in [0:n] do
   if ofs ≥ maxofs then break
   let some found ←beyond (hint-ofs)|return none
   if found then break
   lastofs:=ofs
   ofs:=2*ofs+1
  lo:=hint+1-min ofs maxofs
  hi:=hint-lastofs
 for _ in [0:n] do
  if lo ≥ hi then break
  let m:=lo+(hi-lo) / 2
  let some more ←beyond m|return none
  if more then lo:=m+1 else hi:=m
 return some hi):=rfl
theorem ur(C:wc prog w A s κ P lt) {left:Bool}{key:iE}{arr:Array iE}{base i:Nat}{st:SortSt}{Q:Option Bool->SortSt->Prop}(hi:base+i<arr.size) (ha:∀x,x∈arr->P x) (hkey:P key) (hk:kindOf st=κ)
  (h:Q (some (vn lt left key arr base i)) st):wpS (iG prog w) A E s (do
   let x ←jh arr (base+i)
   if left=true then lt' x key else do
    let __x ←lt' key x
    pure (__x.map (!·))) Q st:=by
 have e:arr[base+i]?=some arr[base+i]:=ag hi;have e2:arr.getD (base+i) key=arr[base+i]:=by simp[gB,hi]
 refine iH (oi e ?_);have hp:P arr[base+i]:=ha _ (aX hi);unfold vn at h;rw[e2]at h;cases left with
 |true =>
  rw[nK rfl]at h ⊢;exact C.cmp hp hkey hk h
 |false =>
  rw[nS (by decide)]at h ⊢
  exact iH (C.cmp hkey hp hk (iJ h))
theorem zb{left:Bool}{key:iE}{arr:Array iE}{base n lo hi:Nat}{st:SortSt}{f:Nat->Option (Option Nat)×Nat×Nat->StateT SortSt Sem (ForInStep (Option (Option Nat)×Nat×Nat))}
  (mono:∀i j,i<=j->j<n->vn lt left key arr base j=true->vn lt left key arr base i=true)
  (down:∀i j,i<=j->j<n->vn lt left key arr base i=false->vn lt left key arr base j=false)
  (hf:∀(i l u:Nat) (Q':ForInStep (Option (Option Nat)×Nat×Nat)->SortSt->Prop),u<=n->(u<=l->Q' (.done (none,l,u)) st)->(l<u->vn lt left key arr base (l+(u-l) / 2)=true->Q' (.yield (none,l+(u-l) / 2+1,u)) st) ->
   (l<u->vn lt left key arr base (l+(u-l) / 2)=false->Q' (.yield (none,l,l+(u-l) / 2)) st)->wpS (iG prog w) A E s (f i (none,l,u)) Q' st)
  (h1:lo<=hi) (h2:hi<=n) (h3:∀j,j<lo->vn lt left key arr base j=true) (h4:∀j,hi<=j->j<n->vn lt left key arr base j=false) :
  wpS (iG prog w) A E s (forIn [:n] ((none,lo,hi):Option (Option Nat)×Nat×Nat) f)
   (λc st'=>∃k,c=(none,k,k)/\st'=st/\k<=n/\(∀j,j<k->vn lt left key arr base j=true)/\(∀j,k<=j->j<n->vn lt left key arr base j=false)) st:=by
 refine jc
  (I:=λi c st'=>∃l u,c=(none,l,u)/\st'=st/\l<=u/\u<=n/\(∀j,j<l->vn lt left key arr base j=true)/\(∀j,u<=j->j<n->vn lt left key arr base j=false)/\(u-l)+i<=n)
  ?step ?fin ⟨lo,hi,rfl,rfl,h1,h2,h3,h4,by lia⟩
 case step =>
  rintro i c st' _ hi' ⟨l,u,rfl,rfl,a1,a2,a3,a4,a5⟩;refine hf i l u _ a2 (λc1=>?_) (λc1 e=>?_) (λc1 e=>?_)
  .have e:l=u:=by lia
   subst e;exact⟨l,rfl,rfl,a2,a3,a4⟩
  .exact ⟨_,u,rfl,rfl,by lia,a2,λj hj=>mono j _ (by lia) (by lia) e,a4,by lia⟩
  .exact ⟨l,_,rfl,rfl,by lia,by lia,a3,λj hj hn=>down _ j hj hn e,by lia⟩
 case fin =>
  rintro c st' ⟨l,u,rfl,rfl,a1,a2,a3,a4,a5⟩;have e:l=u:=by lia
  subst e;exact⟨l,rfl,rfl,a2,a3,a4⟩
theorem sR(C:wc prog w A s κ P lt) {left:Bool}{key:iE}{arr:Array iE}{base n hint:Nat}{st:SortSt}{Q:Option Nat->SortSt->Prop}(hh:hint<n) (hb:base+n<=arr.size) (ha:∀x,x∈arr->P x) (hkey:P key) (hk:kindOf st=κ)
  (mono:∀i j,i<=j->j<n->vn lt left key arr base j=true->vn lt left key arr base i=true)
  (h:∀k,k<=n->(∀j,j<k->vn lt left key arr base j=true)->(∀j,k<=j->j<n->vn lt left key arr base j=false)->Q (some k) st) :
  wpS (iG prog w) A E s (uH left key arr base n hint) Q st:=by
 have down:∀i j,i<=j->j<n->vn lt left key arr base i=false->vn lt left key arr base j=false:=λi j hij hj e=>by
  cases q:vn lt left key arr base j with
  |false=>rfl
  |true=>rw[mono i j hij hj q]at e;cases e
 rw[Gu];dsimp only;refine iH (ur C (base:=base) (i:=hint) (by lia) ha hkey hk ?_)
 cases er:vn lt left key arr base hint with
 |true =>
  dsimp only;rw[nK rfl];refine iH (jf (jc
   (I:=λi c st'=>∃l o,c=(none,l,o)/\st'=st/\l<o/\i+1<=o/\hint+l<n/\vn lt left key arr base (hint+l)=true)
   (Q:=λc st'=>∃l o,c=(none,l,o)/\st'=st/\l<o/\hint+l<n/\vn lt left key arr base (hint+l)=true/\(n-hint<=o∨(hint+o<n/\vn lt left key arr base (hint+o)=false)))
   ?step ?fin ⟨0,1,rfl,rfl,by lia,by lia,by lia,er⟩) ?post)
  case step =>
   rintro i c st' _ hi' ⟨l,o,rfl,rfl,a1,a2,a3,a4⟩;dsimp only
   by_cases c1:o ≥ n-hint
   .rw [nK c1];exact iJ ⟨l,o,rfl,rfl,a1,a3,a4,.inl c1⟩
   .rw [nS c1];refine iH (ur C (base:=base) (i:=hint+o) (by lia) ha hkey hk ?_)
    cases e:vn lt left key arr base (hint+o) with
    |true =>
     dsimp only;rw[nS (by decide)]
     exact iJ ⟨o,_,rfl,rfl,by lia,by lia,by lia,e⟩
    |false =>
     dsimp only;rw[nK (by decide)]
     exact iJ ⟨l,o,rfl,rfl,a1,a3,a4,.inr ⟨by lia,e⟩⟩
  case fin =>
   rintro c st' ⟨l,o,rfl,rfl,a1,a2,a3,a4⟩;exact⟨l,o,rfl,rfl,a1,a3,a4,.inl (by lia)⟩
  case post =>
   rintro c st' ⟨l,o,rfl,rfl,a1,a3,a4,a5⟩;dsimp only;refine iH (jf (zb (lt:=lt) (left:=left) (key:=key) (arr:=arr) (base:=base) mono down (λi l' u' Q' hu q1 q2 q3=>?_) (by lia) (by lia) (λj hj=>mono j _ (by lia) a3 a4) ?_) ?_)
   .dsimp only
    by_cases c1:l' ≥ u'
    .rw [nK c1];exact iJ (q1 c1)
    .rw [nS c1];refine iH (ur C (base:=base) (i:=l'+(u'-l') / 2) (by lia) ha hkey hk ?_)
     cases e:vn lt left key arr base (l'+(u'-l') / 2) with
     |true =>
      dsimp only;rw[nK rfl];exact iJ (q2 (by lia) e)
     |false =>
      dsimp only;rw[nS (by decide)]
      exact iJ (q3 (by lia) e)
   .intro j hj hn;rcases a5 with a5|⟨a5,a6⟩
    .lia
    .exact down (hint+o) j (by lia) hn a6
   .rintro c st' ⟨k,rfl,rfl,k1,k2,k3⟩;exact iJ (h k k1 k2 k3)
 |false =>
  dsimp only;rw[nS (by decide)]
  refine iH (jf (jc
   (I:=λi c st'=>∃l o,c=(none,l,o)/\st'=st/\l<o/\i+1<=o/\l<=hint/\vn lt left key arr base (hint-l)=false)
   (Q:=λc st'=>∃l o,c=(none,l,o)/\st'=st/\l<o/\l<=hint/\vn lt left key arr base (hint-l)=false/\(hint+1<=o∨(o<=hint/\vn lt left key arr base (hint-o)=true)))
   ?step ?fin ⟨0,1,rfl,rfl,by lia,by lia,by lia,er⟩) ?post)
  case step =>
   rintro i c st' _ hi' ⟨l,o,rfl,rfl,a1,a2,a3,a4⟩;dsimp only
   by_cases c1:o ≥ hint+1
   .rw [nK c1];exact iJ ⟨l,o,rfl,rfl,a1,a3,a4,.inl c1⟩
   .rw [nS c1];refine iH (ur C (base:=base) (i:=hint-o) (by lia) ha hkey hk ?_)
    cases e:vn lt left key arr base (hint-o) with
    |true =>
     dsimp only;rw[nK rfl];exact iJ ⟨l,o,rfl,rfl,a1,a3,a4,.inr ⟨by lia,e⟩⟩
    |false =>
     dsimp only;rw[nS (by decide)]
     exact iJ ⟨o,_,rfl,rfl,by lia,by lia,by lia,e⟩
  case fin =>
   rintro c st' ⟨l,o,rfl,rfl,a1,a2,a3,a4⟩;exact⟨l,o,rfl,rfl,a1,a3,a4,.inl (by lia)⟩
  case post =>
   rintro c st' ⟨l,o,rfl,rfl,a1,a3,a4,a5⟩;dsimp only;refine iH (jf (zb (lt:=lt) (left:=left) (key:=key) (arr:=arr) (base:=base) mono down (λi l' u' Q' hu q1 q2 q3=>?_) (by lia) (by lia) ?_ (λj hj hn=>down _ j hj hn a4)) ?_)
   .dsimp only
    by_cases c1:l' ≥ u'
    .rw [nK c1];exact iJ (q1 c1)
    .rw [nS c1];refine iH (ur C (base:=base) (i:=l'+(u'-l') / 2) (by lia) ha hkey hk ?_)
     cases e:vn lt left key arr base (l'+(u'-l') / 2) with
     |true =>
      dsimp only;rw[nK rfl];exact iJ (q2 (by lia) e)
     |false =>
      dsimp only;rw[nS (by decide)]
      exact iJ (q3 (by lia) e)
   .intro j hj;rcases a5 with a5|⟨a5,a6⟩
    .lia
    .exact mono j (hint-o) (by lia) (by lia) a6
   .rintro c st' ⟨k,rfl,rfl,k1,k2,k3⟩;exact iJ (h k k1 k2 k3)
end
abbrev vM(lt:iE->iE->Bool) (l:List iE):Prop:=l.Pairwise λx y=>lt y x=false
structure MI (lt:iE->iE->Bool) (a b out:Array iE) (ia ib:Nat):Prop where
 la:ia<=a.size
 lb:ib<=b.size
 pm:(out.toList++(a.toList.drop ia++b.toList.drop ib)).Perm (a.toList++b.toList)
 so:vM lt out.toList
 ua:∀x∈out.toList,∀y∈a.toList.drop ia,lt y x=false
 ub:∀x∈out.toList,∀y∈b.toList.drop ib,lt y x=false
section
variable {lt:iE->iE->Bool}{a b out out':Array iE}{ia ib k:Nat}
theorem MI.congr(m:MI lt a b out ia ib) (e:out'.toList=out.toList):MI lt a b out' ia ib:=⟨m.la,m.lb,by rw[e];exact m.pm,by rw[e];exact m.so,by rw[e];exact m.ua,by rw[e];exact m.ub⟩
theorem D4(l:List iE) (i k:Nat):l.drop i=(l.drop i).take k++l.drop (i+k):=by
 rw[←ij,aZ]
theorem vI(a:Array iE) (i k:Nat):(a.extract i (i+k)).toList=(a.toList.drop i).take k:=by
 rw[eO,dB,fO]
theorem MI.moreA(m:MI lt a b out ia ib) (sa:vM lt a.toList) (hk:ia+k<=a.size) (h:∀x∈(a.toList.drop ia).take k,∀y∈b.toList.drop ib,lt y x=false):MI lt a b (out++a.extract ia (ia+k)) (ia+k) ib:=by
 have e:(out++a.extract ia (ia+k)).toList=out.toList++(a.toList.drop ia).take k:=by rw[aG,vI]
 have sd:vM lt (a.toList.drop ia):=sa.sublist (bz _ _);have c:=D4 a.toList ia k;have sd2:=sd;rw[c]at sd2;obtain⟨q1,q2,q3⟩:=aB.mp sd2;refine⟨hk,m.lb,?_,?_,?_,?_⟩
 .rw [e,aA];refine(bO.append_left _ ?_).trans m.pm;rw[←aA,←c]
 .rw [e];exact aB.mpr ⟨m.so,q1,λx hx y hy=>m.ua x hx y (bp hy)⟩
 .rw [e];intro x hx y hy;rcases mAq.mp hx with hx|hx
  .exact m.ua x hx y (by rw[c];exact ar _ hy)
  .exact q3 x hx y hy
 .rw [e];intro x hx y hy;rcases mAq.mp hx with hx|hx
  .exact m.ub x hx y hy
  .exact h x hx y hy
theorem MI.moreB(m:MI lt a b out ia ib) (sb:vM lt b.toList) (hk:ib+k<=b.size) (h:∀x∈(b.toList.drop ib).take k,∀y∈a.toList.drop ia,lt y x=false):MI lt a b (out++b.extract ib (ib+k)) ia (ib+k):=by
 have e:(out++b.extract ib (ib+k)).toList=out.toList++(b.toList.drop ib).take k:=by rw[aG,vI]
 have sd:vM lt (b.toList.drop ib):=sb.sublist (bz _ _);have c:=D4 b.toList ib k;have sd2:=sd;rw[c]at sd2;obtain⟨q1,q2,q3⟩:=aB.mp sd2;refine⟨m.la,hk,?_,?_,?_,?_⟩
 .rw [e,aA];refine(bO.append_left _ ?_).trans m.pm;refine((List.perm_append_comm_assoc _ _ _).trans ?_);rw[←c]
 .rw [e];exact aB.mpr ⟨m.so,q1,λx hx y hy=>m.ub x hx y (bp hy)⟩
 .rw [e];intro x hx y hy;rcases mAq.mp hx with hx|hx
  .exact m.ua x hx y hy
  .exact h x hx y hy
 .rw [e];intro x hx y hy;rcases mAq.mp hx with hx|hx
  .exact m.ub x hx y (by rw[c];exact ar _ hy)
  .exact q3 x hx y hy
theorem vG{l:List iE}{i:Nat}{x:iE}(h:l[i]?=some x):(l.drop i).take 1=[x]:=by
 obtain⟨hi,e⟩:=gSq.mp h;rw[au hi,e];rfl
theorem MI.pushA{x:iE}(m:MI lt a b out ia ib) (sa:vM lt a.toList) (hx:a[ia]?=some x) (h:∀y∈b.toList.drop ib,lt y x=false):MI lt a b (out.push x) (ia+1) ib:=by
 have hi:ia<a.size:=(aF.mp hx).1;have hx':a.toList[ia]?=some x:=by rw[aC];exact hx
 refine(m.moreA sa (k:=1) hi λz hz y hy=>?_).congr ?_
 .rw [vG hx',mSq]at hz;rw[hz];exact h y hy
 .rw [de,aG,vI,vG hx']
theorem MI.pushB{x:iE}(m:MI lt a b out ia ib) (sb:vM lt b.toList) (hx:b[ib]?=some x) (h:∀y∈a.toList.drop ia,lt y x=false):MI lt a b (out.push x) ia (ib+1):=by
 have hi:ib<b.size:=(aF.mp hx).1;have hx':b.toList[ib]?=some x:=by rw[aC];exact hx
 refine(m.moreB sb (k:=1) hi λz hz y hy=>?_).congr ?_
 .rw [vG hx',mSq]at hz;rw[hz];exact h y hy
 .rw [de,aG,vI,vG hx']
structure Ml (lt:iE->iE->Bool) (a b r:Array iE):Prop where
 pm:r.toList.Perm (a.toList++b.toList)
 so:vM lt r.toList
theorem vh(a:Array iE) (i:Nat):(a.extract i a.size).toList=a.toList.drop i:=by
 rw[eO,dB];exact cW (by rw[aR,aq];exact af _)
theorem MI.endB(m:MI lt a b out ia ib) (sa:vM lt a.toList) (e:ib=b.size):Ml lt a b (out++a.extract ia a.size++b.extract ib b.size):=by
 have eb:b.toList.drop ib=[]:=by rw[e,←aq,dz]
 have et:(out++a.extract ia a.size++b.extract ib b.size).toList=out.toList++a.toList.drop ia:=by
  rw[aG,aG,vh,vh,eb,aNq]
 have pm:=m.pm;rw[eb,aNq]at pm;exact⟨by rw[et];exact pm,by rw[et];exact aB.mpr ⟨m.so,sa.sublist (bz _ _),m.ua⟩⟩
theorem MI.endA(m:MI lt a b out ia ib) (sb:vM lt b.toList) (e:ia=a.size):Ml lt a b (out++a.extract ia a.size++b.extract ib b.size):=by
 have ea:a.toList.drop ia=[]:=by rw[e,←aq,dz]
 have et:(out++a.extract ia a.size++b.extract ib b.size).toList=out.toList++b.toList.drop ib:=by
  rw[aG,aG,vh,vh,ea,aNq]
 have pm:=m.pm;rw[ea,fX]at pm;exact⟨by rw[et];exact pm,by rw[et];exact aB.mpr ⟨m.so,sb.sublist (bz _ _),m.ub⟩⟩
theorem MI.lastA(m:MI lt a b out ia ib) (sa:vM lt a.toList) (sb:vM lt b.toList) (h:∀x∈b.toList.drop ib,∀y∈a.toList.drop ia,lt y x=false):Ml lt a b (out++b.extract ib b.size++a.extract ia a.size):=by
 have et:(out++b.extract ib b.size++a.extract ia a.size).toList=out.toList++(b.toList.drop ib++a.toList.drop ia):=by
  rw[aG,aG,vh,vh,aA]
 refine⟨?_,?_⟩
 .rw [et];exact(bO.append_left _ bR).trans m.pm
 .rw [et];refine aB.mpr ⟨m.so,aB.mpr ⟨sb.sublist (bz _ _),sa.sublist (bz _ _),h⟩,λx hx y hy=>?_⟩
  rcases mAq.mp hy with hy|hy
  .exact m.ub x hx y hy
  .exact m.ua x hx y hy
end
def AU:Array iE->Array iE->StateT SortSt Sem (Array iE):=sortPriv% PySem.Builtin.mergeLo
def qA:Nat->StateT SortSt Sem Unit:=sortPriv% PySem.Builtin.setMinGallop
abbrev sg(st:SortSt) (g:Nat):SortSt:=SortSt.mk' (kindOf st) (iQ st) (ju st) g (failedOf st)
theorem yB(g:Nat):qA g=modify λst=>sg st g:=rfl
section
variable (a b:Array iE)
abbrev dn(o:Array iE) (i j:Nat):=o++a.extract i a.size++b.extract j b.size
abbrev lA(o:Array iE) (i j:Nat):=o++b.extract j b.size++a.extract i a.size
abbrev SF(α:Type):=ForInStep (Option (Array iE)×Array iE×Nat×Nat×α)
def Ul(o:Array iE) (i j m k l:Nat):StateT SortSt Sem (SF (Nat×Nat×Nat)):=do
 let x ←jh a i
 if i+1+1 == a.size then pure (.done (some (lA a b (o.push x) (i+1) j),o.push x,i+1,j,m,k,l))
 else if decide (k<7) && decide (l<7) then pure (.done (none,o.push x,i+1,j,m,k,l))
 else pure (.yield (none,o.push x,i+1,j,m,k,l))
def Tz(o:Array iE) (i j m k q:Nat):StateT SortSt Sem (SF (Nat×Nat×Nat)):=do
 let x ←jh b j
 if j+1 == b.size then pure (.done (some (dn a b (o.push x) i (j+1)),o.push x,i,j+1,m,k,q))
 else do
  let y ←jh a i
  match ←uH true y b (j+1) (b.size-(j+1)) 0 with
  |some l =>
   if l>0 then
    if j+1+l == b.size then pure (.done (some (dn a b (o.push x++b.extract (j+1) (j+1+l)) i (j+1+l)),o.push x++b.extract (j+1) (j+1+l),i,j+1+l,m,k,l))
    else Ul a b (o.push x++b.extract (j+1) (j+1+l)) i (j+1+l) m k l
   else Ul a b (o.push x) i (j+1) m k l
  |_=>pure (.done (some (dn a b (o.push x) i (j+1)),o.push x,i,j+1,m,k,q))
def TR(o:Array iE) (i j m p q:Nat):StateT SortSt Sem (SF (Nat×Nat×Nat)):=do
 qA m
 let x ←jh b j
 match ←uH false x a i (a.size-i) 0 with
 |some k =>
  if k>0 then
   if i+k+1 == a.size then pure (.done (some (lA a b (o++a.extract i (i+k)) (i+k) j),o++a.extract i (i+k),i+k,j,m,k,q))
   else if i+k == a.size then pure (.done (some (dn a b (o++a.extract i (i+k)) (i+k) j),o++a.extract i (i+k),i+k,j,m,k,q))
   else Tz a b (o++a.extract i (i+k)) (i+k) j m k q
  else Tz a b o i j m k q
 |_=>pure (.done (some (dn a b o i j),o,i,j,m,p,q))
def UO(m:Nat) (o:Array iE) (i j p q:Nat):StateT SortSt Sem (SF (Nat×Nat)):=do
 let y ←jh b j
 let x ←jh a i
 match ←lt' y x with
 |some c =>
  if c then do
   let z ←jh b j
   if j+1 == b.size then pure (.done (some (dn a b (o.push z) i (j+1)),o.push z,i,j+1,0,q+1))
   else if q+1 ≥ m then pure (.done (none,o.push z,i,j+1,0,q+1))
   else pure (.yield (none,o.push z,i,j+1,0,q+1))
  else do
   let z ←jh a i
   if i+1+1 == a.size then pure (.done (some (lA a b (o.push z) (i+1) j),o.push z,i+1,j,p+1,0))
   else if p+1 ≥ m then pure (.done (none,o.push z,i+1,j,p+1,0))
   else pure (.yield (none,o.push z,i+1,j,p+1,0))
 |_=>pure (.done (some (dn a b o i j),o,i,j,p,q))
def UR(o:Array iE) (i j m:Nat):StateT SortSt Sem (SF Nat):=do
 let r ←forIn [0:a.size+b.size] (none,o,i,j,0,0) λ_ s=>UO a b m s.2.1 s.2.2.1 s.2.2.2.1 s.2.2.2.2.1 s.2.2.2.2.2
 Break.runK.match_1 (λ_=>StateT SortSt Sem (SF Nat)) r.1 (λv=>pure (.done (some v,r.2.1,r.2.2.1,r.2.2.2.1,m))) λ_=>do
  rule "list.sort.gallop"
  let r ←forIn [0:a.size+b.size] (none,r.2.1,r.2.2.1,r.2.2.2.1,m+1,r.2.2.2.2.1,r.2.2.2.2.2) λ_ s=>if s.2.2.2.2.1>1 then TR a b s.2.1 s.2.2.1 s.2.2.2.1 (s.2.2.2.2.1-1) s.2.2.2.2.2.1 s.2.2.2.2.2.2 else TR a b s.2.1 s.2.2.1 s.2.2.2.1 s.2.2.2.2.1 s.2.2.2.2.2.1 s.2.2.2.2.2.2
  Break.runK.match_1 (λ_=>StateT SortSt Sem (SF Nat)) r.1 (λv=>pure (.done (some v,r.2.1,r.2.2.1,r.2.2.2.1,r.2.2.2.2.1))) λ_=>do
   qA (r.2.2.2.2.1+1)
   pure (.yield (none,r.2.1,r.2.2.1,r.2.2.2.1,r.2.2.2.2.1+1))
theorem Ei:AU a b=(do
 rule "list.sort.merge-lo"
 let x ←jh b 0
 if 1 == b.size then pure (dn a b #[x] 0 1)
 else if 0+1 == a.size then pure (lA a b #[x] 0 1)
 else do
  let st ←get
  let r ←forIn [0:a.size+b.size] (none,#[x],0,1,jS st) λ_ s=>UR a b s.2.1 s.2.2.1 s.2.2.2.1 s.2.2.2.2
  Break.runK.match_1 (λ_=>StateT SortSt Sem (Array iE)) r.1 (λv=>pure v) λ_=>jN "internal:list.sort.merge-bound"):=rfl
end
section
variable {prog:iK}{w:iP}{A:Around}{E:Value->iD->Prop}{s:iD}{κ:iZ}{P:iE->Prop}{lt:iE->iE->Bool}
theorem vz{g:Nat}{st:SortSt}{Q:Unit->SortSt->Prop}(h:Q () (sg st g)):wpS (iG prog w) A E s (qA g) Q st:=by
 rw[yB];exact jy h
theorem vd{x:String}{st:SortSt}{Q:Unit->SortSt->Prop}(h:Q () st):wpS (iG prog w) A E s (liftM (rule x):StateT SortSt Sem Unit) Q st:=wpS_lift (wpAny_rule ⟨rfl,h⟩)
theorem zO(C:wc prog w A s κ P lt) {a:Array iE}{i:Nat}{x:iE}(ha:∀x,x∈a->P x) (sa:vM lt a.toList) (hx:a[i]?=some x):∀y∈a.toList.drop i,lt y x=false:=by
 obtain⟨hi,e⟩:=aF.mp hx;have hi':i<a.toList.length:=by simpa using hi
 have e':a.toList[i]=x:=by simpa using e
 have sd:vM lt (a.toList.drop i):=sa.sublist (bz _ _);rw[au hi',e']at sd ⊢;intro y hy;rcases aj.mp hy with rfl|hy
 .exact C.refl (ha _ (by rw[←e];exact aX hi))
 .exact (dO.mp sd).1 y hy
theorem uj{a:Array iE}{i:Nat}{y:iE}(h:y∈a.toList.drop i):y∈a:=by simpa using ba h
theorem xN(C:wc prog w A s κ P lt) {left:Bool}{key:iE}{arr:Array iE}{base n:Nat}(hb:base+n<=arr.size) (ha:∀x,x∈arr->P x) (hkey:P key) (so:vM lt (arr.toList.drop base)) :
  ∀i j,i<=j->j<n->vn lt left key arr base j=true->vn lt left key arr base i=true:=by
 intro i j hij hj h;have hi':base+i<arr.size:=by lia
 have hj':base+j<arr.size:=by lia
 have ei:arr.getD (base+i) key=arr[base+i]:=by simp[gB,hi']
 have ej:arr.getD (base+j) key=arr[base+j]:=by simp[gB,hj']
 have pi:=ha _ (aX hi');have pj:=ha _ (aX hj');have le:lt arr[base+j] arr[base+i]=false:=by
  rcases dN hij with q|q
  .have:=bJ.mp so i j (by simp;lia) (by simp;lia) q
   simpa using this
  .subst q;exact C.refl pi
 unfold vn at h ⊢;rw[ei];rw[ej]at h;cases left with
 |true =>
  rw[nK rfl]at h ⊢;cases q:lt arr[base+i] key with
  |true=>rfl
  |false =>
   have:=C.trans key arr[base+i] arr[base+j] hkey pi pj q le;rw[h]at this;cases this
 |false =>
  rw[nS (by decide)]at h ⊢
  have h':lt key arr[base+j]=false:=by simpa using h
  have:=C.trans arr[base+i] arr[base+j] key pi pj hkey le h';simp[this]
theorem sr{left:Bool}{key x:iE}{arr:Array iE}{base i:Nat}(hx:arr[base+i]?=some x):vn lt left key arr base i=if left then lt x key else !lt key x:=by
 obtain⟨hi,e⟩:=aF.mp hx;unfold vn;have ei:arr.getD (base+i) key=x:=by simp[gB,hi,e]
 rw[ei]
theorem uJ{a:Array iE}{i k:Nat}{x:iE}(h:x∈(a.toList.drop i).take k):∃j,j<k/\a[i+j]?=some x:=by
 obtain⟨j,hj,e⟩:=bB.mp h;rw[lTq]at hj;refine⟨j,by lia,?_⟩
 rw[fv,ee]at e;rw[aF];have hs:i+j<a.size:=by
  rw[aR,aq]at hj;lia
 exact⟨hs,by simpa using e⟩
theorem wg{a:Array iE}{i:Nat}{x:iE}(h:x∈a.toList.drop i):∃j,i+j<a.size/\a[i+j]?=some x:=by
 obtain⟨j,hj,e⟩:=bB.mp h;rw[aR,aq]at hj;have hs:i+j<a.size:=by lia
 refine⟨j,hs,?_⟩;rw[ee]at e;rw[aF];exact⟨hs,by simpa using e⟩
inductive Lp {ρ τ ι σ:Type}(t:ι->τ) (v:ι->σ) (J K:ι->Prop) (R:ρ->σ->Prop):ForInStep (Option ρ×τ)->σ->Prop
 |y (x):J x->Lp t v J K R (.yield (none,t x)) (v x)
 |d (x):K x->Lp t v J K R (.done (none,t x)) (v x)
 |r (a y st):R a st->Lp t v J K R (.done (some a,y)) st
theorem uW{M:jR}{ρ τ ι σ β:Type}{n:Nat}(t:ι->τ) (v:ι->σ) (J:Nat->ι->Prop) (K:ι->Prop) (R:ρ->σ->Prop) {f:Nat->Option ρ×τ->StateT σ Sem (ForInStep (Option ρ×τ))}{k:Option ρ×τ->StateT σ Sem β}{Q:β->σ->Prop}
  (x:ι) (h:J 0 x) (step:∀i x,J i x->wpS M A E s (f i (none,t x)) (Lp t v (J (i+1)) K R) (v x)) (fin:∀x,J n x->K x) (pn:∀x,K x->wpS M A E s (k (none,t x)) Q (v x)) (ps:∀r y st,R r st->wpS M A E s (k (some r,y)) Q st) :
  wpS M A E s (forIn [0:n] (none,t x) f >>= k) Q (v x):=by
 refine iH (jf (jc (I:=λi c st=>∃x,c=(none,t x)/\st=v x/\J i x) (Q:=λc st=>Lp t v K K R (.done c) st) ?_ ?_ ⟨x,rfl,rfl,h⟩) ?_)
 .rintro i c st _ _ ⟨x,rfl,rfl,h⟩;refine jf (step i x h) λr st' hr=>?_
  cases hr with
  |y x h=>exact⟨x,rfl,rfl,h⟩
  |d x h=>exact .d x h
  |r a y st h=>exact .r a y _ h
 .rintro c st ⟨x,rfl,rfl,h⟩;rw[gX (aW n)]at h;exact .d x (fin x h)
 .rintro c st h;cases h with
  |d x h=>exact pn x h
  |r a y st h=>exact ps a y _ h
structure Ls where
 o:Array iE
 (i j m p q g:Nat)
structure ML (lt:iE->iE->Bool) (a b:Array iE) (n:Nat) (x:Ls):Prop where
 m:MI lt a b x.o x.i x.j
 p:x.i+1<a.size
 q:x.j<b.size
 r:n<=x.i+x.j
structure Lo (prog:iK) (w:iP) (A:Around) (s:iD) (κ:iZ) (P:iE->Prop) (lt:iE->iE->Bool) (a b:Array iE) (st:SortSt) (Q:Array iE->SortSt->Prop):Prop where
 C:wc prog w A s κ P lt
 ha:∀x,x∈a->P x
 hb:∀x,x∈b->P x
 hk:kindOf st=κ
 sa:vM lt a.toList
 sb:vM lt b.toList
 h:∀r g,Ml lt a b r->Q r (sg st g)
abbrev L6(x:Ls):=(x.o,x.i,x.j,x.m,x.p,x.q)
abbrev L5(x:Ls):=(x.o,x.i,x.j,x.p,x.q)
abbrev L4(x:Ls):=(x.o,x.i,x.j,x.m)
variable {a b:Array iE}{st:SortSt}{Q:Array iE->SortSt->Prop}{n:Nat}{x:Ls}
abbrev Hl(lt:iE->iE->Bool) (a b:Array iE):=∀i,i+1=a.size->∀x∈b.toList,∀y∈a.toList.drop i,lt y x=false
theorem JA(H:Lo prog w A s κ P lt a b st Q) (hl:Hl lt a b) (q:ML lt a b n x) (hi:∀z,a[x.i]?=some z->∀y∈b.toList.drop x.j,lt y z=false) :
  wpS (iG prog w) A E s (Ul a b x.o x.i x.j x.m x.p x.q) (Lp L6 (λx=>sg st x.g) (ML lt a b n) (ML lt a b n) Q) (sg st x.g):=by
 have p1:=q.p;have ea:a[x.i]?=some a[x.i]:=ag (by lia)
 refine iH (oi ea ?_);have m6:=q.m.pushA H.sa ea (hi _ ea)
 by_cases d6:x.i+1+1=a.size
 .rw [nK (by simp[d6])]
  exact iJ (.r _ _ _ (H.h _ _ (m6.lastA H.sa H.sb λy hy=>hl _ d6 y (ba hy))))
 rw[nS (by simpa using d6)]
 have R:ML lt a b n ⟨_,_,_,x.m,x.p,x.q,x.g⟩:=⟨m6,by dsimp only;lia,q.q,by have:=q.r;dsimp only;lia⟩
 split
 .exact iJ (.d _ R)
 .exact iJ (.y _ R)
theorem LD(H:Lo prog w A s κ P lt a b st Q) (hl:Hl lt a b) (q:ML lt a b n x) (hi:∀z,b[x.j]?=some z->∀y∈a.toList.drop x.i,lt y z=false) :
  wpS (iG prog w) A E s (Tz a b x.o x.i x.j x.m x.p x.q) (Lp L6 (λx=>sg st x.g) (ML lt a b n) (ML lt a b n) Q) (sg st x.g):=by
 have p1:=q.p;have p2:=q.q;have p3:=q.r;have eb:b[x.j]?=some b[x.j]:=ag p2;refine iH (oi eb ?_);have m4:=q.m.pushB H.sb eb (hi _ eb)
 by_cases d3:x.j+1=b.size
 .rw [nK (by simp[d3])]
  exact iJ (.r _ _ _ (H.h _ _ (m4.endB H.sa d3)))
 rw[nS (by simpa using d3)]
 have ea:a[x.i]?=some a[x.i]:=ag (by lia)
 have pa:=H.ha _ (aX (show x.i<a.size by lia))
 refine iH (oi ea (iH (sR H.C (base:=x.j+1) (n:=b.size-(x.j+1)) (by lia) (by lia) H.hb pa H.hk (xN H.C (by lia) H.hb pa (H.sb.sublist (bz _ _))) λl l1 l2 l3=>?_)))
 have hB:∀z,a[x.i]?=some z->∀y∈b.toList.drop (x.j+1+l),lt y z=false:=λz hz y hy=>by
  obtain⟨j',hj',ey⟩:=wg hy;have q:=l3 (l+j') (by lia) (by lia)
  rw[sr (by rw[←eG];exact ey),nK rfl]at q
  rw[ea]at hz;cases hz;exact q
 dsimp only
 by_cases cl:l>0
 .rw [nK cl];have m5:=m4.moreB H.sb (k:=l) (by lia) λx hx y hy=>by
   obtain⟨j',hj',ex⟩:=uJ hx;have q:=l2 j' hj';rw[sr ex,nK rfl]at q;have px:=H.hb x (bp hx |> uj);exact H.C.trans _ _ _ px pa (H.ha _ (uj hy)) (H.C.asym _ _ px pa q) (zO H.C H.ha H.sa ea y hy)
  by_cases d5:x.j+1+l=b.size
  .rw [nK (by simp[d5])]
   exact iJ (.r _ _ _ (H.h _ _ (m5.endB H.sa d5)))
  rw[nS (by simpa using d5)]
  exact JA H hl (x:=⟨_,_,_,_,_,_,x.g⟩) ⟨m5,p1,by dsimp only;lia,by dsimp only;lia⟩ hB
 .rw [nS cl];exact JA H hl (x:=⟨_,_,_,_,_,_,x.g⟩) ⟨m4,p1,by dsimp only;lia,by dsimp only;lia⟩ (by rw[show x.j+1=x.j+1+l by lia];exact hB)
theorem Kg(H:Lo prog w A s κ P lt a b st Q) (hl:Hl lt a b) (q:ML lt a b n x) :
  wpS (iG prog w) A E s (TR a b x.o x.i x.j x.m x.p x.q) (Lp L6 (λx=>sg st x.g) (ML lt a b n) (ML lt a b n) Q) (sg st x.g):=by
 have p1:=q.p;have p2:=q.q;have p3:=q.r;have eb:b[x.j]?=some b[x.j]:=ag p2;have pb:=H.hb _ (aX p2);refine iH (vz (iH (oi eb (iH (sR H.C (base:=x.i) (n:=a.size-x.i) (by lia) (by lia) H.ha pb H.hk (xN H.C (by lia) H.ha pb (H.sa.sublist (bz _ _))) λk k1 k2 k3=>?_)))))
 have hA:∀z,b[x.j]?=some z->∀y∈a.toList.drop (x.i+k),lt y z=false:=λz hz y hy=>by
  obtain⟨j',hj',ey⟩:=wg hy;have q:=k3 (k+j') (by lia) (by lia)
  rw[sr (by rw[←eG];exact ey),nS (by decide)]at q
  rw[eb]at hz;cases hz;exact H.C.asym _ _ pb (H.ha _ (uj hy)) (by simpa using q)
 dsimp only
 by_cases ck:k>0
 .rw [nK ck];have m3:=q.m.moreA H.sa (k:=k) (by lia) λx hx y hy=>by
   obtain⟨j',hj',ex⟩:=uJ hx;have q:=k2 j' hj';rw[sr ex,nS (by decide)]at q
   exact H.C.trans _ _ _ (H.ha x (bp hx |> uj)) pb (H.hb _ (uj hy)) (by simpa using q) (zO H.C H.hb H.sb eb y hy)
  by_cases d1:x.i+k+1=a.size
  .rw [nK (by simp[d1])]
   exact iJ (.r _ _ _ (H.h _ x.m (m3.lastA H.sa H.sb λx hx=>hl _ d1 x (ba hx))))
  rw[nS (by simpa using d1)]
  by_cases d2:x.i+k=a.size
  .rw [nK (by simp[d2])]
   exact iJ (.r _ _ _ (H.h _ x.m (m3.endA H.sb d2)))
  rw[nS (by simpa using d2)]
  exact LD H hl (x:=⟨_,_,_,_,_,_,x.m⟩) ⟨m3,by dsimp only;lia,p2,by dsimp only;lia⟩ hA
 .rw [nS ck];exact LD H hl (x:=⟨_,_,_,_,_,_,x.m⟩) ⟨q.m,p1,p2,p3⟩ (by rw[show x.i=x.i+k by lia];exact hA)
theorem PZ(H:Lo prog w A s κ P lt a b st Q) (hl:Hl lt a b) {m j:Nat}(q:ML lt a b (n+j) x) :
  wpS (iG prog w) A E s (UO a b m x.o x.i x.j x.p x.q) (Lp L5 (λx=>sg st x.g) (ML lt a b (n+(j+1))) (ML lt a b (n+1)) Q) (sg st x.g):=by
 have p1:=q.p;have p2:=q.q;have p3:=q.r;have ea:a[x.i]?=some a[x.i]:=ag (by lia)
 have eb:b[x.j]?=some b[x.j]:=ag p2;have pa:=H.ha _ (aX (show x.i<a.size by lia))
 have pb:=H.hb _ (aX p2);refine iH (oi eb (iH (oi ea (iH (H.C.cmp pb pa H.hk ?_)))));cases e:lt b[x.j] a[x.i] with
 |true =>
  dsimp only;rw[nK rfl];refine iH (oi eb ?_);have m2:=q.m.pushB H.sb eb λz hz=>H.C.trans _ _ _ pb pa (H.ha _ (uj hz)) (H.C.asym _ _ pb pa e) (zO H.C H.ha H.sa ea z hz)
  by_cases d1:x.j+1=b.size
  .rw [nK (by simp[d1])]
   exact iJ (.r _ _ _ (H.h _ _ (m2.endB H.sa d1)))
  rw[nS (by simpa using d1)]
  have R:∀n,n<=x.i+(x.j+1)->ML lt a b n ⟨_,_,_,0,0,x.q+1,x.g⟩:=λn hn=>⟨m2,p1,by dsimp only;lia,hn⟩
  split
  .exact iJ (.d _ (R _ (by lia)))
  .exact iJ (.y _ (R _ (by lia)))
 |false =>
  dsimp only;rw[nS (by decide)]
  refine iH (oi ea ?_);have m2:=q.m.pushA H.sa ea λz hz=>H.C.trans _ _ _ pa pb (H.hb _ (uj hz)) e (zO H.C H.hb H.sb eb z hz)
  by_cases d1:x.i+1+1=a.size
  .rw [nK (by simp[d1])]
   exact iJ (.r _ _ _ (H.h _ _ (m2.lastA H.sa H.sb λx hx=>hl _ d1 x (ba hx))))
  rw[nS (by simpa using d1)]
  have R:∀n,n<=x.i+1+x.j->ML lt a b n ⟨_,_,_,0,x.p+1,0,x.g⟩:=λn hn=>⟨m2,by dsimp only;lia,p2,hn⟩
  split
  .exact iJ (.d _ (R _ (by lia)))
  .exact iJ (.y _ (R _ (by lia)))
theorem PQ(H:Lo prog w A s κ P lt a b st Q) (hl:Hl lt a b) (q:ML lt a b n x) :
  wpS (iG prog w) A E s (UR a b x.o x.i x.j x.m) (Lp L4 (λx=>sg st x.g) (ML lt a b (n+1)) (λ_=>False) Q) (sg st x.g):=by
 refine uW L5 (λx=>sg st x.g) (λj=>ML lt a b (n+j)) (ML lt a b (n+1)) Q ⟨x.o,x.i,x.j,0,0,0,x.g⟩ ⟨q.m,q.p,q.q,q.r⟩ (λj x q=>PZ H hl q) (λy h=>⟨h.m,h.p,h.q,by have:=h.r;have:=h.p;have:=h.q;lia⟩) (λy q=>?_) λr y st' hr=>iJ (.r _ _ _ hr)
 refine iH (vd ?_);refine uW L6 (λx=>sg st x.g) (λ_=>ML lt a b (n+1)) (ML lt a b (n+1)) Q ⟨y.o,y.i,y.j,x.m+1,y.p,y.q,y.g⟩ ⟨q.m,q.p,q.q,q.r⟩ (λj z q=>?_) (λ_ h=>h) (λz q=>?_) λr y st' hr=>iJ (.r _ _ _ hr)
 .dsimp only;split
  .exact Kg H hl (x:=⟨_,_,_,z.m-1,_,_,z.g⟩) ⟨q.m,q.p,q.q,q.r⟩
  .exact Kg H hl q
 .refine iH (vz (iJ ?_));exact Lp.y (t:=L4) (v:=λx=>sg st x.g) ⟨_,_,_,z.m+1,0,0,z.m+1⟩ ⟨q.m,q.p,q.q,q.r⟩
theorem ED(C:wc prog w A s κ P lt) (ha:∀x,x∈a->P x) (hb:∀x,x∈b->P x) (hk:kindOf st=κ) (sa:vM lt a.toList) (sb:vM lt b.toList)
  (na:0<a.size) (nb:0<b.size) (h0:∀x,b[0]?=some x->∀y∈a.toList,lt y x=false) (hl:∀i,i+1=a.size->∀x∈b.toList,∀y∈a.toList.drop i,lt y x=false)
  (h:∀r g,Ml lt a b r->Q r (sg st g)):wpS (iG prog w) A E s (AU a b) Q st:=by
 rw[Ei];refine iH (vd ?_);have eb0:b[0]?=some b[0]:=ag nb;refine iH (oi eb0 ?_);have m0:MI lt a b #[] 0 0:=⟨aW _,aW _,by simp,by simp[vM],by simp,by simp⟩
 have m1:MI lt a b #[b[0]] 0 1:=m0.pushB sb eb0 λy hy=>h0 _ eb0 y (by simpa using hy)
 by_cases c1:1=b.size
 .rw [nK (by simp[←c1])]
  exact iJ (h _ (jS st) (m1.endB sa c1))
 rw[nS (by simpa using c1)]
 by_cases c2:0+1=a.size
 .rw [nK (by simp[←c2])]
  exact iJ (h _ (jS st) (m1.lastA sa sb λx hx=>hl 0 c2 x (ba hx)))
 rw[nS (by simpa using c2)]
 refine iH (jG ?_);exact uW L4 (λx=>sg st x.g) (λi=>ML lt a b (i+1)) (λ_=>False) Q ⟨_,0,1,_,0,0,jS st⟩ ⟨m1,by dsimp only;lia,by dsimp only;lia,by dsimp only;lia⟩ (λi x q=>PQ ⟨C,ha,hb,hk,sa,sb,h⟩ hl q) (λx h=>by have:=h.p;have:=h.q;have:=h.r;lia) (λx h=>h.elim) λr y st' hr=>iJ hr
end
structure MH (lt:iE->iE->Bool) (a b out:Array iE) (na nb:Nat):Prop where
 la:na<=a.size
 lb:nb<=b.size
 pm:((a.toList.take na++b.toList.take nb)++out.toList.reverse).Perm (a.toList++b.toList)
 so:vM lt out.toList.reverse
 ua:∀x∈a.toList.take na,∀y∈out.toList,lt y x=false
 ub:∀x∈b.toList.take nb,∀y∈out.toList,lt y x=false
section
variable {lt:iE->iE->Bool}{a b out out':Array iE}{na nb k:Nat}
theorem MH.congr(m:MH lt a b out na nb) (e:out'.toList=out.toList):MH lt a b out' na nb:=⟨m.la,m.lb,by rw[e];exact m.pm,by rw[e];exact m.so,by rw[e];exact m.ua,by rw[e];exact m.ub⟩
theorem xZ(l:List iE) (k n:Nat) (h:k<=n):l.take n=l.take k++(l.take n).drop k:=by
 have e:(l.take n).take k=l.take k:=by rw[List.take_take,cB h]
 rw[←e,aZ]
theorem pU(a:Array iE) (k n:Nat):(a.extract k n).toList=(a.toList.take n).drop k:=by
 rw[eO,dB,List.drop_take]
theorem yk(a:Array iE) (n:Nat):(a.extract 0 n).toList=a.toList.take n:=by
 rw[pU,cw]
theorem MH.moreA(m:MH lt a b out na nb) (sa:vM lt a.toList) (hk:k<=na) (h:∀x∈b.toList.take nb,∀y∈(a.toList.take na).drop k,lt y x=false):MH lt a b (out++(a.extract k na).reverse) k nb:=by
 have e:(out++(a.extract k na).reverse).toList=out.toList++((a.toList.take na).drop k).reverse:=by rw[aG,bU,pU]
 have er:(out++(a.extract k na).reverse).toList.reverse=(a.toList.take na).drop k++out.toList.reverse:=by rw[e,gC,eQ]
 have c:=xZ a.toList k na hk;have sd:vM lt (a.toList.take na):=sa.sublist (bh _ _);have sd2:=sd;rw[c]at sd2;obtain⟨q1,q2,q3⟩:=aB.mp sd2;have sub:∀y,y∈(a.toList.take na).drop k->y∈a.toList.take na:=λy hy=>ba hy
 refine⟨br hk m.la,m.lb,?_,?_,?_,?_⟩
 .rw [er];refine bO.trans ?_ m.pm;rw[←aA];refine bO.append_right _ ?_
  conv=>rhs;rw[c]
  rw[aA,aA];exact bO.append_left _ bR
 .rw [er];exact aB.mpr ⟨q2,m.so,λx hx y hy=>m.ua x (sub x hx) y (bG.mp hy)⟩
 .rw [e];intro x hx y hy;rcases mAq.mp hy with hy|hy
  .exact m.ua x (by rw[c];exact bE _ hx) y hy
  .exact q3 x hx y (bG.mp hy)
 .rw [e];intro x hx y hy;rcases mAq.mp hy with hy|hy
  .exact m.ub x hx y hy
  .exact h x hx y (bG.mp hy)
theorem MH.moreB(m:MH lt a b out na nb) (sb:vM lt b.toList) (hk:k<=nb) (h:∀x∈a.toList.take na,∀y∈(b.toList.take nb).drop k,lt y x=false):MH lt a b (out++(b.extract k nb).reverse) na k:=by
 have e:(out++(b.extract k nb).reverse).toList=out.toList++((b.toList.take nb).drop k).reverse:=by rw[aG,bU,pU]
 have er:(out++(b.extract k nb).reverse).toList.reverse=(b.toList.take nb).drop k++out.toList.reverse:=by rw[e,gC,eQ]
 have c:=xZ b.toList k nb hk;have sd:vM lt (b.toList.take nb):=sb.sublist (bh _ _);have sd2:=sd;rw[c]at sd2;obtain⟨q1,q2,q3⟩:=aB.mp sd2;have sub:∀y,y∈(b.toList.take nb).drop k->y∈b.toList.take nb:=λy hy=>ba hy
 refine⟨m.la,br hk m.lb,?_,?_,?_,?_⟩
 .rw [er];refine bO.trans ?_ m.pm;rw[←aA];refine bO.append_right _ ?_
  conv=>rhs;rw[c]
  rw[aA]
 .rw [er];exact aB.mpr ⟨q2,m.so,λx hx y hy=>m.ub x (sub x hx) y (bG.mp hy)⟩
 .rw [e];intro x hx y hy;rcases mAq.mp hy with hy|hy
  .exact m.ua x hx y hy
  .exact h x hx y (bG.mp hy)
 .rw [e];intro x hx y hy;rcases mAq.mp hy with hy|hy
  .exact m.ub x (by rw[c];exact bE _ hx) y hy
  .exact q3 x hx y (bG.mp hy)
theorem vA{l:List iE}{i:Nat}{x:iE}(h:l[i]?=some x):(l.take (i+1)).drop i=[x]:=by
 rw[df,h,List.drop_append];have hl:(l.take i).length=i:=by
  have:=(gSq.mp h).1;rw[lTq];lia
 rw[bq (by lia),hl,cP]
 rfl
theorem MH.pushA{x:iE}(m:MH lt a b out (na+1) nb) (sa:vM lt a.toList) (hx:a[na]?=some x) (h:∀y∈b.toList.take nb,lt x y=false):MH lt a b (out.push x) na nb:=by
 have hx':a.toList[na]?=some x:=by rw[aC];exact hx
 refine(m.moreA sa (k:=na) (bw _) λz hz y hy=>?_).congr ?_
 .rw [vA hx',mSq]at hy;rw[hy];exact h z hz
 .rw [de,aG,bU,pU,vA hx'];rfl
theorem MH.pushB{x:iE}(m:MH lt a b out na (nb+1)) (sb:vM lt b.toList) (hx:b[nb]?=some x) (h:∀y∈a.toList.take na,lt x y=false):MH lt a b (out.push x) na nb:=by
 have hx':b.toList[nb]?=some x:=by rw[aC];exact hx
 refine(m.moreB sb (k:=nb) (bw _) λz hz y hy=>?_).congr ?_
 .rw [vA hx',mSq]at hy;rw[hy];exact h z hz
 .rw [de,aG,bU,pU,vA hx'];rfl
theorem MH.end(m:MH lt a b out na nb) (sa:vM lt a.toList) (sb:vM lt b.toList) (e:na=0∨nb=0):Ml lt a b (a.extract 0 na++b.extract 0 nb++out.reverse):=by
 have et:(a.extract 0 na++b.extract 0 nb++out.reverse).toList=(a.toList.take na++b.toList.take nb)++out.toList.reverse:=by
  rw[aG,aG,yk,yk,bU]
 refine⟨by rw[et];exact m.pm,?_⟩
 rw[et];refine aB.mpr ⟨?_,m.so,λx hx y hy=>?_⟩
 .rcases e with rfl|rfl
  .rw [gq,fX];exact sb.sublist (bh _ _)
  .rw [gq,aNq];exact sa.sublist (bh _ _)
 .rcases mAq.mp hx with hx|hx
  .exact m.ua x hx y (bG.mp hy)
  .exact m.ub x hx y (bG.mp hy)
theorem MH.firstB(m:MH lt a b out na nb) (sa:vM lt a.toList) (sb:vM lt b.toList) (h:∀x∈b.toList.take nb,∀y∈a.toList.take na,lt y x=false):Ml lt a b (b.extract 0 nb++a.extract 0 na++out.reverse):=by
 have et:(b.extract 0 nb++a.extract 0 na++out.reverse).toList=(b.toList.take nb++a.toList.take na)++out.toList.reverse:=by
  rw[aG,aG,yk,yk,bU]
 refine⟨?_,?_⟩
 .rw [et];exact(bO.append_right _ bR).trans m.pm
 .rw [et];refine aB.mpr ⟨aB.mpr ⟨sb.sublist (bh _ _),sa.sublist (bh _ _),h⟩,m.so,λx hx y hy=>?_⟩
  rcases mAq.mp hx with hx|hx
  .exact m.ub x hx y (bG.mp hy)
  .exact m.ua x hx y (bG.mp hy)
end
def zX:Array iE->Array iE->StateT SortSt Sem (Array iE):=sortPriv% PySem.Builtin.mergeHi
section
variable (a b:Array iE)
abbrev dH(o:Array iE) (i j:Nat):=a.extract 0 i++b.extract 0 j++o.reverse
abbrev fH(o:Array iE) (i j:Nat):=b.extract 0 j++a.extract 0 i++o.reverse
abbrev SH(α:Type):=ForInStep (Option (Array iE)×Nat×Nat×Array iE×α)
def SV(o:Array iE) (i j m k l:Nat):StateT SortSt Sem (SH (Nat×Nat×Nat)):=do
 let x ←jh a (i-1)
 if i-1 == 0 then pure (.done (some (dH a b (o.push x) (i-1) j),i-1,j,o.push x,m,k,l))
 else if decide (k<7) && decide (l<7) then pure (.done (none,i-1,j,o.push x,m,k,l))
 else pure (.yield (none,i-1,j,o.push x,m,k,l))
def S8(o:Array iE) (i j m k q:Nat):StateT SortSt Sem (SH (Nat×Nat×Nat)):=do
 let x ←jh b (j-1)
 if j-1 == 1 then pure (.done (some (fH a b (o.push x) i (j-1)),i,j-1,o.push x,m,k,q))
 else do
  let y ←jh a (i-1)
  match ←uH true y b 0 (j-1) (j-1-1) with
  |some l =>
   if j-1-l>0 then
    if l == 1 then pure (.done (some (fH a b (o.push x++(b.extract l (j-1)).reverse) i l),i,l,o.push x++(b.extract l (j-1)).reverse,m,k,j-1-l))
    else if l == 0 then pure (.done (some (dH a b (o.push x++(b.extract l (j-1)).reverse) i l),i,l,o.push x++(b.extract l (j-1)).reverse,m,k,j-1-l))
    else SV a b (o.push x++(b.extract l (j-1)).reverse) i l m k (j-1-l)
   else SV a b (o.push x) i (j-1) m k (j-1-l)
  |_=>pure (.done (some (dH a b (o.push x) i (j-1)),i,j-1,o.push x,m,k,q))
def Te(o:Array iE) (i j m p q:Nat):StateT SortSt Sem (SH (Nat×Nat×Nat)):=do
 qA m
 let x ←jh b (j-1)
 match ←uH false x a 0 i (i-1) with
 |some k =>
  if i-k>0 then
   if k == 0 then pure (.done (some (dH a b (o++(a.extract k i).reverse) k j),k,j,o++(a.extract k i).reverse,m,i-k,q))
   else S8 a b (o++(a.extract k i).reverse) k j m (i-k) q
  else S8 a b o i j m (i-k) q
 |_=>pure (.done (some (dH a b o i j),i,j,o,m,p,q))
def Mg(m:Nat) (o:Array iE) (i j p q:Nat):StateT SortSt Sem (SH (Nat×Nat)):=do
 let y ←jh b (j-1)
 let x ←jh a (i-1)
 match ←lt' y x with
 |some c =>
  if c then do
   let z ←jh a (i-1)
   if i-1 == 0 then pure (.done (some (dH a b (o.push z) (i-1) j),i-1,j,o.push z,p+1,0))
   else if p+1 ≥ m then pure (.done (none,i-1,j,o.push z,p+1,0))
   else pure (.yield (none,i-1,j,o.push z,p+1,0))
  else do
   let z ←jh b (j-1)
   if j-1 == 1 then pure (.done (some (fH a b (o.push z) i (j-1)),i,j-1,o.push z,0,q+1))
   else if q+1 ≥ m then pure (.done (none,i,j-1,o.push z,0,q+1))
   else pure (.yield (none,i,j-1,o.push z,0,q+1))
 |_=>pure (.done (some (dH a b o i j),i,j,o,p,q))
def Ta(o:Array iE) (i j m:Nat):StateT SortSt Sem (SH Nat):=do
 let r ←forIn [0:a.size+b.size] (none,i,j,o,0,0) λ_ s=>Mg a b m s.2.2.2.1 s.2.1 s.2.2.1 s.2.2.2.2.1 s.2.2.2.2.2
 Break.runK.match_1 (λ_=>StateT SortSt Sem (SH Nat)) r.1 (λv=>pure (.done (some v,r.2.1,r.2.2.1,r.2.2.2.1,m))) λ_=>do
  rule "list.sort.gallop"
  let r ←forIn [0:a.size+b.size] (none,r.2.1,r.2.2.1,r.2.2.2.1,m+1,r.2.2.2.2.1,r.2.2.2.2.2) λ_ s=>if s.2.2.2.2.1>1 then Te a b s.2.2.2.1 s.2.1 s.2.2.1 (s.2.2.2.2.1-1) s.2.2.2.2.2.1 s.2.2.2.2.2.2 else Te a b s.2.2.2.1 s.2.1 s.2.2.1 s.2.2.2.2.1 s.2.2.2.2.2.1 s.2.2.2.2.2.2
  Break.runK.match_1 (λ_=>StateT SortSt Sem (SH Nat)) r.1 (λv=>pure (.done (some v,r.2.1,r.2.2.1,r.2.2.2.1,r.2.2.2.2.1))) λ_=>do
   qA (r.2.2.2.2.1+1)
   pure (.yield (none,r.2.1,r.2.2.1,r.2.2.2.1,r.2.2.2.2.1+1))
theorem DN:zX a b=(do
 rule "list.sort.merge-hi"
 let x ←jh a (a.size-1)
 if a.size-1 == 0 then pure (dH a b #[x] (a.size-1) b.size)
 else if b.size == 1 then pure (fH a b #[x] (a.size-1) b.size)
 else do
  let st ←get
  let r ←forIn [0:a.size+b.size] (none,a.size-1,b.size,#[x],jS st) λ_ s=>Ta a b s.2.2.2.1 s.2.1 s.2.2.1 s.2.2.2.2
  Break.runK.match_1 (λ_=>StateT SortSt Sem (Array iE)) r.1 (λv=>pure v) λ_=>jN "internal:list.sort.merge-bound"):=rfl
end
section
variable {prog:iK}{w:iP}{A:Around}{E:Value->iD->Prop}{s:iD}{κ:iZ}{P:iE->Prop}{lt:iE->iE->Bool}
theorem zN(C:wc prog w A s κ P lt) {a:Array iE}{i:Nat}{x:iE}(ha:∀x,x∈a->P x) (sa:vM lt a.toList) (hx:a[i]?=some x):∀y∈a.toList.take (i+1),lt x y=false:=by
 obtain⟨hi,e⟩:=aF.mp hx;have hx':a.toList[i]?=some x:=by rw[aC];exact hx
 have sd:vM lt (a.toList.take (i+1)):=sa.sublist (bh _ _);rw[df,hx']at sd ⊢;intro y hy;rcases mAq.mp hy with hy|hy
 .exact (aB.mp sd).2.2 y hy x (by simp)
 .have:y=x:=by simpa using hy
  rw[this];exact C.refl (ha _ (by rw[←e];exact aX hi))
theorem um{a:Array iE}{i:Nat}{y:iE}(h:y∈a.toList.take i):y∈a:=by simpa using bp h
theorem wR{a:Array iE}{n:Nat}{x:iE}(h:x∈a.toList.take n):∃j,j<n/\a[0+j]?=some x:=by
 have h':x∈(a.toList.drop 0).take n:=by rw[cw];exact h
 exact uJ h'
theorem uc{a:Array iE}{k n:Nat}{x:iE}(h:x∈(a.toList.take n).drop k):∃j,k<=j/\j<n/\a[0+j]?=some x:=by
 obtain⟨j,hj,e⟩:=bB.mp h;rw[aR,lTq,aq]at hj;refine⟨k+j,by lia,by lia,?_⟩
 rw[ee,fv]at e;rw[aF];exact⟨by lia,by simpa using e⟩
structure MG (lt:iE->iE->Bool) (a b:Array iE) (n:Nat) (x:Ls):Prop where
 m:MH lt a b x.o x.i x.j
 p:0<x.i
 q:1<x.j
 r:x.i+x.j+n<=a.size+b.size
abbrev H6(x:Ls):=(x.i,x.j,x.o,x.m,x.p,x.q)
abbrev H5(x:Ls):=(x.i,x.j,x.o,x.p,x.q)
abbrev H4(x:Ls):=(x.i,x.j,x.o,x.m)
variable {a b:Array iE}{st:SortSt}{Q:Array iE->SortSt->Prop}{n:Nat}{x:Ls}{o:Array iE}{u v i j m k l g:Nat}
abbrev Hf(lt:iE->iE->Bool) (a b:Array iE):=∀x∈b.toList.take 1,∀y∈a.toList,lt y x=false
theorem Td(H:Lo prog w A s κ P lt a b st Q) (hf:Hf lt a b) (m:MH lt a b o i 1):Q (b.extract 0 1++a.extract 0 i++o.reverse) (sg st g):=H.h _ _ (m.firstB H.sa H.sb λx hx y hy=>hf x hx y (bp hy))
theorem LF(H:Lo prog w A s κ P lt a b st Q) (q:MG lt a b n ⟨o,u+1,j,m,k,l,g⟩) (hi:∀z,a[u]?=some z->∀y∈b.toList.take j,lt z y=false) :
  wpS (iG prog w) A E s (SV a b o (u+1) j m k l) (Lp H6 (λx=>sg st x.g) (MG lt a b n) (MG lt a b n) Q) (sg st g):=by
 dsimp only [SV,dD];have ea:a[u]?=some (a[u]'q.m.la):=ag q.m.la;refine iH (oi ea ?_);have m6:=q.m.pushA H.sa ea (hi _ ea)
 by_cases d6:u=0
 .rw [nK (by simp[d6])]
  exact iJ (.r _ _ _ (H.h _ _ (m6.end H.sa H.sb (.inl d6))))
 rw[nS (by simpa using d6)]
 have R:MG lt a b n ⟨_,_,_,m,k,l,g⟩:=⟨m6,fk d6,q.q,by have:=q.r;dsimp only at *;lia⟩
 split
 .exact iJ (.d _ R)
 .exact iJ (.y _ R)
theorem K9(H:Lo prog w A s κ P lt a b st Q) (hf:Hf lt a b) (q:MG lt a b n ⟨o,u+1,v+1,m,k,l,g⟩) (hi:∀z,b[v]?=some z->∀y∈a.toList.take (u+1),lt z y=false) :
  wpS (iG prog w) A E s (S8 a b o (u+1) (v+1) m k l) (Lp H6 (λx=>sg st x.g) (MG lt a b n) (MG lt a b n) Q) (sg st g):=by
 dsimp only [S8,dD];have la:u<a.size:=q.m.la;have lb:v<b.size:=q.m.lb;have p2:1<v+1:=q.q;have p3:u+1+(v+1)+n<=a.size+b.size:=q.r;have eb:b[v]?=some b[v]:=ag lb;refine iH (oi eb ?_);have m4:=q.m.pushB H.sb eb (hi _ eb)
 by_cases d3:v=1
 .rw [nK (by simp[d3])]
  subst d3;exact iJ (.r _ _ _ (Td H hf m4))
 rw[nS (by simpa using d3)]
 have ea:a[u]?=some a[u]:=ag la;have pa:=H.ha _ (aX la);refine iH (oi ea (iH (sR H.C (base:=0) (n:=v) (by lia) (by lia) H.hb pa H.hk (xN H.C (by lia) H.hb pa (by rw[cw];exact H.sb)) λl l1 l2 l3=>?_)))
 have hB:∀z,a[u]?=some z->∀y∈b.toList.take l,lt z y=false:=λz hz y hy=>by
  obtain⟨j',hj',ey⟩:=wR hy;have q:=l2 j' hj';rw[sr ey,nK rfl]at q;rw[ea]at hz;cases hz;exact H.C.asym _ _ (H.hb _ (um hy)) pa q
 dsimp only
 by_cases cl:v-l>0
 .rw [nK cl];have m5:=m4.moreB H.sb (k:=l) l1 λx hx y hy=>by
   obtain⟨j',hj1,hj',ey⟩:=uc hy;have q:=l3 j' hj1 hj';rw[sr ey,nK rfl]at q;exact H.C.trans _ _ _ (H.ha _ (um hx)) pa (H.hb y (ba hy |> um)) (zN H.C H.ha H.sa ea x hx) q
  by_cases d5:l=1
  .rw [nK (by simp[d5])]
   subst d5;exact iJ (.r _ _ _ (Td H hf m5))
  rw[nS (by simpa using d5)]
  by_cases d6:l=0
  .rw [nK (by simp[d6])]
   exact iJ (.r _ _ _ (H.h _ _ (m5.end H.sa H.sb (.inr d6))))
  rw[nS (by simpa using d6)]
  exact LF H ⟨m5,q.p,by dsimp only;lia,by dsimp only;lia⟩ hB
 .rw [nS cl];have:l=v:=by lia
  subst this;exact LF H ⟨m4,q.p,by dsimp only;lia,by dsimp only;lia⟩ hB
theorem Ka(H:Lo prog w A s κ P lt a b st Q) (hf:Hf lt a b) (q:MG lt a b n x) :
  wpS (iG prog w) A E s (Te a b x.o x.i x.j x.m x.p x.q) (Lp H6 (λx=>sg st x.g) (MG lt a b n) (MG lt a b n) Q) (sg st x.g):=by
 obtain⟨o,i,j,m,p,q',g⟩:=x;have la:i<=a.size:=q.m.la;have p1:0<i:=q.p;have p2:1<j:=q.q;have p3:i+j+n<=a.size+b.size:=q.r;obtain⟨v,rfl⟩:∃v,j=v+1:=⟨j-1,by lia⟩
 have lb:v<b.size:=q.m.lb;dsimp only [Te,dD];have eb:b[v]?=some b[v]:=ag lb;have pb:=H.hb _ (aX lb);refine iH (vz (iH (oi eb (iH (sR H.C (base:=0) (n:=i) (by lia) (by lia) H.ha pb H.hk (xN H.C (by lia) H.ha pb (by rw[cw];exact H.sa)) λk k1 k2 k3=>?_)))))
 have hA:∀z,b[v]?=some z->∀y∈a.toList.take k,lt z y=false:=λz hz y hy=>by
  obtain⟨j',hj',ey⟩:=wR hy;have q:=k2 j' hj';rw[sr ey,nS (by decide)]at q
  rw[eb]at hz;cases hz;simpa using q
 dsimp only
 by_cases ck:i-k>0
 .rw [nK ck];have m3:=q.m.moreA H.sa (k:=k) k1 λx hx y hy=>by
   obtain⟨j',hj1,hj',ey⟩:=uc hy;have q:=k3 j' hj1 hj';rw[sr ey,nS (by decide)]at q
   have py:=H.ha y (ba hy |> um);exact H.C.trans _ _ _ (H.hb _ (um hx)) pb py (zN H.C H.hb H.sb eb x hx) (H.C.asym _ _ pb py (by simpa using q))
  by_cases d2:k=0
  .rw [nK (by simp[d2])]
   exact iJ (.r _ _ _ (H.h _ m (m3.end H.sa H.sb (.inl d2))))
  rw[nS (by simpa using d2)]
  obtain⟨u,rfl⟩:∃u,k=u+1:=⟨k-1,by lia⟩
  exact K9 H hf (g:=m) ⟨m3,Nat.succ_pos _,p2,by dsimp only;lia⟩ hA
 .rw [nS ck];have:k=i:=by lia
  subst this;obtain⟨u,rfl⟩:∃u,k=u+1:=⟨k-1,by lia⟩
  exact K9 H hf (g:=m) ⟨q.m,p1,p2,p3⟩ hA
theorem O8(H:Lo prog w A s κ P lt a b st Q) (hf:Hf lt a b) (q:MG lt a b (n+j) x) :
  wpS (iG prog w) A E s (Mg a b m x.o x.i x.j x.p x.q) (Lp H5 (λx=>sg st x.g) (MG lt a b (n+(j+1))) (MG lt a b (n+1)) Q) (sg st x.g):=by
 obtain⟨o,i,k,m',p,q',g⟩:=x;have p1:0<i:=q.p;have p2:1<k:=q.q;have p3:i+k+(n+j)<=a.size+b.size:=q.r;obtain⟨u,rfl⟩:∃u,i=u+1:=⟨i-1,by lia⟩
 obtain⟨v,rfl⟩:∃v,k=v+1:=⟨k-1,by lia⟩
 have la:u<a.size:=q.m.la;have lb:v<b.size:=q.m.lb;dsimp only [Mg,dD];have ea:a[u]?=some a[u]:=ag la;have eb:b[v]?=some b[v]:=ag lb;have pa:=H.ha _ (aX la);have pb:=H.hb _ (aX lb);refine iH (oi eb (iH (oi ea (iH (H.C.cmp pb pa H.hk ?_)))));cases e:lt b[v] a[u] with
 |true =>
  dsimp only;rw[nK rfl];refine iH (oi ea ?_);have m2:=q.m.pushA H.sa ea λy hy=>H.C.trans _ _ _ (H.hb _ (um hy)) pb pa (zN H.C H.hb H.sb eb y hy) (H.C.asym _ _ pb pa e)
  by_cases d1:u=0
  .rw [nK (by simp[d1])]
   exact iJ (.r _ _ _ (H.h _ _ (m2.end H.sa H.sb (.inl d1))))
  rw[nS (by simpa using d1)]
  have R:∀n,u+(v+1)+n<=a.size+b.size->MG lt a b n ⟨_,_,_,0,p+1,0,g⟩:=λn hn=>⟨m2,fk d1,p2,hn⟩
  split
  .exact iJ (.d _ (R _ (by lia)))
  .exact iJ (.y _ (R _ (by lia)))
 |false =>
  dsimp only;rw[nS (by decide)]
  refine iH (oi eb ?_);have m2:=q.m.pushB H.sb eb λy hy=>H.C.trans _ _ _ (H.ha _ (um hy)) pa pb (zN H.C H.ha H.sa ea y hy) e
  by_cases d1:v=1
  .rw [nK (by simp[d1])]
   subst d1;exact iJ (.r _ _ _ (Td H hf m2))
  rw[nS (by simpa using d1)]
  have R:∀n,u+1+v+n<=a.size+b.size->MG lt a b n ⟨_,_,_,0,0,q'+1,g⟩:=λn hn=>⟨m2,p1,by dsimp only;lia,hn⟩
  split
  .exact iJ (.d _ (R _ (by lia)))
  .exact iJ (.y _ (R _ (by lia)))
theorem Po(H:Lo prog w A s κ P lt a b st Q) (hf:Hf lt a b) (q:MG lt a b n x) :
  wpS (iG prog w) A E s (Ta a b x.o x.i x.j x.m) (Lp H4 (λx=>sg st x.g) (MG lt a b (n+1)) (λ_=>False) Q) (sg st x.g):=by
 refine uW H5 (λx=>sg st x.g) (λj=>MG lt a b (n+j)) (MG lt a b (n+1)) Q ⟨x.o,x.i,x.j,0,0,0,x.g⟩ ⟨q.m,q.p,q.q,q.r⟩ (λj x q=>O8 H hf q) (λy h=>⟨h.m,h.p,h.q,by have:=h.r;have:=h.p;have:=h.q;lia⟩) (λy q=>?_) λr y st' hr=>iJ (.r _ _ _ hr)
 refine iH (vd ?_);refine uW H6 (λx=>sg st x.g) (λ_=>MG lt a b (n+1)) (MG lt a b (n+1)) Q ⟨y.o,y.i,y.j,x.m+1,y.p,y.q,y.g⟩ ⟨q.m,q.p,q.q,q.r⟩ (λj z q=>?_) (λ_ h=>h) (λz q=>?_) λr y st' hr=>iJ (.r _ _ _ hr)
 .dsimp only;split
  .exact Ka H hf (x:=⟨_,_,_,z.m-1,_,_,z.g⟩) ⟨q.m,q.p,q.q,q.r⟩
  .exact Ka H hf q
 .refine iH (vz (iJ ?_));exact Lp.y (t:=H4) (v:=λx=>sg st x.g) ⟨_,_,_,z.m+1,0,0,z.m+1⟩ ⟨q.m,q.p,q.q,q.r⟩
theorem DU(C:wc prog w A s κ P lt) (ha:∀x,x∈a->P x) (hb:∀x,x∈b->P x) (hk:kindOf st=κ) (sa:vM lt a.toList) (sb:vM lt b.toList)
  (na0:0<a.size) (nb0:0<b.size) (h0:∀x∈b.toList.take 1,∀y∈a.toList,lt y x=false) (hl:∀x,a[a.size-1]?=some x->∀y∈b.toList,lt x y=false)
  (h:∀r g,Ml lt a b r->Q r (sg st g)):wpS (iG prog w) A E s (zX a b) Q st:=by
 have H:Lo prog w A s κ P lt a b st Q:=⟨C,ha,hb,hk,sa,sb,h⟩;rw[DN];refine iH (vd ?_);have ea0:a[a.size-1]?=some (a[a.size-1]'(by lia)):=ag (by lia)
 refine iH (oi ea0 ?_);have m0:MH lt a b #[] (a.size-1+1) b.size:=⟨by lia,af _,by
  rw[show a.size-1+1=a.toList.length by simp;lia,bH,←aq,bH];simp,by simp[vM],by simp,by simp⟩
 have m1:MH lt a b #[a[a.size-1]'(by lia)] (a.size-1) b.size:=m0.pushA sa ea0 λy hy=>hl _ ea0 y (bp hy)
 by_cases c1:a.size-1=0
 .rw [nK (by simp[c1])]
  exact iJ (h _ (jS st) (m1.end sa sb (.inl c1)))
 rw[nS (by simpa using c1)]
 by_cases c2:b.size=1
 .rw [nK (by simp[c2])]
  have m1':=m1;rw[c2]at m1' ⊢;exact iJ (Td H h0 (g:=jS st) m1')
 rw[nS (by simpa using c2)]
 refine iH (jG ?_);exact uW H4 (λx=>sg st x.g) (λi=>MG lt a b (i+1)) (λ_=>False) Q ⟨_,a.size-1,b.size,_,0,0,jS st⟩ ⟨m1,fk c1,show 1<b.size by lia,show a.size-1+b.size+1<=a.size+b.size by lia⟩ (λi x q=>Po H h0 q) (λx h=>by have:=h.p;have:=h.q;have:=h.r;lia) (λx h=>h.elim) λr y st' hr=>iJ hr
end
def xk(lt:iE->iE->Bool) (xs:Array iE) (i j:Nat):Prop:=∀p q x y,i<=p->p<=q->q<j->xs[p]?=some x->xs[q]?=some y->lt y x=false
def Mi(lt:iE->iE->Bool) (xs:Array iE) (i j:Nat):Prop:=∀p q x y,i<=p->p<=q->q<j->xs[p]?=some x->xs[q]?=some y->lt x y=false
def Sh(lt:iE->iE->Bool) (xs:Array iE) (i j:Nat):Prop:=∀p q x y,i<=p->p<j->i<=q->q<j->xs[p]?=some x->xs[q]?=some y->lt x y=false
section
variable {lt:iE->iE->Bool}{xs:Array iE}{i j lo n:Nat}
theorem Ge(hj:j<=xs.size) (h:Mi lt xs i j):xk lt (mirror xs i j ((j-i) / 2)) i j:=by
 intro p q x y h1 h2 h3 ex ey;rw[jI hj,nK ⟨h1,by lia⟩]at ex
 rw[jI hj,nK ⟨by lia,h3⟩]at ey
 exact h _ _ _ _ (by lia) (by lia) (by lia) ey ex
theorem xB(hj:j<=xs.size) (hi:lo<=i) (hn:j<=n) (e:Sh lt xs i j) (h:Mi lt xs lo n):Mi lt (mirror xs i j ((j-i) / 2)) lo n:=by
 intro p q x y h1 h2 h3 ex ey;rw[jI hj]at ex ey
 by_cases cp:i<=p/\p<j
 .rw [nK cp]at ex
  by_cases cq:i<=q/\q<j
  .rw [nK cq]at ey;exact e _ _ _ _ (by lia) (by lia) (by lia) (by lia) ex ey
  .rw [nS cq]at ey;exact h _ _ _ _ (by lia) (by lia) h3 ex ey
 .rw [nS cp]at ex
  by_cases cq:i<=q/\q<j
  .rw [nK cq]at ey;exact h _ _ _ _ h1 (by lia) (by lia) ex ey
  .rw [nS cq]at ey;exact h _ _ _ _ h1 h2 h3 ex ey
end
section
variable (lo:Nat)
def Ts(n:Nat):StateT SortSt Sem (ForInStep (Option (Option Nat)×Nat)):=do
 match ←ltAt' (lo+n) (lo+n-1) with
 |some c=>if c then pure (.done (none,n)) else pure (.yield (none,n+1))
 |_=>pure (.done (some none,n))
def UF(n q:Nat):StateT SortSt Sem (ForInStep (Option (Option Nat)×Nat×Nat)):=do
 match ←ltAt' (lo+n) (lo+n-1) with
 |some c =>
  if c then
   if q>0 then do
    let _ ←jP (lo+n-(q+1)) (lo+n)
    pure (.yield (none,n+1,0))
   else pure (.yield (none,n+1,0))
  else do
   match ←ltAt' (lo+n-1) (lo+n) with
   |some c=>if c then pure (.done (none,n,q)) else pure (.yield (none,n+1,q+1))
   |_=>pure (.done (some none,n,q))
 |_=>pure (.done (some none,n,q))
def Ug(nrem n:Nat):StateT SortSt Sem (Option Nat):=do
 jP lo (lo+n)
 let r ←forIn [n:nrem] (none,n) λ_ s=>Ts lo s.2
 Break.runK.match_1 (λ_=>StateT SortSt Sem (Option Nat)) r.1 (λv=>pure v) λ_=>pure (some r.2)
def Ue(nrem n:Nat):StateT SortSt Sem (Option Nat):=do
 rule "list.sort.descending-run"
 let r ←forIn [n+1:nrem] (none,n+1,0) λ_ s=>UF lo s.2.1 s.2.2
 Break.runK.match_1 (λ_=>StateT SortSt Sem (Option Nat)) r.1 (λv=>pure v) λ_ =>
  if r.2.2>0 then do
   let _ ←jP (lo+r.2.1-(r.2.2+1)) (lo+r.2.1)
   Ug lo nrem r.2.1
  else Ug lo nrem r.2.1
theorem Sn(nrem:Nat):countRun' lo nrem=(do
 let r ←forIn [1:nrem] (none,1) λ_ s=>Ts lo s.2
 Break.runK.match_1 (λ_=>StateT SortSt Sem (Option Nat)) r.1 (λv=>pure v) λ_ =>
  if r.2 == nrem then pure (some r.2)
  else if r.2>1 then do
   match ←ltAt' lo (lo+r.2-1) with
   |some c =>
    if c then pure (some r.2)
    else do
     let _ ←jP lo (lo+r.2)
     Ue lo nrem r.2
   |_=>pure none
  else Ue lo nrem r.2):=countRun'_eq lo nrem
end
section
variable {prog:iK}{w:iP}{A:Around}{E:Value->iD->Prop}{s:iD}{κ:iZ}{P:iE->Prop}{lt:iE->iE->Bool}
theorem Mw(C:wc prog w A s κ P lt) {xs:Array iE}(hp:∀x,x∈xs->P x) (lo:Nat):xk lt xs lo (lo+1):=by
 intro p q x y h1 h2 h3 ex ey;have e:p=q:=by lia
 subst e;rw[ex]at ey;cases ey;exact C.refl (hp _ (aQq ex))
theorem JW(C:wc prog w A s κ P lt) {xs:Array iE}(hp:∀x,x∈xs->P x) {lo n:Nat}(h:xk lt xs lo (lo+(n+1))) (hx:∀x y,xs[lo+(n+1)]?=some x->xs[lo+n]?=some y->lt x y=false) (hz:lo+(n+1)<xs.size):xk lt xs lo (lo+(n+2)):=by
 intro p q x y h1 h2 h3 ex ey
 by_cases c:q<lo+(n+1)
 .exact h p q x y h1 h2 c ex ey
 .have eq:q=lo+(n+1):=by lia
  subst eq
  by_cases c2:p=lo+(n+1)
  .subst c2;rw[ex]at ey;cases ey;exact C.refl (hp _ (aQq ex))
  .have em:xs[lo+n]?=some (xs[lo+n]'(by lia)):=ag (by lia)
   exact C.trans _ _ _ (hp _ (aQq ex)) (hp _ (aQq em)) (hp _ (aQq ey)) (h p (lo+n) _ _ h1 (by lia) (by lia) ex em) (hx _ _ ey em)
theorem Fb(C:wc prog w A s κ P lt) {xs:Array iE}(hp:∀x,x∈xs->P x) {lo n:Nat}(h:Mi lt xs lo (lo+(n+1))) (hx:∀x y,xs[lo+(n+1)]?=some x->xs[lo+n]?=some y->lt y x=false) (hz:lo+(n+1)<xs.size):Mi lt xs lo (lo+(n+2)):=by
 intro p q x y h1 h2 h3 ex ey
 by_cases c:q<lo+(n+1)
 .exact h p q x y h1 h2 c ex ey
 .have eq:q=lo+(n+1):=by lia
  subst eq
  by_cases c2:p=lo+(n+1)
  .subst c2;rw[ex]at ey;cases ey;exact C.refl (hp _ (aQq ex))
  .have em:xs[lo+n]?=some (xs[lo+n]'(by lia)):=ag (by lia)
   exact C.trans _ _ _ (hp _ (aQq ey)) (hp _ (aQq em)) (hp _ (aQq ex)) (hx _ _ ey em) (h p (lo+n) _ _ h1 (by lia) (by lia) ex em)
theorem Fm(C:wc prog w A s κ P lt) {lo nrem a:Nat}{st:SortSt}(hp:∀x,x∈iQ st->P x) (hk:kindOf st=κ) (ha:1<=a) (han:a<=nrem) (hz:lo+nrem<=(iQ st).size) (hs:xk lt (iQ st) lo (lo+a)) :
  wpS (iG prog w) A E s (forIn [a:nrem] ((none,a):Option (Option Nat)×Nat) λ_ s=>Ts lo s.2)
   (λc st'=>∃n,c=(none,n)/\st'=st/\a<=n/\n<=nrem/\xk lt (iQ st) lo (lo+n)/\(n=nrem∨∃x y,(iQ st)[lo+n]?=some x/\(iQ st)[lo+n-1]?=some y/\lt x y=true)) st:=by
 refine jc (I:=λi c st'=>c=(none,i)/\st'=st/\a<=i/\i<=nrem/\xk lt (iQ st) lo (lo+i)) ?step ?fin ⟨rfl,rfl,af _,han,hs⟩
 case step =>
  rintro i c st' h1 h2 ⟨rfl,rfl,h3,h4,h5⟩;obtain⟨k,rfl⟩:∃k,i=k+1:=⟨i-1,by lia⟩
  have ex:(iQ st')[lo+(k+1)]?=some ((iQ st')[lo+(k+1)]'(by lia)):=ag (by lia)
  have ey:(iQ st')[lo+(k+1)-1]?=some ((iQ st')[lo+k]'(by lia)):=ag (by lia)
  refine iH (C.at ex ey (hp _ (aQq ex)) (hp _ (aQq ey)) hk ?_);cases e:lt ((iQ st')[lo+(k+1)]'(by lia)) ((iQ st')[lo+k]'(by lia)) with
  |true=>exact iJ ⟨_,rfl,rfl,h3,h4,h5,.inr ⟨_,_,ex,ey,e⟩⟩
  |false =>
   refine iJ ⟨rfl,rfl,by lia,h2,JW C hp h5 (λx y hx hy=>?_) (by lia)⟩
   have hy':(iQ st')[lo+(k+1)-1]?=some y:=hy;rw[ex]at hx;rw[ey]at hy';cases hx;cases hy';exact e
 case fin =>
  rintro c st' ⟨rfl,rfl,h3,h4,h5⟩;have e:max a nrem=nrem:=gX han;rw[e]at h3 h4 h5 ⊢;exact⟨nrem,rfl,rfl,h3,af _,h5,.inl rfl⟩
theorem zF{i j:Nat}{st:SortSt}{Q:Unit->SortSt->Prop}(h:Q () (jd st (mirror (iQ st) i j ((j-i) / 2)))):wpS (iG prog w) A E s (jP i j) Q st:=by
 rw[reverseSlice'_eq];exact jy h
structure wa (xs ys:Array iE) (lo hi:Nat):Prop where
 pm:ys.Perm xs
 out:∀k,(k<lo∨hi<=k)->ys[k]?=xs[k]?
theorem wa.refl(xs:Array iE) (lo hi:Nat):wa xs xs lo hi:=⟨gD.refl _,λ_ _=>rfl⟩
theorem wa.trans{xs ys zs:Array iE}{lo hi:Nat}(a:wa xs ys lo hi) (b:wa ys zs lo hi):wa xs zs lo hi:=⟨b.pm.trans a.pm,λk h=>(b.out k h).trans (a.out k h)⟩
theorem wa.mono{xs ys:Array iE}{lo hi hi':Nat}(a:wa xs ys lo hi) (h:hi<=hi'):wa xs ys lo hi':=⟨a.pm,λk q=>a.out k (by lia)⟩
theorem wa.size{xs ys:Array iE}{lo hi:Nat}(a:wa xs ys lo hi):ys.size=xs.size:=a.pm.size_eq
theorem wa.mem{xs ys:Array iE}{lo hi:Nat}(a:wa xs ys lo hi) {P:iE->Prop}(h:∀x,x∈xs->P x):∀x,x∈ys->P x:=λx hx=>h x (a.pm.mem_iff.mp hx)
theorem vE{xs:Array iE}{lo hi i j:Nat}(hj:j<=xs.size) (h1:lo<=i) (h2:j<=hi):wa xs (mirror xs i j ((j-i) / 2)) lo hi :=
 ⟨mirror_perm _ _ _ _,λk hk=>by rw[jI hj,nS (by lia)]⟩
structure CR (lt:iE->iE->Bool) (as:Array iE) (lo i q:Nat) (ys:Array iE):Prop where
 b:wa as ys lo (lo+i)
 d:Mi lt ys lo (lo+i)
 e:Sh lt ys (lo+i-(q+1)) (lo+i)
 p:q+1<=i
theorem zR(C:wc prog w A s κ P lt) {ys:Array iE}(hp:∀x,x∈ys->P x) {i j:Nat}(h:j<=i+1):Sh lt ys i j:=by
 intro p q x y g1 g2 g3 g4 gx gy;have e:p=q:=by lia
 subst e;rw[gx]at gy;cases gy;exact C.refl (hp _ (aQq gx))
theorem Pd(C:wc prog w A s κ P lt) {lo nrem k neq:Nat}{st:SortSt}{ys:Array iE}(hp:∀x,x∈iQ st->P x) (hk:kindOf st=κ) (hz:lo+nrem<=(iQ st).size) (hi:k+1<nrem) (g:CR lt (iQ st) lo (k+1) neq ys) :
  wpS (iG prog w) A E s (UF lo (k+1) neq) (λr DK=>∃m q zs,DK=jd st zs/\m<=nrem/\CR lt (iQ st) lo m q zs/\(r = .done (none,m,q)∨r = .yield (none,m,q)/\m=k+1+1)) (jd st ys):=by
 have g1:=g.b;have g2:=g.d;have g3:=g.e;have g4:=g.p;have hpy:=g1.mem hp;have hsz:=g1.size;have ex:ys[lo+(k+1)]?=some (ys[lo+(k+1)]'(by lia)):=ag (by lia)
 have ey:ys[lo+(k+1)-1]?=some (ys[lo+k]'(by lia)):=ag (by lia)
 have px:=hpy _ (aQq ex);have py:=hpy _ (aQq ey);have des:lt (ys[lo+k]'(by lia)) (ys[lo+(k+1)]'(by lia))=false->Mi lt ys lo (lo+(k+1+1)):=λe=>Fb C hpy g2 (λx y hx hy=>by
  have hy':ys[lo+(k+1)-1]?=some y:=hy;rw[ex]at hx;rw[ey]at hy';cases hx;cases hy';exact e) (by lia)
 refine iH (C.at (st:=jd st ys) ex ey px py hk ?_);cases e:lt (ys[lo+(k+1)]'(by lia)) (ys[lo+k]'(by lia)) with
 |true =>
  have g2':=des (C.asym _ _ px py e);dsimp only;rw[nK rfl]
  by_cases cn:neq>0
  .rw [nK cn];refine iH (zF (iJ ?_));have bt:wa (iQ st) (mirror ys (lo+(k+1)-(neq+1)) (lo+(k+1)) ((lo+(k+1)-(lo+(k+1)-(neq+1))) / 2)) lo (lo+(k+1)):=g1.trans (vE (by lia) (by lia) (af _))
   exact⟨_,0,_,rfl,hi,⟨bt.mono (by lia),xB (by lia) (by lia) (by lia) g3 g2',zR C (bt.mem hp) (by lia),by lia⟩,.inr ⟨rfl,rfl⟩⟩
  .rw [nS cn];exact iJ ⟨_,0,ys,rfl,hi,⟨g1.mono (by lia),g2',zR C hpy (by lia),by lia⟩,.inr ⟨rfl,rfl⟩⟩
 |false =>
  dsimp only;rw[nS (by decide)]
  refine iH (C.at (st:=jd st ys) ey ex py px hk ?_);cases e':lt (ys[lo+k]'(by lia)) (ys[lo+(k+1)]'(by lia)) with
  |true=>exact iJ ⟨_,neq,ys,rfl,bX hi,g,.inl rfl⟩
  |false =>
   refine iJ ⟨_,neq+1,ys,rfl,hi,⟨g1.mono (by lia),des e',?_,by lia⟩,.inr ⟨rfl,rfl⟩⟩
   intro p q x y h1 h2 h3 h4 gx gy;have qx:=hpy _ (aQq gx);have qy:=hpy _ (aQq gy)
   by_cases cp:p=lo+(k+1)
   .subst cp;rw[ex]at gx;cases gx
    by_cases cq:q=lo+(k+1)
    .subst cq;rw[ex]at gy;cases gy;exact C.refl px
    .exact C.trans _ _ _ qy py px (g3 (lo+(k+1)-1) q _ _ (by lia) (by lia) (by lia) (by lia) ey gy) e
   .by_cases cq:q=lo+(k+1)
    .subst cq;rw[ex]at gy;cases gy;exact C.trans _ _ _ px py qx e' (g3 p (lo+(k+1)-1) _ _ (by lia) (by lia) (by lia) (by lia) gx ey)
    .exact g3 p q x y (by lia) (by lia) (by lia) (by lia) gx gy
abbrev Sl(lt:iE->iE->Bool) (st:SortSt) (lo nrem:Nat) (Q:Option Nat->SortSt->Prop):=∀n xs,1<=n->n<=nrem->wa (iQ st) xs lo (lo+n)->xk lt xs lo (lo+n)->Q (some n) (jd st xs)
theorem J2(C:wc prog w A s κ P lt) {lo nrem m:Nat}{st:SortSt}{ys:Array iE}{Q:Option Nat->SortSt->Prop}(hp:∀x,x∈iQ st->P x) (hk:kindOf st=κ) (hz:lo+nrem<=(iQ st).size) (h:Sl lt st lo nrem Q)
  (h1:1<=m) (h2:m<=nrem) (b:wa (iQ st) ys lo (lo+m)) (d:Mi lt ys lo (lo+m)):wpS (iG prog w) A E s (Ug lo nrem m) Q (jd st ys):=by
 refine iH (zF ?_);have hsz:=b.size;have f1:=Ge (by lia) d
 have f2:=b.trans (vE (i:=lo) (j:=lo+m) (by lia) (af _) (af _))
 refine iH (jf (Fm (st:=jd st _) C (f2.mem hp) hk h1 h2 (br hz (dR f2.size.symm)) f1) ?_);rintro c DK ⟨n',rfl,rfl,n1',n2',s1',_⟩;exact iJ (h n' _ (by lia) n2' (f2.mono (by lia)) s1')
theorem KI(C:wc prog w A s κ P lt) {lo nrem n:Nat}{st:SortSt}{xs:Array iE}{Q:Option Nat->SortSt->Prop}(hp:∀x,x∈iQ st->P x) (hk:kindOf st=κ) (hz:lo+nrem<=(iQ st).size) (h:Sl lt st lo nrem Q)
  (hn:n<nrem) (b:wa (iQ st) xs lo (lo+n)) (d:Mi lt xs lo (lo+(n+1))):wpS (iG prog w) A E s (Ue lo nrem n) Q (jd st xs):=by
 refine iH (vd (iH (jf (jc
  (I:=λi c DK=>∃q ys,c=(none,i,q)/\DK=jd st ys/\i<=nrem/\CR lt (iQ st) lo i q ys)
  (Q:=λc DK=>∃m q ys,c=(none,m,q)/\DK=jd st ys/\m<=nrem/\CR lt (iQ st) lo m q ys)
  ?_ ?_ ⟨0,xs,rfl,rfl,hn,b.mono (by lia),d,zR C (b.mem hp) (by lia),by lia⟩) ?_)))
 .rintro i c DK _ hi ⟨q,ys,rfl,rfl,_,g⟩;obtain⟨k,rfl⟩:∃k,i=k+1:=⟨i-1,by have:=g.p;lia⟩
  refine jf (Pd C hp hk hz hi g) λr DK hr=>?_
  obtain⟨m,q,zs,rfl,hm,g',rfl|⟨rfl,rfl⟩⟩:=hr
  .exact ⟨m,q,zs,rfl,rfl,hm,g'⟩
  .exact ⟨q,zs,rfl,rfl,hm,g'⟩
 .rintro c DK ⟨q,ys,rfl,rfl,hm,g⟩;exact⟨_,q,ys,rfl,rfl,hm,g⟩
 .rintro c DK ⟨m,q,ys,rfl,rfl,hm,g⟩;have hsz:=g.b.size;have gp:=g.p;dsimp only
  by_cases cn:q>0
  .rw [nK cn];exact iH (zF (J2 (st:=st) (ys:=mirror ys (lo+m-(q+1)) (lo+m) ((lo+m-(lo+m-(q+1))) / 2)) C hp hk hz h (by lia) hm (g.b.trans (vE (by lia) (by lia) (af _))) (xB (by lia) (by lia) (af _) g.e g.d)))
  .rw [nS cn];exact J2 C hp hk hz h (by lia) hm g.b g.d
theorem Do(C:wc prog w A s κ P lt) {lo nrem:Nat}{st:SortSt}{Q:Option Nat->SortSt->Prop}(hp:∀x,x∈iQ st->P x) (hk:kindOf st=κ) (h1:1<=nrem) (hz:lo+nrem<=(iQ st).size)
  (h:∀n xs,1<=n->n<=nrem->wa (iQ st) xs lo (lo+n)->xk lt xs lo (lo+n)->Q (some n) (jd st xs)):wpS (iG prog w) A E s (countRun' lo nrem) Q st:=by
 rw[Sn];refine iH (jf (Fm C hp hk (af 1) h1 hz (Mw C hp lo)) ?_);rintro c st' ⟨n,rfl,rfl,n1,n2,sg1,brk⟩;dsimp only;have triv:Q (some n) st':=h n (iQ st') n1 n2 (wa.refl _ _ _) sg1
 by_cases c1:n=nrem
 .rw [nK (by simp[c1])]
  exact iJ triv
 rw[nS (by simpa using c1)]
 obtain⟨xb,yb,exb,eyb,eb⟩:=brk.resolve_left c1;obtain⟨m,rfl⟩:∃m,n=m+1:=⟨n-1,by lia⟩
 have pxb:=hp _ (aQq exb);have pyb:=hp _ (aQq eyb);have go:Sh lt (iQ st') lo (lo+(m+1))->Mi lt (iQ st') lo (lo+(m+1+1)):=λe1 =>
  Fb C hp (λp q x y g1 g2 g3 ex ey=>e1 p q x y g1 (by lia) (by lia) g3 ex ey) (λx y hx hy=>by
   have hy':(iQ st')[lo+(m+1)-1]?=some y:=hy;rw[exb]at hx;rw[eyb]at hy';cases hx;cases hy';exact C.asym _ _ pxb pyb eb) (by lia)
 by_cases c2:m+1>1
 .rw [nK c2];have ex:(iQ st')[lo]?=some ((iQ st')[lo]'(by lia)):=ag (by lia)
  have pex:=hp _ (aQq ex);refine iH (C.at ex eyb pex pyb hk ?_);cases e:lt ((iQ st')[lo]'(by lia)) yb with
  |true=>exact iJ triv
  |false =>
   dsimp only;rw[nS (by decide)]
   have eqv:Sh lt (iQ st') lo (lo+(m+1)):=by
    intro p q x y g1 g2 g3 g4 gx gy;have px:=hp _ (aQq gx);have py:=hp _ (aQq gy);have q1:=sg1 q (lo+(m+1)-1) _ _ g3 (by lia) (by lia) gy eyb
    have q2:=sg1 lo p _ _ (af _) g1 g2 ex gx;exact C.trans _ _ _ py pex px (C.trans _ _ _ py pyb pex q1 e) q2
   exact iH (zF (KI C hp hk hz h (by lia) (vE (by lia) (af _) (af _)) (xB (by lia) (af _) (by lia) eqv (go eqv))))
 .rw [nS c2];exact KI C hp hk hz h (by lia) (wa.refl _ _ _) (go (zR C hp (by lia)))
end
section
variable {prog:iK}{w:iP}{A:Around}{E:Value->iD->Prop}{s:iD}{κ:iZ}{P:iE->Prop}{lt:iE->iE->Bool}
theorem NR(C:wc prog w A s κ P lt) {xs:Array iE}(hp:∀x,x∈xs->P x) {lo k l:Nat}(hz:lo+k<xs.size) (hl:l<=k) (hs:xk lt xs lo (lo+k)) {x:iE}(hx:xs[lo+k]?=some x)
  (h1:∀j y,j<l->xs[lo+j]?=some y->lt x y=false) (h2:∀j y,l<=j->j<k->xs[lo+j]?=some y->lt x y=true):xk lt (bubble xs (lo+k) (k-l)) lo (lo+(k+1)):=by
 have px:=hp _ (aQq hx);have g:∀p,(bubble xs (lo+k) (k-l))[p]?=if p=lo+l then some x else if lo+l<p/\p<=lo+k then xs[p-1]? else xs[p]?:=λp=>by
  rw[getElem?_bubble hz (k-l) (by lia) p,show lo+k-(k-l)=lo+l by lia,hx]
 intro p q u v a1 a2 a3 eu ev;rw[g]at eu ev
 by_cases cp:p=lo+l
 .rw [nK cp]at eu;cases eu
  by_cases cq:q=lo+l
  .rw [nK cq]at ev;cases ev;exact C.refl px
  .rw [nS cq,nK ⟨by lia,by lia⟩]at ev
   have pv:=hp _ (aQq ev);exact C.asym _ _ px pv (h2 (q-1-lo) v (by lia) (by lia) (by rw[show lo+(q-1-lo)=q-1 by lia];exact ev))
 .rw [nS cp]at eu
  by_cases cp2:lo+l<p/\p<=lo+k
  .rw [nK cp2]at eu;rw[nS (by lia),nK ⟨by lia,by lia⟩]at ev
   exact hs (p-1) (q-1) _ _ (by lia) (by lia) (by lia) eu ev
  .rw [nS cp2]at eu
   by_cases cq:q=lo+l
   .rw [nK cq]at ev;cases ev;exact h1 (p-lo) u (by lia) (by rw[show lo+(p-lo)=p by lia];exact eu)
   .rw [nS cq]at ev
    by_cases cq2:lo+l<q/\q<=lo+k
    .rw [nK cq2]at ev;exact hs p (q-1) _ _ a1 (by lia) (by lia) eu ev
    .rw [nS cq2]at ev;exact hs p q _ _ a1 a2 (by lia) eu ev
theorem Gw{xs:Array iE}{lo k l n:Nat}(hz:lo+k<xs.size) (hl:l<=k) (hn:k<n):wa xs (bubble xs (lo+k) (k-l)) lo (lo+n) :=
 ⟨bubble_perm _ _ _,λp hp=>by rw[getElem?_bubble hz (k-l) (by lia) p,nS (by lia),nS (by lia)]⟩
theorem LP{src dst:Nat}{st:SortSt}{Q:Unit->SortSt->Prop}(h:Q () (jd st (bubble (iQ st) src (src-dst)))):wpS (iG prog w) A E s (moveDown' src dst) Q st:=by
 rw[moveDown'_eq];exact jy h
theorem GO(C:wc prog w A s κ P lt) {lo n ok:Nat}{st:SortSt}{Q:Bool->SortSt->Prop}(hp:∀x,x∈iQ st->P x) (hk:kindOf st=κ) (h1:1<=ok) (h2:ok<=n) (hz:lo+n<=(iQ st).size) (hs:xk lt (iQ st) lo (lo+ok))
  (h:∀xs,wa (iQ st) xs lo (lo+n)->xk lt xs lo (lo+n)->Q true (jd st xs)):wpS (iG prog w) A E s (binarySort' lo n ok) Q st:=by
 rw[binarySort'_eq];dsimp only;rw[Nat.max_eq_left h1];refine iH (jf (jc (I:=λk c st'=>∃ys,c=(none,())/\st'=jd st ys/\wa (iQ st) ys lo (lo+n)/\xk lt ys lo (lo+k)/\k<=n)
  (Q:=λc st'=>∃ys,c=(none,())/\st'=jd st ys/\wa (iQ st) ys lo (lo+n)/\xk lt ys lo (lo+n)) ?step ?fin ⟨iQ st,rfl,rfl,wa.refl _ _ _,hs,h2⟩) ?post)
 case fin =>
  rintro c st' ⟨ys,rfl,rfl,b1,s1,q⟩;have e:max ok n=n:=by lia
  rw[e]at s1;exact⟨ys,rfl,rfl,b1,s1⟩
 case post =>
  rintro c st' ⟨ys,rfl,rfl,b1,s1⟩;exact iJ (h ys b1 s1)
 case step =>
  rintro k c st' hk1 hk2 ⟨ys,rfl,rfl,b1,s1,q⟩;have hpy:=b1.mem hp;have hsz:=b1.size;have ex:ys[lo+k]?=some (ys[lo+k]'(by lia)):=ag (by lia)
  have px:=hpy _ (aQq ex);refine iH (jf (jc (I:=λi c st'=>∃l r,c=(none,l,r)/\st'=jd st ys/\l<=r/\r<=k/\(∀j y,j<l->ys[lo+j]?=some y->lt (ys[lo+k]'(by lia)) y=false)/\(∀j y,r<=j->j<k->ys[lo+j]?=some y->lt (ys[lo+k]'(by lia)) y=true)/\(r-l)+i<=k)
   (Q:=λc st'=>∃l r,c=(none,l,r)/\st'=jd st ys/\l=r/\r<=k/\(∀j y,j<l->ys[lo+j]?=some y->lt (ys[lo+k]'(by lia)) y=false)/\(∀j y,r<=j->j<k->ys[lo+j]?=some y->lt (ys[lo+k]'(by lia)) y=true))
   ?step1 ?fin1 ⟨0,k,rfl,rfl,aW _,af _,λj y hj=>absurd hj (bW _),λj y g1 g2=>absurd g2 (by lia),by lia⟩) ?post1)
  case fin1 =>
   rintro c st' ⟨l,r,rfl,rfl,a1,a2,a3,a4,a5⟩;exact⟨l,r,rfl,rfl,by lia,a2,a3,a4⟩
  case step1 =>
   rintro i c st' _ hi ⟨l,r,rfl,rfl,a1,a2,a3,a4,a5⟩;dsimp only
   by_cases c1:l ≥ r
   .rw [nK c1];exact iJ ⟨l,r,rfl,rfl,by lia,a2,a3,a4⟩
   rw[nS c1];have em:ys[lo+(l+r) / 2]?=some (ys[lo+(l+r) / 2]'(by lia)):=ag (by lia)
   have pm:=hpy _ (aQq em);refine iH (C.at (st:=jd st ys) ex em px pm hk ?_);cases e:lt (ys[lo+k]'(by lia)) (ys[lo+(l+r) / 2]'(by lia)) with
   |true =>
    dsimp only;rw[nK rfl];refine iJ ⟨l,_,rfl,rfl,by lia,by lia,a3,λj y g1 g2 ey=>?_,by lia⟩
    have py:=hpy _ (aQq ey);cases e':lt (ys[lo+k]'(by lia)) y with
    |true=>rfl
    |false =>
     have q1:=s1 (lo+(l+r) / 2) (lo+j) _ _ (by lia) (by lia) (by lia) em ey
     have q2:=C.trans _ _ _ pm py px q1 e';rw[e]at q2;cases q2
   |false =>
    dsimp only;rw[nS (by decide)]
    refine iJ ⟨_,r,rfl,rfl,by lia,a2,λj y g1 ey=>?_,a4,by lia⟩
    have py:=hpy _ (aQq ey);exact C.trans _ _ _ py pm px (s1 (lo+j) (lo+(l+r) / 2) _ _ (by lia) (by lia) (by lia) ey em) e
  case post1 =>
   rintro c st' ⟨l,r,rfl,rfl,rfl,a2,a3,a4⟩;dsimp only;refine iH (LP (iJ ?_));have e:lo+k-(lo+l)=k-l:=by lia
   show ∃ys',_/\jd st (bubble ys (lo+k) (lo+k-(lo+l)))=jd st ys'/\_;rw[e];exact⟨_,rfl,rfl,b1.trans (Gw (by lia) a2 hk2),NR C hpy (by lia) a2 s1 ex a3 a4,hk2⟩
end
def qQ(lt:iE->iE->Bool) (xs:Array iE):Nat->List (Nat×Nat×Nat)->Nat->Prop
 |s,[],e=>s=e
 |s,p::r,e=>p.1=s/\0<p.2.1/\xk lt xs s (s+p.2.1)/\qQ lt xs (s+p.2.1) r e
theorem sv{lt:iE->iE->Bool}{xs:Array iE}:∀{q r:List (Nat×Nat×Nat)}{s e:Nat},qQ lt xs s (q++r) e↔∃m,qQ lt xs s q m/\qQ lt xs m r e
 | [],r,s,e=>by
  constructor
  .intro h;exact⟨s,rfl,h⟩
  .rintro ⟨m,rfl,h⟩;exact h
 |p::q,r,s,e=>by
  constructor
  .rintro ⟨h1,h2,h3,h4⟩;obtain⟨m,a,b⟩:=sv.mp h4;exact⟨m,⟨h1,h2,h3,a⟩,b⟩
  .rintro ⟨m,⟨h1,h2,h3,a⟩,b⟩;exact⟨h1,h2,h3,sv.mpr ⟨m,a,b⟩⟩
theorem wx{lt:iE->iE->Bool}{xs:Array iE}:∀{q:List (Nat×Nat×Nat)}{s e:Nat},qQ lt xs s q e->s+q.length<=e
 | [],s,e,h=>by have:s=e:=h;simp[this]
 |p::q,s,e,hz=>by
  obtain⟨_,h2,_,h4⟩:=hz;have:=wx h4;rw[lCq];lia
theorem uz{lt:iE->iE->Bool}{xs ys:Array iE}:∀{q:List (Nat×Nat×Nat)}{s e:Nat},(∀k,s<=k->k<e->ys[k]?=xs[k]?)->qQ lt xs s q e->qQ lt ys s q e
 | [],s,e,_,h=>h
 |p::q,s,e,g,hz=>by
  obtain⟨h1,h2,h3,h4⟩:=hz;have l:=wx h4;refine⟨h1,h2,λa b x y a1 a2 a3 ex ey=>h3 a b x y a1 a2 a3 ?_ ?_,uz (λk k1 k2=>g k (by lia) k2) h4⟩
  .rw [←g a a1 (by lia)];exact ex
  .rw [←g b (by lia) (by lia)];exact ey
theorem yx{lt:iE->iE->Bool}{xs:Array iE}:∀{q q':List (Nat×Nat×Nat)}{s e:Nat},q'.map (λp=>(p.1,p.2.1))=q.map (λp=>(p.1,p.2.1))->qQ lt xs s q e->qQ lt xs s q' e
 | [],q',s,e,g,h=>by
  have:q'=[]:=by simpa using g
  subst this;exact h
 |p::q,[],s,e,g,h=>by simp at g
 |p::q,p'::q',s,e,g,hz=>by
  obtain⟨h1,h2,h3,h4⟩:=hz;simp only[ak,List.cons.injEq,Prod.mk.injEq]at g;obtain⟨⟨g1,g2⟩,g3⟩:=g;rw[←g2]at h2 h3 h4;exact⟨g1.trans h1,h2,h3,yx g3 h4⟩
theorem Ct(o:Nat):∀(M:List iE) (n:Nat) (xs:Array iE),o+n+M.length<=xs.size ->
  ((M.zipIdx n).foldl (λa x=>a.setIfInBounds (o+x.2) x.1) xs).toList=xs.toList.take (o+n)++M++xs.toList.drop (o+n+M.length)
 | [],n,xs,h=>by simp
 |y::r,n,xs,h=>by
  rw[List.zipIdx_cons,bK];rw[lCq]at h;rw[Ct o r (n+1) _ (by rw[Array.size_setIfInBounds];lia),fq]
  have hl:o+n<xs.toList.length:=by rw[aq];lia
  have e1:(xs.toList.set (o+n) y).take (o+(n+1))=xs.toList.take (o+n)++[y]:=by
   rw[←eG,df,aD hl,List.take_set_of_le (af _)];rfl
  have e2:(xs.toList.set (o+n) y).drop (o+(n+1)+r.length)=xs.toList.drop (o+n+(r.length+1)):=by
   rw[List.drop_set_of_lt (by lia)]
   congr 1;lia
  rw[e1,e2,lCq,aA,aA,aA];rfl
section
variable {prog:iK}{w:iP}{A:Around}{E:Value->iD->Prop}{s:iD}{κ:iZ}{P:iE->Prop}{lt:iE->iE->Bool}
theorem G8(C:wc prog w A s κ P lt) {left:Bool}{key:iE}{arr:Array iE}{base n:Nat}(hb:base+n<=arr.size) (ha:∀x,x∈arr->P x) (hkey:P key) (so:xk lt arr base (base+n)) :
  ∀i j,i<=j->j<n->vn lt left key arr base j=true->vn lt left key arr base i=true:=by
 intro i j hij hj h;have ei:arr[base+i]?=some (arr[base+i]'(by lia)):=ag (by lia)
 have ej:arr[base+j]?=some (arr[base+j]'(by lia)):=ag (by lia)
 have pi:=ha _ (aQq ei);have pj:=ha _ (aQq ej);have le:=so (base+i) (base+j) _ _ (by lia) (by lia) (by lia) ei ej
 rw[sr ej]at h;rw[sr ei];cases left with
 |true =>
  rw[nK rfl]at h ⊢;cases q:lt (arr[base+i]'(by lia)) key with
  |true=>rfl
  |false =>
   have:=C.trans _ _ _ hkey pi pj q le;rw[h]at this;cases this
 |false =>
  rw[nS (by decide)]at h ⊢
  have h':lt key (arr[base+j]'(by lia))=false:=by simpa using h
  have:=C.trans _ _ _ pi pj hkey le h';simp[this]
theorem rS{a:Array iE}{i j:Nat}{x:iE}(h:x∈(a.extract i j).toList):∃k,i<=k/\k<j/\a[k]?=some x:=by
 rw[pU]at h;obtain⟨k,k1,k2,e⟩:=uc h;rw[bD]at e;exact⟨k,k1,k2,e⟩
theorem zh{a:Array iE}{i j:Nat}(h:xk lt a i j):vM lt (a.extract i j).toList:=by
 rw[pU];refine bJ.mpr λp q hp hq hpq=>?_
 rw[aR,lTq,aq]at hp hq;have e:∀k (hk:k<((a.toList.take j).drop i).length),a[i+k]?=some ((a.toList.take j).drop i)[k]:=λk hk=>by
  rw[aR,lTq,aq]at hk;rw[ee,fv,aF];exact⟨by lia,by simp⟩
 exact h (i+p) (i+q) _ _ (by lia) (by lia) (by lia) (e p _) (e q _)
theorem EJ(i:Nat):mergeAt' i=(do
 let s ←get
 let (some (sa,na,power),some (sb,nb,_)):=((ju s)[i]?,(ju s)[i+1]?)|jN "internal:list.sort.pending"
 set (setPending s (((ju s).setIfInBounds i (sa,na+nb,power)).eraseIdxIfInBounds (i+1)))
 let some k ←uH false (←jh (iQ s) sb) (iQ s) sa na 0|return false
 let (sa,na):=(sa+k,na-k)
 if na == 0 then return true
 let some nb ←uH true (←jh (iQ s) (sa+na-1)) (iQ s) sb nb (nb-1)|return false
 if nb == 0 then return true
 let x:=(iQ s).extract sa sb
 let y:=(iQ s).extract sb (sb+nb)
 let merged ←if na<=nb then AU x y else zX x y
 modify λs=>jd s (merged.toList.zipIdx.foldl (λa (p,j)=>a.setIfInBounds (sa+j) p) (iQ s))
 return (failedOf (←get)).isNone):=rfl
theorem IG{st st':SortSt}{Q:PUnit->SortSt->Prop}(h:Q ⟨⟩ st'):wpS (iG prog w) A E s (set st':StateT SortSt Sem PUnit) Q st:=by
 unfold wpS;rw[StateT.run_set];exact iO ⟨rfl,h⟩
theorem KB(C:wc prog w A s κ P lt) {xs zs M:Array iE}{sa na nb k l:Nat}(hp:∀x,x∈xs->P x) (hz:sa+na+nb<=xs.size) (hk:k<=na) (hl:l<=nb) (h1:xk lt xs sa (sa+na)) (h2:xk lt xs (sa+na) (sa+na+nb)) {key last:iE}
  (ek:xs[sa+na]?=some key) (el:xs[sa+na-1]?=some last)
  (k2:∀j y,j<k->xs[sa+j]?=some y->lt key y=false) (l3:∀j y,l<=j->j<nb->xs[sa+na+j]?=some y->lt y last=false) (hna:0<na) (hnb:0<nb)
  (m:Ml lt (xs.extract (sa+k) (sa+na)) (xs.extract (sa+na) (sa+na+l)) M)
  (hzs:zs.toList=xs.toList.take (sa+k)++M.toList++xs.toList.drop (sa+k+M.toList.length)):wa xs zs sa (sa+na+nb)/\xk lt zs sa (sa+na+nb):=by
 have lM:M.toList.length=(na-k)+l:=by
  have:=m.pm.length_eq;simp only[lAq,aq,dP]at this ⊢;lia
 have hlx:xs.toList.length=xs.size:=aq;have gz:∀p,zs[p]?=if p<sa+k then xs[p]? else if p<sa+na+l then M[p-(sa+k)]? else xs[p]?:=λp=>by
  rw[←aC,hzs]
  by_cases c1:p<sa+k
  .rw [nK c1,aA,gZq (by rw[lTq];lia),fB c1,aC]
  .rw [nS c1,aA,gYq (by rw[lTq];lia),lTq,show min (sa+k) xs.toList.length=sa+k by lia]
   by_cases c2:p<sa+na+l
   .rw [nK c2,gZq (by lia),aC]
   .rw [nS c2,gYq (by lia),fm,aC]
    congr 1;lia
 have pk:=hp _ (aQq ek);have pl:=hp _ (aQq el);have from_:∀q v,M[q]?=some v->(∃j,k<=j/\j<na/\xs[sa+j]?=some v)∨∃j,j<l/\xs[sa+na+j]?=some v:=λq v e=>by
  have hv:v∈M.toList:=by simpa using aQq e
  rcases mAq.mp (m.pm.mem_iff.mp hv) with hv|hv
  .obtain ⟨j,j1,j2,ej⟩:=rS hv;exact .inl ⟨j-sa,by lia,by lia,by rw[show sa+(j-sa)=j by lia];exact ej⟩
  .obtain ⟨j,j1,j2,ej⟩:=rS hv;exact .inr ⟨j-(sa+na),by lia,by rw[show sa+na+(j-(sa+na))=j by lia];exact ej⟩
 refine⟨⟨?_,λp hp'=>?_⟩,?_⟩
 .rw [Array.perm_iff_toList_perm,hzs];have c:xs.toList=xs.toList.take (sa+k)++((xs.extract (sa+k) (sa+na)).toList++(xs.extract (sa+na) (sa+na+l)).toList)++xs.toList.drop (sa+k+M.toList.length):=by
   rw[pU,pU,lM];have a1:=xZ xs.toList (sa+k) (sa+na) (by lia)
   have a2:=xZ xs.toList (sa+na) (sa+na+l) (by lia)
   have a3:sa+k+(na-k+l)=sa+na+l:=by lia
   rw[a3,←aA,←a1,←a2,aZ]
  conv=>rhs;rw[c]
  exact bO.append_right _ (bO.append_left _ m.pm)
 .rw [gz]
  by_cases c1:p<sa+k
  .rw [nK c1]
  .rw [nS c1,nS (by lia)]
 .intro p q x y a1 a2 a3 ex ey;rw[gz]at ex ey
  by_cases p1:p<sa+k
  .rw [nK p1]at ex;have px:=hp _ (aQq ex);have lx:lt key x=false:=k2 (p-sa) x (by lia) (by rw[show sa+(p-sa)=p by lia];exact ex)
   by_cases q1:q<sa+k
   .rw [nK q1]at ey;exact h1 p q _ _ a1 a2 (by lia) ex ey
   .rw [nS q1]at ey
    by_cases q2:q<sa+na+l
    .rw [nK q2]at ey;rcases from_ _ _ ey with ⟨j,j1,j2,ej⟩|⟨j,j1,ej⟩
     .exact h1 p (sa+j) _ _ a1 (by lia) (by lia) ex ej
     .exact C.trans _ _ _ px pk (hp _ (aQq ej)) lx (h2 (sa+na) (sa+na+j) _ _ (af _) (by lia) (by lia) ek ej)
    .rw [nS q2]at ey;exact C.trans _ _ _ px pk (hp _ (aQq ey)) lx (h2 (sa+na) q _ _ (af _) (by lia) (by lia) ek ey)
  .rw [nS p1]at ex;rw[nS (by lia)]at ey
   by_cases p2:p<sa+na+l
   .rw [nK p2]at ex
    by_cases q2:q<sa+na+l
    .rw [nK q2]at ey;rcases dN a2 with c|c
     .have ex':M.toList[p-(sa+k)]?=some x:=by rw[aC];exact ex
      have ey':M.toList[q-(sa+k)]?=some y:=by rw[aC];exact ey
      obtain⟨hx,e1⟩:=gSq.mp ex';obtain⟨hy,e2⟩:=gSq.mp ey';have:=bJ.mp m.so (p-(sa+k)) (q-(sa+k)) hx hy (by lia)
      rw[e1,e2]at this;exact this
     .subst c;rw[ex]at ey;cases ey;rcases from_ _ _ ex with ⟨j,j1,j2,ej⟩|⟨j,j1,ej⟩
      .exact C.refl (hp _ (aQq ej))
      .exact C.refl (hp _ (aQq ej))
    .rw [nS q2]at ey;have py:=hp _ (aQq ey);rcases from_ _ _ ex with ⟨j,j1,j2,ej⟩|⟨j,j1,ej⟩
     .exact C.trans _ _ _ (hp _ (aQq ej)) pl py (h1 (sa+j) (sa+na-1) _ _ (by lia) (by lia) (by lia) ej el) (l3 (q-(sa+na)) y (by lia) (by lia) (by rw[show sa+na+(q-(sa+na))=q by lia];exact ey))
     .exact h2 (sa+na+j) q _ _ (by lia) (by lia) (by lia) ej ey
   .rw [nS p2]at ex;rw[nS (by lia)]at ey
    exact h2 p q _ _ (by lia) a2 (by lia) ex ey
end
section
variable {prog:iK}{w:iP}{A:Around}{E:Value->iD->Prop}{s:iD}{κ:iZ}{P:iE->Prop}{lt:iE->iE->Bool}
theorem Ld{α:Type}{l:List α}{i:Nat}{a b:α}(h1:l[i]?=some a) (h2:l[i+1]?=some b):l=l.take i++a::b::l.drop (i+2):=by
 obtain⟨h3,e3⟩:=gSq.mp h1;obtain⟨h4,e4⟩:=gSq.mp h2
 conv=>lhs;rw[←aZ i l]
 rw[au h3,au h4,e3,e4]
theorem IR{α:Type}{q r:List α}{a b c:α}:((q++a::b::r).set q.length c).eraseIdx (q.length+1)=q++c::r:=by
 rw[List.set_append_right _ _ (af _),cP,cS,List.eraseIdx_append_of_length_le (by lia),fO]
 rfl
theorem za(C:wc prog w A s κ P lt) {i lo:Nat}{st:SortSt}{Q:Bool->SortSt->Prop}(hp:∀x,x∈iQ st->P x) (hk:kindOf st=κ) (hf:failedOf st=none) (hlo:lo<=(iQ st).size) (hch:qQ lt (iQ st) 0 (ju st).toList lo)
  (hi:i+1<(ju st).size) (h:∀xs p g,wa (iQ st) xs 0 lo->p.size+1=(ju st).size->qQ lt xs 0 p.toList lo->Q true (SortSt.mk' κ xs p g none)):wpS (iG prog w) A E s (mergeAt' i) Q st:=by
 obtain⟨κ',arr,pend,g0,fl⟩:=st;have hk:κ'=κ:=hk;have hf:fl=none:=hf;subst hk hf;have hp:∀x,x∈arr->P x:=hp;have hlo:lo<=arr.size:=hlo;have hch:qQ lt arr 0 pend.toList lo:=hch;have hi:i+1<pend.size:=hi;have e1:pend[i]?=some (pend[i]'(by lia)):=ag (by lia)
 have e2:pend[i+1]?=some (pend[i+1]'(by lia)):=ag (by lia)
 generalize pend[i]'(by lia)=a at e1
 generalize pend[i+1]'(by lia)=b at e2
 obtain⟨sa,na,pa⟩:=a;obtain⟨sb,nb,pb⟩:=b;have e1':pend.toList[i]?=some (sa,na,pa):=by rw[aC];exact e1
 have e2':pend.toList[i+1]?=some (sb,nb,pb):=by rw[aC];exact e2
 have ep:=Ld e1' e2';have lq:(pend.toList.take i).length=i:=by rw[lTq,aq];lia
 generalize pend.toList.take i=q at ep lq;generalize pend.toList.drop (i+2)=r at ep;rw[ep]at hch;obtain⟨m0,c1,c2⟩:=sv.mp hch;obtain⟨x1,x2,x3,x4,x5,x6,x7⟩:=c2;have d1:sa=m0:=x1;have d2:0<na:=x2;have d3:xk lt arr m0 (m0+na):=x3;have f1:sb=m0+na:=x4;have f2:0<nb:=x5;have f3:xk lt arr (m0+na) (m0+na+nb):=x6;have f4:qQ lt arr (m0+na+nb) r lo:=x7
 clear x1 x2 x3 x4 x5 x6 x7
 subst d1 f1;have hrl:sa+na+nb+r.length<=lo:=wx f4;have hql:0+q.length<=sa:=wx c1;have hz:sa+na+nb<=arr.size:=by lia
 have np:((pend.setIfInBounds i (sa,na+nb,pa)).eraseIdxIfInBounds (i+1)).toList=q++(sa,na+nb,pa)::r:=by
  rw[Array.toList_eraseIdxIfInBounds,fq,ep,←lq];exact IR
 have ns:((pend.setIfInBounds i (sa,na+nb,pa)).eraseIdxIfInBounds (i+1)).size+1=pend.size:=by
  rw[←aq,np,←aq,ep];simp only[lAq,lCq];lia
 have fin:∀zs g,wa arr zs sa (sa+na+nb)->xk lt zs sa (sa+na+nb)->Q true (SortSt.mk' κ' zs ((pend.setIfInBounds i (sa,na+nb,pa)).eraseIdxIfInBounds (i+1)) g none):=λzs g b1 s1=>by
  refine h zs _ g ⟨b1.pm,λk hk=>b1.out k (by lia)⟩ ns ?_
  rw[np];refine sv.mpr ⟨sa,uz (λk _ k2=>b1.out k (.inl k2)) c1,rfl,by show 0<na+nb;lia,?_,?_⟩
  .show xk lt zs sa (sa+(na+nb));rw[←eG];exact s1
  .show qQ lt zs (sa+(na+nb)) r lo;rw[←eG];exact uz (λk k1 _=>b1.out k (.inr k1)) f4
 rw[EJ];refine iH (jG ?_);dsimp only;rw[e1,e2];dsimp only;refine iH (IG ?_);have ek:arr[sa+na]?=some (arr[sa+na]'(by lia)):=ag (by lia)
 have el:arr[sa+na-1]?=some (arr[sa+na-1]'(by lia)):=ag (by lia)
 have pk:=hp _ (aQq ek);have pl:=hp _ (aQq el);refine iH (oi ek ?_);refine iH (sR C d2 (by lia) hp pk rfl (G8 C (by lia) hp pk d3) λk k1 k2 k3=>?_)
 dsimp only;have kl:∀j y,j<k->arr[sa+j]?=some y->lt (arr[sa+na]'(by lia)) y=false:=λj y hj ey=>by
  have:=k2 j hj;rw[sr ey,nS (by decide)]at this
  simpa using this
 have kh:∀j y,k<=j->j<na->arr[sa+j]?=some y->lt (arr[sa+na]'(by lia)) y=true:=λj y h1 h2 ey=>by
  have:=k3 j h1 h2;rw[sr ey,nS (by decide)]at this
  simpa using this
 by_cases c1':na-k=0
 .rw [nK (by simp[c1'])]
  refine iJ (fin arr g0 (wa.refl _ _ _) λp q x y a1 a2 a3 ex ey=>?_)
  have px:=hp _ (aQq ex);have py:=hp _ (aQq ey)
  by_cases q1:q<sa+na
  .exact d3 p q _ _ a1 a2 q1 ex ey
  .by_cases p1:p<sa+na
   .exact C.trans _ _ _ px pk py (kl (p-sa) x (by lia) (by rw[show sa+(p-sa)=p by lia];exact ex)) (f3 (sa+na) q _ _ (af _) (by lia) a3 ek ey)
   .exact f3 p q _ _ (by lia) a2 a3 ex ey
 rw[nS (by simpa using c1')]
 have ea:sa+k+(na-k)-1=sa+na-1:=by lia
 rw[ea];refine iH (oi el ?_);refine iH (sR C (by lia) (by lia) hp pl rfl (G8 C (by lia) hp pl f3) λl l1 l2 l3=>?_)
 dsimp only;have ll:∀j y,j<l->arr[sa+na+j]?=some y->lt y (arr[sa+na-1]'(by lia))=true:=λj y hj ey=>by
  have:=l2 j hj;rw[sr ey,nK rfl]at this;exact this
 have lh:∀j y,l<=j->j<nb->arr[sa+na+j]?=some y->lt y (arr[sa+na-1]'(by lia))=false:=λj y h1 h2 ey=>by
  have:=l3 j h1 h2;rw[sr ey,nK rfl]at this;exact this
 by_cases c2':l=0
 .rw [nK (by simp[c2'])]
  refine iJ (fin arr g0 (wa.refl _ _ _) λp q x y a1 a2 a3 ex ey=>?_)
  have px:=hp _ (aQq ex);have py:=hp _ (aQq ey)
  by_cases q1:q<sa+na
  .exact d3 p q _ _ a1 a2 q1 ex ey
  .by_cases p1:p<sa+na
   .exact C.trans _ _ _ px pl py (d3 p (sa+na-1) _ _ a1 (by lia) (by lia) ex el) (lh (q-(sa+na)) y (by lia) (by lia) (by rw[show sa+na+(q-(sa+na))=q by lia];exact ey))
   .exact f3 p q _ _ (by lia) a2 a3 ex ey
 rw[nS (by simpa using c2')]
 have sx:vM lt (arr.extract (sa+k) (sa+na)).toList:=zh λp q x y a1 a2 a3 ex ey=>d3 p q x y (by lia) a2 a3 ex ey
 have sy:vM lt (arr.extract (sa+na) (sa+na+l)).toList:=zh λp q x y a1 a2 a3 ex ey=>f3 p q x y a1 a2 (by lia) ex ey
 have hx:∀x,x∈arr.extract (sa+k) (sa+na)->P x:=λx hx=>by
  obtain⟨j,_,_,e⟩:=rS (gu.mpr hx);exact hp _ (aQq e)
 have hy:∀x,x∈arr.extract (sa+na) (sa+na+l)->P x:=λx hx=>by
  obtain⟨j,_,_,e⟩:=rS (gu.mpr hx);exact hp _ (aQq e)
 have zx:(arr.extract (sa+k) (sa+na)).size=na-k:=by rw[dP];lia
 have zy:(arr.extract (sa+na) (sa+na+l)).size=l:=by rw[dP];lia
 have g0':(arr.extract (sa+na) (sa+na+l))[0]?=some (arr[sa+na]'(by lia)):=by
  rw[fY,nK (by lia),fP]
  exact ek
 have gl':(arr.extract (sa+k) (sa+na))[na-k-1]?=some (arr[sa+na-1]'(by lia)):=by
  rw[fY,nK (by lia),show sa+k+(na-k-1)=sa+na-1 by lia]
  exact el
 have low:∀y∈(arr.extract (sa+k) (sa+na)).toList,lt y (arr[sa+na]'(by lia))=false:=λy hy=>by
  obtain⟨j,j1,j2,ej⟩:=rS hy;exact C.asym _ _ pk (hp _ (aQq ej)) (kh (j-sa) y (by lia) (by lia) (by rw[show sa+(j-sa)=j by lia];exact ej))
 have high:∀x∈(arr.extract (sa+na) (sa+na+l)).toList,lt (arr[sa+na-1]'(by lia)) x=false:=λx hx=>by
  obtain⟨j,j1,j2,ej⟩:=rS hx;exact C.asym _ _ (hp _ (aQq ej)) pl (ll (j-(sa+na)) x (by lia) (by rw[show sa+na+(j-(sa+na))=j by lia];exact ej))
 have done:∀M g,Ml lt (arr.extract (sa+k) (sa+na)) (arr.extract (sa+na) (sa+na+l)) M ->
   Q true (SortSt.mk' κ' (M.toList.zipIdx.foldl (λa x=>a.setIfInBounds (sa+k+x.snd) x.fst) arr) ((pend.setIfInBounds i (sa,na+nb,pa)).eraseIdxIfInBounds (i+1)) g none):=λM g mg=>by
  have lM:M.toList.length=(na-k)+l:=by
   have:=mg.pm.length_eq;simp only[lAq,aq,dP]at this ⊢;lia
  have wb:=Ct (sa+k) M.toList 0 arr (by lia)
  obtain⟨b1,s1⟩:=KB C hp hz k1 l1 d3 f3 ek el kl lh d2 f2 mg wb;exact fin _ g b1 s1
 by_cases c3:na-k<=l
 .rw [nK c3];refine iH (ED (κ:=κ') (a:=arr.extract (sa+k) (sa+na)) (b:=arr.extract (sa+na) (sa+na+l)) C hx hy rfl sx sy (by rw[zx];lia) (by rw[zy];lia) (λx ex y hy=>?_) (λj hj x hx y hy=>?_) λM g mg=>?_)
  .rw [g0']at ex;cases ex;exact low y hy
  .have hj':j=na-k-1:=by lia
   subst hj';have:y=arr[sa+na-1]'(by lia):=by
    obtain⟨t,t1,t2⟩:=wg hy;rw[zx]at t1;have t0:t=0:=by lia
    subst t0;rw[fP,gl']at t2;exact(bc.inj t2).symm
   rw[this];exact high x hx
  .refine iH (jy ?_);refine iH (jG ?_);exact iJ (done M g mg)
 .rw [nS c3];refine iH (DU (κ:=κ') (a:=arr.extract (sa+k) (sa+na)) (b:=arr.extract (sa+na) (sa+na+l)) C hx hy rfl sx sy (by rw[zx];lia) (by rw[zy];lia) (λx hx y hy=>?_) (λx ex y hy=>?_) λM g mg=>?_)
  .have:x=arr[sa+na]'(by lia):=by
    obtain⟨t,t1,t2⟩:=wR hx;have t0:t=0:=by lia
    subst t0;rw[bD,g0']at t2;exact(bc.inj t2).symm
   rw[this];exact low y hy
  .rw [zx,gl']at ex;cases ex;exact high y hy
  .refine iH (jy ?_);refine iH (jG ?_);exact iJ (done M g mg)
end
section
variable {prog:iK}{w:iP}{A:Around}{E:Value->iD->Prop}{s:iD}{κ:iZ}{P:iE->Prop}{lt:iE->iE->Bool}
abbrev uQ(κ:iZ) (xs:Array iE) (p:Array (Nat×Nat×Nat)) (g:Nat):SortSt:=SortSt.mk' κ xs p g none
theorem Ak{xs:Array iE}{p:Array (Nat×Nat×Nat)}{lo n:Nat}(h:qQ lt xs 0 p.toList lo) (hn:0<n) (hs:xk lt xs lo (lo+n)):qQ lt xs 0 (p.push (lo,n,0)).toList (lo+n):=by
 rw[de];exact sv.mpr ⟨lo,h,rfl,hn,hs,rfl⟩
theorem Bw(p:Array (Nat×Nat×Nat)) (i pw:Nat):(p.modify i λx=>(x.fst,x.2.fst,pw)).toList.map (λp=>(p.1,p.2.1))=p.toList.map (λp=>(p.1,p.2.1)):=by
 apply eg;intro k;rw[gMq,gMq,aC,aC,Array.getElem?_modify];split
 .cases p[k]? <;> rfl
 .rfl
theorem yt(C:wc prog w A s κ P lt) {arr:Array iE}{g:Nat}{Q:Unit->SortSt->Prop}(hp:∀x,x∈arr->P x) (h2:2<=arr.size)
    (h:∀xs p g',xs.Perm arr->xk lt xs 0 arr.size->Q () (uQ κ xs p g')):wpS (iG prog w) A E s sortRuns' Q (uQ κ arr #[] g):=by
  rw[sortRuns'_eq];refine iH (jG ?_);dsimp only;have e0:iQ (uQ κ arr #[] g)=arr:=rfl;rw[e0];generalize minRun' arr.size arr.size 0=mr;refine iH (jf (jc
    (I:=λi c st'=>∃lo xs p g',c=(none,lo)/\st'=uQ κ xs p g'/\xs.Perm arr/\lo<=arr.size/\qQ lt xs 0 p.toList lo/\i<=lo)
    (Q:=λc st'=>∃xs p g',c=(none,arr.size)/\st'=uQ κ xs p g'/\xs.Perm arr/\qQ lt xs 0 p.toList arr.size)
    ?step ?fin ⟨0,arr,#[],g,rfl,rfl,gD.refl _,aW _,rfl,af _⟩) ?post)
  case fin =>
    rintro c st' ⟨lo,xs,p,g',rfl,rfl,q1,q2,q3,q4⟩;have e:lo=arr.size:=by lia
    subst e;exact⟨xs,p,g',rfl,rfl,q1,q3⟩
  case step =>
    rintro i c st' _ hi ⟨lo,xs,p,g',rfl,rfl,q1,q2,q3,q4⟩;dsimp only;have hpx:∀x,x∈xs->P x:=λx hx=>hp x (q1.mem_iff.mp hx)
    have hzx:xs.size=arr.size:=q1.size_eq
    by_cases c1:lo ≥ arr.size
    . rw[nK c1]
      have e:lo=arr.size:=by lia
      subst e;exact iJ ⟨xs,p,g',rfl,rfl,q1,q3⟩
    rw[nS c1];refine iH (Do (st:=uQ κ xs p g') C hpx rfl (by lia) (by show lo+(arr.size-lo)<=xs.size;lia) λn ys n1 n2 b1 s1=>?_)
    dsimp only;have hb:wa xs ys lo (lo+n):=b1;show wpS _ _ _ _ _ _ (uQ κ ys p g')
    by_cases c2:n<mr
    all_goals
      first
        | (rw[nK c2]
           refine iH (vd ?_);refine iH (GO (st:=uQ κ ys p g') (n:=min (arr.size-lo) mr) C (hb.mem hpx) rfl n1 (by lia) (by show lo+min (arr.size-lo) mr<=ys.size;have:=hb.size;lia) s1 λzs b2 s2=>?_)
           rw[nS (by decide)]
           have hb2:wa xs zs lo (lo+min (arr.size-lo) mr):=(hb.mono (by lia)).trans b2
           have nn:1<=min (arr.size-lo) mr:=by lia
           have nl:lo+min (arr.size-lo) mr<=arr.size:=by lia
           show wpS _ _ _ _ _ _ (uQ κ zs p g')
           clear b1 s1 hb b2
           generalize min (arr.size-lo) mr=nN at hb2 nn nl s2 ⊢)
        | (rw[nS c2]
           have hb2:=hb;have s2:=s1;have nn:=n1;have nl:lo+n<=arr.size:=by lia
           clear b1 s1 hb
           generalize hnN:n=nN at hb2 nn nl s2 ⊢;generalize hzs:ys=zs at hb2 s2 ⊢)
      have hpz:=hb2.mem hpx;have hzz:=hb2.size;have hcz:qQ lt zs 0 p.toList lo:=uz (λk _ k2=>hb2.out k (.inl k2)) q3
      have pz:zs.Perm arr:=hb2.pm.trans q1;refine iH (jG ?_);have ep:ju (uQ κ zs p g')=p:=rfl;rw[ep];cases eb:p.back? with
      |none =>
        dsimp only;refine iH (jy (iJ ?_));exact⟨lo+nN,zs,p.push (lo,nN,0),g',rfl,rfl,pz,nl,Ak hcz nn s2,by lia⟩
      |some t =>
        obtain⟨s1',n1',pw0⟩:=t;dsimp only;refine iH (jf (jc
          (I:=λi c st'=>∃ys q g2,c=(none,())/\st'=uQ κ ys q g2/\wa zs ys 0 lo/\qQ lt ys 0 q.toList lo)
          (Q:=λc st'=>∃ys q g2,c=(none,())/\st'=uQ κ ys q g2/\wa zs ys 0 lo/\qQ lt ys 0 q.toList lo)
          ?step1 (λc st' hh=>hh) ⟨zs,p,g',rfl,rfl,wa.refl _ _ _,hcz⟩) ?post1)
        case step1 =>
          rintro j c st' _ hj ⟨ys2,q,g2,rfl,rfl,b3,ch3⟩;refine iH (jG ?_);have eq:ju (uQ κ ys2 q g2)=q:=rfl;rw[eq]
          by_cases d1:q.size>1
          . rw[nK d1]
            have eo:q[q.size-2]?=some (q[q.size-2]'(by lia)):=ag (by lia)
            rw[eo];generalize q[q.size-2]'(by lia)=o
            obtain⟨o1,o2,older⟩:=o;dsimp only;split
            . exact iJ ⟨ys2,q,g2,rfl,rfl,b3,ch3⟩
            . refine iH (za (st:=uQ κ ys2 q g2) C (b3.mem hpz) rfl rfl (by show lo<=ys2.size;have:=b3.size;lia) ch3 (by show q.size-2+1<q.size;lia) λxs3 p3 g3 b4 _ ch4=>?_)
              rw[nS (by decide)]
              exact iJ ⟨xs3,p3,g3,rfl,rfl,b3.trans b4,ch4⟩
          . rw[nS d1]
            exact iJ ⟨ys2,q,g2,rfl,rfl,b3,ch3⟩
        case post1 =>
          rintro c st' ⟨ys2,q,g2,rfl,rfl,b3,ch3⟩;dsimp only;refine iH (jy (iH (jy (iJ ?_))));have s3:xk lt ys2 lo (lo+nN):=λa b x y a1 a2 a3 ex ey=>s2 a b x y a1 a2 a3 (by rw[←b3.out a (.inr a1)];exact ex) (by rw[←b3.out b (.inr (by lia))];exact ey)
          exact⟨lo+nN,ys2,_,g2,rfl,rfl,b3.pm.trans pz,nl,Ak (yx (Bw q _ _) ch3) nn s3,by lia⟩
  case post =>
    rintro c st' ⟨xs,p,g',rfl,rfl,q1,q3⟩;dsimp only;refine iH (jf (jc
      (I:=λi c st'=>∃ys q g2,c=(none,())/\st'=uQ κ ys q g2/\ys.Perm arr/\qQ lt ys 0 q.toList arr.size/\q.size+i<=arr.size)
      (Q:=λc st'=>∃ys q g2,c=(none,())/\st'=uQ κ ys q g2/\ys.Perm arr/\qQ lt ys 0 q.toList arr.size/\q.size<=1)
      ?step2 ?fin2 ⟨xs,p,g',rfl,rfl,q1,q3,by have:=wx q3;rw[aq]at this;lia⟩) ?post2)
    case fin2 =>
      rintro c st' ⟨ys,q,g2,rfl,rfl,r1,r2,r3⟩;exact⟨ys,q,g2,rfl,rfl,r1,r2,by lia⟩
    case step2 =>
      rintro j c st' _ hj ⟨ys,q,g2,rfl,rfl,r1,r2,r3⟩;refine iH (jG ?_);have eq:ju (uQ κ ys q g2)=q:=rfl;rw[eq]
      by_cases d1:q.size<=1
      . rw[nK d1]
        exact iJ ⟨ys,q,g2,rfl,rfl,r1,r2,d1⟩
      rw[nS d1];have hi':∀(b:Prop) [Decidable b],(if b then q.size-2-1 else q.size-2)+1<q.size:=λb _=>by split <;> lia
      refine iH (za (st:=uQ κ ys q g2) C (λx hx=>hp x (r1.mem_iff.mp hx)) rfl rfl (by show arr.size<=ys.size;have:=r1.size_eq;lia) r2 (hi' _) λxs3 p3 g3 b4 ns ch4=>?_)
      rw[nS (by decide)]
      have ns':p3.size+1=q.size:=ns;exact iJ ⟨xs3,p3,g3,rfl,rfl,b4.pm.trans r1,ch4,by lia⟩
    case post2 =>
      rintro c st' ⟨ys,q,g2,rfl,rfl,r1,r2,r3⟩;refine iJ (h ys q g2 r1 ?_);rw[←aq]at r3;cases eq:q.toList with
      |nil =>
        rw[eq]at r2;have r2':0=arr.size:=r2;lia
      |cons a r =>
        rw[eq]at r2 r3;have er:r=[]:=by
          rw[lCq]at r3;exact aV.mp (by lia)
        subst er;obtain⟨_,_,s3,e3⟩:=r2;have e3':0+a.2.1=arr.size:=e3;rw[e3']at s3;exact s3
end
end MrS
namespace Xe
open PySem
section
variable {M:jR}{A:Around}{E:Value->iD->Prop}{s:iD}
structure Ce (fs:List Addr) (e:Addr) (oe:Obj) (T:Addr) (h h':Heap):Prop where
 keep:∀b o,b≠e->b∉fs->h.get? b=some o->h'.get? b=some o
 slot:∀b o,b≠e->h.get? b=some o->∃sl,h'.get? b=some { o with slots:=sl }
 exc:h'.get? e=some (oe.mapFields (·.setIfInBounds 1 (.ref T)))
 fresh:h.get? T=none
 ent:∃oT ts,h'.get? T=some oT/\oT.data = .fields ts/\ts[3]?=some .none
theorem Cq{base:Heap}{env:Env}{outer:List Env}{L e:Addr}{oe:Obj}{vs:Array Value}{head:Value}{hadNext:Bool}{Q:Unit->iD->Prop}
  (hfr:A.frames=some (env::outer)) (hl:s.heap.FunFrames base (env::outer)) (hf:env.frame=some L)
  (he:s.heap.get? e=some oe) (hd:oe.data = .fields vs) (hsz:1<vs.size)
  (h:∀h' T,Ce ((env::outer).filterMap (·.frame)) e oe T s.heap h'->Q () { s with heap:=h' }) :
  iI M A (do let a ←frameOf env;let pl ←entryPlaceOf L hadNext;let b ←EntryCells.newEntry head a .none (ka L) .none pl;setField (.ref e) 1 b) (λ_ s'=>iI M A (setFlight (.ref e) none) Q E s') E s:=by
 have hene:e∉(env::outer).filterMap (·.frame):=λhm=>by
  obtain⟨_,o,ho,hnf⟩:=hl.mem hm;rw[he]at ho;injection ho with ho;subst ho;exact hnf vs hd
 refine iF (wpAny_frameOf_fun hfr hl hf λh₁ hs₁=>?_)
 refine iF (wpAny_entryPlaceOf λpl hpl=>?_)
 unfold EntryCells.newEntry newFields;refine iF (ko ?_ (hpl.sizeOk5 _ _ _ _ _));have he₁:h₁.get? e=some oe:=(hs₁.2.1 e hene).trans he;have he₂:=ae (h:=h₁) { cls:=.type "traceback", dict:=none,data:=.fields ([head,.ref L,.none,ka L,.none]++(if pl.isEmpty then aE 6 cZ else pl)).toArray } he₁
 refine kR he₂ hd hsz ?_;have hTe:h₁.objs.size≠e:=dr (ah he₁);have hd₃:=Obj.data_mapFields hd (·.setIfInBounds 1 (ao h₁.objs.size));have he₃:=bL (Obj.mapFields (·.setIfInBounds 1 (ao h₁.objs.size))) he₂ (Obj.isFreed_of_fields hd₃);have hT₃:=(aJ (h₁.push { cls:=.type "traceback", dict:=none,data:=.fields ([head,.ref L,.none,ka L,.none]++(if pl.isEmpty then aE 6 cZ else pl)).toArray })
  (Obj.mapFields (·.setIfInBounds 1 (ao h₁.objs.size))) (Ne.symm hTe)).trans (aU h₁ rfl)
 unfold setFlight;refine iF (kN he₃ hd₃ (x:=.ref h₁.objs.size) (by simp[hsz]) ?_)
 rw[nK (show (ao h₁.objs.size != cZ)=true from by simp)]
 refine kR hT₃ rfl (by simp only[az,lAq,lCq,bC] <;> lia) (h _ h₁.objs.size ?_)
 have keep:∀b o,b≠e->h₁.get? b=some o ->
   (((h₁.push { cls:=.type "traceback", dict:=none,data:=.fields ([head,.ref L,.none,ka L,.none]++(if pl.isEmpty then aE 6 cZ else pl)).toArray }).update e (Obj.mapFields (·.setIfInBounds 1 (ao h₁.objs.size)))).update h₁.objs.size
    (Obj.mapFields (·.setIfInBounds 3 ((none:Option Addr).elim cZ λf=>ka f)))).get? b=some o:=λb o hbe hb=>by
  have hbT:h₁.objs.size≠b:=dr (ah hb);rw[aJ _ _ hbT,aJ _ _ (Ne.symm hbe)];exact ae _ hb
 refine⟨λb o hb hbf ho=>keep b o hb ((hs₁.2.1 b hbf).trans ho),λb o hb ho=>?_,?_,?_,?_⟩
 .obtain ⟨sl,e1⟩:=hs₁.2.2 b o ho;exact⟨sl,keep b _ hb e1⟩
 .rw [aJ _ _ hTe];exact he₃
 .exact bT (by rw[hs₁.1];exact af _)
 .exact ⟨_,_,bL _ hT₃ (Obj.isFreed_of_fields (Obj.data_mapFields rfl _)),Obj.data_mapFields rfl _,by first|(simp;done)|(rcases hpl with rfl|⟨_,_,_,_,_,_,_,rfl⟩ <;> simp)⟩
def B7(h:Heap) (vs:Array Value):Prop:=vs[1]?=some .none∨∃T0 o0 ts,vs[1]?=some (.ref T0)/\h.get? T0=some o0/\o0.data = .fields ts/\ts[3]?=some .none
theorem T8{base:Heap}{env:Env}{outer:List Env}{L e:Addr}{oe:Obj}{vs:Array Value}{Q:Unit->iD->Prop}
  (hfr:A.frames=some (env::outer)) (hl:s.heap.FunFrames base (env::outer)) (hf:env.frame=some L)
  (he:s.heap.get? e=some oe) (hd:oe.data = .fields vs) (hq:B7 s.heap vs)
  (h:∀h' T,Ce ((env::outer).filterMap (·.frame)) e oe T s.heap h'->Q () { s with heap:=h' }) :
  iI M A (noteFrame (.ref e) env) (λ_ s'=>iI M A (setFlight (.ref e) none) Q E s') E s:=by
 unfold noteFrame;simp only[hf];rcases hq with h1|⟨T0,o0,ts,h1,hT,hdT,h3⟩
 .refine iF (kN he hd h1 ?_);rw[nS (by decide)]
  exact Cq hfr hl hf he hd (aF.mp h1).1 h
 .refine iF (kN he hd h1 ?_);rw[nK (show (ao T0 != cZ)=true from by simp)]
  refine iF (kN hT hdT h3 ?_);rw[nS (show ¬ ((cZ == ka L)=true) from by simp[ka])]
  refine iF (kR hT hdT (aF.mp h3).1 ?_);rw[Heap.update_setField_same s.heap T0 o0 ts 3 .none hT hdT h3];exact Cq hfr hl hf he hd (aF.mp h1).1 h
theorem RV{base:Heap}{env:Env}{outer:List Env}{L e:Addr}{oe:Obj}{vs:Array Value}{Q:Unit->iD->Prop}
  (hfr:A.frames=some (env::outer)) (hl:s.heap.FunFrames base (env::outer)) (hf:env.frame=some L)
  (he:s.heap.get? e=some oe) (hd:oe.data = .fields vs) (hq:B7 s.heap vs)
  (h:∀h' T,Ce ((env::outer).filterMap (·.frame)) e oe T s.heap h'->Q () { s with heap:=h' }) :
  iI M A (leaving env (.ref e)) Q E s:=by
 unfold leaving;exact iF (T8 hfr hl hf he hd hq h)
end
abbrev xG:List Value:=[.type "ValueError", .type "Exception", .type "BaseException", .type "object"]
abbrev wo(C t:Addr) (dd:Option Addr):Obj:={ cls:=.ref C,dict:=dd,data:=.fields #[.ref t,.none,.none,.none,.bool false,.none] }
abbrev Lk{α:Type}(M:jR) (h:Heap) (x:Sem α) (r:α):Prop :=
 ∀(A:Around) (Q:α->iD->Prop) (E:Value->iD->Prop) (s:iD),(∀b o,h.get? b=some o->s.heap.get? b=some o)->Q r s->iI M A x Q E s
section
variable {M:jR}{A:Around}{E:Value->iD->Prop}{env:Env}
variable {nm q:Str}{C N:Addr}{bs bm:List Value}{hdct:Bool}{sn:List Str}{sub:List Value}{ab:Bool}{col:Option Bool}{dd:Option Addr}{k0 k1 k2 k3 k5:Option Value}{newId:String}
theorem FZ{s:iD}{x:Sem Value}{Q:Flow->iD->Prop}(hbase:bm.contains (.type "BaseException")=true) (hh:A.handled=none)
  (h:iI M A x (λv s₁=>∃e t dx,v = .ref e/\s₁.heap.get? C=some (ji nm q C N bs bm hdct sn sub ab col dd k0 k1 k2 k3 k5 newId) /\
   s₁.heap.get? e=some (wo C t dx)/\E (.ref e) s₁) E s) :
  iI M A (raiseStmt env (some x) none) Q E s:=by
 have hcB:(ao C::bm).contains (.type "BaseException")=true:=by rw[cT,hbase,eY]
 unfold raiseStmt;refine iF (iU h (λv s₁ h₁=>?_) λ_ _ x=>x)
 obtain⟨e,t,dx,rfl,hC,he,hE⟩:=h₁;obtain⟨hp,g,d,tk,os⟩:=s₁
 repeat (first|with_reducible refine iV he ?_|with_reducible refine iV hC ?_|(with_reducible refine jH hC ?_;rw[hcB])|wp_step)
 exact wpAny_raiseNew_none hh hE
end
section
variable {prog:iK}{w:iP}{A:Around}{E:Value->iD->Prop}{h:Heap}{g:Array lu}{d:Drawn}{t:Nat}{os:OsState}
variable {nm q:Str}{C N:Addr}{bs bm:List Value}{hdct:Bool}{sn:List Str}{sub:List Value}{ab:Bool}{col:Option Bool}{dd:Option Addr}{k0 k1 k2 k3 k5:Option Value}
theorem Ae(T:jL h xG bm) {rest:List Value}{fI:Addr}{Q:Fin->iD->Prop}
  (hC:h.get? C=some (ji nm q C N bs bm hdct sn sub ab col dd k0 k1 k2 k3 k5 "ValueError.__new__"))
  (hi:Lk (iG prog w) h (ja (.ref C) "__init__") (some (.ref fI))) (hb:∀self,Lk (iG prog w) h (bindSpecial (.ref fI) self) (.ref fI,[self]))
  (hq:∀h' e,fi h h' e (.ref C) rest->h.objs.size<=e ->
   iI (iG prog w) A (call (.ref fI) (.ref e::rest)) (λr s'=>r = .none/\Q (.done (.ret (.ref e))) s') E ⟨h',g,d,t,os⟩) (hrest:rest.length<=iN) :
  iI (iG prog w) A (Builtin.«type.__call__» ⟨.ref C::rest,[]⟩) Q E ⟨h,g,d,t,os⟩:=by
 have F:=dA
 repeat (first|with_reducible refine iV hC ?_|with_reducible refine wpAny_madeBy_exc hC ?_|wp_step)
 refine ku (Code.quiet_builtin _ F.quiet) (lg F T hC ?_);refine lr F T hC ?_ hrest;show iI _ _ _ _ _ _;have hC₁:=ae { cls:=.ref C,data:=.fields #[.ref h.objs.size,.none,.none,.none,.bool false,.none] }
  (ae { cls:=.type "tuple", data:=.seq rest.toArray } hC)
 have hget:((h.push { cls:=.type "tuple", data:=.seq rest.toArray }).push
   { cls:=.ref C,data:=.fields #[.ref h.objs.size,.none,.none,.none,.bool false,.none] }).get? (h.objs.size+1)=some
   { cls:=.ref C,data:=.fields #[.ref h.objs.size,.none,.none,.none,.bool false,.none] }:=by heap_get
 have hcC:(ao C::bm).contains (.ref C)=true:=by simp
 have kk:∀b o,h.get? b=some o->((h.push { cls:=.type "tuple", data:=.seq rest.toArray }).push { cls:=.ref C,data:=.fields #[.ref h.objs.size,.none,.none,.none,.bool false,.none] }).get? b=some o:=λb o e=>ae _ (ae _ e)
 have T₁:=T.keeps (h':=(h.push { cls:=.type "tuple", data:=.seq rest.toArray }).push { cls:=.ref C,data:=.fields #[.ref h.objs.size,.none,.none,.none,.bool false,.none] })
  λb o e=>ae _ (ae _ e)
 unfold isInstance
 repeat (first|with_reducible refine iV hget ?_|(with_reducible refine jH hC₁ ?_;rw[hcC])|wp_step)
 show iI _ _ (ja (.ref C) _) _ _ _;refine hi _ _ _ _ kk ?_;refine jg (iF (hb _ _ _ _ _ kk ?_));refine(iF (iU (hq _ (h.objs.size+1) ⟨λb o hb=>ae _ (ae _ hb),bT (bw _),h.objs.size,hget,bT (af _),?_⟩ (bw _)) (λr s' hr=>?_) λ_ _ x=>x))
 .exact ae _ (fw rfl rfl)
 .obtain ⟨rfl,hQ⟩:=hr
  wp_walk
  exact hQ
theorem Io(T:jL h xG bm) {rest:List Value}{fI:Addr}{Q:Value->iD->Prop}
  (hC:h.get? C=some (ji nm q C N bs bm hdct sn sub ab col dd k0 k1 k2 k3 k5 "ValueError.__new__"))
  (hi:Lk (iG prog w) h (ja (.ref C) "__init__") (some (.ref fI))) (hb:∀self,Lk (iG prog w) h (bindSpecial (.ref fI) self) (.ref fI,[self]))
  (hq:∀h' e,fi h h' e (.ref C) rest->h.objs.size<=e ->
   iI (iG prog w) (A.under (.builtin "type.__call__" ⟨.ref C::rest,[]⟩)) (call (.ref fI) (.ref e::rest)) (λr s'=>r = .none/\Q (.ref e) s') E ⟨h',g,d,t,os⟩) (hrest:rest.length<=iN) :
  iI (iG prog w) A (call (.ref C) rest) Q E ⟨h,g,d,t,os⟩:=by
 have f1:=tc_lookup;have f2:=tc_bind (.ref C);have hT:(⟨h,g,d,t,os⟩:iD).TypeIs (.ref C) "type" := ⟨_,hC,rfl⟩;refine jZ (codeAny_of_tree ?_);show iI _ _ (callAny (.ref C) _) _ _ _
 repeat (any_goals (first|assumption|with_reducible refine iV hC ?_|wp_step))
 refine⟨rfl,?_⟩;refine kF (Code.quiet_builtin _ (by decide +kernel)) entry_typeCall (kr hC (Ae (hrest:=hrest) T hC hi hb λh' e hm hs=>?_))
 exact hq h' e hm hs
theorem Jd(T:jL h xG bm) {e t0:Addr}{rest:List Value}{Q:Value->iD->Prop}
  (hC:h.get? C=some (ji nm q C N bs bm hdct sn sub ab col dd k0 k1 k2 k3 k5 "ValueError.__new__")) (he:h.get? e=some (wo C t0 none))
  (hq:∀h' t1,(∀b o,b≠e->h.get? b=some o->h'.get? b=some o)->h'.get? e=some (wo C t1 none)->Q .none ⟨h',g,d,t,os⟩) (hrest:rest.length<=iN) :
  iI (iG prog w) A (call (.builtin "ValueError.__init__") (.ref e::rest)) Q E ⟨h,g,d,t,os⟩:=by
 have F:=dA;refine jZ (jV F.init.plain F.initEntry (kQ F T hC he rfl ?_))
 wp_walk
 refine hq _ h.objs.size (λb o hb ho=>?_) ?_
 .rw [aJ _ _ (Ne.symm hb)];exact ae _ ho
 .rw [bL _ (ae _ he) rfl];rfl
theorem D8(T:jL h xG bm) (self:Value):refuseLoop self "__setattr__" bm=pure ():=by
 induction T with
 |base=>exact PySem.F.store_ValueError.passes self
 |own _ _ _ _ ih=>rw[refuseLoop_ref];exact ih
end
end Xe
namespace Xe
open PySem
open Builtin Builtin.ObjectAttr
section
variable {prog:iK}{w:iP}{A:Around}{E:Value->iD->Prop}{h:Heap}{g:Array lu}{d:Drawn}{t:Nat}{os:OsState}
variable {nm q:Str}{C N:Addr}{bs bm:List Value}{sn:List Str}{sub:List Value}{ab:Bool}{col:Option Bool}{dd:Option Addr}{k0 k1 k2 k3 k5:Option Value}
theorem IP(T:jL h xG bm) {x:Addr}{o:Obj}{name:Str}{v:Value}{tk:Tok}{Q:Fin->iD->Prop}
  (hC:h.get? C=some (ji nm q C N bs bm true sn sub ab col dd k0 k1 k2 k3 k5 "ValueError.__new__")) (hx:h.get? x=some o) (hc:o.cls = .ref C) (hnc:∀c,o.data ≠ .cls c) (hdn:o.dict=none)
  (hTL:Lk (iG prog w) h (ja (.ref C) name) none)
  (hq:∀h' dx tk',h.objs.size<=dx->dx≠x->h'.get? x=some { cls:=o.cls,dict:=some dx,data:=o.data,slots:=o.slots }->h'.Ns1 dx (λy=>if y=name then some v else none)->(∀b ob,b≠x->h.get? b=some ob->h'.get? b=some ob) ->
   Q (.done (.ret .none)) ⟨h',g,d,tk',os⟩) :
  iI (iG prog w) A (Builtin.«object.__setattr__» ⟨[.ref x,.str name tk,v],[]⟩) Q E ⟨h,g,d,t,os⟩:=by
 have hpass:=D8 T (.ref x);unfold Builtin.«object.__setattr__»
 repeat (first|rw[refuse_eq]|(rw[refuseLoop_ref,hpass])|(with_reducible refine iV hx ?_;rw[hc])|with_reducible refine wpAny_mroOf_exc hC ?_|with_reducible refine hTL _ _ _ _ (λ_ _ z=>z) ?_|wp_step)
 rw[hdn,nS (by simp[typeHasDict])]
 split
 .rename_i hcd;cases hcd
 split
 .rename_i c hcd;exact absurd hcd (hnc c)
 .have hx₁:(h.push { cls:=.type "dict", data:=.dict #[] }).get? x=some o:=ae _ hx;have hxs:x≠h.objs.size:=aw (ah hx);refine iF (wpAny_alloc' ?_);refine iF (wpAny_update' hx₁ ?_);refine iO ?_;have hgd:((h.push { cls:=.type "dict", data:=.dict #[] }).update x λo=>{ cls:=o.cls,dict:=some h.objs.size,data:=o.data,slots:=o.slots }).get? h.objs.size
    = some { cls:=.type "dict", data:=.dict #[] } :=
   (bx _ _ _ _ hxs.symm).trans (fw rfl rfl)
  have hnd:((h.push { cls:=.type "dict", data:=.dict #[] }).update x λo=>{ cls:=o.cls,dict:=some h.objs.size,data:=o.data,slots:=o.slots }).Ns h.objs.size (λ_=>none) :=
   ⟨_,#[],_,hgd,rfl,λe he=>absurd he (by simp),λ_=>rfl⟩
  show iI _ _ (storeInDict h.objs.size (.str name tk) name v) _ _ _;unfold storeInDict newKeyGuard;refine iF (iO (iF (wpAny_nsSet1 (Heap.Ns1.of_empty hnd) λh' hn' hs=>?_)))
  obtain⟨oD,esD,epD,hoD,hdD,hcD⟩:=hn'.count (Within.cons name v Within.nil);refine iF (wpAny_lookBehind hoD (by rw[hdD];exact pastItsLine_dict (br hcD (by rw[lCq,bC,iY];lia))) ?_)
  wp_walk
  refine hq h' h.objs.size _ (af _) hxs.symm ?_ hn' (λb ob hbx hb=>?_)
  .refine (hs.2 x hxs).trans (bL _ hx₁ ?_);have hfr:=(Heap.get?_some_iff.mp hx).2;obtain⟨oc,od,odt,osl⟩:=o;cases odt <;> first|rfl|exact hfr
  .exact (hs.2 b (aw (ah hb))).trans ((bx _ _ _ _ hbx).trans (ae _ hb))
theorem Kr{M:jR}(T:jL h xG bm) {x:Addr}{o:Obj}{nameV v:Value}{Q:Unit->iD->Prop}
  (hC:h.get? C=some (ji nm q C N bs bm true sn sub ab col dd k0 k1 k2 k3 k5 "ValueError.__new__")) (hx:h.get? x=some o) (hc:o.cls = .ref C) (hq:Q () ⟨h,g,d,t,os⟩) :
  iI M A (checkBuiltinCall "object.__setattr__" ⟨[.ref x,nameV,v],[]⟩) Q E ⟨h,g,d,t,os⟩:=by
 have SF:=gv;have hob:(ao C::bm).contains (.type "object")=true:=by rw[cT,T.hasType (show xG.contains (.type "object")=true by decide),eY]
 have ha:=SF.args (.ref x) nameV v;simp only[checkBuiltinCall,SF.kind,SF.split];refine iF ?_
 .unfold isInstance
  repeat (first|(with_reducible refine iV hx ?_;rw[hc])|(with_reducible refine jH hC ?_;rw[hob])|wp_step)
  exact hq
theorem Ji(T:jL h xG bm) {x t0:Addr}{name:Str}{v:Value}{Q:Unit->iD->Prop}
  (hC:h.get? C=some (ji nm q C N bs bm true sn sub ab col dd k0 k1 k2 k3 k5 "ValueError.__new__")) (hx:h.get? x=some (wo C t0 none))
  (hSA:Lk (iG prog w) h (ja (.ref C) "__setattr__") (some (.builtin "object.__setattr__"))) (hTL:Lk (iG prog w) h (ja (.ref C) name) none)
  (hq:∀h' dx tk',h.objs.size<=dx->dx≠x->h'.get? x=some (wo C t0 (some dx))->h'.Ns1 dx (λy=>if y=name then some v else none)->(∀b ob,b≠x->h.get? b=some ob->h'.get? b=some ob) ->
   Q () ⟨h',g,d,tk',os⟩) :
  iI (iG prog w) A (setAttr (.ref x) name v) Q E ⟨h,g,d,t,os⟩:=by
 have SF:=gv;have f3:=SF.slot.bind (.ref x);have hob:(ao C::bm).contains (.type "object")=true:=by rw[cT,T.hasType (show xG.contains (.type "object")=true by decide),eY]
 unfold setAttr callSpecial? specialOf
 repeat (any_goals (first|assumption|with_reducible refine iV hx ?_|with_reducible refine hSA _ _ _ _ (λ_ _ z=>z) ?_|wp_step))
 refine jV SF.slot.plain SF.entry (Kr T hC hx rfl (IP T hC hx rfl (λc z=>nomatch z) rfl hTL λh' dx tk' a1 a2 a3 a4 a5=>?_))
 repeat (any_goals (first|assumption|wp_step))
 exact hq h' dx tk' a1 a2 a3 a4 a5
end
end Xe
namespace Mr
abbrev St:=L2.St
open PySem PySem.Spec PyProof.Rows L2
section
variable {X:Cx}{mU:List (Addr×Obj)}{σ:List (Option V)}{H H':Hp}{s:iD}{h':Heap}
theorem LZ{t':Nat}{fp:List Addr}{T:Addr}{o:HO}(I:Inv X mU σ H s) (k:∀b u,b∉fp->s.heap.get? b=some u->h'.get? b=some u)
  (hf:∀b∈fp,Aq X mU H b) (hT:s.heap.objs.size<=T) (new:pL X.prog X.w (oK H T o) h' T o):Inv X mU σ (oK H T o) { s with heap:=h',toks:=t' }:=by
 have hn:H T=none:=I.hok.fresh hT;have nf:∀b u,H b=some u->b∉fp:=λb u e z=>by rw[(hf b z).1]at e;cases e
 refine I.step (g':=s.gens) (d':=s.drawn) (ch:=fp) (λb hb=>?_) (λb u _ _ hc e _=>k b u hc e) (λb u _ _ hc e _=>⟨u.slots,k b u hc e⟩)
  (λb u _ e n=>by rw[nh (aw (aN (ah e) hT))];exact n) (λb u hc e=>⟨u,k b u hc e⟩)
  (λb xs e=>by rw[nh (pd e hn)];exact e) (λb u xs e=>by rw[nh (pd e hn)];exact e) (λb ps e=>⟨#[],by rw[nh (pd e hn),e];simp⟩) (λm hm=>?_) (λb u e=>?_) I.bare
 .obtain ⟨_,f1,_,f3,f4,f5⟩:=hf b hb;exact⟨f3,f1,f4,f5⟩
 .obtain ⟨u,es,ep,ho,r⟩:=hm;exact⟨u,es,ep,k _ u (λz=>(hf _ z).2.1 rfl) ho,r⟩
 .by_cases hb:b=T
  .subst hb;rw[nu]at e;cases e;exact new
  .rw [nh hb]at e;refine(I.hok b u e).stay (λc v hc q=>k c v ?_ q) (λc q=>by rw[nh (pd q hn)];exact q) λc xs q=>by rw[nh (pd q hn)];exact q
   rcases hc with rfl|hc
   .exact nf _ u e
   .exact nf c _ hc
theorem Oa{t':Nat}{fp:List Addr}(I:Inv X mU σ H s) (k:∀b u,b∉fp->s.heap.get? b=some u->h'.get? b=some u)
  (hf:∀b∈fp,Aq X mU H b):Inv X mU σ H { s with heap:=h',toks:=t' }:=by
 have nf:∀b u,H b=some u->b∉fp:=λb u e z=>by rw[(hf b z).1]at e;cases e
 refine I.step (g':=s.gens) (d':=s.drawn) (ch:=fp) (λb hb=>?_) (λb u _ _ hc e _=>k b u hc e) (λb u _ _ hc e _=>⟨u.slots,k b u hc e⟩)
  (λ_ _ _ _ n=>n) (λb u hc e=>⟨u,k b u hc e⟩) (λ_ _ e=>e) (λ_ _ _ e=>e) (λb ps e=>⟨#[],by rw[e];simp⟩) (λm hm=>?_) (λb u e=>?_) I.bare
 .obtain ⟨_,f1,_,f3,f4,f5⟩:=hf b hb;exact⟨f3,f1,f4,f5⟩
 .obtain ⟨u,es,ep,ho,r⟩:=hm;exact⟨u,es,ep,k _ u (λz=>(hf _ z).2.1 rfl) ho,r⟩
 .refine (I.hok b u e).stay (λc v hc q=>k c v ?_ q) (λ_ q=>q) λ_ _ q=>q
  rcases hc with rfl|hc
  .exact nf _ u e
  .exact nf c _ hc
end
def Ry(K:W.Frag) (a:Addr):It :=
  ⟨λi H=>∃xs x,qJ K H a xs/\xs[i]?=some x,
   λi H v H'=>∃T x,H T=none/\v = .ref T/\H'=oK H T (.tup [.int i,x])/\∀xs,qJ K H a xs->xs[i]?=some x,
   λi H=>∃xs,qJ K H a xs/\xs.length<=i⟩
theorem Ip{P:iK}{w:iP}{K:W.Frag}{elts:List Expr}{k:Nat}{pos:Pos}(a e it:Addr) (hne:e≠it) :
  KF P w K (.Tuple elts k pos) (Ry K a) [e,it] e (λi h=>(∃old,IsEnum h e it i old)/\h.IsListIter it a i) where
 mem:=by simp
 obj:=λi h st b hb=>by
  obtain⟨⟨old,he⟩,o,ho,_,d⟩:=st;rcases aj.mp hb with rfl|hb
  .exact ⟨_,he,λv z=>by
    have z':Data.fields _=Data.cell v:=z;cases z'⟩
  .have e:b=it:=by simpa using hb
   subst e;exact⟨o,ho,λv z=>by rw[d]at z;cases z⟩
 keep:=λi h h' st kp=>by
  obtain⟨⟨old,he⟩,hit⟩:=st;exact⟨⟨old,kp e (by simp) _ he⟩,hit.at λo q=>kp it (by simp) o q⟩
 item:=by
  intro X hP hw hK hc i mU s σ H E I hf st hg;subst hP hw hK;obtain⟨xs,x,hq,hx⟩:=hg;obtain⟨its,rv,p,hz⟩:=I.list hq;obtain⟨u,hu,ru⟩:=rv.get hx;obtain⟨⟨old,he⟩,hit⟩:=st;have hil:it<s.heap.objs.size:=by obtain⟨_,q,_⟩:=hit;exact ah q
  have hel:e<s.heap.objs.size:=ah he;refine wpAny_pyNext_enum_item he hit p.isList (x:=u) (by simpa using hu) hne λh1 he1 hit1 ht1 hz1 hk1=>⟨_,rfl,?_⟩
  refine wpAny_letOwnedTupleGo_enum he1 λh2 he2 hs2=>?_
  replace hs2:fN e h1 h2:=hs2;have hn:H s.heap.objs.size=none:=I.hok.fresh (af _);refine⟨.ref s.heap.objs.size,oK H s.heap.objs.size (.tup [.int i,x]),?_,rfl,⟨_,x,hn,rfl,rfl,λys hy=>by rw[I.list_inj hy hq];exact hx⟩,⟨⟨_,by simpa using he2⟩,hit1.extBut hs2.extBut (Ne.symm hne)⟩,λb hb=>?_⟩
  .show L2.Inv X mU σ _ { s with heap:=h2,toks:=s.toks+1 }
   refine LZ (s:=s) (fp:=[e,it]) I (λb o hb q=>?_) hf (af _) ⟨by simp only[lCq,bC];rw[iY];decide,[.int i s.toks,u],.cons ⟨_,rfl⟩ (.cons ru .nil),_,hs2.extBut _ _ (dr hel) ht1,rfl,_,rfl⟩
   have b1:b≠e:=λz=>hb (by simp[z])
   exact hs2.extBut b o b1 (hk1 b o b1 (λz=>hb (by simp[z])) q)
  .have hb2:b<s.heap.objs.size:=by
    rcases aj.mp hb with rfl|hb
    .exact hel
    .have e:b=it:=by simpa using hb
     subst e;exact hil
   rw[nh (aw hb2)];exact(hf b hb).1
 done:=by
  intro X hP hw hK hc i mU s σ H E I hf st hg;subst hP hw hK;obtain⟨xs,hq,hx⟩:=hg;obtain⟨its,rv,p,hz⟩:=I.list hq;obtain⟨⟨old,he⟩,hit⟩:=st;have hl:=rv.length;exact wpAny_pyNext_enum_end (I.ok.hd hc) he hit p.isList (by simp;lia) λh1 eb=>⟨rfl,Oa (t':=s.toks) (fp:=[e,it]) I (λb o hb q=>eb b o (λz=>hb (by simp[z])) q) hf⟩
 self:=λ_ _ _ _ _ st h=>by
  obtain⟨⟨old,he⟩,_⟩:=st;exact wpAny_pyIter_enum he h
section
variable {X:Cx}{elts:List Expr}{kk:Nat}{tpos:Pos}
def Oz(K:W.Frag) (ta:TA):TI:=λσ H R=>ta σ H λvs H1=>∃a,vs=[.ref a]/\(∃xs,qJ K H1 a xs)/\R (Ry K a) H1
theorem G4{e:Expr}{ta:TA}{p pos:Pos}(hg:Gl X "enumerate") (hm:X.mg "enumerate" = none) (ha:PA X [e] ta) (hs:iR [e] X.env=[(false,eval e X.env)]:=by rfl) :
  PI X (.Tuple elts kk tpos) (.Call (.Name "enumerate" p) [e] [] pos) (Oz X.K ta):=by
 intro mU s σ H R I h;refine Call_ (Ad I hg hm boot_enumerate (dq (qC (ha pos mU s σ H _ I h) λus s1 hz1=>?_) hs rfl))
 obtain⟨vs,H1,I1,r1,q1⟩:=hz1;obtain⟨a,e1,⟨xs,hq⟩,q⟩:=q1;subst e1;obtain⟨u,rfl,ru⟩:=uP r1;cases ru;obtain⟨its,rv,p1,hz⟩:=I1.list hq;refine call_enumerate_list p1.isList λg he hit hsz hk=>wpAny_pyIter_enum he ?_
 refine⟨s1.heap.objs.size+1,[s1.heap.objs.size+1,s1.heap.objs.size],_,_,H1,rfl,I1.kept (t':=s1.toks) hk,Ip a _ _ (Nat.succ_ne_self _),⟨⟨_,he⟩,hit⟩,λb hb=>?_,q⟩
 have hb2:s1.heap.objs.size<=b:=by
  simp only[aj,fF,or_false]at hb;rcases hb with rfl|rfl
  .exact bw _
  .exact af _
 exact I1.fpOk hb2 (I1.hok.fresh hb2)
end
theorem LQ{K:W.Frag}{a:Addr}{xs:List V}{i1 i2:Nat}{tb:TS}{D:vk}{σ:St}{H:Hp}(Pv:Nat->St->Hp->Prop) (h0:Pv 0 σ H) (hl:∀i σ H,i<=xs.length->Pv i σ H->qJ K H a xs)
  (hs:∀i x σ H T,xs[i]?=some x->Pv i σ H->H T=none->tb { D with nx:=Pv (i+1),ct:=Pv (i+1),bk:=D.nx } ((σ.set i1 (some (.int i))).set i2 (some x)) (oK H T (.tup [.int i,x]))) (hd:∀σ H,Pv xs.length σ H->D.nx σ H) :
  ∃W:Nat->Nat->St->Hp->Prop,(∃m,W 0 m σ H)/\∀i m σ H,W i m σ H ->
   ((Ry K a).stop i H/\D.nx σ H)∨((Ry K a).go i H/\∃N:St->Hp->Prop,(∀σ' H',N σ' H'->∃m',m'<m/\W (i+1) m' σ' H')/\∀x H',(Ry K a).yld i H x H'->NL K 2 (Bl (sL i1) (Bl (sL i2) NA)) x σ H' λσ2 H2=>tb { D with nx:=N,ct:=N,bk:=D.nx } σ2 H2):=by
 refine⟨λi m σ H=>m=xs.length-i/\i<=xs.length/\Pv i σ H,⟨xs.length,by simp,aW _,h0⟩,?_⟩
 rintro i m σ H ⟨rfl,hi,p⟩;have q:=hl i σ H hi p
 by_cases hlt:i<xs.length
 .refine .inr ⟨⟨xs,xs[i],q,by simp[hlt]⟩,Pv (i+1),λσ' H' p'=>⟨xs.length-(i+1),by lia,rfl,hlt,p'⟩,λv H' y=>?_⟩
  obtain⟨T,x,hT,rfl,rfl,hx⟩:=y;exact⟨T,_,rfl,BP.of nu,rfl,_,_,rfl,_,_,rfl,rfl,hs i x σ H T (hx xs q) p hT⟩
 .have e:i=xs.length:=by lia
  subst e;exact .inl ⟨⟨xs,q,af _⟩,hd σ H p⟩
section
variable {X:Cx}
theorem wG{mU:List (Addr×Obj)}{σ:St}{H:Hp}{s:iD}{a:Addr}{ns:List Int}(I:Inv X mU σ H s) (h:qJ X.K H a (ns.map V.int)) :
  ∃vs:List Value,s.heap.IsList a vs.toArray/\iW vs ns/\ns.length<=iN:=by
 obtain⟨its,r,p,z⟩:=I.list h;rw[lMq]at z;exact⟨its,p.isList,vC r,z⟩
theorem IC(hc:X.calm=true):vS X (.builtin "min") (λxs H Q=>∃(a:Addr) (ns:List Int),xs=[.ref a]/\qJ X.K H a (ns.map V.int)/\0<ns.length/\∀M,M∈ns->(∀x,x∈ns->M<=x)->Q (.int M) H):=by
 intro mU s σ H xs us Q I r h;obtain⟨a,ns,rfl,hS,hne,q⟩:=h;obtain⟨u,rfl,ru⟩:=uP r;cases ru;obtain⟨vs,hl,hi,_⟩:=wG I hS;obtain⟨xs,e⟩:=hi.allInts.items;have hns:ns=xs.toList.map (·.1):=by
  rw[←hi.numsOf,←nums_intItems,←e]
 have hsz:0<xs.size:=by
  have h3:=hne;rw[hns,lMq,aq]at h3;exact h3
 rw[e]at hl;refine min_intList (I.ok.hd hc) hl hsz λv h' tk hv hk=>?_
 obtain⟨t,rfl⟩:=intItems_at hv;obtain⟨h1,h2⟩:=argBest_lt (numAt xs) (xs.size-1);refine⟨.int _,H,I.kept hk,⟨t,rfl⟩,q _ ?_ λx hx=>?_⟩
 .rw [hns,numAt_eq];exact PySem.getD_mem (by rw[lMq,aq];lia)
 .rw [hns]at hx;obtain⟨j,hj,rfl⟩:=PySem.mem_getD hx;rw[lMq,aq]at hj;rw[←numAt_eq];exact h2 j (by lia)
def LB(K:W.Frag):V->List V->Hp->VK->Prop:=λx vs H Q=>∃(a:Addr) (ns:List Int) (k:Int),x = .ref a/\vs=[.int k]/\qJ K H a (ns.map V.int)/\k∈ns/\Q (.int (ns.idxOf k:Nat)) H
theorem EA:Q7 X "list.index" (LB X.K):=by
 intro mU s σ H x xs v us Q I rx r h;obtain⟨a,ns,k,rfl,rfl,hS,hk,q⟩:=h;cases rx;obtain⟨u,rfl,t,rfl⟩:=uP r;obtain⟨its,rv,⟨o,n,ho,hc,hd0,hd⟩,hz⟩:=I.list hS;have hi:=vC rv;obtain⟨cls,dd,data,sl⟩:=o;simp only at hc hd0 hd;subst hc hd0 hd;have hlen:=hi.length;have hj:ns.idxOf k<ns.length:=dF.mpr hk;have hs:iN=16777216:=iY;rw[lMq]at hz;refine jA dS ⟨_,ho,rfl⟩ PySem.F.entry_list_index (PySem.F.args_list_index_2 _ _)
  (SeqAt.list_indexAt a its.toArray n none sl (.int k t) (isInt k) (ns.idxOf k) (by simpa [hlen] using hj) (by lia) ?_ ?_) ⟨ho,λy hy=>(eq_isInt k t hi y (by simpa using hy)).at _ _,?_⟩
 .show isInt k its[ns.idxOf k]=true;rw[isInt_at k hi _ (by lia) hj]
  simpa using gN hj
 .intro j hjs hlt;show isInt k its[j]=false;rw[isInt_at k hi j (by simpa using hjs) (by lia)]
  exact ne_of_lt_idxOf hlt _
 .exact ⟨.int _,H,I.tok _,⟨_,rfl⟩,q⟩
def Sq(K:W.Frag) (x:V) (H:Hp) (T:String) (b:Bool):Prop :=
 match x with
 | .int _=>(T = "int" /\ b=true)∨(T = "bool" /\ b=false)
 | .bl _=>(T = "bool" /\ b=true)∨(T = "int" /\ b=true)
 | .str _=>T = "str" /\ b=true
 | .ref p=>(T = "list" /\ b=true/\∃xs,qJ K H p xs)∨(T = "dict" /\ b=true/\∃kvs,H p=some (.dK kvs))∨(T = "tuple" /\ b=true/\∃xs,BP K H p xs)
 |_=>False
theorem J1:vS X (.builtin "isinstance") (λxs H Q=>∃x T b,xs=[x,.ty T]/\Sq X.K x H T b/\Q (.bl b) H):=by
 intro mU s σ H xs us Q I r h;obtain⟨x,T,b,rfl,e,q⟩:=h;obtain⟨u,v,rfl,rx,rT⟩:=Sb r;cases rT;cases x with
 |int i =>
  obtain⟨t,rfl⟩:=rx;rcases e with ⟨rfl,rfl⟩|⟨rfl,rfl⟩
  .exact je (jm (Tx := "int") F.isi_meta_int F.sub_int_int) ⟨(show s.TypeIs (.int i t) "int" from rfl),⟨.bl true,H,I,rfl,q⟩⟩
  .exact je (isinstance_false_int (by decide +kernel) F.isi_meta_bool F.sub_int_bool) (show EP X mU σ Q (.bool false) { s with toks:=s.toks+1 } from ⟨.bl false,H,I.tok _,rfl,q⟩)
 |bl i =>
  cases rx;rcases e with ⟨rfl,rfl⟩|⟨rfl,rfl⟩
  .exact je (jm (Tx := "bool") F.isi_meta_bool F.sub_bool_bool) ⟨(show s.TypeIs (.bool i) "bool" from rfl),⟨.bl true,H,I,rfl,q⟩⟩
  .exact je (jm (Tx := "bool") F.isi_meta_int F.sub_bool_int) ⟨(show s.TypeIs (.bool i) "bool" from rfl),⟨.bl true,H,I,rfl,q⟩⟩
 |str i =>
  obtain⟨t,rfl⟩:=rx;obtain⟨rfl,rfl⟩:=e;exact je (jm (Tx := "str") F.isi_meta_str F.sub_str_str) ⟨(show s.TypeIs (.str i t) "str" from rfl),⟨.bl true,H,I,rfl,q⟩⟩
 |ref p =>
  cases rx;rcases e with ⟨rfl,rfl,xs,hS⟩|⟨rfl,rfl,kvs,hp⟩|⟨rfl,rfl,xs,hS⟩
  .obtain ⟨its,rv,pl,hz⟩:=I.list hS;exact je (jm (Tx := "list") F.isi_meta_list (by rw[kU];kernel_rfl)) ⟨pl.isList.typeIs,⟨.bl true,H,I,rfl,q⟩⟩
  .have ty:s.TypeIs (.ref p) "dict" := (Qt I (.inl ⟨kvs,.inl hp⟩)).1;exact je (jm (Tx := "dict") F.isi_meta_dict (by rw[kU];kernel_rfl)) ⟨ty,⟨.bl true,H,I,rfl,q⟩⟩
  .obtain ⟨its,rv,⟨o,ho,hc,_⟩,hz⟩:=I.tuple hS;exact je (jm (Tx := "tuple") F.isi_meta_tuple (by rw[kU];kernel_rfl)) ⟨⟨o,ho,hc⟩,⟨.bl true,H,I,rfl,q⟩⟩
 |_=>exact(show False from e).elim
end
end Mr
namespace Mr
open PySem L2
structure zG (K:W.Frag) (mg:Str->Option Value) (x:Str) (st:Stmt) (ps:List Str) (f:Addr) (fd:iT):Prop where
 F:Mm K x x st f fd
 m:mg x=some (.ref f)
 b:vU K fd ps []
theorem qf{H:Hp}{p:Addr}{o:HO}(h:H p=none):nU H (oK H p o):=λb u e=>by
 rw[nh (pd e h)];exact e
end Mr
namespace Mr
open PySem PySem.Spec PyProof.Rows L2
theorem DV{prog:iK}{w:iP}{A:Around}{R:Result->iD->Prop}{s:iD}{elt target iter:Expr}{ifs:List Expr}{scope:jJ}{pos:Pos}{it acc:Value}{env:Env}(I:Nat->iD->Prop)
  (turn:∀n s,I n s->iI (iG prog w) A (pyNext it) (λr s₁=>match r with
   |none=>R (.ok .next) s₁
   |some v=>iI (iG prog w) A (jX target it v) (λ_ s₂=>iI (iG prog w) A (assign target env v) (λ_ s₃ =>
     iI (iG prog w) A (forIn ifs true λc r=>if r=true then do let ok ←isTrue c env (eval c env);pure (ForInStep.yield ok) else pure (ForInStep.yield r)) (λok s₄ =>
      if ok=true then iI (iG prog w) A (eval elt env) (λx s₅ =>
       iI (iG prog w) A (call (.builtin "list.append") [acc,x]) (λ_ s₆=>∃m,m<n/\I m s₆) (λ_ _=>False) s₅) (λ_ _=>False) s₄
      else ∃m,m<n/\I m s₄) (λ_ _=>False) s₃) (λ_ _=>False) s₂) (λ_ _=>False) s₁) (λ_ _=>False) s)
  (n:Nat) (h:I n s):jU (iG prog w) A (.compLoop (.ListComp elt [⟨target,iter,ifs,0⟩] scope pos) 0 it acc env) R s:=by
 refine codeAny_loop rfl I (λn s hI=>?_) n h
 show iI _ A ((compTurn (.ListComp elt [⟨target,iter,ifs,0⟩] scope pos) 0 it acc env).onRaise (λx=>do noteFrame x env;theTreesLotGoes x)) _ _ s
 refine wpAny_noted ?_;rw[compTurn_list];refine iF (km (iF (iU (turn n s hI) (λr s₁ h₁=>?_) λ_ _ z=>z.elim)))
 cases r with
 |none=>exact iO h₁
 |some v =>
  refine iF (iU h₁ (λ_ s₂ h₂=>?_) λ_ _ z=>z.elim)
  refine iF (iU h₂ (λ_ s₃ h₃=>?_) λ_ _ z=>z.elim)
  refine iF (iU h₃ (λok s₄ h₄=>?_) λ_ _ z=>z.elim)
  cases ok with
  |false=>exact iO ⟨rfl,h₄⟩
  |true=>exact iF (iF (iU h₄ (λx s₅ h₅=>iF (iU h₅ (λ_ s₆ h₆=>iO (iO ⟨rfl,h₆⟩)) λ_ _ z=>z.elim)) λ_ _ z=>z.elim))
abbrev rg(X:Cx) (scope:jJ) (cl:List (Str×Addr)) (N:List Str) (C:Addr) (s:iD) (H:Hp) (fp:List Addr):Cx where
 prog:=X.prog
 w:=X.w
 K:=X.K
 mg:=X.mg
 base:=X.base
 A:=X.A
 N:=N
 s₀:=s
 H₀:=H
 env:=compEnvC scope cl C X.env
 outer:=X.stack
 stack:=X.stack
 ex:=fp
 fn:=λ_=>false
 calm:=X.calm
 pn:=[]
 xe:=λ_ _=>False
def PF(X:Cx) (ifs:List Expr) (t:TT):Prop :=
 ∀(mU:List (Addr×Obj)) (s:iD) (σ:St) (H:Hp) (Q:Bool->Hp->Prop),Inv X mU σ H s->t σ H Q ->
  iI (iG X.prog X.w) X.A (forIn ifs true λc r=>if r=true then do let ok ←isTrue c X.env (eval c X.env);pure (ForInStep.yield ok) else pure (ForInStep.yield r)) (TP X mU σ Q) X.xe s
def Sr:TT:=λ_ H Q=>Q true H
theorem vL{X:Cx}:PF X [] Sr:=λ_ _ _ H _ I h=>wpAny_tests_nil ⟨H,I,h⟩
structure tL (X:Cx) (scope:jJ) (cl:List (Str×Addr)) (x:Str) (N:List Str) (fr:List Nat):Prop where
 names:N.Nodup
 own:N[0]?=some x
 len:N.length=fr.length+1
 sub:∀y c,cl.lookup y=some c->X.env.cells.lookup y=some c
 has:∀y,((kf scope X.env).names.lookup y=some .cell∨(kf scope X.env).names.lookup y=some .free)->∃c,cl.lookup y=some c
 get:∀(k j:Nat) (y:Str),fr[k]?=some j->N[k+1]?=some y->X.N[j]?=some y/\X.env.scope.names.lookup y=some .cell/\(kf scope X.env).names.lookup y=some .cell
theorem tL.none{X:Cx}{scope:jJ}{x:Str}(h:∀p∈scope.names,p.2 ≠ .cell/\p.2 ≠ .free):tL X scope [] x [x] [] where
 names:=by simp
 own:=rfl
 len:=rfl
 sub:=λy c e=>by cases e
 has:=λy e=>by
  exfalso;have key:∀p∈(kf scope X.env).names,p.2 ≠ .cell/\p.2 ≠ .free:=by
   intro p hp;obtain⟨q,hq,rfl⟩:=mMq.mp hp;obtain⟨n,k⟩:=q;obtain⟨h1,h2⟩:=h _ hq;have hk:(k == NameKind.free)=false:=by simpa using h2
   simp only[hk,ie];exact⟨h1,h2⟩
  rcases e with e|e
  .exact (key _ (PySem.mem_of_lookup e)).1 rfl
  .exact (key _ (PySem.mem_of_lookup e)).2 rfl
 get:=λk j y e _=>by cases e
def slots(σ:St) (fr:List Nat):St:=fr.map λj=>(σ[j]?).join
def HA(wi:TI) (fr:List Nat) (tf:TT) (te:TE):TE:=λσ H Q=>wi σ H λJ H1=>∀acc,H1 acc=none->∃W:Nat->Nat->Hp->Prop,(∃m,W 0 m (oK H1 acc (.lst [])))/\∀i m H,W i m H ->
 (J.stop i H/\Q (.ref acc) H) ∨
 (J.go i H/\∃N:Hp->Prop,(∀H',N H'->∃m',m'<m/\W (i+1) m' H')/\∀x H',J.yld i H x H'->tf (some x::slots σ fr) H' λb H2 =>
  if b=true then te (some x::slots σ fr) H2 λy H3=>∃ys,H3 acc=some (.lst ys)/\ys.length<iN/\N (oK H3 acc (.lst (ys++[y]))) else N H2)
section
variable {X:Cx}{scope:jJ}{cl:List (Str×Addr)}{N:List Str}{fr:List Nat}{x:Str}{px pos:Pos}{elt iter:Expr}{ifs:List Expr}{tf:TT}{te:TE}
theorem AJ{mU:List (Addr×Obj)}{σ:St}{H:Hp}{s:iD}{E:Value->iD->Prop}{J:It}{fp:List Addr}{it:Addr}{tn:Nat->Heap->Prop}{RR:Value->Addr->Result->iD->Prop}{Q:VK}
  (hc:X.calm=true) (hcell:∀y∈scope.names,y.2 ≠ .cell) (hkind:scope.kind = .function) (hx:scope.names.lookup x=some .local) (hF:tL X scope cl x N fr)
  (hf:∀C s H fp,PF (rg X scope cl N C s H fp) ifs tf) (he:∀C s H fp,PE (rg X scope cl N C s H fp) elt te)
  (I:Inv X mU σ H s) (T:KF X.prog X.w X.K (.Name x px) J fp it tn) (st:tn 0 s.heap) (fpo:∀b∈fp,Aq X mU H b)
  (h:∀acc,H acc=none->∃W:Nat->Nat->Hp->Prop,(∃m,W 0 m (oK H acc (.lst [])))/\∀i m H,W i m H ->
   (J.stop i H/\Q (.ref acc) H) ∨
   (J.go i H/\∃N:Hp->Prop,(∀H',N H'->∃m',m'<m/\W (i+1) m' H')/\∀x H',J.yld i H x H'->tf (some x::slots σ fr) H' λb H2 =>
    if b=true then te (some x::slots σ fr) H2 λy H3=>∃ys,H3 acc=some (.lst ys)/\ys.length<iN/\N (oK H3 acc (.lst (ys++[y]))) else N H2))
  (fin:∀acc C s' Hf m,Inv X mU σ Hf s'->s'.heap.Ns C m->Aq X mU Hf C->Q (.ref acc) Hf->RR (.ref acc) C (.ok .next) s') :
  iI (iG X.prog X.w) X.A (newList []) (λacc s₃=>iI (iG X.prog X.w) X.A (newFunctionEnv scope X.env.globals cl [] X.env.qual none .none (some X.env)) (λcenv s₄ =>
   jU (iG X.prog X.w) X.A (.compStart (.ListComp elt [⟨.Name x px,iter,ifs,0⟩] scope pos) 0 (.ref it) acc { cenv with scope:=kf scope X.env }) (RR acc cenv.locals) s₄) E s₃) E s:=by
 refine ko (wpAny_newFunctionEnv hcell (by intro y hy;simp at hy) (λh₁ hns₁ hsb₁=>?_) hkind)
 dsimp only at hns₁ hsb₁ ⊢;generalize hG:s.heap.push { cls:=.type "list", dict:=none,data:=.seq ([]:List Value).toArray }=G at hns₁ hsb₁ ⊢;have hC:G.objs.size=s.heap.objs.size+1:=by rw[←hG,dZ]
 have hCle:s.heap.objs.size<=G.objs.size:=by rw[hC];exact bw _
 have hDC:s.heap.objs.size≠G.objs.size:=by rw[hC];exact aw (dw _)
 have below:∀b,b<s.heap.objs.size->b≠G.objs.size:=λb hb=>by rw[hC];exact aw (bj hb)
 have old:∀b o,s.heap.get? b=some o->h₁.get? b=some o:=λb o e=>hsb₁.extBut b o (below b (ah e)) (ae _ (hG ▸ ae _ e))
 have hacc:h₁.get? s.heap.objs.size=some { cls:=.type "list", data:=.seq ([]:List Value).toArray }:=hsb₁.extBut _ _ hDC (ae _ (hG ▸ aU _ rfl));have hn:H s.heap.objs.size=none:=I.hok.fresh (af _);have hnC:H G.objs.size=none:=I.hok.fresh hCle;have fpl:∀b∈fp,b<s.heap.objs.size:=λb hb=>by
  obtain⟨o,q,_⟩:=T.obj 0 _ st b hb;exact ah q
 obtain⟨W,⟨m0,w0⟩,turn⟩:=h _ hn;have ok':(rg X scope cl N G.objs.size s H fp).Ok:=by
  refine⟨I.ok.mod,by show (kf scope X.env).kind = .function;exact hkind,I.ok.glob,I.ok.blt,hCle,λy z c h1 h2=>I.ok.inj y z c (hF.sub y c h1) (hF.sub z c h2),hF.has,λ_ _ z _=>(by cases z),I.ok.hd,I.ok.frames,.inl rfl,
   λb hb=>⟨below b (fpl b hb),λy c e=>(fpo b hb).2.2.2.2.1 y c (hF.sub y c e)⟩,λb o e=>⟨(I.bs b o e).1,(I.bs b o e).2⟩,br I.ok.bsz I.sz,λb o e hb=>?_,λb hb z=>?_,I.stack,I.stkFree⟩
  .rcases (fpo b hb).2.2.2.1 with q|q
   .exact I.ok.noex b o e q
   .exact absurd (aN (ah (I.ok.bs b o e).1) q) (cf _)
  .rcases aj.mp (I.stkSub b z) with q|q
   .exact (fpo b hb).2.1 q
   .exact (fpo b hb).2.2.1 q
 have I0:Inv (rg X scope cl N G.objs.size s H fp) [] (none::slots σ fr) (oK H s.heap.objs.size (.lst [])) { s with heap:=h₁,toks:=s.toks+([]:List (Str×Value)).length }:=by
  have hok1:wH X.prog X.w (oK H s.heap.objs.size (.lst [])) h₁:=I.hok.laid old (af _) ⟨aW _,[],0,.nil,hacc⟩;refine⟨ok',rfl,I.bare,Un.laid old (af _) hn,⟨_,hns₁,λk y v e1 e2 e3=>?_⟩,λy c e=>?_,?_,λy c e=>?_,λp hp=>absurd (show p∈([]:List (Addr×Obj)) from hp) (by simp),hok1,?_⟩
  .cases k with
   |zero=>cases e2
   |succ k =>
    have e2':(slots σ fr)[k]?=some (some v):=e2;unfold slots at e2';rw[gMq]at e2';cases ej:fr[k]? with
    |none=>rw[ej]at e2';cases e2'
    |some j =>
     rw[ej]at e2';have e2j:(σ[j]?).join=some v:=bc.inj e2';have e2s:σ[j]?=some (some v):=by
      cases q:σ[j]? with
      |none=>rw[q]at e2j;cases e2j
      |some z=>rw[q]at e2j;exact congrArg some e2j
     obtain⟨g1,g2,g3⟩:=hF.get k j y ej e1;obtain⟨m,_,hl⟩:=I.loc;obtain⟨u,r,l⟩:=hl j y v g1 e2s (.inr (.inl g2));refine⟨u,r,.inr ⟨.inl g3,?_⟩⟩;obtain⟨c,e⟩:=hF.has y (.inl g3);have e':=hF.sub y c e;rcases l with ⟨l1,_⟩|⟨_,c',ec,hcell'⟩
     .have l1':X.env.scope.names.lookup y=some .local:=l1;rw[g2]at l1';cases l1'
     .rw [e']at ec;cases ec;obtain⟨o,ho,hd⟩:=hcell';exact⟨c,e,o,old c o ho,hd⟩
  .obtain ⟨v,o,ho,hd⟩:=I.cell y c (hF.sub y c e);exact⟨v,o,old c o ho,hd⟩
  .show oK H s.heap.objs.size (.lst []) G.objs.size=none;rw[nh (Ne.symm hDC)];exact hnC
  .obtain ⟨v,o,ho,hd⟩:=I.cell y c (hF.sub y c e);rw[nh (aw (ah ho))];exact I.freeC y c (hF.sub y c e)
  .show (none::slots σ fr).length=N.length;rw[hF.len,lCq];unfold slots;rw[lMq]
 have MV:tn 0 h₁:=T.keep 0 _ _ st λb _ o e=>old b o e
 have nd:N.Nodup:=hF.names;have nf0:∀b∈fp,oK H s.heap.objs.size (.lst []) b=none:=λb hb=>by
  rw[nh (aw (fpl b hb))];exact(fpo b hb).1
 have stat:∀{H':Hp},(∀b∈fp,H' b=none)->∀b∈fp,Aq (rg X scope cl N G.objs.size s H fp) [] H' b:=λhn' b hb =>
  ⟨hn' b hb,below b (fpl b hb),ok'.exfs b hb,.inl hb,λy c e=>(ok'.exf b hb).2 y c e,λp hp=>absurd (show p∈([]:List (Addr×Obj)) from hp) (by simp)⟩
 have loop:∀s₃:iD,s₃={ s with heap:=h₁,toks:=s.toks+([]:List (Str×Value)).length } ->
   jU (iG X.prog X.w) X.A (.compLoop (.ListComp elt [⟨.Name x px,iter,ifs,0⟩] scope pos) 0 (.ref it) (.ref s.heap.objs.size) (compEnvC scope cl G.objs.size X.env)) (RR (.ref s.heap.objs.size) G.objs.size) s₃:=by
  rintro s₃ rfl;refine DV (λn s'=>∃i v0 H',Inv (rg X scope cl N G.objs.size s H fp) [] (v0::slots σ fr) H' s'/\tn i s'.heap/\(∀b∈fp,H' b=none)/\W i n H') ?_ m0 ⟨0,none,_,I0,MV,nf0,w0⟩
  rintro n s4 ⟨i,v0,H4,I4,S7,nf4,w4⟩;rcases turn i n H4 w4 with ⟨stop,q⟩|⟨go,Nx,hNx,step⟩
  .refine qC (T.done (rg X scope cl N G.objs.size s H fp) rfl rfl rfl hc i [] s4 (v0::slots σ fr) H4 (λ_ _=>False) I4 (stat nf4) S7 stop) λr s5 hz1=>?_
   obtain⟨hr,I5⟩:=hz1;subst hr;obtain⟨m,hm,_⟩:=I5.loc;have I6:Inv X mU σ H4 s5:=I.call' (ch:=fp) I5.os I5.base I5.hok I5.bare λb hb=>⟨(fpo b hb).2.2.2.1,(fpo b hb).2.1,(fpo b hb).2.2.2.2.1,(fpo b hb).2.2.2.2.2⟩
   exact fin _ _ s5 H4 m I6 hm (I.fpOk hCle I5.free) q
  .refine qC (T.item (rg X scope cl N G.objs.size s H fp) rfl rfl rfl hc i [] s4 (v0::slots σ fr) H4 (λ_ _=>False) I4 (stat nf4) S7 go) λr s5 hz1=>?_
   obtain⟨u,hr,h5⟩:=hz1;subst hr;refine qC h5 λ_ s6 hz1=>?_
   obtain⟨y,H6,I6,r6,y6,st6,nf6⟩:=hz1;have I6':=I6.pinned (stat nf6) (T.obj _ _ st6);have pg:PG (rg X scope cl N G.objs.size s H fp) (.Name x px) (sL 0):=qS nd hF.own (.inl (lj hx)) (.inr (lj hx));refine qC (pg _ s6 (v0::slots σ fr) H6 y u (λσ2 H2=>σ2=some y::slots σ fr/\H2=H6) I6' r6 ⟨rfl,rfl⟩) λ_ s7 hz1=>?_
   obtain⟨σ7,H7,I7,e7,e8⟩:=hz1;subst e7 e8;refine qC (hf _ _ _ _ _ s7 _ _ _ I7 (step y _ y6)) λb s8 hz1=>?_
   obtain⟨H8,I8,q8⟩:=hz1;have again:∀{s9:iD}{H9:Hp},Inv (rg X scope cl N G.objs.size s H fp) ([]++zY fp s6.heap) (some y::slots σ fr) H9 s9->Nx H9->∃m,m<n/\∃i v0 H',Inv (rg X scope cl N G.objs.size s H fp) [] (v0::slots σ fr) H' s9/\tn i s9.heap/\(∀b∈fp,H' b=none)/\W i m H':=λ{s9 H9} I9 n9=>by
    obtain⟨m',hm,w9⟩:=hNx H9 n9;refine⟨m',hm,i+1,some y,H9,I9.unpinned,T.keep _ _ _ st6 λb hb o e=>(I9.pin (b,o) (ar _ (ar _ (vK hb e)))).1,λb hb=>?_,w9⟩
    obtain⟨o,e,d⟩:=T.obj _ _ st6 b hb;exact(I9.pin (b,o) (ar _ (ar _ (vK hb e)))).2.1
   cases b with
   |false=>exact again I8 q8
   |true =>
    refine qC (he _ _ _ _ _ s8 _ _ _ I8 q8) λz s9 hz1=>?_
    obtain⟨zv,H9,I9,r9,ys,a9,l9,n9⟩:=hz1;refine qC (oZ (X:=rg X scope cl N G.objs.size s H fp) _ s9 _ H9 (.ref s.heap.objs.size) [zv] (.ref s.heap.objs.size) [z] (λ_ H'=>H'=oK H9 s.heap.objs.size (.lst (ys++[zv]))) I9 rfl (.cons r9 .nil) ⟨_,ys,zv,rfl,rfl,a9,l9,rfl⟩) λ_ s10 hz1=>?_
    obtain⟨_,H10,I10,_,e10⟩:=hz1;subst e10;exact again I10 n9
 exact codeAny_compStart_list (loop _ rfl) (T.self X.A 0 _ _ _ MV (loop _ rfl))
theorem uA{wi:TI}(hc:X.calm=true) (hclos:closureFor scope X.env=pure cl) (hcell:∀y∈scope.names,y.2 ≠ .cell) (hkind:scope.kind = .function) (hnames:∀y∈scope.names,y.2 = .local->scope.names.lookup y.1=some .local)
  (hx:scope.names.lookup x=some .local) (hF:tL X scope cl x N fr) (hi:PI X (.Name x px) iter wi) (hf:∀C s H fp,PF (rg X scope cl N C s H fp) ifs tf) (he:∀C s H fp,PE (rg X scope cl N C s H fp) elt te)
  (hs:∀x,kq iter X.env x=pure x:=by intro _;rfl):PE X (.ListComp elt [⟨.Name x px,iter,ifs,0⟩] scope pos) (HA wi fr tf te):=by
 intro mU s σ H Q I h;rw[eval_ListComp];refine kB (use:=none) rfl hs hclos hkind hnames (qC (hi mU s σ H _ I h) λv s1 h1=>qC h1 λitv s2 h2=>?_)
 obtain⟨it,fp,tn,J,H2,e,I2,T,DK,f2,q2⟩:=h2;subst e;refine AJ (RR:=λacc C=>compPost (iG X.prog X.w) X.A X.xe none (EP X mU σ Q) acc C) hc hcell hkind hx hF hf he I2 T DK f2 q2 ?_
 intro acc C s' Hf m I' hm fC q;refine⟨m,hm,λh' sb=>⟨.ref acc,Hf,?_,rfl,q⟩⟩
 exact I'.turned (t':=s'.toks) (λb o hb e=>(sb.2 b hb).trans e) fC.1 fC.2.1 fC.2.2.2.1 fC.2.2.2.2.1 fC.2.2.2.2.2
theorem N8{wi:TI}{y:Str}{i:Nat}{py spos:Pos}(hc:X.calm=true) (hN:X.N.Nodup) (Ta:X.N[i]?=some y) (hy:Ra X.env.scope y) (hclos:closureFor scope X.env=pure cl) (hcell:∀y∈scope.names,y.2 ≠ .cell) (hkind:scope.kind = .function)
  (hnames:∀y∈scope.names,y.2 = .local->scope.names.lookup y.1=some .local)
  (hx:scope.names.lookup x=some .local) (hF:tL X scope cl x N fr) (hi:PI X (.Name x px) iter wi) (hf:∀C s H fp,PF (rg X scope cl N C s H fp) ifs tf) (he:∀C s H fp,PE (rg X scope cl N C s H fp) elt te)
  (hsw:kJ (.ListComp elt [⟨.Name x px,iter,ifs,0⟩] scope pos) (some (.Name y py)) spos.line X.env=pure true:=by rfl) (hs:∀x,kq iter X.env x=pure x:=by intro _;rfl)
  (hfn:X.fn y=true∨X.env.scope.names.lookup y=some .local:=by trivial) :
  PS X (.Assign [.Name y py] (.ListComp elt [⟨.Name x px,iter,ifs,0⟩] scope pos) spos) (GH (HA wi fr tf te) (sL i)):=by
 intro mU s σ H D I h;rw[exec_Assign_Name_used _ _ _ _ hsw];refine iF (km (iF ?_));show iI _ X.A (do let _ ←comprehension (.ListComp elt [⟨.Name x px,iter,ifs,0⟩] scope pos) scope X.env _ (newList []) false (eval iter X.env) (some (assign (.Name y py) X.env))) _ _ s
 refine iF (iU (kB (use:=some (assign (.Name y py) X.env)) (Q:=λ_ s'=>SP X mU D .next s') rfl hs hclos hkind hnames
  (qC (hi mU s σ H _ I h) λv s1 h1=>qC h1 λitv s2 h2=>?_)) (λ_ s' hq=>iO (iO hq)) λ_ _ e=>e)
 obtain⟨it,fp,tn,J,H2,e,I2,T,DK,f2,q2⟩:=h2;subst e;refine AJ (RR:=λacc C=>compPost (iG X.prog X.w) X.A X.xe (some (assign (.Name y py) X.env)) (λ_ s'=>SP X mU D .next s') acc C) (Q:=λv H'=>D.nx (σ.set i (some v)) H') hc hcell hkind hx hF hf he I2 T DK f2 q2 ?_
 intro acc C s' Hf m I' hm fC q;obtain⟨o,es,ep,ho,hd,r⟩:=id hm;have I1:Inv X (mU++[(C,o)]) σ Hf s':=I'.pins_of λp hp=>(mAq.mp hp).elim (λz=>I'.pin p (ar _ z)) λz=>by
  have e:p=(C,o):=by simpa using z
  subst e;exact⟨ho,fC.1,fC.2.1,fC.2.2.1,λv z=>by rw[hd]at z;cases z⟩
 refine qC (qS (X:=X) (i:=i) (pos:=py) hN Ta hy hfn _ s' σ Hf (.ref acc) (.ref acc) _ I1 rfl q) λ_ s2 hz1=>?_
 obtain⟨σ2,H2,I2,q2⟩:=hz1;have pC:=I2.pin (C,o) (ar _ (ar _ (by simp)))
 refine⟨m,⟨o,es,ep,pC.1,hd,r⟩,λh' sb=>⟨σ2,H2,?_,q2⟩⟩
 exact I2.unpinned.turned (t':=s2.toks) (λb u hb e=>(sb.2 b hb).trans e) pC.2.1 fC.2.1 fC.2.2.2.1 fC.2.2.2.2.1 fC.2.2.2.2.2
end
end Mr
namespace MrS
open PySem PyProof.Rows
section
variable {prog:iK}{w:iP}{A:Around}{E:Value->iD->Prop}{s:iD}{Pk:iE->Prop}{lt:iE->iE->Bool}
abbrev pX(h:Heap) (a:Addr) (vs:List Value):Heap:=((h.update a (Obj.mapSeq λ_=>#[])).push (iS "tuple" vs.toArray 0)).push (iS "list" #[] 0)
theorem xq{a:Addr}{vs:List Value}{n:Nat}{P:PySem.Fin->iD->Prop}(ho:s.heap.get? a=some (iS "list" vs.toArray n)) (hs:vs.length<=iN)
  (hkk:2<=vs.length->∀Q:iZ->iD->Prop,Q jB { s with heap:=pX s.heap a vs }->iI (iG prog w) A (ke vs.toArray) Q E { s with heap:=pX s.heap a vs })
  (C:wc prog w A { s with heap:=pX s.heap a vs } jB Pk lt) (hp:∀x,x∈jb vs->Pk x)
  (h:∀xs:Array iE,xs.Perm (jb vs)->xk lt xs 0 (jb vs).size->P (.done (.ret .none)) { s with heap:=jz s.heap a vs (xs.map (·.2)) }) :
  iI (iG prog w) A (Builtin.«list.sort» ⟨[.ref a],[]⟩) P E s:=by
 rw[list_sort_plain];have ha:a<s.heap.objs.size:=ah ho;refine iF (listItems_at ho rfl ?_);refine iF (jE ho rfl ?_ (hsz:=by simpa using hs))
 obtain⟨e1,ho1⟩:∃e1,(s.heap.update a (Obj.mapSeq λ_=>#[])).get? a=some (iS "list" #[] e1):=⟨_,jY ho (λ_=>#[])⟩
 refine iF (jO ho1 rfl ?_);refine iF (wpAny_newTuple ?_);refine iF (jC ?_);refine jg ?_;have ho6:(pX s.heap a vs).get? a=some (iS "list" #[] e1):=by
  rw[cE _ _ _ (by rw[kx,bS];exact aw (bj ha)),cE _ _ _ (by rw[bS];exact aw ha)]
  exact ho1
 show iI (iG prog w) A _ P E { s with heap:=pX s.heap a vs }
 dsimp only;have hsz:vs.toArray.size=vs.length:=by simp
 have hs':iN=16777216:=iY
 by_cases h2:vs.toArray.size<2
 .rw [nK h2,nK h2];refine iF (iO ?_);rw[StateT.run_pure];refine iF (iO ?_);dsimp only;refine iF (jO ho6 rfl ?_);refine iF (jE ho6 rfl ?_ (hsz2:=by rw[fj];show (jb vs).size<=_;rw[jj,iY];lia))
  simp only[bne_self_eq_false,cy,if_false];refine iO (h _ (gD.refl _) ?_);intro i j x y _ hij hj ex ey;have:i=j:=by rw[jj]at hj;lia
  subst this;rw[ex]at ey;cases ey;exact C.refl (hp x (aQq ex))
 .rw [nS h2,nS h2];refine iF (hkk (by lia) _ ?_)
  refine iF (iU (yt C (arr:=jb vs) (g:=7) (E:=E)
   (Q:=λ_ st'=>∃xs p g',st'=uQ jB xs p g'/\xs.Perm (jb vs)/\xk lt xs 0 (jb vs).size) hp (by rw[jj];lia) λxs p g' a1 a2=>⟨xs,p,g',rfl,a1,a2⟩) ?_ λ_ _ e=>e)
  rintro⟨⟨⟩,st'⟩ s' ⟨rfl,xs,p,g',rfl,hpm,hsg⟩;dsimp only;refine iF (jO ho6 rfl ?_);refine iF (jE ho6 rfl ?_ (hsz2:=by refine br (dR ((fj ..).trans (hpm.size_eq.trans (jj _)))) ?_;lia))
  simp only[bne_self_eq_false,cy,if_false];exact iO (h xs hpm hsg)
theorem CB{h:Heap}{a:Addr}{xs:Array Value}{n:Nat}(vs:List Value) (ho:h.get? a=some (iS "list" xs n)):∃e1,(pX h a vs).get? a=some (iS "list" #[] e1):=by
 have ha:a<h.objs.size:=ah ho;obtain⟨e1,ho1⟩:∃e1,(h.update a (Obj.mapSeq λ_=>#[])).get? a=some (iS "list" #[] e1):=⟨_,jY ho (λ_=>#[])⟩
 refine⟨e1,?_⟩;rw[cE _ _ _ (by rw[kx,bS];exact aw (bj ha)),cE _ _ _ (by rw[bS];exact aw ha)]
 exact ho1
theorem Dg{h:Heap}{a:Addr}{xs:Array Value}{n:Nat}(ys:Array Value) (ho:h.get? a=some (iS "list" xs n)):∃n1,(h.update a (Obj.mapSeq λ_=>ys)).get? a=some (iS "list" ys n1):=⟨_,jY ho (λ_=>ys)⟩
theorem tq{vs:List Value}{x:iE}(h:x∈jb vs):x.1∈vs/\x.2=x.1:=by
 obtain⟨i,hi,e⟩:=Array.mem_iff_getElem.mp h;have hi':i<vs.length:=by rw[jj]at hi;exact hi
 have:x=(vs[i],vs[i]):=by
  rw[←e];simp[jb]
 rw[this];exact⟨gRq hi',rfl⟩
theorem wM{vs:List Value}{xs:Array iE}(hp:xs.Perm (jb vs)) (hs:xk lt xs 0 (jb vs).size) :
  (xs.map (·.2)).toList.Perm vs/\(xs.map (·.2)).toList.Pairwise (λx y=>lt (y,y) (x,x)=false):=by
 constructor
 .have:=hp.toList.map (·.2);have e:(jb vs).toList.map (·.2)=vs:=by
   have:(jb vs).toList=vs.zip vs:=by simp[jb]
   rw[this];apply gY
   .simp
   .intro i h1 h2;simp
  rw[e]at this;rw[Array.toList_map];exact this
 .rw [bJ];intro i j hi hj hij;have hi':i<xs.size:=by simpa using hi
  have hj':j<xs.size:=by simpa using hj
  have z:=hs i j xs[i] xs[j] (aW _) (bX hij) (by rw[←hp.size_eq];exact hj') (by simp[hi']) (by simp[hj'])
  have m1:=tq (hp.mem_iff.mp (aX hi'));have m2:=tq (hp.mem_iff.mp (aX hj'));have e1:xs[i]=(xs[i].2,xs[i].2):=gI m1.2.symm rfl;have e2:xs[j]=(xs[j].2,xs[j].2):=gI m2.2.symm rfl;rw[e1,e2]at z;simpa using z
theorem AE{l:Addr}{vs:List Value}{Q:Value->iD->Prop}(hl:s.heap.IsList l vs.toArray) (hs:vs.length<=iN)
  (hC:∀s':iD,(∀b o,s.heap.get? b=some o->s'.heap.get? b=some o)->(2<=vs.length->∀Q:iZ->iD->Prop,Q jB s'->iI (iG prog w) A.in1.in1 (ke vs.toArray) Q E s')/\wc prog w A.in1.in1 s' jB Pk lt)
  (hp:∀v∈vs,Pk (v,v))
  (h:∀(out:List Value) (h':Heap) (n':Nat),out.Perm vs->out.Pairwise (λx y=>lt (y,y) (x,x)=false)->(∀b o,s.heap.get? b=some o->h'.get? b=some o) ->
   h'.get? (s.heap.objs.size+1)=some (iS "list" out.toArray n')->Q (.ref (s.heap.objs.size+1)) { s with heap:=h' }) :
  iI (iG prog w) A (call (.builtin "sorted") [.ref l]) Q E s:=by
 refine Calls.call_function_entry lJ lD lF (lH _) ?_;unfold Builtin.«sorted»;refine iF (m:=checkCount "sorted" 1 1 _) (iO ?_);refine iF (collect_list hl ?_ hs);refine iF (jC ?_);have hsz:((s.heap.push (iS "list" #[] 0)).update s.heap.objs.size (Obj.mapSeq (· ++ vs.toArray))).objs.size=s.heap.objs.size+1:=by
  rw[bS,kx]
 have hoL:(((s.heap.push (iS "list" #[] 0)).update s.heap.objs.size (Obj.mapSeq (· ++ vs.toArray))).push (iS "list" vs.toArray 0)).get? (s.heap.objs.size+1)=some (iS "list" vs.toArray 0):=by
  rw[←hsz];exact aU _ rfl
 show iI _ _ _ _ _ { s with heap:=((s.heap.push (iS "list" #[] 0)).update s.heap.objs.size (Obj.mapSeq (· ++ vs.toArray))).push (iS "list" vs.toArray 0) }
 rw[hsz];generalize hG:((s.heap.push (iS "list" #[] 0)).update s.heap.objs.size (Obj.mapSeq (· ++ vs.toArray))).push (iS "list" vs.toArray 0)=G at hoL ⊢;have k1:∀b o,s.heap.get? b=some o->G.get? b=some o:=λb o e=>by
  rw[←hG];refine ae _ ?_;rw[bx _ _ _ _ (aw (ah e))];exact ae _ e
 have k2:∀b o,s.heap.get? b=some o->(pX G (s.heap.objs.size+1) vs).get? b=some o:=λb o e=>by
  refine ae _ (ae _ ?_);rw[bx _ _ _ _ (aw (bj (ah e)))];exact k1 b o e
 obtain⟨q1,q2⟩:=hC { s with heap:=pX G (s.heap.objs.size+1) vs } k2
 refine iF (jg (kC kT ⟨_,hoL,rfl⟩ kH (xq (Pk:=Pk) (lt:=lt) hoL hs q1 q2 (λx hx=>?_) λxs a1 a2=>⟨_,rfl,?_⟩) (kW _)))
 .obtain ⟨m1,m2⟩:=tq hx;have:x=(x.1,x.1):=gI rfl m2;rw[this];exact hp _ m1
 .obtain ⟨v1,v2⟩:=wM a1 a2;obtain⟨e1,ho1⟩:=CB vs hoL;obtain⟨n1,g1⟩:=Dg (xs.map (·.2)) ho1;refine iO ⟨_,rfl,h _ (jz G (s.heap.objs.size+1) vs (xs.map (·.2))) n1 v1 v2 (λb o e=>?_) ?_⟩
  .unfold jz;rw[bx _ _ _ _ (aw (bj (ah e)))];exact k2 b o e
  .rw [show (xs.map (·.2)).toList.toArray=xs.map (·.2) from eS]
   exact g1
end
end MrS
namespace HT
open PySem PyProof.Rows
section
open PySem.SeqAt
open PySem.AutoSeq1 (wpAny_loadPart')
open PySem.MeetsSeq PySem.MeetsSeq2 PySem.MeetsSeq3 PySem.SeqRoads2
theorem Ea{vs:List Value}{ns:List Int}(h:iW vs ns):∀{i:Nat}(hi:i<vs.length),∃(z:Int) (t:Tok),vs[i] = .int z t/\ns.drop i=z::ns.drop (i+1):=by
 induction h with
 |nil=>intro i hi;exact absurd hi (bW _)
 |cons a t _ ih =>
  intro i hi;cases i with
  |zero=>exact⟨a,t,rfl,rfl⟩
  |succ i=>exact ih (i:=i) (by simpa using hi)
theorem DH(l b:Addr) (items items2:Array Value) (n n2:Nat) (dd dd2:Option Addr) (sl sl2:Array (Option Value)) (ns ms:List Int) (hi:iW items.toList ns) (hj:iW items2.toList ms) (k:Nat) :
  ∀i:Nat,min items.size items2.size-i=k->i<=items.size->i<=items2.size->Meets (Builtin.«list.__eq__.loop» ⟨[.ref l,.ref b,ka i,ka 0],[]⟩)
   (λ_ R s=>s.heap.get? l=some { cls:=.type "list", dict:=dd,data:=.seq items n,slots:=sl }/\s.heap.get? b=some { cls:=.type "list", dict:=dd2,data:=.seq items2 n2,slots:=sl2 } /\
    R (.ok (.ret (.bool (pB (ns.drop i) (ms.drop i))))) s):=by
 have z1:ns.length=items.size:=by rw[←hi.length];simp
 have z2:ms.length=items2.size:=by rw[←hj.length];simp
 induction k with
 |zero =>
  intro i hk h1 h2 prog w A R s h;obtain⟨hp,g,d,tk,os⟩:=s;obtain⟨hl,hb,h⟩:=h
  wp_walk using wpAny_loadPart' hl,wpAny_loadPart' hb
  have fin:pB (ns.drop i) (ms.drop i)=decide (items.size<items2.size):=by
   by_cases c:i=items.size
   .have e1:ns.drop i=[]:=cX (by lia)
    rw[e1]
    by_cases c2:i<items2.size
    .rw [au (by lia:i<ms.length),wO]
     exact(decide_eq_true (by lia)).symm
    .rw [cX (by lia:ms.length<=i),xv]
     exact(decide_eq_false (by lia)).symm
   .have c2:i=items2.size:=by lia
    rw[au (by lia:i<ns.length),cX (by lia:ms.length<=i),wN]
    exact(decide_eq_false (by lia)).symm
  rw[fin]at h
  by_cases c:i=items.size
  .have Mg:items[((i:Nat):Int).toNat]?=none:=by simp;lia
   rw[Mg]
   wp_walk using wpAny_loadPart' hl,wpAny_loadPart' hb
   exact h
  .have c2:i=items2.size:=by lia
   have Mg:items[((i:Nat):Int).toNat]?=some (items[i]'(by lia)):=by simp
   have hi2:items2[((i:Nat):Int).toNat]?=none:=by simp;lia
   rw[Mg,hi2]
   wp_walk using wpAny_loadPart' hl,wpAny_loadPart' hb
   exact h
 |succ k ih =>
  intro i hk h1 h2 prog w A R s h;obtain⟨hp,g,d,tk,os⟩:=s;obtain⟨hl,hb,h⟩:=h
  wp_walk using wpAny_loadPart' hl,wpAny_loadPart' hb
  have hlt:i<items.size:=by lia
  have hlt2:i<items2.size:=by lia
  obtain⟨x,t,ex,dx⟩:=Ea hi (i:=i) (by simpa using hlt)
  obtain⟨y,u,ey,dy⟩:=Ea hj (i:=i) (by simpa using hlt2)
  have Mg:items[((i:Nat):Int).toNat]?=some (.int x t):=by
   rw[←ex];simp[hlt]
  have hi2:items2[((i:Nat):Int).toNat]?=some (.int y u):=by
   rw[←ey];simp[hlt2]
  have hc:((i:Int)+1)=((i+1:Nat):Int):=by push_cast;rfl
  rw[dx,dy,ui]at h;rw[Mg,hi2];obtain⟨e,he,hiff⟩:=Fi A.in1 ⟨hp,g,d,tk,os⟩ x t y u;refine iF (he prog w _ _ ?_);cases e with
  |true =>
   rw[nK (hiff.mp rfl)]at h
   wp_walk
   rw[hc];exact⟨jD plain_eq_loop _,jn entry_eq_loop (by
    rw[Around.under_plainId plain_eq_loop _];exact ih (i+1) (by lia) (by lia) (by lia) prog w A R _ ⟨hl,hb,h⟩)⟩
  |false =>
   rw[nS (λq=>absurd (hiff.mpr q) aO)]at h
   have hri:=EU A.in1 ⟨hp,g,d,tk,os⟩ x t y u prog w
   wp_walk using wpAny_loadPart' hl,wpAny_loadPart' hb
   rw[Mg,hi2]
   wp_walk using hri
   exact h
theorem CK(l b:Addr) (items items2:Array Value) (n n2:Nat) (dd dd2:Option Addr) (sl sl2:Array (Option Value)) (ns ms:List Int) (hi:iW items.toList ns) (hj:iW items2.toList ms) :
  Meets (Builtin.«list.__lt__» ⟨[.ref l,.ref b],[]⟩)
   (λ_ R s=>s.heap.get? l=some { cls:=.type "list", dict:=dd,data:=.seq items n,slots:=sl }/\s.heap.get? b=some { cls:=.type "list", dict:=dd2,data:=.seq items2 n2,slots:=sl2 } /\
    R (.ok (.ret (.bool (pB ns ms)))) s):=by
 intro prog w A R s h;obtain⟨hp,g,d,tk,os⟩:=s;obtain⟨hl,hb,h⟩:=h;have f3:=AutoSeq1.sub_list_list
 wp_walk using wpAny_loadPart' hl,wpAny_loadPart' hb
 exact⟨jD plain_eq_loop _,jn entry_eq_loop (by
  rw[Around.under_plainId plain_eq_loop _];exact DH l b items items2 n n2 dd dd2 sl sl2 ns ms hi hj _ 0 rfl (aW _) (aW _) prog w A R _ ⟨hl,hb,h⟩)⟩
end
end HT
namespace Mr
open PySem PySem.Spec PyProof.Rows L2
section
open HT
theorem yn:∀xs ys:List Int,pB xs ys=true->pB ys xs=false
 | [],[],_=>rfl
 | [],_::_,_=>rfl
 |_::_,[],h=>by cases h
 |x::xs,y::ys,h=>by
  rw[ui]at h ⊢
  by_cases e:x=y
  .rw [nK e]at h;rw[nK e.symm];exact yn xs ys h
  .rw [nS e]at h;rw[nS (Ne.symm e)];have h':x<y:=of_decide_eq_true h;exact decide_eq_false (by lia)
theorem wW:∀xs ys zs:List Int,pB ys xs=false->pB zs ys=false->pB zs xs=false
 | [],[],[],_,_=>rfl
 | [],[],_::_,_,h=>by exact h
 | [],_::_,[],_,h=>by cases h
 | [],_::_,_::_,_,_=>rfl
 |_::_,[],_,h,_=>by cases h
 |_::_,_::_,[],_,h=>by cases h
 |x::xs,y::ys,z::zs,h1,h2=>by
  rw[ui]at h1 h2 ⊢
  by_cases e1:y=x
  .rw [nK e1]at h1;subst e1
   by_cases e2:z=y
   .rw [nK e2]at h2 ⊢;exact wW xs ys zs h1 h2
   .rw [nS e2]at h2 ⊢;exact h2
  .rw [nS e1]at h1;have h1':¬ y<x:=of_decide_eq_false h1
   by_cases e2:z=y
   .rw [nS (by lia)]
    exact decide_eq_false (by lia)
   .rw [nS e2]at h2;have h2':¬ z<y:=of_decide_eq_false h2;rw[nS (by lia)]
    exact decide_eq_false (by lia)
theorem ye:∀xs ys:List Int,pB xs ys=false->pB ys xs=false->xs=ys
 | [],[],_,_=>rfl
 | [],_::_,h,_=>by cases h
 |_::_,[],_,h=>by cases h
 |x::xs,y::ys,h1,h2=>by
  rw[ui]at h1 h2
  by_cases e:x=y
  .rw [nK e]at h1;rw[nK e.symm]at h2;rw[e,ye xs ys h1 h2]
  .rw [nS e]at h1;rw[nS (Ne.symm e)]at h2;have h1':¬ x<y:=of_decide_eq_false h1;have h2':¬ y<x:=of_decide_eq_false h2;lia
def M1(x y:List Int):Bool:=!HT.pB y x
theorem Jn(x y z:List Int) (h1:M1 x y=true) (h2:M1 y z=true):M1 x z=true:=by
 unfold M1 at *;simp only[eh]at *;exact wW x y z h1 h2
theorem Jb(x y:List Int):(M1 x y || M1 y x)=true:=by
 unfold M1;cases h:HT.pB y x with
 |false=>rfl
 |true=>rw[yn y x h];rfl
def Lj(rs:List (List Int)):List (List Int):=rs.mergeSort M1
theorem E4(rs:List (List Int)):(Lj rs).Perm rs:=fc _ _
theorem xE(rs:List (List Int)):(Lj rs).Pairwise (λx y=>HT.pB y x=false):=by
 refine(dU Jn Jb rs).imp λ{a b} h=>?_
 unfold M1 at h;simpa using h
theorem BM:∀{xs ys:List (List Int)},xs.Perm ys->xs.Pairwise (λx y=>HT.pB y x=false)->ys.Pairwise (λx y=>HT.pB y x=false)->xs=ys
 |xs,ys,hp,h1,h2=>bO.eq_of_pairwise (λa b _ _ e1 e2=>(ye b a e1 e2).symm) h1 h2 hp
theorem K1{xs rs:List (List Int)}(hp:xs.Perm rs) (h:xs.Pairwise (λx y=>HT.pB y x=false)):xs=Lj rs :=
 BM (hp.trans (E4 rs).symm) h (xE rs)
def qK(ns:List Int):List Int:=ns.mergeSort (λx y=>decide (x<=y))
theorem tR(ns:List Int):(qK ns).Perm ns:=fc _ _
theorem zp(ns:List Int):(qK ns).Pairwise (·<=·):=by
 refine(dU (le:=λx y=>decide (x<=y)) (λa b c h1 h2=>?_) (λa b=>?_) ns).imp λ{a b} h=>by simpa using h
 .simp only [decide_eq_true_eq]at *;lia
 .simp only [Bool.or_eq_true,decide_eq_true_eq];lia
theorem G7{xs ns:List Int}(hp:xs.Perm ns) (h:xs.Pairwise (·<=·)):xs=qK ns :=
 bO.eq_of_pairwise (λa b _ _ e1 e2=>Int.le_antisymm e1 e2) h (zp ns) (hp.trans (tR ns).symm)
end
def pY(H:Hp) (ps:List Addr) (rs:List (List Int)):Prop:=ps.map H=rs.map (λr=>some (HO.lst (r.map V.int)))
theorem pY.nil{H:Hp}:pY H [] []:=rfl
theorem pY.length{H:Hp}{ps:List Addr}{rs:List (List Int)}(h:pY H ps rs):ps.length=rs.length:=by
 have:=congrArg bF h;simpa using this
theorem pY.cons_iff{H:Hp}{ps:List Addr}{rs:List (List Int)}{p:Addr}{r:List Int}:pY H (p::ps) (r::rs)↔H p=some (.lst (r.map V.int))/\pY H ps rs:=by
 unfold pY;rw[ak,ak,List.cons.injEq]
theorem pY.get{H:Hp}{ps:List Addr}{rs:List (List Int)}(h:pY H ps rs) {i:Nat}{p:Addr}(e:ps[i]?=some p):∃r,rs[i]?=some r/\H p=some (.lst (r.map V.int)):=by
 have:=congrArg (λl=>l[i]?) h
 simp only[gMq,e,fZ]at this;cases er:rs[i]? with
 |none=>rw[er]at this;cases this
 |some r=>rw[er]at this;exact⟨r,rfl,bc.inj this⟩
theorem pY.mem{H:Hp}{ps:List Addr}{rs:List (List Int)}(h:pY H ps rs) {p:Addr}(hp:p∈ps):∃r,r∈rs/\H p=some (.lst (r.map V.int)):=by
 obtain⟨i,hi⟩:=List.getElem?_of_mem hp;obtain⟨r,er,e⟩:=h.get hi;exact⟨r,mGq er,e⟩
theorem pY.keep{H H':Hp}{ps:List Addr}{rs:List (List Int)}(h:pY H ps rs) (k:∀p∈ps,H' p=H p):pY H' ps rs:=by
 unfold pY at *;rw[←h];exact mCq k
theorem pY.same{H H':Hp}{ps:List Addr}{rs:List (List Int)}(h:pY H ps rs) (s:nU H H'):pY H' ps rs :=
 h.keep λp hp=>by
  obtain⟨r,_,e⟩:=h.mem hp;rw[s _ _ e,e]
def Vo:V->Int
 | .int i=>i
 |_=>0
def vT(H:Hp) (p:Addr):List Int:=match H p with
 |some (.lst xs)=>xs.map Vo
 |_=>[]
theorem ES{H:Hp}{p:Addr}{r:List Int}(h:H p=some (.lst (r.map V.int))):vT H p=r:=by
 unfold vT;rw[h];simp only[mPq];exact List.map_id'' (λ_=>rfl) r
theorem pY.fn{H:Hp}{ps:List Addr}{rs:List (List Int)}(h:pY H ps rs):rs=ps.map (vT H):=by
 induction rs generalizing ps with
 |nil =>
  have:=h.length;have:ps=[]:=aV.mp this;rw[this];rfl
 |cons r rs ih =>
  cases ps with
  |nil=>have:=h.length;simp at this
  |cons p ps =>
   obtain⟨h1,h2⟩:=pY.cons_iff.mp h;rw[ak,←ih h2,ES h1]
theorem pY.fn_row{H:Hp}{ps:List Addr}{rs:List (List Int)}(h:pY H ps rs) {p:Addr}(hp:p∈ps):H p=some (.lst ((vT H p).map V.int)):=by
 obtain⟨r,_,e⟩:=h.mem hp;rw[ES e];exact e
theorem pY.of_fn{H:Hp}{ps:List Addr}(h:∀p∈ps,H p=some (.lst ((vT H p).map V.int))):pY H ps (ps.map (vT H)):=by
 unfold pY;rw[mPq];exact mCq h
theorem pY.perm{H:Hp}{ps qs:List Addr}{rs:List (List Int)}(h:pY H ps rs) (hp:qs.Perm ps):∃ts,pY H qs ts/\ts.Perm rs/\ts=qs.map (vT H) :=
 ⟨_,pY.of_fn λp m=>h.fn_row (hp.mem_iff.mp m),by rw[h.fn];exact hp.map _,rfl⟩
theorem pY.free{H H':Hp}{ps:List Addr}{rs:List (List Int)}(h:pY H' ps rs) {q:Addr}(n:H' q=none):q∉ps:=λm=>by
 obtain⟨r,_,e⟩:=h.mem m;rw[n]at e;cases e
theorem sN:∀{ps:List Addr}{vs:List Value},ou (ps.map V.ref) vs->vs=ps.map ao
 | [],vs,r=>by cases r;rfl
 |p::ps,vs,r=>by
  rw[ak]at r;cases r with
  |cons h1 h2 =>
   have e:_=ao p:=h1;rw[e,sN h2];rfl
theorem yV:∀(ps:List Addr),ou (ps.map V.ref) (ps.map ao)
 | []=>.nil
 |p::ps=>.cons rfl (yV ps)
def qY:Value->Addr
 | .ref p=>p
 |_=>0
def intOf:Value->Int
 | .int i _=>i
 |_=>0
theorem Da{vs:List Value}{ns:List Int}(h:iW vs ns):ns=vs.map intOf/\∀v∈vs,∃a t,v = .int a t:=by
 induction h with
 |nil=>exact⟨rfl,λv hv=>by cases hv⟩
 |cons a t _ ih =>
  refine⟨by rw[ak,←ih.1];rfl,λv hv=>?_⟩
  rcases aj.mp hv with rfl|hv
  .exact ⟨a,t,rfl⟩
  .exact ih.2 v hv
theorem vals_ints:∀{vs:List Value},(∀v∈vs,∃a t,v = .int a t)->ou ((vs.map intOf).map V.int) vs
 | [],_=>.nil
 |v::vs,h=>by
  obtain⟨a,t,rfl⟩:=h _ (ay ..);exact .cons ⟨t,rfl⟩ (vals_ints λv hv=>h v (mCo _ hv))
theorem Nu{M:jR}{A:Around}{E:Value->iD->Prop}{s:iD}{vs:List Value}{T:String}{Q:iZ->iD->Prop}(h2:2<=vs.length) (hT:∀v∈vs,W.Looks M s.heap (typeOf v) (.type T)) (hT1:(eA T != eA "tuple")=true) (hT2:(eA T == eA T)=true) (h:Q jB s) :
  iI M A (ke vs.toArray) Q E s:=W.kas_kind h2 hT hT1 hT2 h
def T7(x y:iE):Bool:=match x.1,y.1 with
 | .int a _,.int b _=>decide (a<b)
 |_,_=>false
theorem Rz(prog:iK) (w:iP) (A:Around) (s:iD):MrS.wc prog w A s jB (λx=>∃a t,x.1 = .int a t) T7 where
 ask:=by
  rintro⟨_,x⟩ ⟨_,y⟩ ⟨a,t,e1⟩ ⟨b,u,e2⟩ E Q q;dsimp only at e1 e2;subst e1 e2;rw[keyLt'_oneType];exact oneLt_int q
 asym:=by
  rintro⟨_,x⟩ ⟨_,y⟩ ⟨a,t,e1⟩ ⟨b,u,e2⟩ h;dsimp only at e1 e2;subst e1 e2;have h':a<b:=of_decide_eq_true h;exact decide_eq_false (by lia)
 trans:=by
  rintro⟨_,x⟩ ⟨_,y⟩ ⟨_,z⟩ ⟨a,t,e1⟩ ⟨b,u,e2⟩ ⟨c,v,e3⟩ h1 h2;dsimp only at e1 e2 e3;subst e1 e2 e3;have h1':¬ b<a:=of_decide_eq_false h1;have h2':¬ c<b:=of_decide_eq_false h2;exact decide_eq_false (by lia)
def UD(r:Addr->List Int) (x y:iE):Bool:=match x.1,y.1 with
 | .ref p,.ref q=>HT.pB (r p) (r q)
 |_,_=>false
theorem Uc{prog:iK}{w:iP}{A:Around}{s:iD}{ps:List Addr}{r:Addr->List Int}(hu:A.units<iX)
  (h:∀p∈ps,∃vs:List Value,PlainL s.heap p vs.toArray/\iW vs (r p)):MrS.wc prog w A s jB (λx=>∃p,x.1 = .ref p/\p∈ps) (UD r) where
 ask:=by
  rintro⟨_,x⟩ ⟨_,y⟩ ⟨p,e1,hp⟩ ⟨q,e2,hq⟩ E Q k;dsimp only at e1 e2;subst e1 e2;obtain⟨vs,⟨o,n,ho,hc,hd0,hd⟩,hi⟩:=h p hp;obtain⟨ws,⟨o2,n2,ho2,hc2,hd02,hd2⟩,hj⟩:=h q hq;obtain⟨cls,dd,data,sl⟩:=o;obtain⟨cls2,dd2,data2,sl2⟩:=o2;simp only at hc hd0 hd hc2 hd02 hd2;subst hc hd0 hd hc2 hd02 hd2;rw[keyLt'_oneType,oneLt'_eq];simp only[if_true];refine iF (wpAny_cRoomFor hu ?_);refine iF (wpAny_callSpecialIfBound?_slot ⟨_,ho,rfl⟩ F.slot_list_lt (jA F.slot_list_lt ⟨_,ho,rfl⟩ F.entry_list_lt (F.args_list_lt_2 _ _)
   (HT.CK p q vs.toArray ws.toArray n n2 none none sl sl2 (r p) (r q) (by simpa using hi) (by simpa using hj)) ⟨ho,ho2,?_⟩))
  exact jv k
 asym:=by
  rintro⟨_,x⟩ ⟨_,y⟩ ⟨a,e1,_⟩ ⟨b,e2,_⟩ h;dsimp only at e1 e2;subst e1 e2;exact yn _ _ h
 trans:=by
  rintro⟨_,x⟩ ⟨_,y⟩ ⟨_,z⟩ ⟨a,e1,_⟩ ⟨b,e2,_⟩ ⟨c,e3,_⟩ h1 h2;dsimp only at e1 e2 e3;subst e1 e2 e3;exact wW _ _ _ h1 h2
section
variable {X:Cx}
theorem CT:vS X (.builtin "sorted") (λxs H Q=>∃(a:Addr) (ns:List Int),xs=[.ref a]/\qJ X.K H a (ns.map V.int)/\∀p,H p=none->Q (.ref p) (oK H p (.lst ((qK ns).map V.int)))):=by
 intro mU s σ H xs us Q I r h;obtain⟨a,ns,rfl,hS,q⟩:=h;obtain⟨u,rfl,ru⟩:=uP r;cases ru;obtain⟨vs,hl,hi,hz⟩:=wG I hS;obtain⟨en,hv⟩:=Da hi;have hlen:=hi.length;refine MrS.AE (Pk:=λx=>∃a t,x.1 = .int a t) (lt:=T7) hl (by lia) (λs' _=>⟨λh2 Q q=>?_,Rz _ _ _ _⟩) (λv m=>hv v m) λout h' n' o1 o2 o3 o4=>?_
 .match vs,hi,h2 with
  | [],_,h2=>simp at h2
  | [_],_,h2=>simp at h2
  |v₁::v₂::rest,hi,_ =>
   rw[keyKind_ints hi];exact iO q
 .have ho:∀v∈out,∃a t,v = .int a t:=λv m=>hv v (o1.mem_iff.mp m)
  have e:out.map intOf=qK ns:=by
   refine G7 (by rw[en];exact o1.map _) ?_
   rw[bA];refine o2.imp_of_mem λ{x y} mx my h=>?_
   obtain⟨a,t,rfl⟩:=ho x mx;obtain⟨b,u,rfl⟩:=ho y my;have h':¬ b<a:=of_decide_eq_false h;show a<=b;lia
  have hp:H (s.heap.objs.size+1)=none:=I.hok.fresh (bw _);refine⟨.ref (s.heap.objs.size+1),_,I.laid (t':=s.toks) o3 (bw _) (show pL X.prog X.w _ h' _ (.lst ((qK ns).map V.int)) from ⟨?_,out,n',?_,o4⟩),rfl,q _ hp⟩
  .rw [lMq,(tR ns).length_eq];exact hz
  .rw [←e];exact vals_ints ho
theorem C7(hu:X.A.units+64<iX):vS X (.builtin "sorted") (λxs H Q=>∃(a:Addr) (ps:List Addr) (rs:List (List Int)),xs=[.ref a]/\qJ X.K H a (ps.map V.ref)/\pY H ps rs /\
  ∀p qs,H p=none->qs.Perm ps->pY (oK H p (.lst (qs.map V.ref))) qs (Lj rs)->Q (.ref p) (oK H p (.lst (qs.map V.ref)))):=by
 intro mU s σ H xs us Q I r h;obtain⟨a,ps,rs,rfl,hS,hE,q⟩:=h;obtain⟨u,rfl,ru⟩:=uP r;cases ru;obtain⟨its,rv,hl,hz⟩:=I.list hS;have ei:=sN rv;subst ei;have hrow:∀p∈ps,∃vs:List Value,PlainL s.heap p vs.toArray/\iW vs (vT H p):=λp hp=>by
  obtain⟨its,rv,pl,_⟩:=I.list (qJ.of (hE.fn_row hp));exact⟨its,pl,vC rv⟩
 have keepL:∀(s':iD),(∀b o,s.heap.get? b=some o->s'.heap.get? b=some o)->∀p∈ps,∃vs:List Value,PlainL s'.heap p vs.toArray/\iW vs (vT H p):=λs' k p hp=>by
  obtain⟨vs,⟨o,n,ho,rest⟩,hi⟩:=hrow p hp;exact⟨vs,⟨o,n,k _ _ ho,rest⟩,hi⟩
 refine MrS.AE (Pk:=λx=>∃p,x.1 = .ref p/\p∈ps) (lt:=UD (vT H)) hl.isList (by simpa using hz) (λs' k=>⟨λh2 Q q=>?_,Uc (by show X.A.units+1+1<iX;lia) (keepL s' k)⟩) (λv m=>?_) λout h' n' o1 o2 o3 o4=>?_
 .refine Nu (T := "list") h2 (λv hv=>?_) (by rfl) (by rfl) q
  obtain⟨p,hp,rfl⟩:=mMq.mp hv;obtain⟨vs,pl,_⟩:=keepL s' k p hp;intro A Q E s2 k2 q2;obtain⟨o,ho,hc,_⟩:=pl.isList;exact wpAny_typeOf (T := "list") ⟨o,k2 _ _ ho,hc⟩ q2
 .obtain ⟨p,hp,rfl⟩:=mMq.mp m;exact⟨p,rfl,hp⟩
 .have ho:∀v∈out,∃p∈ps,v = .ref p:=λv m=>by
   obtain⟨p,hp,rfl⟩:=mMq.mp (o1.mem_iff.mp m);exact⟨p,hp,rfl⟩
  have eo:out=(out.map qY).map ao:=by
   rw[mPq];have e:=mCq (l:=out) (f:=id) (g:=ao∘qY) λv hv=>by
    obtain⟨p,_,rfl⟩:=ho v hv;rfl
   rw[←e,dg]
  have hq:(out.map qY).Perm ps:=by
   have:=o1.map qY;rw[mPq,show qY∘ao=id from rfl,dg]at this
   exact this
  have hp:H (s.heap.objs.size+1)=none:=I.hok.fresh (bw _);generalize out.map qY=qs at eo hq;obtain⟨ts,e1,e2,e3⟩:=hE.perm hq;have es:ts=Lj rs:=by
   refine K1 e2 ?_;rw[e3,bA];rw[eo,bA]at o2;exact o2
  refine⟨.ref (s.heap.objs.size+1),_,I.laid (t':=s.toks) o3 (bw _) (show pL X.prog X.w _ h' _ (.lst (qs.map V.ref)) from ⟨?_,out,n',?_,o4⟩),rfl,q _ qs hp hq (by rw[←es];exact e1.same (qf hp))⟩
  .rw [lMq,hq.length_eq];simpa using hz
  .rw [eo];exact yV qs
def uv(r:List Int):PyData:=.list (r.map PyData.int)
def xP(rs:List (List Int)):PyData:=.list (rs.map uv)
theorem Jl{mU:List (Addr×Obj)}{σ:St}{H:Hp}{s:iD}{p:Addr}{r:List Int}(I:Inv X mU σ H s) (h:H p=some (.lst (r.map V.int))):Reads s.heap (.ref p) (uv r) [p]:=by
 obtain⟨vs,hl,hi,_⟩:=wG I (qJ.of h);exact W.reads_of_ints hl hi
theorem zm:∀rs:List (List Int),PyData.canLayAll0 (rs.map uv)=true
 | []=>by simp[PyData.canLayAll0]
 |r::rs=>by simp[PyData.canLayAll0,uv,PyData.canLay0,W.canLayAll0_ints r,zm rs]
theorem Aa:∀rs:List (List Int),PyData.depthAll (rs.map uv)<=3
 | []=>by simp[PyData.depthAll]
 |r::rs=>by
  have h1:=Aa rs;have h2:=W.depthAll_ints r;simp only[ak,PyData.depthAll,uv,PyData.depth];lia
theorem zo(rs:List (List Int)):SeqAt.shaped (xP rs)=true:=by
 have h1:=Aa rs;have h2:PyData.depth (xP rs)<=64:=by simp only[xP,PyData.depth];lia
 show (PyData.canLay0 (xP rs) && decide (PyData.depth (xP rs)<=64))=true;rw[eI];exact⟨by simp only[xP,PyData.canLay0];exact zm rs,decide_eq_true h2⟩
theorem A8:∀rs ts:List (List Int),SeqAt.noMixAll (rs.map uv) (ts.map uv)=true
 | [],[]=>by simp[SeqAt.noMixAll]
 | [],_::_=>by simp[SeqAt.noMixAll]
 |_::_,[]=>by simp[SeqAt.noMixAll]
 |r::rs,t::ts=>by simp[SeqAt.noMixAll,uv,SeqAt.noMix,W.noMix_ints r t,A8 rs ts]
theorem Ci:∀rs ts:List (List Int),PySem.Spec.sameAll (rs.map uv) (ts.map uv)=decide (rs=ts)
 | [],[]=>by simp[PySem.Spec.sameAll]
 | [],_::_=>by simp[PySem.Spec.sameAll]
 |_::_,[]=>by simp[PySem.Spec.sameAll]
 |r::rs,t::ts=>by
  simp only[ak,PySem.Spec.sameAll,uv,PySem.Spec.same,W.same_ints r t];rw[Ci rs ts]
  by_cases h:r=t <;> simp[h]
def J4:V->List V->Hp->VK->Prop:=λx vs H Q=>∃(a b:Addr) (ps:List Addr) (rs:List (List Int)) (r:List Int),x = .ref a/\vs=[.ref b]/\H a=some (.lst (ps.map V.ref))/\pY H ps rs/\H b=some (.lst (r.map V.int))/\b∉ps/\Q (.int (rs.countP (·=r):Nat)) H
theorem Ma(hu:X.A.units+65<iX):Q7 X "list.count" J4:=by
 intro mU s σ H x xs v us Q I rx r h;obtain⟨a,b,ps,rs,row,rfl,rfl,h1,e1,h2,nb,q⟩:=h;cases rx;obtain⟨u,rfl,ru⟩:=uP r;cases ru;obtain⟨its,rv,⟨o,n,ho,hc,hd0,hd⟩,hz⟩:=I.list (qJ.of h1);have ei:=sN rv;subst ei;obtain⟨cls,dd,data,sl⟩:=o;simp only at hc hd0 hd;subst hc hd0 hd;have hr:=Jl I h2;refine jA cQ ⟨_,ho,rfl⟩ fD (fx _ _)
  (SeqAt.list_countAt a (ps.map ao).toArray n none sl (.ref b) (λy=>decide (vT H (qY y)=row))) ⟨ho,λy hy=>?_,?_⟩
 .obtain ⟨p,hp,rfl⟩:=mMq.mp (show y∈ps.map ao by simpa using hy)
  refine SeqAt.EqAt.of_refs (λe=>nb (e ▸ hp)) λprog w E Q hq=>?_
  obtain⟨vs,hl,hi,_⟩:=wG I (qJ.of (e1.fn_row hp));obtain⟨ws,hl2,hi2,_⟩:=wG I (qJ.of h2);exact W.eq_intsK (prog:=prog) (w:=w) (A:=X.A.in1) hl hi hl2 hi2 (by show X.A.units+1+64<iX;lia) hq
 .refine ⟨.int _,H,I.tok _,⟨_,rfl⟩,?_⟩;have e:(ps.map ao).toArray.toList.countP (λy=>decide (vT H (qY y)=row))=rs.countP (·=row):=by
   rw[fe,e1.fn,eW,eW];rfl
  rw[e];exact q
end
end Mr
namespace Mr
open PySem L2
structure Bt (mg:Str->Option Value):Prop where
 len:mg "len" = none
 min:mg "min" = none
 max:mg "max" = none
 abs:mg "abs" = none
 all:mg "all" = none
 sorted:mg "sorted" = none
 isi:mg "isinstance" = none
 list:mg "list" = none
 int:mg "int" = none
 bool:mg "bool" = none
 str:mg "str" = none
 dict:mg "dict" = none
 zip:mg "zip" = none
 enum:mg "enumerate" = none
 range:mg "range" = none
 reversed:mg "reversed" = none
structure Fn (P:iK) (w:iP) (K:W.Frag) (mg:Str->Option Value) (base:Heap) (k:Nat) (x:Str) (st:Stmt) (ps:List Str) (sp:Sp) (f:Addr) (fd:iT):Prop where
 D:zG K mg x st ps f fd
 ok:xC P w K mg base Os k f fd ps sp
theorem sk.units65{k:Nat}{A:Around}(r:sk k A):A.units+65<iX:=by have:=r.un;lia
section
variable {X:Cx}{k:Nat}{f:Addr}{fd:iT}{ps:List Str}{sp:Sp}{x:Str}{p pos:Pos}{e:Expr}{es:List Expr}{t:TA}{st:Stmt}
theorem qj(G:Fn X.prog X.w X.K X.mg X.base k x st ps sp f fd) (hr:sk k X.A) (ha:PA X (e::es) t) (hg:Gl X x:=by rfl) (hdb:(x == ("__debug__" : Str))=false:=by decide)
  (he:iR (e::es) X.env=(false,eval e X.env)::iR es X.env:=by rfl) (hpl:(jx pos (iR es X.env)).any (·.1)=false:=by rfl) :
  PE X (.Call (.Name x p) (e::es) [] pos) (xV sp [] E0 t):=Dz G.ok hr hg G.D.m G.D.F.kp G.D.b .nil Sd ha hdb he hpl
end
section
variable (K:W.Frag)
def Hw:Sp:=λvs H Q _=>∃(a:Addr) (ns:List Int),vs=[.ref a]/\qJ K H a (ns.map V.int)/\ns.length<=63/\∀H',Q (.bl true) H'
end
theorem tS{α:Type}{l:List α}{i:Nat}{x:α}(h:l[i]?=some x):l.take (i+1)=l.take i++[x]:=by
 rw[df,h];rfl
end Mr
namespace Xe
open PySem PySem.Spec PySem.W PyProof.Rows L2 Mr
abbrev St:=L2.St
abbrev RY(K:Frag) (C:Addr):Bool:=findIn K (.ref C) "__setattr__" == some (some (.builtin "object.__setattr__")) && findIn K (.ref C) "__getattribute__" == some (some (.builtin "BaseException.__getattribute__")) &&
 findIn K (.ref C) "__getattr__" == some none && findIn K (.ref C) "__class__" == some (some (.builtin "object.__class__"))
def yo(K:Frag) (c:Str) (C:Addr) (bm:List Value):Bool:=match K.lookup C with
 |some ⟨.type "type", _,.cls cd,sl⟩=>(match sl.toList with
  | [_,_,_,_,some (.builtin n),_]=>cd.name == c && cd.mro == .ref C::bm && n == "ValueError.__new__" && !cd.hasDel && cd.hasDict && tailIn K xG bm
  |_=>false)
 |_=>false
structure XC (K:Frag) (c:Str) (C:Addr) (bm:List Value):Prop where
 obj:∃N q bs sn sub ab col dd k0 k1 k2 k3 k5,K.lookup C=some (ji c q C N bs bm true sn sub ab col dd k0 k1 k2 k3 k5 "ValueError.__new__")
 cls:∃cd,clsIn K C=some cd/\cd.mro = .ref C::bm/\cd.name=c
 tail:∀h:Heap,K.In h->jL h xG bm
theorem Ef{K:Frag}{c:Str}{C:Addr}{bm:List Value}(e:yo K c C bm=true):XC K c C bm:=by
 unfold yo at e;split at e
 .rename_i dd cd sl ho;split at e
  .rename_i k0 k1 k2 k3 n k5 hs;simp only[eI,beq_iff_eq,eh]at e;obtain⟨⟨⟨⟨⟨e1,e2⟩,e3⟩,hdel⟩,hdc⟩,ht⟩:=e;have hc:clsIn K C=some cd:=by unfold clsIn;rw[ho]
   obtain⟨nm,bs,mro,ns,qn,hd,sn,sub,ab,col,del⟩:=cd;dsimp only at e1 e2 hdel hdc;subst e1 e2 e3 hdel hdc;have hsl:sl=#[k0,k1,k2,k3,some (.builtin "ValueError.__new__"),k5]:=by
    obtain⟨l⟩:=sl;simp only at hs;rw[hs]
   subst hsl;exact⟨⟨ns,qn,bs,sn,sub,ab,col,dd,k0,k1,k2,k3,k5,ho⟩,⟨_,hc,rfl,rfl⟩,λh X=>tail_of_in X ht⟩
  .cases e
 .cases e
structure AO (K:Frag) (c:Str) (C M:Addr):Prop where
 nm:nsIn K iM c=some (some (.ref C))
 nmM:nsIn K iM "MapError" = some (some (.ref M))
 xc:yo K c C (.ref M::xG)=true
 xm:yo K "MapError" M xG=true
 lk:RY K C=true
def SW(K:Frag) (c:Str) (C:Addr):Prop:=nsIn K iM c=some (some (.ref C))/\((∃M,AO K c C M)∨(c = "MapError" /\ yo K "MapError" C xG=true))
theorem AO.one{K:Frag}{c:Str}{C M C' M':Addr}(a:AO K c C M) (b:AO K c C' M'):C=C'/\M=M':=by
 have e1:=a.nm.symm.trans b.nm;have e2:=a.nmM.symm.trans b.nmM;simp at e1 e2;exact⟨e1,e2⟩
structure AO.Lks (K:Frag) (M:jR) (h:Heap) (C:Addr):Prop where
 sa:Lk M h (ja (.ref C) "__setattr__") (some (.builtin "object.__setattr__"))
 ga:Lk M h (ja (.ref C) "__getattribute__") (some (.builtin "BaseException.__getattribute__"))
 gt:Lk M h (ja (.ref C) "__getattr__") none
 cl:Lk M h (ja (.ref C) "__class__") (some (.builtin "object.__class__"))
theorem AO.lks{K:Frag}{c:Str}{C M:Addr}{Mo:jR}{h:Heap}(r:AO K c C M) (X:K.In h):AO.Lks K Mo h C:=by
 have e:=r.lk;simp only[RY,eI,beq_iff_eq]at e;obtain⟨⟨⟨e1,e2⟩,e3⟩,e4⟩:=e;exact⟨jw X e1,jw X e2,jw X e3,jw X e4⟩
def FX(e C:Addr) (od:Option Addr):HO:=.ext λh=>∃o vs,h.get? e=some o/\o.cls = .ref C/\o.dict=od/\o.data = .fields vs
def GB(e C:Addr) (od:Option Addr):HO:=.ext λh=>∃t,h.get? e=some (wo C t od)
section
variable {P:iK}{w:iP}{H:Hp}{h:Heap}{e C:Addr}{od:Option Addr}
theorem QO{o:Obj}{vs:Array Value}(h1:h.get? e=some o) (h2:o.cls = .ref C) (h3:o.dict=od) (h4:o.data = .fields vs):pL P w H h e (FX e C od) :=
 ⟨⟨o,vs,h1,h2,h3,h4⟩,⟨o,h1⟩,λg1 g2 ⟨o',vs',a,b⟩ k=>⟨o',vs',k _ a,b⟩⟩
theorem Dq{t:Addr}(h1:h.get? e=some (wo C t od)):pL P w H h e (GB e C od):=⟨⟨t,h1⟩,⟨_,h1⟩,λg1 g2 ⟨t',a⟩ k=>⟨t',k _ a⟩⟩
theorem Dh(ok:wH P w H h) (q:H e=some (GB e C od)):∃t,h.get? e=some (wo C t od):=(show pL P w H h e (GB e C od) from ok e _ q).1
theorem Nl(ok:wH P w H h) (q:H e=some (FX e C od)):∃o vs,h.get? e=some o/\o.cls = .ref C/\o.dict=od/\o.data = .fields vs:=(show pL P w H h e (FX e C od) from ok e _ q).1
theorem Eu{o:HO}(q:H e=some o):oK H e o=H:=by
 funext b
 by_cases hb:b=e
 .subst hb;rw[nu,q]
 .rw [nh hb]
end
section
variable {X:Cx}{mU:List (Addr×Obj)}{σ:St}{H:Hp}{s:iD}
def UB(K:Frag) (t:TA):TE:=λσ H Q=>t σ H λvs H1=>∃e v c C M,vs=[.ref e,v]/\H1 e=some (GB e C none)/\AO K c C M/\Q .non H1
theorem Sm{M:Addr}{x:Str}{p ap pos:Pos}{a1 a2:Expr}{t:TA}{pl:Sem Bool}(hg:Gl X x) (hm:X.mg x=some (.ref M)) (hr:readsIn X.K M (.type "type")=true)
  (hs:specialIn X.K (.ref M) "__getattribute__" = some (some (.builtin "type.__getattribute__"))) (hf:findCls X.K (.ref M) (.type "type") "__init__" = some (.val (.builtin "ValueError.__init__")))
  (ha:PA X [a1,a2] t) (hdb:(x == ("__debug__" : Str))=false:=by decide)
  (he:iR [a1,a2] X.env=(false,eval a1 X.env)::iR [a2] X.env:=by rfl) (hpl:(jx pos (iR [a2] X.env)).any (·.1)=false:=by rfl)
  (ht:eval (.Call (.Attribute (.Name x p) "__init__" ap) [a1,a2] [] pos) X.env=(do
   let ov ←eval (.Name x p) X.env
   standAt ap.atName
   let (f,first) ←holding [ov] (getMethod ov "__init__" pl)
   callWith pos f first (jx pos (iR [a1,a2] X.env)) (backToKw pos (keywordEach [] X.env))):=by rfl):PE X (.Call (.Attribute (.Name x p) "__init__" ap) [a1,a2] [] pos) (UB X.K t):=by
 intro mU s σ H Q I h;refine W.methodCall_KW (pl:=pl) (zM I hg hm ?_ hdb) ht;refine method_cls I.kIn hs (cls_value I.kIn hr hf (by decide +kernel) ?_)
 refine eN (qC (ha pos mU _ σ H _ (I.tok _) h) λus s1 hz1=>?_) he hpl
 obtain⟨vs,H1,I1,r1,e,v,c,C,Mc,ev,he1,rf,q⟩:=hz1;subst ev;cases r1 with
 |cons r2 r3 =>
  cases r3 with
  |cons r4 r5 =>
   cases r5;cases r2;obtain⟨t0,hx⟩:=Dh I1.hok he1;obtain⟨⟨N,q',bs,sn,sub,ab,col,dd,k0,k1,k2,k3,k5,hC⟩,_,T⟩:=Ef rf.xc;obtain⟨hh,g,d,tk,os⟩:=s1;refine Jd (T _ I1.kIn) (I1.kIn _ _ hC) hx (λh' t1 hk hx'=>?_) (by rw[iY];simp)
   refine⟨.non,H1,?_,rfl,q⟩;have J:=I1.write (x:=e) (e:=e) (o:=GB e C none) (t':=tk) (by rw[he1];trivial) (.inl rfl) (λb u hb hu=>hk b u hb hu) ⟨_,hx'⟩ (Dq hx')
   rw[Eu he1]at J;exact J
def U1(K:Frag) (ta tv:TE) (f:Str):TS:=λD σ H=>tv σ H λy H1=>ta σ H1 λx H2=>∃e c C M,x = .ref e/\H2 e=some (GB e C none)/\AO K c C M/\findIn K (.ref C) f=some none /\
 ∀dx,H2 dx=none->dx≠e->D.nx σ (oK (oK H2 dx (.xd [(f,y)])) e (GB e C (some dx)))
theorem RK{o value:Expr}{f:Str}{pos pos':Pos}{ta tv:TE}(ha:PE X o ta) (hv:PE X value tv) (hs:kJ value (some (.Attribute o f pos')) pos.line X.env=pure false):PS X (.Assign [.Attribute o f pos'] value pos) (U1 X.K ta tv f):=by
 intro mU s σ H D I h;refine plainObj_wpAny_Assign_Attribute (qC (hv mU s σ H _ I h) λu s1 hz1=>?_) hs
 obtain⟨y,H1,I1,ry,q⟩:=hz1;refine qC (ha mU s1 σ H1 _ I1 q) λov s2 hz2=>?_
 obtain⟨x,H2,I2,rx,e,c,C,M,ex,he,rf,nf,q2⟩:=hz2;subst ex;obtain rfl:ov=ao e:=rx;obtain⟨t0,hx⟩:=Dh I2.hok he;obtain⟨⟨N,q',bs,sn,sub,ab,col,dd,k0,k1,k2,k3,k5,hC⟩,_,T⟩:=Ef rf.xc;have L:=rf.lks (Mo:=iG X.prog X.w) I2.kIn;have LN:=jw (M:=iG X.prog X.w) I2.kIn nf;obtain⟨hh,g,d,tk,os⟩:=s2;refine Ji (T _ I2.kIn) (I2.kIn _ _ hC) hx L.sa LN λh' dx tk' n1 n2 hx' hns hk=>?_
 have nd:H2 dx=none:=I2.hok.fresh n1;refine⟨σ,_,?_,q2 dx nd n2⟩;have ne:∀b ob,H2 b=none->hh.get? b=some ob->b≠e:=λb ob z _=>λq=>by rw[q,he]at z;cases z
 have nx:∀b ob,hh.get? b=some ob->b≠dx:=λb ob z=>aw (aN (ah z) n1)
 have nt:∀b ob,H2 b=some ob->b≠dx:=λb ob z q=>by rw[q,nd]at z;cases z
 have nE:∀(b:Addr) (ob:HO),H2 b=some ob->(∀φ,ob ≠ .ext φ)->b≠e:=λb ob z k q=>by rw[q,he]at z;cases z;exact k _ rfl
 refine I2.un (t':=tk') ⟨λb ob z n _ _=>hk b ob (ne b ob n z) z,λb ob z n _ _=>⟨ob.slots,hk b ob (ne b ob n z) z⟩,λb ob z n _=>by rw[nh (ne b ob n z),nh (nx b ob z)];exact n,λb ob z _=>?_,
  λb xs z=>by rw[nh (nE b _ z λφ w=>by cases w),nh (nt b _ z)];exact z,λb o' u' z=>by rw[nh (nE b _ z λφ w=>by cases w),nh (nt b _ z)];exact z,
  λb ps z=>⟨#[],by rw[nh (nE b _ z λφ w=>by cases w),nh (nt b _ z),z];simp⟩⟩ λb u z=>?_
 .by_cases hb:b=e
  .subst hb;exact⟨_,hx'⟩
  .exact ⟨ob,hk b ob hb z⟩
 .by_cases hb:b=e
  .subst hb;rw[nu]at z;cases z;exact Dq hx'
  .rw [nh hb]at z
   by_cases hb2:b=dx
   .subst hb2;rw[nu]at z;cases z;refine⟨_,hns,λg=>?_⟩
    by_cases hg:g=f
    .subst hg;simpa [iB,zB] using ry
    .have:(g == f)=false:=by simpa using hg
     simp[iB,this,hg,zB]
   .rw [nh hb2]at z;refine(I2.hok b u z).stay (λc' v' hc r=>hk c' v' ?_ r) (λc' r=>?_) λc' xs r=>?_
    .rcases hc with rfl|hc
     .exact hb
     .exact nE c' _ hc λφ w=>by cases w
    .rw [nh (nE c' _ r λφ w=>by cases w),nh (nt c' _ r)];exact r
    .rw [nh (nE c' _ r λφ w=>by cases w),nh (nt c' _ r)];exact r
end
def La(K:Frag) (c fld:Str):Sp:=λvs H Q _=>∃e v C M,vs=[.ref e,v]/\H e=some (GB e C none)/\AO K c C M/\findIn K (.ref C) fld=some none /\
 ∀dx,H dx=none->dx≠e->Q .non (oK (oK H dx (.xd [(fld,v)])) e (GB e C (some dx)))
def RD(K:Frag) (c fld:Str) (t:TA):TE:=λσ H Q=>t σ H λvs H1=>∃v C M,vs=[v]/\AO K c C M/\findIn K (.ref C) fld=some none /\
 ∀e dx,H1 e=none->H1 dx=none->dx≠e->Q (.ref e) (oK (oK H1 dx (.xd [(fld,v)])) e (GB e C (some dx)))
structure Uj (P:iK) (w:iP) (K:Frag) (mg:Str->Option Value) (base:Heap) (k:Nat) (c fld prm:Str) (C M f:Addr) (fd:iT):Prop where
 rf:AO K c C M
 ini:findIn K (.ref C) "__init__" = some (some (.ref f))
 fn:isFn K (.ref f)=true
 kp:keepIn K (.ref C)=true
 nf:findIn K (.ref C) fld=some none
 m:mg c=some (.ref C)
 b:vU K fd ["self", prm] []
 ok:xC P w K mg base Os k f fd ["self", prm] (La K c fld)
theorem NO{H:Hp}{e dx:Addr}{a b c:HO}:oK (oK (oK H e a) dx b) e c=oK (oK H dx b) e c:=by
 funext x;unfold oK;split
 .rfl
 .rename_i h;split
  .rfl
  .first|rfl|rw[nS h]
section
variable {X:Cx}{k:Nat}{c fld prm:Str}{C M f:Addr}{fd:iT}{p pos:Pos}{a:Expr}{t:TA}
theorem M7{mU:List (Addr×Obj)}{σ:St}{H1:Hp}{s1:iD}{Q:VK}{u:Value}{v:V}(G:Uj X.prog X.w X.K X.mg X.base k c fld prm C M f fd) (hr:sk (k+1) X.A) (I1:Inv X mU σ H1 s1) (ru:oX v u)
  (q:∀e dx,H1 e=none->H1 dx=none->dx≠e->Q (.ref e) (oK (oK H1 dx (.xd [(fld,v)])) e (GB e C (some dx)))):iI (iG X.prog X.w) X.A (call (.ref C) [u]) (EP X mU σ Q) X.xe s1:=by
 obtain⟨⟨N,q',bs,sn,sub,ab,col,dd,k0,k1,k2,k3,k5,hC⟩,_,T⟩:=Ef G.rf.xc;obtain⟨hh,g,d,tk,os⟩:=s1;refine Io (T _ I1.kIn) (I1.kIn _ _ hC) (jw I1.kIn G.ini) (λself=>bind_fn I1.kIn self (beq_iff_eq.mp G.fn)) (λh' e hm hs=>?_) (by rw[iY];simp)
 have nE:H1 e=none:=I1.hok.fresh hs;obtain⟨t0,hx,_,_⟩:=hm.there;have I2:Inv X mU σ (oK H1 e (GB e C none)) ⟨h',g,d,tk,os⟩:=I1.laid (t':=tk) hm.keeps hs (Dq hx);have hsp:La X.K c fld [.ref e,v] (oK H1 e (GB e C none)) (λv' H2=>v' = .non/\Q (.ref e) H2) E0:=by
  refine⟨e,v,C,M,rfl,nu,G.rf,G.nf,λdx nd ne=>⟨rfl,?_⟩⟩
  rw[NO];rw[nh ne]at nd;exact q e dx nE nd ne
 refine jZ (kE (G.ok.run _ X.stack _ _ ⟨[.ref e,u],[]⟩ [.ref e,u] [.ref e,v] _ E0 (hr.make C [u] []) (I2.env0.make C [u] []) (G.b _ [.ref e,u] I2.kIn rfl) (.cons rfl (.cons ru .nil)) hsp) λr s' hq'=>?_)
 cases r with
 |error e=>exact False.elim hq'
 |ok fl =>
  cases fl with
  |ret u =>
   obtain⟨v',H',I3,rv,ev,q3⟩:=I2.after hq';subst ev;exact⟨rv,⟨V.ref e,H',I3,rfl,q3⟩⟩
  |next=>exact False.elim hq'
  |brk=>exact False.elim hq'
  |cont=>exact False.elim hq'
theorem QY(G:Uj X.prog X.w X.K X.mg X.base k c fld prm C M f fd) (hr:sk (k+1) X.A) (ha:PA X [a] t) (hg:Gl X c:=by rfl) (hdb:(c == ("__debug__" : Str))=false:=by decide)
  (he:iR [a] X.env=(false,eval a X.env)::iR [] X.env:=by rfl) (hpl:(jx pos (iR [] X.env)).any (·.1)=false:=by rfl) :
  PE X (.Call (.Name c p) [a] [] pos) (RD X.K c fld t):=by
 intro mU s σ H Q I h;refine jt (zM I hg G.m ?_ hdb);refine W.callWith_K (h₀:=X.base) I.ok.mod.kin G.kp (qC (ha pos mU s σ H _ I h) λus s1 hz1=>?_) he hpl
 obtain⟨vs,H1,I1,r,v,C',M',ev,rf',nf',q⟩:=hz1;refine⟨I1.kIn,?_⟩;obtain⟨rfl,rfl⟩:=G.rf.one rf';subst ev;cases r with
 |cons ru r2 =>
  cases r2;exact M7 G hr I1 ru q
end
def OG(P:iK) (w:iP):Jx:=λouter H s E ev s'=>∃e C od H' o vs,ev = .ref e/\s'.os=s.os/\jM s'.gens/\Un (GP outer) [] H H' s.heap s'.heap/\wH P w H' s'.heap/\H' e=some (FX e C od) /\
 s'.heap.get? e=some o/\o.data = .fields vs/\B7 s'.heap vs/\E (.ref e) od H'
theorem QK{P:iK}{w:iP}{X:Cx}:yR (OG P w) X E0:=λ_ _ _ _ _ _ _ h=>by
 obtain⟨_,_,_,_,_,_,_,_,_,_,_,_,_,_,_,z⟩:=h;exact z.elim
def Le(X:Cx) (E:XK):Prop:=∀(mU:List (Addr×Obj)) (σ:St) (H:Hp) (s:iD) (e C:Addr) (od:Option Addr) (o:Obj) (vs:Array Value) (φ:Heap->Prop),Inv X mU σ H s->H e=some (.ext φ)->s.heap.get? e=some o ->
 o.cls = .ref C->o.dict=od->o.data = .fields vs->B7 s.heap vs->E (.ref e) od (oK H e (FX e C od))->X.xe (.ref e) s
section
variable {P:iK}{w:iP}{H:Hp}{h h':Heap}{e C T:Addr}{od:Option Addr}{o:Obj}{vs:Array Value}{fs:List Addr}{φ:Heap->Prop}
theorem Lm(N:Ce fs e o T h h') (hE:H e=some (.ext φ)):Un fs [] H (oK H e (FX e C od)) h h':=by
 have ne:∀b,H b=none->b≠e:=λb z q=>by rw[q,hE]at z;cases z
 have nE:∀(b:Addr) (ob:HO),H b=some ob->(∀φ,ob ≠ .ext φ)->b≠e:=λb ob z k q=>by rw[q,hE]at z;cases z;exact k _ rfl
 refine⟨λb ob z n hb _=>N.keep b ob (ne b n) hb z,λb ob z n _ _=>N.slot b ob (ne b n) z,λb ob z n _=>by rw[nh (ne b n)];exact n,λb ob z _=>?_,
  λb xs z=>by rw[nh (nE b _ z λφ w=>by cases w)];exact z,λb o' u' z=>by rw[nh (nE b _ z λφ w=>by cases w)];exact z,
  λb ps z=>⟨#[],by rw[nh (nE b _ z λφ w=>by cases w),z];simp⟩⟩
 by_cases hb:b=e
 .subst hb;exact⟨_,N.exc⟩
 .obtain ⟨sl,q⟩:=N.slot b ob hb z;exact⟨_,q⟩
theorem KJ(N:Ce fs e o T h h') (hE:H e=some (.ext φ)) (ok:wH P w H h) (hf:∀b∈fs,H b=none) (hc:o.cls = .ref C) (hd:o.dict=od) (hdat:o.data = .fields vs):wH P w (oK H e (FX e C od)) h':=by
 have nE:∀(b:Addr) (ob:HO),H b=some ob->(∀φ,ob ≠ .ext φ)->b≠e:=λb ob z k q=>by rw[q,hE]at z;cases z;exact k _ rfl
 have nf:∀b ob,H b=some ob->b∉fs:=λb ob z q=>by rw[hf b q]at z;cases z
 intro b u z
 by_cases hb:b=e
 .subst hb;rw[nu]at z;cases z;refine QO N.exc ?_ ?_ (Obj.data_mapFields hdat _)
  .rw [Obj.cls_mapFields];exact hc
  .obtain ⟨_,_,dt,_⟩:=o;cases dt <;> exact hd
 .rw [nh hb]at z;refine(ok b u z).stay (λc' v' hc r=>N.keep c' v' ?_ ?_ r) (λc' r=>?_) λc' xs r=>?_
  .rcases hc with rfl|hc
   .exact hb
   .exact nE c' _ hc λφ w=>by cases w
  .rcases hc with rfl|hc
   .exact nf _ _ z
   .exact nf _ _ hc
  .rw [nh (nE c' _ r λφ w=>by cases w)];exact r
  .rw [nh (nE c' _ r λφ w=>by cases w)];exact r
theorem Ek(N:Ce fs e o T h h') (hdat:o.data = .fields vs) (hz:1<vs.size):∃o' vs',h'.get? e=some o'/\o'.data = .fields vs'/\vs'[1]?=some (.ref T)/\B7 h' vs':=by
 obtain⟨oT,ts,h1,h2,h3⟩:=N.ent;have q:(vs.setIfInBounds 1 (ao T))[1]?=some (.ref T):=by simp[hz]
 exact⟨_,_,N.exc,Obj.data_mapFields hdat _,q,.inr ⟨T,oT,ts,q,h1,h2,h3⟩⟩
theorem FS(q:B7 h vs):1<vs.size:=by
 rcases q with q|⟨_,_,_,q,_⟩ <;> exact(aF.mp q).1
end
section
variable {P:iK}{w:iP}{K:Frag}{mg:Str->Option Value}{base:Heap}{N:List Str}{qual:Str}{scope:jJ}{f:Addr}{cd:Value}{A:Around}{outer:List Env}{s:iD}{H:Hp}{E:XK}
theorem yL:Le (Ds (OG P w) P w K mg base N qual scope f cd A outer s H E) E:=by
 intro mU σ H1 s1 e C od o vs φ I hE ho hc hd hdat hq he;show iI (iG P w) (A.deeper (jo qual scope s.heap.objs.size f cd)) (leaving (jo qual scope s.heap.objs.size f cd) (.ref e)) _ _ s1;have fr:(A.deeper (jo qual scope s.heap.objs.size f cd)).frames=some (jo qual scope s.heap.objs.size f cd::outer):=I.ok.frames;have st:s1.heap.FunFrames base (jo qual scope s.heap.objs.size f cd::outer):=I.stack;refine RV fr st rfl ho hdat hq λh' T Nt=>?_
 have free:∀b∈(jo qual scope s.heap.objs.size f cd::outer).filterMap (·.frame),H1 b=none:=I.stkFree;have un:=Lm (C:=C) (od:=od) Nt hE;have ok:=KJ (P:=P) (w:=w) Nt hE I.hok free hc hd hdat;obtain⟨o',vs',g1,g2,g3,g4⟩:=Ek Nt hdat (FS hq);have B:Un (GP outer) [] H H1 s.heap s1.heap:=I.base;have nL:∀b ob,s.heap.get? b=some ob->b∉GP outer->b∉(jo qual scope s.heap.objs.size f cd::outer).filterMap (·.frame):=λb ob z nb m=>by
  rcases aj.mp (show b∈s.heap.objs.size::GP outer from m) with q|q
  .rw [q]at z;exact absurd (ah z) (cf _)
  .exact nb q
 refine⟨e,C,od,oK H1 e (FX e C od),o',vs',rfl,I.os,I.bare,⟨λb ob z n hb hx=>un.keep b ob (B.keep b ob z n hb hx) (B.free b ob z n hx) (nL b ob z hb) hx,λb ob z n hb hx=>?_,λb ob z n hx=>?_,λb ob z hx=>?_,λb xs z=>un.tups b xs (B.tups b xs z),λb o1 u1 z=>un.frzs b o1 u1 (B.frzs b o1 u1 z),λb ps z=>?_⟩,ok,nu,g1,g2,g4,he⟩
 .obtain ⟨sl,q⟩:=B.slot b ob z n hb hx;obtain⟨sl',q'⟩:=un.any q (B.free b ob z n hx) hx;exact⟨sl',q'⟩
 .obtain ⟨o1,q⟩:=B.there b ob z hx;exact un.free b o1 q (B.free b ob z n hx) hx
 .obtain ⟨o1,q⟩:=B.there b ob z hx;exact un.there b o1 q hx
 .obtain ⟨m1,e1⟩:=B.tbls b ps z;obtain⟨m2,e2⟩:=un.tbls b _ e1;exact⟨m1++m2,by rw[e2,gJ]⟩
theorem B3:yR (OG P w) (Ds (OG P w) P w K mg base N qual scope f cd A outer s H E) E:=by
 intro mU σ H1 s1 ev s2 I h;obtain⟨e,C,od,H',o,vs,rfl,os,bare,un,hok,hA,ho,hd,hq,hE⟩:=h;have I':=I.call' os un hok bare (λb z=>nomatch z)
 obtain⟨o',vs',a1,a2,a3,a4⟩:=Nl hok hA;rw[ho]at a1;cases a1;exact yL mU σ H' s2 e C od o vs _ I' hA ho a2 a3 hd hq (by rw[Eu hA];exact hE)
theorem okX{x:Str}{st:Stmt}{fd:iT}{ps:List Str}{k:Nat}{sp:Sp}(F:Mm K x qual st f fd) (S:oE N ps (nD st)) (len:∀vs H Q E,sp vs H Q E->vs.length=ps.length)
  (hbody:∀(sI:Value) (A:Around) (outer:List Env) (s:iD) (H:Hp) (vs:List V) (Q:VK) (E:XK),sk k (A.deeper (jo qual (nD st) s.heap.objs.size f sI))->sp vs H Q E ->
   ∃t,HP (Ds (OG P w) P w K mg base N qual (nD st) f sI A outer s H E) (rJ st) t/\t { nx:=λ_ H'=>Q .non H',rt:=Q } (ud N vs) H):xC P w K mg base (OG P w) (k+1) f fd ps sp:=by
 obtain⟨oc,od,kV,doc,pm,an,sI,ct,osl,rfl,lk,hcd⟩:=F.ex;exact OI lk hcd S len λA outer s H vs Q E hr hsp=>hbody sI A outer s H vs Q E hr hsp
end
section
variable {X:Cx}{E:XK}{c:Str}{C M:Addr}{e:Expr}{te:TE}{pos:Pos}
def TQ(E:XK) (C:Addr) (te:TE):TS:=λ_ σ H=>te σ H λv H1=>∃e od,v = .ref e/\H1 e=some (GB e C od)/\E (.ref e) od (oK H1 e (FX e C od))
theorem Fk(rf:AO X.K c C M) (hl:Le X E) (hc:X.calm=true) (he:PE X e te):PS X (.Raise (some e) none pos) (TQ E C te):=by
 intro mU s σ H D I h;obtain⟨⟨N,q',bs,sn,sub,ab,col,dd,k0,k1,k2,k3,k5,hC⟩,_,T⟩:=Ef rf.xc;rw[arm_exec_Raise];simp only[evalOpt,Option.map];refine iF (km (FZ (C:=C) (nm:=c) (q:=q') (N:=N) (bs:=bs) (bm:=.ref M::xG) (hdct:=true) (sn:=sn) (sub:=sub) (ab:=ab) (col:=col) (dd:=dd) (k0:=k0) (k1:=k1) (k2:=k2) (k3:=k3) (k5:=k5) (newId := "ValueError.__new__") (by rw[cT,show xG.contains (eA "BaseException")=true by decide,eY]) (I.ok.hd hc)
  (iF (iU (he mU s σ H _ I h) (λv s3 h3=>iF (km (iO ?_))) λ_ _ x=>x))))
 obtain⟨v',H1,I1,r,ev,od,rfl,hx,hE⟩:=h3;obtain rfl:v=ao ev:=r;obtain⟨t0,ho⟩:=Dh I1.hok hx;exact⟨ev,t0,od,rfl,I1.kIn _ _ hC,ho,hl mU σ H1 s3 ev C od _ _ _ I1 hx ho rfl rfl rfl (.inl rfl) hE⟩
end
structure Kx (P:iK) (w:iP) (K:Frag) (mg:Str->Option Value) (base:Heap) (k:Nat) (x:Str) (st:Stmt) (ps:List Str) (sp:Sp) (f:Addr) (fd:iT):Prop where
 D:zG K mg x st ps f fd
 ok:xC P w K mg base (OG P w) k f fd ps sp
abbrev XH:=Addr->Addr->Option Addr->vk->St->Hp->Prop
end Xe
namespace Xe
open PySem
section
variable {prog:iK}{w:iP}{A:Around}{E:Value->iD->Prop}{h:Heap}{g:Array lu}{d:Drawn}{t:Nat}{os:OsState}
variable {nm q:Str}{C N:Addr}{bs bm:List Value}{hdct:Bool}{sn:List Str}{sub:List Value}{ab:Bool}{col:Option Bool}{dd:Option Addr}{k0 k1 k2 k3 k5:Option Value}
theorem zA(T:jL h xG bm) {rest:List Value}{Q:Fin->iD->Prop}
  (hC:h.get? C=some (ji nm q C N bs bm hdct sn sub ab col dd k0 k1 k2 k3 k5 "ValueError.__new__"))
  (hi:Lk (iG prog w) h (ja (.ref C) "__init__") (some (.builtin "ValueError.__init__")))
  (hq:∀h' e,fi h h' e (.ref C) rest->h.objs.size<=e->Q (.done (.ret (.ref e))) ⟨h',g,d,t,os⟩) (hrest:rest.length<=iN) :
  iI (iG prog w) A (Builtin.«type.__call__» ⟨.ref C::rest,[]⟩) Q E ⟨h,g,d,t,os⟩:=by
 have F:=dA
 repeat (first|with_reducible refine iV hC ?_|with_reducible refine wpAny_madeBy_exc hC ?_|wp_step)
 refine ku (Code.quiet_builtin _ F.quiet) (lg F T hC ?_);refine lr F T hC ?_ hrest;show iI _ _ _ _ _ _;have hC₁:=ae { cls:=.ref C,data:=.fields #[.ref h.objs.size,.none,.none,.none,.bool false,.none] }
  (ae { cls:=.type "tuple", data:=.seq rest.toArray } hC)
 have hget:((h.push { cls:=.type "tuple", data:=.seq rest.toArray }).push
   { cls:=.ref C,data:=.fields #[.ref h.objs.size,.none,.none,.none,.bool false,.none] }).get? (h.objs.size+1)=some
   { cls:=.ref C,data:=.fields #[.ref h.objs.size,.none,.none,.none,.bool false,.none] }:=by heap_get
 have hcC:(ao C::bm).contains (.ref C)=true:=by simp
 have kk:∀b o,h.get? b=some o->((h.push { cls:=.type "tuple", data:=.seq rest.toArray }).push { cls:=.ref C,data:=.fields #[.ref h.objs.size,.none,.none,.none,.bool false,.none] }).get? b=some o:=λb o e=>ae _ (ae _ e)
 have T₁:=T.keeps (h':=(h.push { cls:=.type "tuple", data:=.seq rest.toArray }).push { cls:=.ref C,data:=.fields #[.ref h.objs.size,.none,.none,.none,.bool false,.none] })
  λb o e=>ae _ (ae _ e)
 unfold isInstance
 repeat (first|with_reducible refine iV hget ?_|(with_reducible refine jH hC₁ ?_;rw[hcC])|wp_step)
 show iI _ _ (ja (.ref C) _) _ _ _;refine hi _ _ _ _ kk ?_;refine jg (iF (wpAny_of_eq (F.init.bind _) ?_));refine iF (jZ (jV F.init.plain F.initEntry (kQ F T₁ hC₁ hget rfl ?_)))
 wp_walk
 refine hq _ _ ⟨λb o hb=>?_,bT (bw _),h.objs.size+2,?_,bT (by lia),?_⟩ (bw _)
 .rw [aJ _ _ (dr (bj (ah hb)))];exact ae _ (ae _ (ae _ hb))
 .rw [bL _ (ae _ hget) rfl];simp only[dZ];rfl
 .rw [aJ _ _ (show h.objs.size+1≠h.objs.size+2 by lia)]
  exact fw (by simp only[dZ]) rfl
theorem GK(T:jL h xG bm) {rest:List Value}{Q:Value->iD->Prop}
  (hC:h.get? C=some (ji nm q C N bs bm hdct sn sub ab col dd k0 k1 k2 k3 k5 "ValueError.__new__"))
  (hi:Lk (iG prog w) h (ja (.ref C) "__init__") (some (.builtin "ValueError.__init__")))
  (hq:∀h' e,fi h h' e (.ref C) rest->h.objs.size<=e->Q (.ref e) ⟨h',g,d,t,os⟩) (hrest:rest.length<=iN) :
  iI (iG prog w) A (call (.ref C) rest) Q E ⟨h,g,d,t,os⟩:=by
 have f1:=tc_lookup;have f2:=tc_bind (.ref C);have hT:(⟨h,g,d,t,os⟩:iD).TypeIs (.ref C) "type" := ⟨_,hC,rfl⟩;refine jZ (codeAny_of_tree ?_);show iI _ _ (callAny (.ref C) _) _ _ _
 repeat (any_goals (first|assumption|with_reducible refine iV hC ?_|wp_step))
 refine⟨rfl,?_⟩;refine kF (Code.quiet_builtin _ (by decide +kernel)) entry_typeCall (kr hC (zA (hrest:=hrest) T hC hi λh' e hm hs=>?_))
 exact hq h' e hm hs
end
end Xe
namespace Xe
open PySem PySem.Spec PySem.W PyProof.Rows L2 Mr
def Rc(K:Frag) (c:Str):TE:=λ_ H Q=>∃C M,AO K c C M/\∀e,H e=none->Q (.ref e) (oK H e (GB e C none))
structure Rp (K:Frag) (mg:Str->Option Value) (c:Str) (C M:Addr):Prop where
 rf:AO K c C M
 ini:findIn K (.ref C) "__init__" = some (some (.builtin "ValueError.__init__"))
 kp:keepIn K (.ref C)=true
 m:mg c=some (.ref C)
section
variable {X:Cx}{c:Str}{C M:Addr}{p pos:Pos}
theorem Qx(G:Rp X.K X.mg c C M) (hg:Gl X c:=by rfl) (hdb:(c == ("__debug__" : Str))=false:=by decide):PE X (.Call (.Name c p) [] [] pos) (Rc X.K c):=by
 intro mU s σ H Q I h;refine jt (zM I hg G.m ?_ hdb);refine W.callWith_K0 I.kIn G.kp ?_;obtain⟨C',M',rf',q⟩:=h;obtain⟨rfl,rfl⟩:=G.rf.one rf';obtain⟨⟨N,q',bs,sn,sub,ab,col,dd,k0,k1,k2,k3,k5,hC⟩,_,T⟩:=Ef G.rf.xc;obtain⟨hh,g,d,tk,os⟩:=s;refine GK (rest:=[]) (T _ I.kIn) (I.kIn _ _ hC) (jw I.kIn G.ini) (λh' e hm hs=>?_) (by rw[iY];simp)
 obtain⟨t0,hx,_,_⟩:=hm.there;exact⟨.ref e,_,I.laid (t':=tk) hm.keeps hs (Dq hx),rfl,q e (I.hok.fresh hs)⟩
end
end Xe
namespace MrS
open PySem PySem.W PyProof.Rows
section
variable {prog:iK}{w:iP}{A:Around}{E:Value->iD->Prop}{s:iD}{Pk:iE->Prop}{lt:iE->iE->Bool}{T:String}{r d:Addr}{n:Nat}{P:Nat->Value->Prop}{OK:Heap->Prop}
theorem Fp{Q:List Value->iD->Prop}(K:KdlSrc prog w T r d n P OK) (hh:A.handled=none) (hok:OK s.heap) (hn:n<=iN)
  (h:∀h' tk (acc:Array Value),(∀b o,s.heap.get? b=some o->h'.get? b=some o)->s.heap.objs.size<h'.objs.size->ItemsOf P acc n->Q acc.toList { s with heap:=h',toks:=tk }) :
  iI (iG prog w) A (collect (.ref r)) Q E s:=by
 unfold collect;refine iF (wpAny_runValue (jn entry_proto_collect' ?_));show iI _ _ (do again (.builtin "list.__iadd__" ⟨[←newList [],.ref r],[]⟩)) _ _ s
 refine iF (jC (iO ⟨Code.quiet_builtin _ (by decide +kernel),jn entry_list_iadd' ?_⟩))
 show iI _ _ (Builtin.List.listExtendWith (.ref s.heap.objs.size) (.ref r) (.ref s.heap.objs.size)) _ _ { s with heap:=s.heap.push (iS "list" #[] 0) }
 have hlt:=K.there _ hok;have hS0:(s.heap.push (iS "list" #[] 0)).get? s.heap.objs.size=some (iS "list" #[] 0):=aU _ rfl;refine kdl_extend (A:=A) (R:=λr s'=>match r with
   | .ok (.ret v)=>iI (iG prog w) A (match v with
    | .ref a=>do
     let o ←load a
     match o.data with
     | .seq xs _=>pure xs.toList
     |_=>jN "internal:collect"
    |_=>jN "internal:collect") Q E s'
   | .ok _=>False
   | .error e=>E e s') (s:={ s with heap:=s.heap.push (iS "list" #[] 0) }) K hh (K.keep _ _ hok λb _ o e=>ae _ e) s.heap.objs.size (dr hlt.1) (dr hlt.2) (.ref s.heap.objs.size) 0 hS0 (λh' tk acc c hk hS hi=>?_) hn
 show iI (iG prog w) A (do
   let o ←load s.heap.objs.size
   match o.data with
   | .seq xs _=>pure xs.toList
   |_=>jN "internal:collect") Q E { s with heap:=h',toks:=tk }
 refine iF (wpAny_load hS ?_);exact iO (h h' tk acc (λb o e=>hk b o (aw (ah e)) (ae _ e)) (ah hS) hi)
theorem GM{Q:Value->iD->Prop}(K:KdlSrc prog w T r d n P OK) (hh:A.handled=none) (hok:OK s.heap) (hn:n<=iN)
  (hC:∀(vs:List Value),vs.length=n->(∀j v,vs[j]?=some v->P j v)->∀s':iD,(2<=vs.length->∀Q:iZ->iD->Prop,Q jB s'->iI (iG prog w) A.in1.in1 (ke vs.toArray) Q E s')/\wc prog w A.in1.in1 s' jB Pk lt/\∀v∈vs,Pk (v,v))
  (h:∀(vs out:List Value) (h':Heap) (p:Addr) (tk n':Nat),vs.length=n->(∀j v,vs[j]?=some v->P j v)->out.Perm vs->out.Pairwise (λx y=>lt (y,y) (x,x)=false)->(∀b o,s.heap.get? b=some o->h'.get? b=some o)->s.heap.objs.size<=p ->
   h'.get? p=some (iS "list" out.toArray n')->Q (.ref p) { s with heap:=h',toks:=tk }) :
  iI (iG prog w) A (call (.builtin "sorted") [.ref r]) Q E s:=by
 refine Calls.call_function_entry lJ lD lF (lH _) ?_;unfold Builtin.«sorted»;refine iF (m:=checkCount "sorted" 1 1 _) (iO ?_);refine iF (Fp K hh hok hn λh0 tk acc hk0 hsz0 hi=>?_)
 have hl:acc.toList.length=n:=by rw[aq];exact hi.1
 have hP:∀j v,acc.toList[j]?=some v->P j v:=λj v e=>hi.2 j v (by rw[←aC];exact e)
 have hs:acc.toList.length<=iN:=by rw[hl];exact hn
 generalize acc.toList=vs at hl hP hs;refine iF (jC ?_ hs);have hoL:(h0.push (iS "list" vs.toArray 0)).get? h0.objs.size=some (iS "list" vs.toArray 0):=aU _ rfl;show iI _ _ _ _ _ { s with heap:=h0.push (iS "list" vs.toArray 0),toks:=tk }
 have hsz:s.heap.objs.size<=h0.objs.size:=bX hsz0;have k1:∀b o,s.heap.get? b=some o->(h0.push (iS "list" vs.toArray 0)).get? b=some o:=λb o e=>ae _ (hk0 b o e)
 have hlt:∀b o,s.heap.get? b=some o->b≠h0.objs.size:=λb o e=>aw (ah (hk0 b o e))
 generalize h0.push (iS "list" vs.toArray 0)=G at hoL k1 ⊢
 clear hsz0
 generalize h0.objs.size=p at hoL hsz hlt ⊢;have k2:∀b o,s.heap.get? b=some o->(pX G p vs).get? b=some o:=λb o e=>by
  refine ae _ (ae _ ?_);rw[bx _ _ _ _ (hlt b o e)];exact k1 b o e
 obtain⟨q1,q2,q3⟩:=hC vs hl hP { s with heap:=pX G p vs,toks:=tk }
 refine iF (jg (kC kT ⟨_,hoL,rfl⟩ kH (xq (s:={ s with heap:=G,toks:=tk }) (Pk:=Pk) (lt:=lt) hoL hs q1 q2 (λx hx=>?_) λxs a1 a2=>⟨_,rfl,?_⟩) (kW _)))
 .obtain ⟨m1,m2⟩:=tq hx;have:x=(x.1,x.1):=gI rfl m2;rw[this];exact q3 _ m1
 .obtain ⟨v1,v2⟩:=wM a1 a2;obtain⟨e1,ho1⟩:=CB vs hoL;obtain⟨n1,g1⟩:=Dg (xs.map (·.2)) ho1;refine iO ⟨_,rfl,h vs _ (jz G p vs (xs.map (·.2))) p tk n1 hl hP v1 v2 (λb o e=>?_) hsz ?_⟩
  .unfold jz;rw[bx _ _ _ _ (hlt b o e)];exact k2 b o e
  .rw [show (xs.map (·.2)).toList.toArray=xs.map (·.2) from eS]
   exact g1
end
end MrS
namespace Mr
open PySem PySem.W PySem.Spec PyProof.Rows L2
section
variable {X:Cx}
theorem HB:∀{us:List Value}{ns:List Int},us.length=ns.length->(∀(j:Nat) (v:Value) (n:Int),us[j]?=some v->ns[j]?=some n->∃t,v=gf n t)->iW us ns
 | [],[],_,_=>.nil
 | [],_::_,h,_=>by simp at h
 |_::_,[],h,_=>by simp at h
 |u::us,n::ns,h,g=>by
  obtain⟨t,rfl⟩:=g 0 u n rfl rfl;exact .cons n t (HB (by simpa using h) λj v m e1 e2=>g (j+1) v m (by simpa using e1) (by simpa using e2))
theorem Nd:∀{kvs:List (nX×V)}{ws:List (nX×Value)},KV kvs ws->kvs.map (·.1)=ws.map (·.1):=λ{kvs ws} r=>by
 induction r with
 |nil=>rfl
 |cons a b ih=>rw[ak,ak,ih,a.1]
theorem Dn(hc:X.calm=true):vS X (.builtin "sorted") (λxs H Q=>∃(a:Addr) (kvs:List (nX×V)) (ns:List Int),xs=[.ref a]/\H a=some (.dK kvs)/\kvs.map (·.1)=ns.map aS/\∀p,H p=none->Q (.ref p) (oK H p (.lst ((qK ns).map V.int)))):=by
 intro mU s σ H xs us Q I r h;obtain⟨a,kvs,ns,rfl,ha,hk,q⟩:=h;obtain⟨u,rfl,ru⟩:=uP r;cases ru;obtain⟨hz,sa,vs,kv,d⟩:=(show pL X.prog X.w H s.heap a (.dK kvs) from I.hok a _ ha)
 obtain⟨ep,da⟩:=d.dictAt;have hl:=Paired.length kv;have hlen:ns.length=vs.length:=by
  have:=congrArg bF hk;rw[lMq,lMq]at this;rw[←this,hl]
 have hkv:vs.map (·.1)=ns.map aS:=by rw[←Nd kv,hk]
 have hI:∀us:List Value,us.length=vs.length->(∀(j:Nat) (v:Value),us[j]?=some v->∃k x,vs[j]?=some (k,x)/\(pW X.prog X.w).is k v=true)->iW us ns:=λus h1 h2=>HB (by rw[h1,hlen]) λj v m e1 e2=>by
  obtain⟨k,x,g1,g2⟩:=h2 j v e1;have e3:(vs.map (·.1))[j]?=some k:=by rw[gMq,g1];rfl
  rw[hkv,gMq,e2]at e3;have e4:(aS m:nX)=k:=by simpa using e3
  subst e4;rcases pJ (k:=aS m) (v:=v) g2 with ⟨i,t,e5,e6⟩|⟨z,t,e5,_⟩
  .cases e5;exact⟨t,e6⟩
  .cases e5
 refine MrS.GM (kdl_dict (knd:=pW X.prog X.w) (d:=a) (kvs:=vs) (ep:=ep) sa) (I.ok.hd hc) da (by rw[←hl];exact hz) (Pk:=λx:iE=>∃a t,x.1=gf a t) (lt:=T7) (λus h1 h2 s'=>⟨λh3 Q q=>?_,Rz _ _ _ _,λv m=>(Da (hI us h1 h2)).2 v m⟩) λus out h' p tk n' h1 h2 o1 o2 o3 op o4=>?_
 .have hi:=hI us h1 h2
  match us,hi,h3 with
  | [],_,h3=>simp at h3
  | [_],_,h3=>simp at h3
  |v₁::v₂::rest,hi,_ =>
   rw[keyKind_ints hi];exact iO q
 .obtain ⟨en,hv⟩:=Da (hI us h1 h2);have ho:∀v∈out,∃a t,v = .int a t:=λv m=>hv v (o1.mem_iff.mp m)
  have e:out.map intOf=qK ns:=by
   refine G7 (by rw[en];exact o1.map _) ?_
   rw[bA];refine o2.imp_of_mem λ{x y} mx my h=>?_
   obtain⟨a,t,rfl⟩:=ho x mx;obtain⟨b,u,rfl⟩:=ho y my;have h':¬ b<a:=of_decide_eq_false h;show a<=b;lia
  have hp:H p=none:=I.hok.fresh op;refine⟨.ref p,_,I.laid (t':=tk) o3 op (show pL X.prog X.w _ h' _ (.lst ((qK ns).map V.int)) from ⟨?_,out,n',?_,o4⟩),rfl,q _ hp⟩
  .rw [lMq,(tR ns).length_eq,hlen,←hl];exact hz
  .rw [←e];exact vals_ints ho
end
end Mr
namespace Z
open PySem L2 Mr
abbrev St:=L2.St
inductive D where
 |non|bl (b:Bool)|int (i:Int)|str (x:Str)|ty (n:String)|list (xs:List D)|tup (xs:List D)|dict (kvs:List (nX×D))|scr (ns:List Int)|exc (c:Str) (fs:List (Str×Int))|cls (c:Str)|fd (kvs:List (nX×D))|ins (c:Str) (fs:List (Str×D))
inductive pV (K:W.Frag) (H:Hp):D->V->Prop
 |non:pV K H .non .non
 |bl {b:Bool}:pV K H (.bl b) (.bl b)
 |int {i:Int}:pV K H (.int i) (.int i)
 |str {x:Str}:pV K H (.str x) (.str x)
 |ty {n:String}:pV K H (.ty n) (.ty n)
 |list {p:Addr}{vs:List V}{ds:List D}(h:H p=some (.lst vs)) (l:ds.length=vs.length) (e:∀(i:Nat) (d:D) (v:V),ds[i]?=some d->vs[i]?=some v->pV K H d v):pV K H (.list ds) (.ref p)
 |tup {p:Addr}{vs:List V}{ds:List D}(h:H p=some (.tup vs)) (l:ds.length=vs.length) (e:∀(i:Nat) (d:D) (v:V),ds[i]?=some d->vs[i]?=some v->pV K H d v):pV K H (.tup ds) (.ref p)
 |dict {p:Addr}{kvs:List (nX×V)}{ds:List (nX×D)}(h:H p=some (.dK kvs)) (l:ds.map (·.1)=kvs.map (·.1)) (e:∀(i:Nat) (d:nX×D) (v:nX×V),ds[i]?=some d->kvs[i]?=some v->pV K H d.2 v.2):pV K H (.dict ds) (.ref p)
 |scr {p:Addr}{ns:List Int}(h:qJ K H p (ns.map V.int)):pV K H (.scr ns) (.ref p)
 |exc {c:Str}{fs:List (Str×Int)}{e C M dx:Addr}(rf:Xe.AO K c C M) (nf:∀p∈fs,W.findIn K (.ref C) p.1=some none) (h:H e=some (Xe.FX e C (some dx))) (hx:H dx=some (.xd (fs.map λp=>(p.1,V.int p.2)))):pV K H (.exc c fs) (.ref e)
 |exc0 {c:Str}{e C M:Addr}(rf:Xe.AO K c C M) (h:H e=some (Xe.FX e C none)):pV K H (.exc c []) (.ref e)
 |cls {c:Str}{C:Addr}(h:Xe.SW K c C):pV K H (.cls c) (.ref C)
 |fd {p:Addr}{o:Obj}{kvs:List (nX×V)}{ds:List (nX×D)}(h:H p=some (.frz o (.dK kvs))) (l:ds.map (·.1)=kvs.map (·.1)) (e:∀(i:Nat) (d:nX×D) (v:nX×V),ds[i]?=some d->kvs[i]?=some v->pV K H d.2 v.2):pV K H (.fd ds) (.ref p)
 |ins {c:Str}{a C dx:Addr}{gs:List (Str×V)}{fs:List (Str×D)}(rf:W.nsIn K iM c=some (some (.ref C))) (h:H a=some (.ins C dx gs)) (l:fs.map (·.1)=gs.map (·.1)) (e:∀(i:Nat) (d:Str×D) (v:Str×V),fs[i]?=some d->gs[i]?=some v->pV K H d.2 v.2):pV K H (.ins c fs) (.ref a)
def ox(K:W.Frag) (H:Hp) (ds:List D) (vs:List V):Prop:=ds.length=vs.length/\∀(i:Nat) (d:D) (v:V),ds[i]?=some d->vs[i]?=some v->pV K H d v
def tK(K:W.Frag) (H:Hp) (ds:List (nX×D)) (kvs:List (nX×V)):Prop:=ds.map (·.1)=kvs.map (·.1)/\∀(i:Nat) (d:nX×D) (v:nX×V),ds[i]?=some d->kvs[i]?=some v->pV K H d.2 v.2
section
variable {K:W.Frag}{H H':Hp}
theorem pV.mono{d:D}{v:V}(h:pV K H d v) (s:nU H H'):pV K H' d v:=by
 induction h with
 |non=>exact .non
 |bl=>exact .bl
 |int=>exact .int
 |str=>exact .str
 |ty=>exact .ty
 |list h l _ ih=>exact .list (s _ _ h) l ih
 |tup h l _ ih=>exact .tup (s _ _ h) l ih
 |dict h l _ ih=>exact .dict (s _ _ h) l ih
 |scr h=>exact .scr (s.seq h)
 |exc rf nf h hx=>exact .exc rf nf (s _ _ h) (s _ _ hx)
 |exc0 rf h=>exact .exc0 rf (s _ _ h)
 |cls h=>exact .cls h
 |fd h l _ ih=>exact .fd (s _ _ h) l ih
 |ins rf h l _ ih=>exact .ins rf (s _ _ h) l ih
theorem ox.mono{ds:List D}{vs:List V}(h:ox K H ds vs) (s:nU H H'):ox K H' ds vs:=⟨h.1,λi d v a b=>(h.2 i d v a b).mono s⟩
theorem tK.mono{ds:List (nX×D)}{vs:List (nX×V)}(h:tK K H ds vs) (s:nU H H'):tK K H' ds vs:=⟨h.1,λi d v a b=>(h.2 i d v a b).mono s⟩
theorem ox.nil:ox K H [] []:=⟨rfl,λi d v a=>by simp at a⟩
theorem ox.cons{d:D}{v:V}{ds:List D}{vs:List V}(h:pV K H d v) (t:ox K H ds vs):ox K H (d::ds) (v::vs):=⟨by simp[t.1],λi e w a b=>by
 cases i with
 |zero =>
  simp at a b;subst a b;exact h
 |succ i=>exact t.2 i e w (by simpa using a) (by simpa using b)⟩
theorem ox.cons_iff{d:D}{v:V}{ds:List D}{vs:List V}:ox K H (d::ds) (v::vs)↔pV K H d v/\ox K H ds vs :=
 ⟨λh=>⟨h.2 0 d v rfl rfl,by have:=h.1;simpa using this,λi e w a b=>h.2 (i+1) e w (by simpa using a) (by simpa using b)⟩,λh=>.cons h.1 h.2⟩
theorem ox.nil_inv{vs:List V}(h:ox K H [] vs):vs=[]:=by
 have:=h.1;cases vs with
 |nil=>rfl
 |cons _ _=>simp at this
theorem ox.cons_inv{d:D}{ds:List D}{vs:List V}(h:ox K H (d::ds) vs):∃v ws,vs=v::ws/\pV K H d v/\ox K H ds ws:=by
 cases vs with
 |nil=>have:=h.1;simp at this
 |cons v ws=>exact⟨v,ws,rfl,ox.cons_iff.mp h⟩
theorem ox.append:∀{ds es:List D}{vs ws:List V},ox K H ds vs->ox K H es ws->ox K H (ds++es) (vs++ws)
 | [],es,vs,ws,h,g=>by rw[h.nil_inv];exact g
 |d::ds,es,vs,ws,h,g=>by
  obtain⟨v,us,rfl,h1,h2⟩:=h.cons_inv;exact .cons h1 (ox.append h2 g)
theorem ox.take{ds:List D}{vs:List V}(h:ox K H ds vs) (n:Nat):ox K H (ds.take n) (vs.take n):=⟨by rw[lTq,lTq,h.1],λi d v a b=>by
 rw[List.getElem?_take]at a b;split at a
 .rename_i hi;rw[nK hi]at b;exact h.2 i d v a b
 .cases a⟩
theorem ox.drop{ds:List D}{vs:List V}(h:ox K H ds vs) (n:Nat):ox K H (ds.drop n) (vs.drop n):=⟨by rw[aR,aR,h.1],λi d v a b=>by
 rw[fm]at a b;exact h.2 _ d v a b⟩
theorem ox.get{ds:List D}{vs:List V}(h:ox K H ds vs) {i:Nat}{d:D}(e:ds[i]?=some d):∃v,vs[i]?=some v/\pV K H d v:=by
 have hi:i<ds.length:=(gSq.mp e).1;have hj:i<vs.length:=h.1 ▸ hi;exact⟨vs[i],gEg hj,h.2 i d _ e (gEg hj)⟩
theorem ox.get'{ds:List D}{vs:List V}(h:ox K H ds vs) {i:Nat}{v:V}(e:vs[i]?=some v):∃d,ds[i]?=some d/\pV K H d v:=by
 have hi:i<vs.length:=(gSq.mp e).1;have hj:i<ds.length:=h.1.symm ▸ hi;exact⟨ds[i],gEg hj,h.2 i _ v (gEg hj) e⟩
theorem pV.list_inv{ds:List D}{v:V}(h:pV K H (.list ds) v):∃p vs,v = .ref p/\H p=some (.lst vs)/\ox K H ds vs:=by
 cases h with
 |list h l e=>exact⟨_,_,rfl,h,l,e⟩
theorem pV.tup_inv{ds:List D}{v:V}(h:pV K H (.tup ds) v):∃p vs,v = .ref p/\H p=some (.tup vs)/\ox K H ds vs:=by
 cases h with
 |tup h l e=>exact⟨_,_,rfl,h,l,e⟩
theorem pV.dict_inv{ds:List (nX×D)}{v:V}(h:pV K H (.dict ds) v):∃p kvs,v = .ref p/\H p=some (.dK kvs)/\tK K H ds kvs:=by
 cases h with
 |dict h l e=>exact⟨_,_,rfl,h,l,e⟩
theorem pV.mk_tup{ds:List D}{p:Addr}{vs:List V}(h:H p=some (.tup vs)) (r:ox K H ds vs):pV K H (.tup ds) (.ref p):=.tup h r.1 r.2
theorem pV.mk_dict{ds:List (nX×D)}{p:Addr}{vs:List (nX×V)}(h:H p=some (.dK vs)) (r:tK K H ds vs):pV K H (.dict ds) (.ref p):=.dict h r.1 r.2
end
def D.scal:D->Bool
 | .non=>true
 | .bl _=>true
 | .int _=>true
 | .str _=>true
 | .ty _=>true
 |_=>false
theorem pV.scal{K:W.Frag}{H H':Hp}{d:D}{v:V}(h:pV K H d v) (s:d.scal=true):pV K H' d v:=by
 cases h with
 |non=>exact .non
 |bl=>exact .bl
 |int=>exact .int
 |str=>exact .str
 |ty=>exact .ty
 |_=>cases s
inductive AV where
 |sh (d:D)|ow (avs:List AV)|owd (kvs:List (nX×D))|owl (kvs:List (nX×List Int))
mutual
def nj:AV->D
 | .sh d=>d
 | .ow avs=>.list (A4 avs)
 | .owd kvs=>.dict kvs
 | .owl kvs=>.dict (kvs.map λx=>(x.1,.list (x.2.map .int)))
def A4:List AV->List D
 | []=>[]
 |a::as=>nj a::A4 as
end
theorem BU:∀avs:List AV,A4 avs=avs.map nj
 | []=>by simp[A4]
 |a::as=>by simp[A4,BU as]
@[simp] theorem pT (d:D):nj (.sh d)=d:=by simp[nj]
@[simp] theorem qk (avs:List AV):nj (.ow avs) = .list (avs.map nj):=by simp[nj,BU]
@[simp] theorem yH (kvs:List (nX×D)):nj (.owd kvs) = .dict kvs:=by simp[nj]
theorem BW(kvs:List (nX×List Int)):nj (.owl kvs) = .dict (kvs.map λx=>(x.1,.list (x.2.map .int))):=by simp[nj]
inductive oh (K:W.Frag) (Hf H:Hp):AV->V->List Addr->Prop
 |sh {d:D}{v:V}(r:pV K Hf d v):oh K Hf H (.sh d) v []
 |ow {p:Addr}{vs:List V}{avs:List AV}{Fs:List (List Addr)}(h:H p=some (.lst vs)) (n:Hf p=none) (l:avs.length=vs.length) (lf:avs.length=Fs.length)
   (e:∀(i:Nat) (a:AV) (v:V) (F:List Addr),avs[i]?=some a->vs[i]?=some v->Fs[i]?=some F->oh K Hf H a v F):oh K Hf H (.ow avs) (.ref p) (p::Fs.flatten)
 |owd {p:Addr}{kvs:List (nX×V)}{ds:List (nX×D)}(h:H p=some (.dK kvs)) (n:Hf p=none) (r:tK K Hf ds kvs):oh K Hf H (.owd ds) (.ref p) [p]
 |owl {p:Addr}{kvs:List (nX×List Int)}{qs:List Addr}(h:H p=some (.dK (iw (λx q=>(x.1,V.ref q)) kvs qs))) (n:Hf p=none) (l:kvs.length=qs.length) (e:∀(i:Nat) (q:Addr) (x:nX×List Int),qs[i]?=some q->kvs[i]?=some x->H q=some (.lst (x.2.map V.int))/\Hf q=none):oh K Hf H (.owl kvs) (.ref p) (p::qs)
theorem HK{K:W.Frag}{H:Hp}{p:Addr}{kvs:List (nX×List Int)}{qs:List Addr}(h:H p=some (.dK (iw (λx q=>(x.1,V.ref q)) kvs qs))) (l:kvs.length=qs.length) (e:∀(i:Nat) (q:Addr) (x:nX×List Int),qs[i]?=some q->kvs[i]?=some x->H q=some (.lst (x.2.map V.int))):pV K H (.dict (kvs.map λx=>(x.1,.list (x.2.map .int)))) (.ref p):=by
 refine .dict h ?_ λi d v h1 h2=>?_
 .refine eg λi=>?_
  rw[gMq,gMq,gMq,gh]
  by_cases c:i<kvs.length
  .rw [gEg c,gEg (l ▸ c)];rfl
  .rw [bM (eF c)];rfl
 .rw [gMq]at h1;rw[gh]at h2;cases hk:kvs[i]? with
  |none=>rw[hk]at h1;cases h1
  |some x =>
   cases hq:qs[i]? with
   |none=>rw[hk,hq]at h2;cases h2
   |some q =>
    rw[hk]at h1 h2;rw[hq]at h2;cases h1;cases h2;refine .list (e i q x hq hk) (by rw[lMq,lMq]) λj d v e1 e2=>?_
    rw[gMq]at e1 e2;cases hj:x.2[j]? with
    |none=>rw[hj]at e1;cases e1
    |some m =>
     rw[hj]at e1 e2;cases e1;cases e2;exact .int
theorem QR{kvs:List (nX×List Int)}{qs:List Addr}(l:kvs.length=qs.length) {q:Addr}(hq:q∈qs):∃(i:Nat) (x:nX×List Int),qs[i]?=some q/\kvs[i]?=some x:=by
 obtain⟨i,hi⟩:=bf.mp hq;have hl:=(gSq.mp hi).1;exact⟨i,_,hi,gEg (l ▸ hl)⟩
section
variable {K:W.Frag}{Hf Hf' H H':Hp}{av:AV}{v:V}{F:List Addr}
theorem oh.owned(h:oh K Hf H av v F):∀q∈F,H q≠none/\Hf q=none:=by
 induction h with
 |sh _=>intro q hq;cases hq
 | @ow p vs avs Fs h n l lf e ih =>
  intro q hq;rcases aj.mp hq with rfl|hq
  .exact ⟨by rw[h];simp,n⟩
  .obtain ⟨F,hF,hq⟩:=mFq.mp hq;obtain⟨i,hi,rfl⟩:=bB.mp hF;exact ih i avs[i] vs[i] Fs[i] (by simp) (by simp) (by simp) q hq
 |owd h n r =>
  intro q hq;have:=mSq.mp hq;subst this;exact⟨by rw[h];simp,n⟩
 |owl h n l e =>
  intro q hq;rcases aj.mp hq with z|z
  .rw [z];exact⟨by rw[h];simp,n⟩
  .obtain ⟨i,x,h1,h2⟩:=QR l z;obtain⟨e1,e2⟩:=e i q x h1 h2;exact⟨by rw[e1];simp,e2⟩
theorem oh.keep(h:oh K Hf H av v F) (s:nU Hf Hf') (hk:∀q∈F,H' q=H q) (hn:∀q∈F,Hf' q=none):oh K Hf' H' av v F:=by
 induction h with
 |sh r=>exact .sh (r.mono s)
 | @ow p vs avs Fs h n l lf e ih =>
  refine .ow (by rw[hk p (by simp)];exact h) (hn p (by simp)) l lf λi a v F h1 h2 h3=>ih i a v F h1 h2 h3 (λq hq=>hk q ?_) λq hq=>hn q ?_
  all_goals exact mCo _ (mFq.mpr ⟨F,mGq h3,hq⟩)
 |owd h n r=>exact .owd (by rw[hk _ (by simp)];exact h) (hn _ (by simp)) (r.mono s)
 | @owl p kvs qs h n l e =>
  refine .owl (by rw[hk _ (ay ..)];exact h) (hn _ (ay ..)) l λi q x h1 h2=>?_
  have m:q∈p::qs:=mCo _ (mGq h1);exact⟨by rw[hk q m];exact(e i q x h1 h2).1,hn q m⟩
theorem oh.rep(h:oh K Hf H av v F) (s:nU Hf H):pV K H (nj av) v:=by
 induction h with
 |sh r=>rw[pT];exact r.mono s
 | @ow p vs avs Fs h n l lf e ih =>
  rw[qk];refine .list h (by simp[l]) λi d v h1 h2=>?_
  rw[gMq]at h1;cases ea:avs[i]? with
  |none=>rw[ea]at h1;cases h1
  |some a =>
   rw[ea]at h1;cases h1;have hi:i<Fs.length:=lf ▸ (gSq.mp ea).1;exact ih i a v Fs[i] ea h2 (gEg hi)
 |owd h n r=>rw[yH];exact .mk_dict h (r.mono s)
 |owl h n l e=>rw[BW];exact HK h l λi q x h1 h2=>(e i q x h1 h2).1
def frz(Hf H:Hp) (F:List Addr):Hp:=λb=>if b∈F then H b else Hf b
theorem xF{b:Addr}(h:b∈F):frz Hf H F b=H b:=nK h
theorem sY{b:Addr}(h:b∉F):frz Hf H F b=Hf b:=nS h
theorem qw(h:∀q∈F,Hf q=none):nU Hf (frz Hf H F):=λb o e=>by
 rw[sY λm=>by rw[h b m]at e;cases e]
 exact e
theorem Nz(s:nU Hf H):nU (frz Hf H F) H:=λb o e=>by
 by_cases m:b∈F
 .rw [xF m]at e;exact e
 .rw [sY m]at e;exact s b o e
theorem oh.frozen(h:oh K Hf H av v F) (s:nU Hf Hf') (hk:∀q∈F,Hf' q=H q):pV K Hf' (nj av) v:=by
 induction h with
 |sh r=>rw[pT];exact r.mono s
 | @ow p vs avs Fs h n l lf e ih =>
  rw[qk];refine .list (by rw[hk p (by simp)];exact h) (by simp[l]) λi d v h1 h2=>?_
  rw[gMq]at h1;cases ea:avs[i]? with
  |none=>rw[ea]at h1;cases h1
  |some a =>
   rw[ea]at h1;cases h1;have hi:i<Fs.length:=lf ▸ (gSq.mp ea).1;exact ih i a v Fs[i] ea h2 (gEg hi) λq hq=>hk q (mCo _ (mFq.mpr ⟨Fs[i],gRq hi,hq⟩))
 |owd h n r=>rw[yH];exact .mk_dict (by rw[hk _ (by simp)];exact h) (r.mono s)
 |owl h n l e=>rw[BW];exact HK (by rw[hk _ (ay ..)];exact h) l λi q x h1 h2=>by rw[hk q (mCo _ (mGq h1))];exact(e i q x h1 h2).1
end
abbrev AS:=List (Option AV)
structure oz (K:W.Frag) (H₀ Hf₀ Hf:Hp) (S:AS) (σ:St) (H:Hp) (Fs:List (List Addr)):Prop where
 len:S.length=σ.length
 lenF:Fs.length=S.length
 rep:∀(i:Nat) (av:AV),S[i]?=some (some av)->∃v F,σ[i]?=some (some v)/\Fs[i]?=some F/\oh K Hf H av v F
 emp:∀i:Nat,S[i]?=some none->Fs[i]?=some []
 nd:Fs.flatten.Nodup
 fresh:∀p∈Fs.flatten,H₀ p=none
 sub:nU Hf H
 fr:nU H₀ H
 lim:∀b,Hf₀ b=none->H₀ b≠none->Hf b=none
 sf:nU Hf₀ Hf
structure wF (Hf H:Hp) (Fs:List (List Addr)) (Hf' H':Hp) (Fs':List (List Addr)):Prop where
 sf:nU Hf Hf'
 sh:nU H H'
 own:∀p∈Fs'.flatten,p∈Fs.flatten
 gr:∀b,Hf b=none->Hf' b≠none->H b=none∨b∈Fs.flatten
theorem wF.refl{Hf H:Hp}{Fs:List (List Addr)}:wF Hf H Fs Hf H Fs:=⟨.refl _,.refl _,λ_ h=>h,λb h g=>absurd h g⟩
theorem HC{H H':Hp}(s:nU H H') {b:Addr}(h:H b≠none):H' b≠none:=by
 cases e:H b with
 |none=>exact absurd e h
 |some o=>rw[s b o e];simp
theorem wF.trans{Hf H Hf1 H1 Hf2 H2:Hp}{Fs Fs1 Fs2:List (List Addr)}(a:wF Hf H Fs Hf1 H1 Fs1) (b:wF Hf1 H1 Fs1 Hf2 H2 Fs2):wF Hf H Fs Hf2 H2 Fs2 :=
 ⟨a.sf.trans b.sf,a.sh.trans b.sh,λp h=>a.own p (b.own p h),λc h g=>by
  by_cases e:Hf1 c=none
  .rcases b.gr c e g with q|q
   .exact .inl (a.sh.free q)
   .exact .inr (a.own c q)
  .exact a.gr c h e⟩
section
variable {K:W.Frag}{H₀ Hf₀ Hf Hf' H H':Hp}{S:AS}{σ:St}{Fs Fs':List (List Addr)}
theorem HW{b:Addr}(s:nU H H') (h:H b≠none):H' b=H b:=by
 cases e:H b with
 |none=>exact absurd e h
 |some o=>exact s b o e
theorem oz.mem(R:oz K H₀ Hf₀ Hf S σ H Fs) {q:Addr}(h:q∈Fs.flatten):H q≠none/\Hf q=none:=by
 obtain⟨F,hF,hq⟩:=mFq.mp h;obtain⟨i,hi,rfl⟩:=bB.mp hF;have hiS:i<S.length:=R.lenF ▸ hi;cases e:S[i] with
 |none =>
  have:=R.emp i (by rw[gEg hiS,e])
  rw[gEg hi]at this;rw[bc.inj this]at hq;cases hq
 |some av =>
  obtain⟨v,F,_,e2,r⟩:=R.rep i av (by rw[gEg hiS,e])
  rw[gEg hi]at e2;rw[bc.inj e2]at hq;exact r.owned q hq
theorem oz.more(R:oz K H₀ Hf₀ Hf S σ H Fs) (s:nU H H') (sf:nU Hf Hf') (sub:nU Hf' H') (hn:∀q∈Fs.flatten,Hf' q=none) (lim:∀b,Hf₀ b=none->H₀ b≠none->Hf' b=none):oz K H₀ Hf₀ Hf' S σ H' Fs where
 len:=R.len
 lenF:=R.lenF
 rep:=λi av e=>by
  obtain⟨v,F,e1,e2,r⟩:=R.rep i av e;refine⟨v,F,e1,e2,r.keep sf (λq hq=>HW s (r.owned q hq).1) λq hq=>hn q (mFq.mpr ⟨F,mGq e2,hq⟩)⟩
 emp:=R.emp
 nd:=R.nd
 fresh:=R.fresh
 sub:=sub
 fr:=R.fr.trans s
 lim:=lim
 sf:=R.sf.trans sf
theorem oz.laid(R:oz K H₀ Hf₀ Hf S σ H Fs) (s:nU H H'):oz K H₀ Hf₀ Hf S σ H' Fs:=R.more s (.refl _) (R.sub.trans s) (λq h=>(R.mem h).2) R.lim
theorem qp{F:List Addr}{i:Nat}{p:Addr}(h:p∈(Fs.set i F).flatten):p∈F∨p∈Fs.flatten:=by
 obtain⟨G,hG,hp⟩:=mFq.mp h;rcases List.mem_or_eq_of_mem_set hG with q|q
 .exact .inr (mFq.mpr ⟨G,q,hp⟩)
 .subst q;exact .inl hp
theorem ql:∀{Fs:List (List Addr)}{F:List Addr}(i:Nat),Fs.flatten.Nodup->F.Nodup->(∀p∈F,p∉Fs.flatten)->(Fs.set i F).flatten.Nodup
 | [],F,i,h,_,_=>by simp
 |G::Gs,F,0,h,hF,hd=>by
  rw[cS,fCq,nAq];rw[fCq,nAq]at h;refine⟨hF,h.2.1,λa ha b hb e=>hd a ha ?_⟩
  rw[fCq];exact ar _ (e ▸ hb)
 |G::Gs,F,i+1,h,hF,hd=>by
  rw[dQ,fCq,nAq];rw[fCq,nAq]at h;refine⟨h.1,ql i h.2.1 hF λp hp m=>hd p hp (by rw[fCq];exact ar _ m),λa ha b hb e=>?_⟩
  rcases qp hb with q|q
  .exact hd b q (by rw[fCq];exact bE _ (e ▸ ha))
  .exact h.2.2 a ha b q e
theorem oz.set(R:oz K H₀ Hf₀ Hf S σ H Fs) {av:AV}{v:V}{F:List Addr}(i:Nat) (r:oh K Hf H av v F) (nd:F.Nodup) (hf:∀q∈F,H₀ q=none/\q∉Fs.flatten) :
  oz K H₀ Hf₀ Hf (S.set i (some av)) (σ.set i (some v)) H (Fs.set i F) where
 len:=by simp[R.len]
 lenF:=by simp[R.lenF]
 rep:=λj a e=>by
  rw[bo]at e
  by_cases hij:i=j
  .subst hij;rw[nK rfl]at e;split at e
   .rename_i hi;cases e;exact⟨v,F,by rw[aD (R.len ▸ hi)],by rw[aD (R.lenF.symm ▸ hi)],r⟩
   .cases e
  .rw [nS hij]at e;obtain⟨w,G,e1,e2,q⟩:=R.rep j a e;exact⟨w,G,by rw[ax hij];exact e1,by rw[ax hij];exact e2,q⟩
 emp:=λj e=>by
  rw[bo]at e
  by_cases hij:i=j
  .subst hij;rw[nK rfl]at e;split at e <;> cases e
  .rw [nS hij]at e;rw[ax hij];exact R.emp j e
 nd:=ql i R.nd nd λp hp=>(hf p hp).2
 fresh:=λp hp=>by
  rcases qp hp with q|q
  .exact (hf p q).1
  .exact R.fresh p q
 sub:=R.sub
 fr:=R.fr
 lim:=R.lim
 sf:=R.sf
theorem pI{i:Nat}{p:Addr}(h:p∈(Fs.set i []).flatten):p∈Fs.flatten:=by
 rcases qp h with q|q
 .cases q
 .exact q
theorem su:∀{Fs:List (List Addr)}{F:List Addr}{i:Nat}{p:Addr},Fs.flatten.Nodup->Fs[i]?=some F->p∈F->p∉(Fs.set i []).flatten
 | [],F,i,p,_,e,_,_=>by simp at e
 |G::Gs,F,0,p,h,e,hp,m=>by
  simp at e;subst e;rw[cS,fCq,fX]at m;rw[fCq,nAq]at h;exact h.2.2 p hp p m rfl
 |G::Gs,F,i+1,p,h,e,hp,m=>by
  rw[dQ,fCq]at m;rw[fCq,nAq]at h;have e':Gs[i]?=some F:=by simpa using e
  rcases mAq.mp m with q|q
  .exact h.2.2 p q p (mFq.mpr ⟨F,mGq e',hp⟩) rfl
  .exact su h.2.1 e' hp q
theorem oz.move(R:oz K H₀ Hf₀ Hf S σ H Fs) {i:Nat}{av:AV}(e:S[i]?=some (some av)):∃v F,σ[i]?=some (some v)/\Fs[i]?=some F/\oh K Hf H av v F/\F.Nodup/\(∀q∈F,H₀ q=none/\q∉(Fs.set i []).flatten) /\
  oz K H₀ Hf₀ Hf (S.set i none) σ H (Fs.set i []):=by
 obtain⟨v,F,e1,e2,r⟩:=R.rep i av e;have hin:∀q∈F,q∈Fs.flatten:=λq hq=>mFq.mpr ⟨F,mGq e2,hq⟩
 refine⟨v,F,e1,e2,r,bI.sublist (aQ (mGq e2)) R.nd,λq hq=>⟨R.fresh q (hin q hq),su R.nd e2 hq⟩,?_⟩
 refine⟨by simp[R.len],by simp[R.lenF],λj a ej=>?_,λj ej=>?_,ql i R.nd aT (λp hp=>by cases hp),λp hp=>R.fresh p (pI hp),R.sub,R.fr,R.lim,R.sf⟩
 .rw [bo]at ej
  by_cases hij:i=j
  .subst hij;rw[nK rfl]at ej;split at ej <;> cases ej
  .rw [nS hij]at ej;obtain⟨w,G,f1,f2,q⟩:=R.rep j a ej;exact⟨w,G,f1,by rw[ax hij];exact f2,q⟩
 .rw [bo]at ej
  by_cases hij:i=j
  .subst hij;rw[nK rfl]at ej;split at ej
   .rename_i hi;rw[aD (R.lenF.symm ▸ hi)]
   .cases ej
  .rw [nS hij]at ej;rw[ax hij];exact R.emp j ej
theorem oz.frz(R:oz K H₀ Hf₀ Hf S σ H Fs) {F:List Addr}(hf:∀q∈F,H₀ q=none/\q∉Fs.flatten) (hn:∀q∈F,Hf q=none):oz K H₀ Hf₀ (frz Hf H F) S σ H Fs:=by
 refine R.more (.refl _) (qw hn) (Nz R.sub) (λq hq=>?_) λb h1 h2=>?_
 .rw [sY λm=>(hf q m).2 hq]
  exact(R.mem hq).2
 .rw [sY λm=>h2 (hf b m).1]
  exact R.lim b h1 h2
end
abbrev ME:=AS->Option (D×AS)
abbrev MK:=AS->Option (AV×AS)
abbrev ML:=AS->Option (List D×AS)
abbrev MT:=AS->Option (Bool×AS)
abbrev MA:=AS->Option (List AV×AS)
def nZ(K:W.Frag) (Hf H:Hp) (avs:List AV) (vs:List V) (Gs:List (List Addr)):Prop :=
 avs.length=vs.length/\avs.length=Gs.length/\∀(i:Nat) (a:AV) (v:V) (F:List Addr),avs[i]?=some a->vs[i]?=some v->Gs[i]?=some F->oh K Hf H a v F
structure we (H₀ H:Hp) (Fs Fs':List (List Addr)) (F:List Addr):Prop where
 nd:F.Nodup
 fr:∀q∈F,H₀ q=none
 out:∀q∈F,q∉Fs'.flatten
 new:∀q∈F,H q=none∨q∈Fs.flatten
theorem we.nil{H₀ H:Hp}{Fs Fs':List (List Addr)}:we H₀ H Fs Fs' []:=⟨aT,λq h=>(by cases h),λq h=>(by cases h),λq h=>(by cases h)⟩
section
variable (K:W.Frag)
def SR(te:TE) (m:ME):Prop:=∀{H₀ Hf₀ Hf:Hp}{S:AS}{σ:St}{H:Hp}{Fs:List (List Addr)}{d:D}{S':AS},oz K H₀ Hf₀ Hf S σ H Fs->m S=some (d,S')->∀Q:VK,
 (∀Hf' H' Fs' v,wF Hf H Fs Hf' H' Fs'->oz K H₀ Hf₀ Hf' S' σ H' Fs'->pV K H' d v->Q v H')->te σ H Q
def SK(te:TE) (m:MK):Prop:=∀{H₀ Hf₀ Hf:Hp}{S:AS}{σ:St}{H:Hp}{Fs:List (List Addr)}{a:AV}{S':AS},oz K H₀ Hf₀ Hf S σ H Fs->m S=some (a,S')->∀Q:VK,
 (∀Hf' H' Fs' v F,wF Hf H Fs Hf' H' Fs'->oz K H₀ Hf₀ Hf' S' σ H' Fs'->oh K Hf' H' a v F->we H₀ H Fs Fs' F->Q v H')->te σ H Q
def SL(te:TE) (m:ML):Prop:=∀{H₀ Hf₀ Hf:Hp}{S:AS}{σ:St}{H:Hp}{Fs:List (List Addr)}{ds:List D}{S':AS},oz K H₀ Hf₀ Hf S σ H Fs->m S=some (ds,S')->∀Q:VK,
 (∀Hf' H' Fs' p vs,wF Hf H Fs Hf' H' Fs'->oz K H₀ Hf₀ Hf' S' σ H' Fs'->H' p=some (.lst vs)->ox K Hf' ds vs->Q (.ref p) H')->te σ H Q
def CH(tt:TT) (m:MT):Prop:=∀{H₀ Hf₀ Hf:Hp}{S:AS}{σ:St}{H:Hp}{Fs:List (List Addr)}{b:Bool}{S':AS},oz K H₀ Hf₀ Hf S σ H Fs->m S=some (b,S')->∀Q:Bool->Hp->Prop,
 (∀Hf' H' Fs',wF Hf H Fs Hf' H' Fs'->oz K H₀ Hf₀ Hf' S' σ H' Fs'->Q b H')->tt σ H Q
def SA(ta:TA) (m:MA):Prop:=∀{H₀ Hf₀ Hf:Hp}{S:AS}{σ:St}{H:Hp}{Fs:List (List Addr)}{as:List AV}{S':AS},oz K H₀ Hf₀ Hf S σ H Fs->m S=some (as,S')->∀Q:List V->Hp->Prop,
 (∀Hf' H' Fs' vs Gs,wF Hf H Fs Hf' H' Fs'->oz K H₀ Hf₀ Hf' S' σ H' Fs'->nZ K Hf' H' as vs Gs->we H₀ H Fs Fs' Gs.flatten->Q vs H')->ta σ H Q
def Ol(ta:TA) (m:ML):Prop:=∀{H₀ Hf₀ Hf:Hp}{S:AS}{σ:St}{H:Hp}{Fs:List (List Addr)}{ds:List D}{S':AS},oz K H₀ Hf₀ Hf S σ H Fs->m S=some (ds,S')->∀Q:List V->Hp->Prop,
 (∀Hf' H' Fs' vs,wF Hf H Fs Hf' H' Fs'->oz K H₀ Hf₀ Hf' S' σ H' Fs'->ox K H' ds vs->Q vs H')->ta σ H Q
end
section
variable {K:W.Frag}{H₀ Hf₀ Hf Hf' H H':Hp}{S S':AS}{σ:St}{Fs Fs':List (List Addr)}
theorem oh.stp{av:AV}{v:V}{F:List Addr}(r:oh K Hf H av v F) (ho:∀q∈F,q∉Fs.flatten) (t:wF Hf H Fs Hf' H' Fs'):oh K Hf' H' av v F :=
 r.keep t.sf (λq hq=>HW t.sh (r.owned q hq).1) λq hq=>by
  by_cases e:Hf' q=none
  .exact e
  .rcases t.gr q (r.owned q hq).2 e with z|z
   .exact absurd z (r.owned q hq).1
   .exact absurd z (ho q hq)
theorem oz.new(R:oz K H₀ Hf₀ Hf S σ H Fs) {p:Addr}{o:HO}(hp:H p=none):wF Hf H Fs Hf (oK H p o) Fs/\oz K H₀ Hf₀ Hf S σ (oK H p o) Fs/\Hf p=none/\H₀ p=none/\p∉Fs.flatten :=
 ⟨⟨.refl _,qf hp,λ_ h=>h,λb h g=>absurd h g⟩,R.laid (qf hp),R.sub.free hp,R.fr.free hp,λm=>(R.mem m).1 hp⟩
theorem tX(n:Nat):(aE n ([]:List Addr)).flatten=[]:=by
 induction n with
 |zero=>rfl
 |succ n ih=>rw[gE,fCq,ih];rfl
theorem oh.new{p:Addr}{vs:List V}{ds:List D}(h:H p=some (.lst vs)) (n:Hf p=none) (r:ox K Hf ds vs):oh K Hf H (.ow (ds.map .sh)) (.ref p) [p]:=by
 have e:[p]=p::(aE ds.length ([]:List Addr)).flatten:=by rw[tX]
 rw[e];refine .ow h n (by simp[r.1]) (by simp) λi a v F h1 h2 h3=>?_
 rw[gMq]at h1;cases q:ds[i]? with
 |none=>rw[q]at h1;cases h1
 |some d =>
  rw[q]at h1;cases h1;have:F=[]:=cK (mGq h3);subst this;exact .sh (r.2 i d v q h2)
theorem oh.news{p:Addr}{vs:List V}{avs:List AV}{Gs:List (List Addr)}(h:H p=some (.lst vs)) (n:Hf p=none) (r:nZ K Hf H avs vs Gs):oh K Hf H (.ow avs) (.ref p) (p::Gs.flatten):=.ow h n r.1 r.2.1 r.2.2
theorem oh.ow_inv{avs:List AV}{v:V}{F:List Addr}(h:oh K Hf H (.ow avs) v F):∃p vs Gs,v = .ref p/\F=p::Gs.flatten/\H p=some (.lst vs)/\Hf p=none/\nZ K Hf H avs vs Gs:=by
 cases h with
 |ow h n l lf e=>exact⟨_,_,_,rfl,rfl,h,n,l,lf,e⟩
theorem oh.owd_inv{ds:List (nX×D)}{v:V}{F:List Addr}(h:oh K Hf H (.owd ds) v F):∃p kvs,v = .ref p/\F=[p]/\H p=some (.dK kvs)/\Hf p=none/\tK K Hf ds kvs:=by
 cases h with
 |owd h n r=>exact⟨_,_,rfl,rfl,h,n,r⟩
theorem oh.sh_inv{d:D}{v:V}{F:List Addr}(h:oh K Hf H (.sh d) v F):F=[]/\pV K Hf d v:=by
 cases h with
 |sh r=>exact⟨rfl,r⟩
theorem oz.give{H1:Hp}{Fs1:List (List Addr)}(R:oz K H₀ Hf₀ Hf' S σ H1 Fs1) (t:wF Hf H Fs Hf' H1 Fs1) {av:AV}{v:V}{F:List Addr}(r:oh K Hf' H1 av v F) (o:we H₀ H Fs Fs1 F) :
  oz K H₀ Hf₀ (Z.frz Hf' H1 F) S σ H1 Fs1/\pV K (Z.frz Hf' H1 F) (nj av) v/\wF Hf H Fs (Z.frz Hf' H1 F) H1 Fs1:=by
 have n:∀q∈F,Hf' q=none:=λq hq=>(r.owned q hq).2
 refine⟨R.frz (λq hq=>⟨o.fr q hq,o.out q hq⟩) n,r.frozen (qw n) λq hq=>xF hq,t.sf.trans (qw n),t.sh,t.own,λb h g=>?_⟩
 by_cases m:b∈F
 .exact o.new b m
 .rw [sY m]at g;exact t.gr b h g
theorem nZ.nil:nZ K Hf H [] [] []:=⟨rfl,rfl,λi a v F h=>by simp at h⟩
theorem nZ.cons{a:AV}{v:V}{F:List Addr}{as:List AV}{vs:List V}{Gs:List (List Addr)}(h:oh K Hf H a v F) (t:nZ K Hf H as vs Gs):nZ K Hf H (a::as) (v::vs) (F::Gs) :=
 ⟨by simp[t.1],by simp[t.2.1],λi b w G h1 h2 h3=>by
  cases i with
  |zero =>
   simp at h1 h2 h3;subst h1 h2 h3;exact h
  |succ i=>exact t.2.2 i b w G (by simpa using h1) (by simpa using h2) (by simpa using h3)⟩
theorem nZ.nil_inv{vs:List V}{Gs:List (List Addr)}(h:nZ K Hf H [] vs Gs):vs=[]/\Gs=[]:=by
 obtain⟨a,b,_⟩:=h;exact⟨aV.mp a.symm,aV.mp b.symm⟩
theorem nZ.cons_inv{a:AV}{as:List AV}{vs:List V}{Gs:List (List Addr)}(h:nZ K Hf H (a::as) vs Gs):∃v ws F Gs',vs=v::ws/\Gs=F::Gs'/\oh K Hf H a v F/\nZ K Hf H as ws Gs':=by
 obtain⟨h1,h2,h3⟩:=h;cases vs with
 |nil=>simp at h1
 |cons v ws =>
  cases Gs with
  |nil=>simp at h2
  |cons F Gs'=>exact⟨v,ws,F,Gs',rfl,rfl,h3 0 a v F rfl rfl rfl,by simpa using h1,by simpa using h2,λi b w G q1 q2 q3=>h3 (i+1) b w G (by simpa using q1) (by simpa using q2) (by simpa using q3)⟩
theorem nZ.frozen(h:nZ K Hf H as vs Gs) (s:nU Hf Hf') (hk:∀q∈Gs.flatten,Hf' q=H q):ox K Hf' (as.map nj) vs :=
 ⟨by simp[h.1],λi d v h1 h2=>by
  rw[gMq]at h1;cases ea:as[i]? with
  |none=>rw[ea]at h1;cases h1
  |some a =>
   rw[ea]at h1;cases h1;have hi:i<Gs.length:=h.2.1 ▸ (gSq.mp ea).1;exact(h.2.2 i a v Gs[i] ea h2 (gEg hi)).frozen s λq hq=>hk q (mFq.mpr ⟨Gs[i],gRq hi,hq⟩)⟩
theorem nZ.owned(h:nZ K Hf H as vs Gs):∀q∈Gs.flatten,H q≠none/\Hf q=none:=λq hq=>by
 obtain⟨F,hF,hq⟩:=mFq.mp hq;obtain⟨i,hi,rfl⟩:=bB.mp hF;have h1:i<as.length:=h.2.1.symm ▸ hi;have h2:i<vs.length:=h.1 ▸ h1;exact(h.2.2 i as[i] vs[i] Gs[i] (gEg h1) (gEg h2) (gEg hi)).owned q hq
theorem oz.gives{H1:Hp}{Fs1:List (List Addr)}(R:oz K H₀ Hf₀ Hf' S σ H1 Fs1) (t:wF Hf H Fs Hf' H1 Fs1) {as:List AV}{vs:List V}{Gs:List (List Addr)}(r:nZ K Hf' H1 as vs Gs) (o:we H₀ H Fs Fs1 Gs.flatten) :
  oz K H₀ Hf₀ (Z.frz Hf' H1 Gs.flatten) S σ H1 Fs1/\ox K (Z.frz Hf' H1 Gs.flatten) (as.map nj) vs/\wF Hf H Fs (Z.frz Hf' H1 Gs.flatten) H1 Fs1:=by
 have n:∀q∈Gs.flatten,Hf' q=none:=λq hq=>(r.owned q hq).2
 refine⟨R.frz (λq hq=>⟨o.fr q hq,o.out q hq⟩) n,r.frozen (qw n) λq hq=>xF hq,t.sf.trans (qw n),t.sh,t.own,λb h g=>?_⟩
 by_cases m:b∈Gs.flatten
 .exact o.new b m
 .rw [sY m]at g;exact t.gr b h g
theorem we.stp{Hf1 H1 Hf2 H2:Hp}{Fs1 Fs2:List (List Addr)}{F:List Addr}(o:we H₀ H Fs Fs1 F) (t:wF Hf1 H1 Fs1 Hf2 H2 Fs2):we H₀ H Fs Fs2 F:=⟨o.nd,o.fr,λq h m=>o.out q h (t.own q m),o.new⟩
theorem we.back{Hf1 H1:Hp}{Fs1 Fs2:List (List Addr)}{F:List Addr}(t:wF Hf H Fs Hf1 H1 Fs1) (o:we H₀ H1 Fs1 Fs2 F):we H₀ H Fs Fs2 F:=⟨o.nd,o.fr,o.out,λq h=>(o.new q h).elim (λe=>.inl (t.sh.free e)) λm=>.inr (t.own q m)⟩
theorem we.app{F G:List Addr}(a:we H₀ H Fs Fs' F) (b:we H₀ H Fs Fs' G) (d:∀q∈F,q∉G):we H₀ H Fs Fs' (F++G) :=
 ⟨nAq.mpr ⟨a.nd,b.nd,λx hx y hy e=>d x hx (e ▸ hy)⟩,λq h=>(mAq.mp h).elim (a.fr q) (b.fr q),λq h=>(mAq.mp h).elim (a.out q) (b.out q),λq h=>(mAq.mp h).elim (a.new q) (b.new q)⟩
theorem we.apart{Hf1 H1:Hp}{Fs1 Fs2:List (List Addr)}{F G:List Addr}(a:we H₀ H Fs Fs1 F) (ha:∀q∈F,H1 q≠none) (b:we H₀ H1 Fs1 Fs2 G):∀q∈F,q∉G:=λq h m=>by
 rcases b.new q m with e|e
 .exact ha q h e
 .exact a.out q h e
theorem we.one(R:oz K H₀ Hf₀ Hf S σ H Fs) {p:Addr}(hp:H p=none):we H₀ H Fs Fs [p] :=
 ⟨by simp,λq h=>by rw[mSq.mp h];exact R.fr.free hp,λq h m=>by rw[mSq.mp h]at m;exact(R.mem m).1 hp,λq h=>by rw[mSq.mp h];exact .inl hp⟩
end
def mZ(i:Nat):ME:=λS=>(S[i]?.join).map λa=>(nj a,S)
def oS(i:Nat):MK:=λS=>(S[i]?.join).map λa=>(.sh (nj a),S.set i (some (.sh (nj a))))
def Gi(i:Nat):MK:=λS=>(S[i]?.join).map λa=>(a,S.set i none)
def D9(i:Nat):ML:=λS=>match S[i]?.join with
 |some (.sh (.list ds))=>some (ds,S)
 |some (.ow avs)=>some (avs.map nj,S.set i (some (.ow ((avs.map nj).map .sh))))
 |_=>none
def rOf(k:MK):ME:=λS=>(k S).map λx=>(nj x.1,x.2)
def kSc(m:ME):MK:=λS=>(m S).bind λx=>if x.1.scal then some (.sh x.1,x.2) else none
def lOf(k:MK):ML:=λS=>(k S).bind λx=>match x.1 with
 | .sh (.list ds)=>some (ds,x.2)
 | .ow avs=>some (avs.map nj,x.2)
 |_=>none
def ux(k:MK):MK:=λS=>(k S).map λx=>(.sh (nj x.1),x.2)
def rC(d:D):ME:=λS=>if d.scal then some (d,S) else none
section
variable {K:W.Frag}
theorem oq{S:AS}{i:Nat}{a:AV}(h:S[i]?.join=some a):S[i]?=some (some a):=by
 cases e:S[i]? with
 |none=>rw[e]at h;cases h
 |some z=>rw[e]at h;exact congrArg some h
theorem mY(i:Nat):SR K (vo i) (mZ i):=by
 intro H₀ Hf₀ Hf S σ H Fs d S' R e Q q;obtain⟨a,ea,e⟩:=oMq.mp e;cases e;obtain⟨v,F,s1,s2,r⟩:=R.rep i a (oq ea);exact⟨v,s1,q _ _ _ v .refl R (r.rep R.sub)⟩
theorem Af(i:Nat):SK K (vo i) (Gi i):=by
 intro H₀ Hf₀ Hf S σ H Fs a S' R e Q q;obtain⟨b,ea,e⟩:=oMq.mp e;cases e;obtain⟨v,F,s1,s2,r,nd,o,R1⟩:=R.move (oq ea);exact⟨v,s1,q _ _ _ v F ⟨.refl _,.refl _,λp hp=>pI hp,λb h g=>absurd h g⟩ R1 r ⟨nd,λq hq=>(o q hq).1,λq hq=>(o q hq).2,λq hq=>.inr (mFq.mpr ⟨F,mGq s2,hq⟩)⟩⟩
theorem oz.again{H₀ Hf₀ Hf H:Hp}{S:AS}{σ:St}{Fs:List (List Addr)}{i:Nat}{av:AV}{v:V}{F G:List Addr}(R:oz K H₀ Hf₀ Hf (S.set i none) σ H (Fs.set i [])) (s1:σ[i]?=some (some v)) (r:oh K Hf H av v G) (nd:G.Nodup) (hf:∀q∈G,H₀ q=none/\q∉(Fs.set i []).flatten) :
  oz K H₀ Hf₀ Hf (S.set i (some av)) σ H (Fs.set i G):=by
 have R2:=R.set i r nd hf;rw[eZ,eZ]at R2;have e:σ.set i (some v)=σ:=by
  obtain⟨hk,ev⟩:=gSq.mp s1;rw[←ev];exact eJ hk
 rw[e]at R2;exact R2
theorem nP(i:Nat):SK K (vo i) (oS i):=by
 intro H₀ Hf₀ Hf S σ H Fs a S' R e Q q;obtain⟨b,ea,e⟩:=oMq.mp e;cases e;obtain⟨v,F,s1,s2,r,nd,o,R1⟩:=R.move (oq ea);have n:∀q∈F,Hf q=none:=λq hq=>(r.owned q hq).2
 have R2:=R1.frz o n;have r2:=r.frozen (qw (H:=H) n) λq hq=>xF hq
 have R3:=R2.again (F:=F) (G:=[]) s1 (.sh r2) aT λq h=>(by cases h)
 refine⟨v,s1,q _ _ _ v [] ⟨qw n,.refl _,λp hp=>pI hp,λb h g=>?_⟩ R3 (.sh r2) .nil⟩
 by_cases m:b∈F
 .exact .inr (mFq.mpr ⟨F,mGq s2,m⟩)
 .rw [sY m]at g;exact absurd h g
theorem CM(i:Nat):SL K (vo i) (D9 i):=by
 intro H₀ Hf₀ Hf S σ H Fs ds S' R e Q q;unfold D9 at e;split at e
 .rename_i ds' ea;cases e;obtain⟨v,F,s1,s2,r⟩:=R.rep i _ (oq ea);obtain⟨p,vs,rfl,h1,h2⟩:=r.sh_inv.2.list_inv;exact⟨_,s1,q _ _ _ p vs .refl R (R.sub _ _ h1) h2⟩
 .rename_i avs ea;cases e;obtain⟨v,F,s1,s2,r,nd,o,R1⟩:=R.move (oq ea);obtain⟨p,vs,Gs,rfl,rfl,h1,h2,h3⟩:=r.ow_inv;have n:∀q∈Gs.flatten,Hf q=none:=λq hq=>(h3.owned q hq).2
  have R2:=R1.frz (F:=Gs.flatten) (λq hq=>o q (mCo _ hq)) n
  have r2:=h3.frozen (qw (H:=H) n) λq hq=>xF hq
  have np:p∉Gs.flatten:=(aH.mp nd).1;have r3:oh K (Z.frz Hf H Gs.flatten) H (.ow ((avs.map nj).map .sh)) (.ref p) [p]:=oh.new h1 (by rw[sY np];exact h2) r2
  have R3:=R2.again (F:=p::Gs.flatten) (G:=[p]) s1 r3 (by simp) λq hq=>by rw[mSq.mp hq];exact o p (by simp)
  refine⟨_,s1,q _ _ _ p vs ⟨qw n,.refl _,λb hb=>?_,λb h g=>?_⟩ R3 h1 r2⟩
  .rcases qp hb with z|z
   .rw [mSq.mp z];exact mFq.mpr ⟨_,mGq s2,by simp⟩
   .exact z
  .by_cases m:b∈Gs.flatten
   .exact .inr (mFq.mpr ⟨_,mGq s2,mCo _ m⟩)
   .rw [sY m]at g;exact absurd h g
 .cases e
theorem SK.rOf{te:TE}{k:MK}(h:SK K te k):SR K te (rOf k):=by
 intro H₀ Hf₀ Hf S σ H Fs d S' R e Q q;obtain⟨x,ea,e⟩:=oMq.mp e;cases e;exact h R (a:=x.1) (S':=x.2) ea Q λHf' H' Fs' v F t R' r o=>q _ _ _ v t R' (r.rep R'.sub)
theorem SR.kSc{te:TE}{m:ME}(h:SR K te m):SK K te (kSc m):=by
 intro H₀ Hf₀ Hf S σ H Fs a S' R e Q q;obtain⟨x,ea,e⟩:=oBq.mp e;split at e
 .rename_i hs;cases e;exact h R (d:=x.1) (S':=x.2) ea Q λHf' H' Fs' v t R' r=>q _ _ _ v [] t R' (.sh (r.scal hs)) .nil
 .cases e
theorem SK.frz{te:TE}{k:MK}(h:SK K te k):SK K te (ux k):=by
 intro H₀ Hf₀ Hf S σ H Fs a S' R e Q q;obtain⟨x,ea,e⟩:=oMq.mp e;cases e;refine h R (a:=x.1) (S':=x.2) ea Q λHf' H' Fs' v F t R' r o=>?_
 obtain⟨R2,r2,t2⟩:=R'.give t r o;exact q _ _ _ v [] t2 R2 (.sh r2) .nil
theorem SK.lOf{te:TE}{k:MK}(h:SK K te k):SL K te (lOf k):=by
 intro H₀ Hf₀ Hf S σ H Fs ds S' R e Q q;obtain⟨x,ea,e⟩:=oBq.mp e;refine h R (a:=x.1) (S':=x.2) ea Q λHf' H' Fs' v F t R' r o=>?_
 split at e
 .rename_i ds' hx;cases e;rw[hx]at r;obtain⟨p,vs,rfl,h1,h2⟩:=r.sh_inv.2.list_inv;exact q _ _ _ p vs t R' (R'.sub _ _ h1) h2
 .rename_i avs hx;cases e;obtain⟨R2,r2,t2⟩:=R'.give t r o;rw[hx,qk]at r2;obtain⟨p,vs,rfl,h1,h2⟩:=r2.list_inv;exact q _ _ _ p vs t2 R2 (R2.sub _ _ h1) h2
 .cases e
theorem QJ{v:V}{d:D}(h:∀H,pV K H d v):SR K (tC v) (rC d):=by
 intro H₀ Hf₀ Hf S σ H Fs d' S' R e Q q;unfold rC at e;split at e
 .cases e;exact q _ _ _ v .refl R (h _)
 .cases e
theorem nq{i:Int}:SR K (tC (.int i)) (rC (.int i)):=QJ λ_=>.int
theorem zt{i:Bool}:SR K (tC (.bl i)) (rC (.bl i)):=QJ λ_=>.bl
theorem RO{T:String}:SR K (tC (.ty T)) (rC (.ty T)):=QJ λ_=>.ty
end
def uO{α:Type}(p:Prop) (x:Option α):Option α:=@ite (Option α) p (fQ p) x none
theorem vq{α:Type}{p:Prop}(h:p) (x:Option α):uO p x=x:=nK h
theorem uV{α:Type}(x:Option α):uO True x=x:=nK trivial
theorem ot{α:Type}{p:Prop}{x y:Option α}(h:uO p x=y):(p/\x=y)∨none=y:=by
 by_cases c:p
 .rw [vq c]at h;exact .inl ⟨c,h⟩
 .exact .inr ((@if_neg p (fQ p) c _ x none).symm.trans h)
def oV(f:D->D->Option D) (a b:ME):ME:=λS=>(a S).bind λx=>(b x.2).bind λy=>(f x.1 y.1).map λd=>(d,y.2)
def Ju(f:D->Option D) (a:ME):ME:=λS=>(a S).bind λx=>(f x.1).map λd=>(d,x.2)
def Fd(K:W.Frag) (r:R2) (f:D->D->Option D):Prop:=∀{x y:V}{H:Hp}{Q:VK}{dx dy d:D},pV K H dx x->pV K H dy y->f dx dy=some d->(∀v,pV K H d v->Q v H)->r x y H Q
def UX(K:W.Frag) (r:V->Hp->VK->Prop) (f:D->Option D):Prop:=∀{x:V}{H:Hp}{Q:VK}{dx d:D},pV K H dx x->f dx=some d->(∀v,pV K H d v->Q v H)->r x H Q
section
variable {K:W.Frag}{r:R2}{f:D->D->Option D}{ta tb:TE}{a b:ME}
theorem nH(hr:Fd K r f) (ha:SR K ta a) (hb:SR K tb b):SR K (MC r ta tb) (oV f a b):=by
 intro H₀ Hf₀ Hf S σ H Fs d S' R e Q q;obtain⟨x,e1,e⟩:=oBq.mp e;obtain⟨y,e2,e⟩:=oBq.mp e;obtain⟨z,e3,e⟩:=oMq.mp e;cases e;refine ha R (d:=x.1) (S':=x.2) e1 _ λHf1 H1 Fs1 v1 t1 R1 r1=>hb R1 (d:=y.1) (S':=y.2) e2 _ λHf2 H2 Fs2 v2 t2 R2 r2=>?_
 exact hr (r1.mono t2.sh) r2 e3 λv rv=>q _ _ _ v (t1.trans t2) R2 rv
theorem Co{r:V->Hp->VK->Prop}{f:D->Option D}(hr:UX K r f) (ha:SR K ta a):SR K (Uw r ta) (Ju f a):=by
 intro H₀ Hf₀ Hf S σ H Fs d S' R e Q q;obtain⟨x,e1,e⟩:=oBq.mp e;obtain⟨z,e3,e⟩:=oMq.mp e;cases e;exact ha R (d:=x.1) (S':=x.2) e1 _ λHf1 H1 Fs1 v1 t1 R1 r1=>hr r1 e3 λv rv=>q _ _ _ v t1 R1 rv
end
def G6(c:Int->Int->Prop) (g:Int->Int->D):D->D->Option D
 | .int i,.int j=>uO (c i j) (some (g i j))
 |_,_=>none
def UZ(g:Int->D):D->Option D
 | .int i=>some (g i)
 |_=>none
abbrev yW:=G6 (λ_ _=>True) λi j=>.int (i+j)
abbrev Ai:=G6 (λ_ _=>True) λi j=>.int (i-j)
abbrev Cy:=G6 KH λi j=>.int (i*j)
abbrev rP:=G6 (λ_ j=>0<j) λi j=>.int (i % j)
abbrev xl:=G6 Q2 λi j=>.int (i / j)
abbrev N4:=G6 QI λi j=>.int (i ^ j.toNat)
abbrev Q9:=G6 (λ_ _=>True) λi j=>.bl (decide (i<j))
abbrev VG:=G6 (λ_ _=>True) λi j=>.bl (decide (i<=j))
abbrev FG:=G6 (λ_ _=>True) λi j=>.bl (decide (j<i))
abbrev VC:=G6 (λ_ _=>True) λi j=>.bl (decide (j<=i))
abbrev Bi:=UZ λi=>.int (-i)
def Jw(b:Bool):Option D:=some (.bl b)
def Fw(x y:D):Option D:=match x with
 | .int i=>(match y with|.int j=>Jw (decide (i=j))|.non=>Jw false|.str _=>Jw false|_=>none)
 | .str i=>(match y with|.str j=>Jw (decide (i=j))|.non=>Jw false|.int _=>Jw false|_=>none)
 | .bl i=>(match y with|.bl j=>Jw (decide (i=j))|.non=>Jw false|_=>none)
 | .non=>(match y with|.non=>Jw true|.int _=>Jw false|.str _=>Jw false|.bl _=>Jw false|_=>none)
 |_=>none
def QC:D->Option D
 | .bl b=>some (.bl (!b))
 |_=>none
def Q6(x y:D):Option D:=(Fw x y).bind QC
section
variable {K:W.Frag}
theorem GZ{C:Int->Int->Prop}{g:Int->Int->V}{g':Int->Int->D}(hg:∀H i j,pV K H (g' i j) (g i j)):Fd K (rI C g) (G6 C g'):=by
 intro x y H Q dx dy d rx ry e q;unfold G6 at e;split at e
 .rename_i i j;cases rx;cases ry;rcases ot e with ⟨h,e⟩|e
  .cases e;exact⟨i,j,rfl,rfl,h,q _ (hg H i j)⟩
  .cases e
 .cases e
theorem DB{g:Int->Int->V}{g':Int->Int->D}(hg:∀H i j,pV K H (g' i j) (g i j)):Fd K (JU g) (G6 (λ_ _=>True) g'):=by
 intro x y H Q dx dy d rx ry e q;unfold G6 at e;split at e
 .rename_i i j;cases rx;cases ry;rw[uV]at e;cases e;exact⟨i,j,rfl,rfl,q _ (hg H i j)⟩
 .cases e
theorem wq:Fd K (JU λi j=>.int (i+j)) yW:=DB λ_ _ _=>.int
theorem AL:Fd K (JU λi j=>.int (i-j)) Ai:=DB λ_ _ _=>.int
theorem Dl:Fd K (rI KH λi j=>.int (i*j)) Cy:=GZ λ_ _ _=>.int
theorem ri:Fd K (rI (λ_ j=>0<j) λi j=>.int (i % j)) rP:=GZ λ_ _ _=>.int
theorem wD:Fd K (rI Q2 λi j=>.int (i / j)) xl:=GZ λ_ _ _=>.int
theorem Lf:Fd K (rI QI λi j=>.int (i ^ j.toNat)) N4:=GZ λ_ _ _=>.int
theorem Ot:Fd K (JU λi j=>.bl (decide (i<j))) Q9:=DB λ_ _ _=>.bl
theorem BY:Fd K (JU λi j=>.bl (decide (j<i))) FG:=DB λ_ _ _=>.bl
theorem yC:UX K (rU λi=>.int (-i)) Bi:=by
 intro x H Q dx d rx e q;cases rx <;> simp only[UZ]at e
 all_goals first|(exfalso;simp at e;done)|skip
 rename_i i;cases e;exact⟨i,rfl,q _ .int⟩
theorem zi:Fd K UQ Fw:=by
 intro x y H Q dx dy d rx ry e q;unfold Fw at e;cases rx <;> first|(cases e;done)|(cases ry <;> first|(cases e;done)|skip)
 all_goals (cases e;refine⟨rfl,q _ ?_⟩;simp only[reduceCtorEq,decide_false,decide_true,V.int.injEq,V.str.injEq,V.bl.injEq];exact .bl)
theorem OB:Fd K UI Q6:=by
 intro x y H Q dx dy d rx ry e q;obtain⟨b,e1,e2⟩:=oBq.mp e;obtain⟨h1,h2⟩:=zi rx ry e1 (Q:=λv _=>pV K H b v) λv h=>h
 cases h2;cases e2;exact⟨h1,q _ .bl⟩
end
def U3(a b:ME):ME:=λS=>(a S).bind λx=>match x.1 with
 | .bl true=>b x.2
 | .bl false=>some (.bl false,x.2)
 |_=>none
def VD(a b:ME):ME:=λS=>(a S).bind λx=>match x.1 with
 | .bl true=>some (.bl true,x.2)
 | .bl false=>b x.2
 |_=>none
def Vp(a:ME):ME:=Ju QC a
def uw(a:ME):MT:=λS=>(a S).bind λx=>match x.1 with
 | .bl b=>some (b,x.2)
 |_=>none
def B0(a b:MT):MT:=λS=>(a S).bind λx=>if x.1=true then b x.2 else some (false,x.2)
def Fe(a b:MT):MT:=λS=>(a S).bind λx=>if x.1=true then some (true,x.2) else b x.2
def Hh(a:MT):MT:=λS=>(a S).map λx=>(!x.1,x.2)
def VI(c:MT) (a b:ME):ME:=λS=>(c S).bind λx=>if x.1=true then a x.2 else b x.2
def VE(c:MT) (a b:MK):MK:=λS=>(c S).bind λx=>if x.1=true then a x.2 else b x.2
section
variable {K:W.Frag}{ta tb:TE}{a b:ME}{ca cb:TT}{ma mb:MT}
theorem Ax(ha:SR K ta a):CH K (tB ta) (uw a):=by
 intro H₀ Hf₀ Hf S σ H Fs d S' R e Q q;obtain⟨x,e1,e⟩:=oBq.mp e;refine ha R (d:=x.1) (S':=x.2) e1 _ λHf1 H1 Fs1 v1 t1 R1 r1=>?_
 split at e
 .rename_i b hx;rw[hx]at r1;cases r1;cases e;exact⟨_,rfl,q _ _ _ t1 R1⟩
 .cases e
theorem pP(ha:SR K ta a):CH K (Oy ta) (uw a):=Ax ha
theorem L8(ha:CH K ca ma) (hb:CH K cb mb):CH K (Rt ca cb) (B0 ma mb):=by
 intro H₀ Hf₀ Hf S σ H Fs d S' R e Q q;obtain⟨x,e1,e⟩:=oBq.mp e;refine ha R (b:=x.1) (S':=x.2) e1 _ λHf1 H1 Fs1 t1 R1=>?_
 split at e
 .rename_i hx;rw[hx];exact Gq (hb R1 e Q λHf2 H2 Fs2 t2 R2=>q _ _ _ (t1.trans t2) R2)
 .rename_i hx;cases e;rw[cj]at hx;rw[hx];exact FA (q _ _ _ t1 R1)
theorem Lc(ha:CH K ca ma) (hb:CH K cb mb):CH K (UM ca cb) (Fe ma mb):=by
 intro H₀ Hf₀ Hf S σ H Fs d S' R e Q q;obtain⟨x,e1,e⟩:=oBq.mp e;refine ha R (b:=x.1) (S':=x.2) e1 _ λHf1 H1 Fs1 t1 R1=>?_
 split at e
 .rename_i hx;cases e;rw[hx];exact Gq (q _ _ _ t1 R1)
 .rename_i hx;rw[cj]at hx;rw[hx];exact FA (hb R1 e Q λHf2 H2 Fs2 t2 R2=>q _ _ _ (t1.trans t2) R2)
theorem Qk(ha:CH K ca ma):CH K (SC ca) (Hh ma):=by
 intro H₀ Hf₀ Hf S σ H Fs d S' R e Q q;obtain⟨x,e1,e⟩:=oMq.mp e;cases e;exact ha R (b:=x.1) (S':=x.2) e1 _ λHf1 H1 Fs1 t1 R1=>q _ _ _ t1 R1
end
abbrev qB:Nat:=16777216
theorem tZ:iN=qB:=iY
def SQ(K:W.Frag) (te:TE) (m:ML):Prop:=∀{H₀ Hf₀ Hf:Hp}{S:AS}{σ:St}{H:Hp}{Fs:List (List Addr)}{ds:List D}{S':AS},oz K H₀ Hf₀ Hf S σ H Fs->m S=some (ds,S')->∀Q:VK,
 (∀Hf' H' Fs' p vs,wF Hf H Fs Hf' H' Fs'->oz K H₀ Hf₀ Hf' S' σ H' Fs'->qJ K H' p vs->ox K Hf' ds vs->Q (.ref p) H')->te σ H Q
theorem SL.q{K:W.Frag}{te:TE}{m:ML}(h:SL K te m):SQ K te m:=by
 intro H₀ Hf₀ Hf S σ H Fs ds S' R e Q q;exact h R e Q λHf' H' Fs' p vs t R' hp r=>q _ _ _ p vs t R' (qJ.of hp) r
def qq(i:Nat):ML:=λS=>match S[i]?.join with
 |some (.sh (.scr ns))=>some (ns.map .int,S)
 |some (.sh (.list ds))=>some (ds,S)
 |some (.ow avs)=>some (avs.map nj,S.set i (some (.ow ((avs.map nj).map .sh))))
 |_=>none
theorem sW{K:W.Frag}{H:Hp}:∀ns:List Int,ox K H (ns.map .int) (ns.map V.int)
 | []=>.nil
 |n::ns=>.cons .int (sW ns)
theorem pR{K:W.Frag}(i:Nat):SQ K (vo i) (qq i):=by
 intro H₀ Hf₀ Hf S σ H Fs ds S' R e Q q;unfold qq at e;split at e
 .rename_i ns ea;cases e;obtain⟨v,F,s1,s2,r⟩:=R.rep i _ (oq ea);cases r.sh_inv.2 with
  |scr h=>exact⟨_,s1,q _ _ _ _ _ .refl R (R.sub.seq h) (sW ns)⟩
 .rename_i ds' ea;cases e;refine CM i R (ds:=ds) (S':=S) ?_ Q λHf' H' Fs' p vs t R' hp r=>q _ _ _ p vs t R' (qJ.of hp) r
  unfold D9;rw[ea]
 .rename_i avs ea;refine CM i R (ds:=ds) (S':=S') ?_ Q λHf' H' Fs' p vs t R' hp r=>q _ _ _ p vs t R' (qJ.of hp) r
  unfold D9;rw[ea];exact e
 .cases e
section
variable {K:W.Frag}{H₀ Hf₀ Hf Hf' H H':Hp}{S S':AS}{σ:St}{Fs Fs':List (List Addr)}
theorem nZ.stp{as:List AV}{vs:List V}{Gs:List (List Addr)}(r:nZ K Hf H as vs Gs) (ho:∀q∈Gs.flatten,q∉Fs.flatten) (t:wF Hf H Fs Hf' H' Fs'):nZ K Hf' H' as vs Gs :=
 ⟨r.1,r.2.1,λi a v F h1 h2 h3=>(r.2.2 i a v F h1 h2 h3).stp (λq hq=>ho q (mFq.mpr ⟨F,mGq h3,hq⟩)) t⟩
theorem oz.layF(R:oz K H₀ Hf₀ Hf S σ H Fs) {p:Addr}{o:HO}(hp:H p=none):wF Hf H Fs (oK Hf p o) (oK H p o) Fs/\oz K H₀ Hf₀ (oK Hf p o) S σ (oK H p o) Fs:=by
 have hf:Hf p=none:=R.sub.free hp;refine⟨⟨qf hf,qf hp,λ_ h=>h,λb h g=>?_⟩,R.more (qf hp) (qf hf) (λb u e=>?_) (λq hq=>?_) λb h1 h2=>?_⟩
 .by_cases m:b=p
  .subst m;exact .inl hp
  .rw [nh m]at g;exact absurd h g
 .by_cases m:b=p
  .subst m;rw[nu]at e ⊢;exact e
  .rw [nh m]at e ⊢;exact R.sub b u e
 .rw [nh λe=>(R.mem hq).1 (by rw[e];exact hp)]
  exact(R.mem hq).2
 .rw [nh λe=>h2 (by rw[e];exact R.fr.free hp)]
  exact R.lim b h1 h2
end
def nY:MA:=λS=>some ([],S)
def nz(k:MK) (r:MA):MA:=λS=>(k S).bind λx=>(r x.2).map λy=>(x.1::y.1,y.2)
def nO:ML:=λS=>some ([],S)
def ni(k:ME) (r:ML):ML:=λS=>(k S).bind λx=>(r x.2).map λy=>(x.1::y.1,y.2)
section
variable {K:W.Frag}{te ta tb:TE}{tr:TA}
theorem nI:SA K uu nY:=by
 intro H₀ Hf₀ Hf S σ H Fs as S' R e Q q;cases e;exact q _ _ _ [] [] .refl R .nil .nil
theorem nv{k:MK}{r:MA}(hk:SK K te k) (hr:SA K tr r):SA K (rE te tr) (nz k r):=by
 intro H₀ Hf₀ Hf S σ H Fs as S' R e Q q;obtain⟨x,e1,e⟩:=oBq.mp e;obtain⟨y,e2,e⟩:=oMq.mp e;cases e;refine hk R (a:=x.1) (S':=x.2) e1 _ λHf1 H1 Fs1 v F t1 R1 r1 o1=>hr R1 (as:=y.1) (S':=y.2) e2 _ λHf2 H2 Fs2 vs Gs t2 R2 r2 o2=>?_
 refine q _ _ _ (v::vs) (F::Gs) (t1.trans t2) R2 (.cons (r1.stp o1.out t2) r2) ?_;rw[fCq];exact(o1.stp t2).app (o2.back t1) (o1.apart (Hf1:=Hf1) (λq hq=>(r1.owned q hq).1) o2)
theorem nV:Ol K uu nO:=by
 intro H₀ Hf₀ Hf S σ H Fs as S' R e Q q;cases e;exact q _ _ _ [] .refl R .nil
theorem nF{k:ME}{r:ML}(hk:SR K te k) (hr:Ol K tr r):Ol K (rE te tr) (ni k r):=by
 intro H₀ Hf₀ Hf S σ H Fs as S' R e Q q;obtain⟨x,e1,e⟩:=oBq.mp e;obtain⟨y,e2,e⟩:=oMq.mp e;cases e;refine hk R (d:=x.1) (S':=x.2) e1 _ λHf1 H1 Fs1 v t1 R1 r1=>hr R1 (ds:=y.1) (S':=y.2) e2 _ λHf2 H2 Fs2 vs t2 R2 r2=>?_
 exact q _ _ _ (v::vs) (t1.trans t2) R2 (.cons (r1.mono t2.sh) r2)
end
def sq(a:MA):MK:=λS=>(a S).bind λx=>uO (x.1.length<=qB) (some (.ow x.1,x.2))
def BE(a:MA):MK:=λS=>(a S).bind λx=>uO (x.1.length<=qB) (some (.sh (.tup (x.1.map nj)),x.2))
section
variable {K:W.Frag}{ta:TA}{a:MA}
theorem qP(ha:SA K ta a):SK K (Pb ta) (sq a):=by
 intro H₀ Hf₀ Hf S σ H Fs av S' R e Q q;obtain⟨x,e1,e⟩:=oBq.mp e;rcases ot e with ⟨hl,e⟩|e
 .skip
  cases e;refine ha R (as:=x.1) (S':=x.2) e1 _ λHf1 H1 Fs1 vs Gs t1 R1 r1 o1=>⟨by rw[tZ,←r1.1];exact hl,λp hp=>?_⟩
  obtain⟨t2,R2,n1,n2,n3⟩:=R1.new (o:=.lst vs) hp;refine q _ _ _ (.ref p) (p::Gs.flatten) (t1.trans t2) R2 (oh.news nu n1 (r1.stp o1.out t2)) ?_;have o2:=(we.one R1 hp).back t1;refine(show we _ _ _ _ ([p]++Gs.flatten) from o2.app o1 λq hq m=>?_)
  rw[mSq.mp hq]at m;exact(r1.owned p m).1 hp
 .cases e
theorem Dp(ha:SA K ta a):SK K (Si ta) (BE a):=by
 intro H₀ Hf₀ Hf S σ H Fs av S' R e Q q;obtain⟨x,e1,e⟩:=oBq.mp e;rcases ot e with ⟨hl,e⟩|e
 .skip
  cases e;refine ha R (as:=x.1) (S':=x.2) e1 _ λHf1 H1 Fs1 vs Gs t1 R1 r1 o1=>⟨by rw[tZ,←r1.1];exact hl,λp hp=>?_⟩
  obtain⟨R2,r2,t2⟩:=R1.gives t1 r1 o1;obtain⟨t3,R3⟩:=R2.layF (o:=.tup vs) hp;exact q _ _ _ (.ref p) [] (t2.trans t3) R3 (.sh (.mk_tup nu (r2.mono t3.sf))) .nil
 .cases e
end
def IL(a b:ML):MK:=λS=>(a S).bind λx=>(b x.2).bind λy=>uO (x.1.length+y.1.length<=qB) (some (.ow ((x.1++y.1).map .sh),y.2))
section
variable {K:W.Frag}{ta tb:TE}{a b:ML}
theorem Gh(ha:SL K ta a) (hb:SL K tb b):SK K (MC RU ta tb) (IL a b):=by
 intro H₀ Hf₀ Hf S σ H Fs av S' R e Q q;obtain⟨x,e1,e⟩:=oBq.mp e;obtain⟨y,e2,e⟩:=oBq.mp e;rcases ot e with ⟨hl,e⟩|e
 .skip
  cases e;refine ha R (ds:=x.1) (S':=x.2) e1 _ λHf1 H1 Fs1 p1 vs1 t1 R1 h1 r1=>hb R1 (ds:=y.1) (S':=y.2) e2 _ λHf2 H2 Fs2 p2 vs2 t2 R2 h2 r2=>?_
  refine⟨p1,p2,vs1,vs2,rfl,rfl,t2.sh _ _ h1,h2,by rw[tZ,←r1.1,←r2.1];exact hl,λp hp=>?_⟩
  obtain⟨t3,R3,n1,n2,n3⟩:=R2.new (o:=.lst (vs1++vs2)) hp;exact q _ _ _ (.ref p) [p] ((t1.trans t2).trans t3) R3 (oh.new nu n1 ((r1.mono t2.sf).append r2)) ((we.one R2 hp).back (t1.trans t2))
 .cases e
end
abbrev MO:=AS->Option (Option Int×AS)
def SO(K:W.Frag) (to:TO) (m:MO):Prop:=∀{H₀ Hf₀ Hf:Hp}{S:AS}{σ:St}{H:Hp}{Fs:List (List Addr)}{o:Option Int}{S':AS},oz K H₀ Hf₀ Hf S σ H Fs->m S=some (o,S')->∀Q:Option Int->Hp->Prop,
 (∀Hf' H' Fs',wF Hf H Fs Hf' H' Fs'->oz K H₀ Hf₀ Hf' S' σ H' Fs'->Q o H')->to σ H Q
def sJ:MO:=λS=>some (none,S)
def qm(m:ME):MO:=λS=>(m S).bind λx=>match x.1 with
 | .int i=>some (some i,x.2)
 |_=>none
def vZ{α:Type}(xs:List α) (lo hi:Option Int):List α:=(xs.drop (HT.BS xs.length 0 lo)).take (HT.BS xs.length xs.length hi-HT.BS xs.length 0 lo)
def Br(l:ML) (lo hi:MO):MK:=λS=>(l S).bind λx=>(lo x.2).bind λy=>(hi y.2).map λz=>(.ow ((vZ x.1 y.1 z.1).map .sh),z.2)
section
variable {K:W.Frag}{te:TE}{tl th:TO}{l:ML}{lo hi:MO}{m:ME}
theorem tm:SO K HG sJ:=by
 intro H₀ Hf₀ Hf S σ H Fs o S' R e Q q;cases e;exact q _ _ _ .refl R
theorem qI(h:SR K te m):SO K (Ow te) (qm m):=by
 intro H₀ Hf₀ Hf S σ H Fs o S' R e Q q;obtain⟨x,e1,e⟩:=oBq.mp e;refine h R (d:=x.1) (S':=x.2) e1 _ λHf1 H1 Fs1 v t1 R1 r1=>?_
 split at e
 .rename_i i hx;rw[hx]at r1;cases r1;cases e;exact⟨i,rfl,q _ _ _ t1 R1⟩
 .cases e
theorem ox.cut{H:Hp}{ds:List D}{vs:List V}(r:ox K H ds vs) (lo hi:Option Int):ox K H (vZ ds lo hi) (GJ vs lo hi):=by
 unfold vZ GJ;rw[r.1];exact(r.drop _).take _
theorem vP(hl:SQ K te l) (hlo:SO K tl lo) (hhi:SO K th hi):SK K (Uu (RH K) te tl th) (Br l lo hi):=by
 intro H₀ Hf₀ Hf S σ H Fs av S' R e Q q;obtain⟨x,e1,e⟩:=oBq.mp e;obtain⟨y,e2,e⟩:=oBq.mp e;obtain⟨z,e3,e⟩:=oMq.mp e;cases e;refine hl R (ds:=x.1) (S':=x.2) e1 _ λHf1 H1 Fs1 p1 vs1 t1 R1 h1 r1=>hlo R1 (o:=y.1) (S':=y.2) e2 _ λHf2 H2 Fs2 t2 R2=>hhi R2 (o:=z.1) (S':=z.2) e3 _ λHf3 H3 Fs3 t3 R3=>?_
 refine⟨p1,vs1,rfl,(t2.sh.trans t3.sh).seq h1,λp hp=>?_⟩
 obtain⟨t4,R4,n1,n2,n3⟩:=R3.new (o:=.lst (GJ vs1 y.1 z.1)) hp;exact q _ _ _ (.ref p) [p] (((t1.trans t2).trans t3).trans t4) R4 (oh.new nu n1 ((r1.mono (t2.sf.trans t3.sf)).cut _ _)) ((we.one R3 hp).back ((t1.trans t2).trans t3))
end
def MJ:D->D->Option D
 | .list ds,.int i=>atI ds i
 | .scr ns,.int i=>(atI ns i).map .int
 |_,_=>none
def Mn(l:ML) (b:ME):MK:=λS=>(l S).bind λx=>(b x.2).bind λy=>match y.1 with
 | .int i=>(atI x.1 i).map λd=>(.sh d,y.2)
 |_=>none
section
variable {K:W.Frag}{ta tb:TE}
theorem ox.atI{H:Hp}{ds:List D}{vs:List V}{i:Int}{d:D}(r:ox K H ds vs) (h:L2.atI ds i=some d):∃v,L2.atI vs i=some v/\pV K H d v:=by
 unfold L2.atI at h ⊢;rw[r.1]at h;obtain⟨j,h1,h2⟩:=oBq.mp h;rw[h1];exact r.get h2
theorem H0:Fd K (Mz K) MJ:=by
 intro x y H Q dx dy d rx ry e q;unfold MJ at e;split at e
 .rename_i ds i;cases ry;obtain⟨p,vs,rfl,h,r⟩:=rx.list_inv;obtain⟨l,e'⟩:=r;obtain⟨v,h1,h2⟩:=ox.atI (K:=K) (H:=H) (ds:=ds) (vs:=vs) ⟨l,e'⟩ e;exact⟨p,vs,i,v,rfl,rfl,qJ.of h,h1,q v h2⟩
 .rename_i ns i;cases ry;cases rx;rename_i p h;obtain⟨n,h1,h2⟩:=oMq.mp e;subst h2;obtain⟨v,h3,h4⟩:=ox.atI (K:=K) (H:=H) (sW ns) (i:=i) (d:=.int n) (by
   unfold L2.atI at h1 ⊢;rw[lMq];obtain⟨j,g1,g2⟩:=oBq.mp h1;rw[g1];show (ns.map D.int)[j]?=_;rw[gMq,g2];rfl)
  exact⟨p,_,i,v,rfl,rfl,h,h3,q v h4⟩
 .cases e
theorem B8{l:ML}{b:ME}(hl:SQ K ta l) (hb:SR K tb b):SK K (MC (Mz K) ta tb) (Mn l b):=by
 intro H₀ Hf₀ Hf S σ H Fs av S' R e Q q;obtain⟨x,e1,e⟩:=oBq.mp e;obtain⟨y,e2,e⟩:=oBq.mp e;refine hl R (ds:=x.1) (S':=x.2) e1 _ λHf1 H1 Fs1 p1 vs1 t1 R1 h1 r1=>hb R1 (d:=y.1) (S':=y.2) e2 _ λHf2 H2 Fs2 v2 t2 R2 r2=>?_
 split at e
 .rename_i i hy;rw[hy]at r2;cases r2;obtain⟨d,e3,e⟩:=oMq.mp e;cases e;obtain⟨v,g1,g2⟩:=(r1.mono t2.sf).atI e3;exact⟨p1,vs1,i,v,rfl,rfl,t2.sh.seq h1,g1,q _ _ _ v [] (t1.trans t2) R2 (.sh g2) .nil⟩
 .cases e
end
def Th(K:W.Frag) (r:List V->Hp->VK->Prop) (f:List D->Option D):Prop:=∀{vs:List V}{H:Hp}{Q:VK}{ds:List D}{d:D},ox K H ds vs->f ds=some d->(∀v,pV K H d v->Q v H)->r vs H Q
def vQ(f:List D->Option D) (a:ML):ME:=λS=>(a S).bind λx=>(f x.1).map λd=>(d,x.2)
theorem si{K:W.Frag}{r:List V->Hp->VK->Prop}{f:List D->Option D}{ta:TA}{a:ML}(hr:Th K r f) (ha:Ol K ta a):SR K (Mj r ta) (vQ f a):=by
 intro H₀ Hf₀ Hf S σ H Fs d S' R e Q q;obtain⟨x,e1,e⟩:=oBq.mp e;obtain⟨z,e3,e⟩:=oMq.mp e;cases e;exact ha R (ds:=x.1) (S':=x.2) e1 _ λHf1 H1 Fs1 vs t1 R1 r1=>hr r1 e3 λv rv=>q _ _ _ v t1 R1 rv
def qD:List D->Option D
 | [.list ds]=>some (.int ds.length)
 | [.tup ds]=>some (.int ds.length)
 | [.scr ns]=>some (.int ns.length)
 | [.str x]=>uO (x.length<=qB) (some (.int x.length))
 |_=>none
def U4:List D->Option D
 | [.int i]=>some (.int (if i<0 then -i else i))
 |_=>none
def UJ:List D->Option D
 | [.int i,.int j]=>some (.int (if j>i then j else i))
 |_=>none
def UN:List D->Option D
 | [.int i,.int j]=>some (.int (if j<i then j else i))
 |_=>none
def UA:List D->Option D
 | [.int i]=>some (.int i)
 | [.bl k]=>some (.int (if k then 1 else 0))
 |_=>none
def UC:D->String->Option D
 | .int _,T=>if T = "int" then some (.bl true) else if T = "bool" then some (.bl false) else none
 | .bl _,T=>if T = "bool" ∨ T = "int" then some (.bl true) else none
 | .str _,T=>if T = "str" then some (.bl true) else none
 | .list _,T=>if T = "list" then some (.bl true) else none
 | .tup _,T=>if T = "tuple" then some (.bl true) else none
 | .dict _,T=>if T = "dict" then some (.bl true) else none
 |_,_=>none
def Kd:List D->Option D
 | [x,.ty T]=>UC x T
 |_=>none
def qr:List D->Option (List Int)
 | []=>some []
 | .int i::ds=>(qr ds).map (i :: ·)
 |_=>none
theorem tU:∀{ds:List D}{ns:List Int},qr ds=some ns->ds=ns.map .int
 | [],ns,h=>by cases h;rfl
 |d::ds,ns,h=>by
  cases d with
  |int i =>
   obtain⟨ms,h1,h2⟩:=oMq.mp (show (qr ds).map (i :: ·)=some ns from h)
   subst h2;rw[tU h1];rfl
  |_=>cases h
@[simp] theorem rN (ns:List Int):qr (ns.map .int)=some ns:=by
 induction ns with
 |nil=>rfl
 |cons n ns ih=>show (qr (ns.map .int)).map (n :: ·)=_;rw[ih];rfl
theorem qc{K:W.Frag}{H:Hp}:∀{ns:List Int}{vs:List V},ox K H (ns.map .int) vs->vs=ns.map V.int
 | [],vs,h=>h.nil_inv
 |n::ns,vs,h=>by
  obtain⟨v,ws,rfl,h1,h2⟩:=ox.cons_inv (d:=.int n) (ds:=ns.map .int) h;cases h1;rw[qc h2];rfl
def Ho:List Int->Option Int
 | []=>none
 |n::ns=>some (ns.foldl min n)
theorem uK:∀(ns:List Int) (n:Int),ns.foldl min n∈n::ns
 | [],n=>by simp
 |m::ns,n=>by
  have h:=uK ns (min n m);rw[bK];rcases aj.mp h with e|e
  .rw [e]
   by_cases c:n<=m
   .rw [Int.min_eq_left c];simp
   .rw [Int.min_eq_right (by lia)];simp
  .exact mCo _ (mCo _ e)
theorem tN:∀(ns:List Int) (n:Int),(ns.foldl min n<=n)/\∀x∈ns,ns.foldl min n<=x
 | [],n=>⟨gg _,λx h=>by cases h⟩
 |m::ns,n=>by
  obtain⟨h1,h2⟩:=tN ns (min n m);rw[bK];refine⟨by lia,λx hx=>?_⟩
  rcases aj.mp hx with e|e
  .subst e;lia
  .exact h2 x e
def MR:List D->Option D
 | [.list ds]=>(qr ds).bind λns=>(Ho ns).map .int
 |_=>none
section
variable {K:W.Frag}
theorem qF:Th K (λxs H Q=>∃x n,xs=[x]/\Rk K x H n/\Q (.int n) H) qD:=by
 intro vs H Q ds d r e q;unfold qD at e;split at e
 .obtain ⟨v,ws,rfl,h1,h2⟩:=r.cons_inv;rw[h2.nil_inv];obtain⟨p,us,rfl,h3,h4⟩:=h1.list_inv;cases e;exact⟨_,_,rfl,.inl ⟨us,qJ.of h3,h4.1⟩,q _ .int⟩
 .obtain ⟨v,ws,rfl,h1,h2⟩:=r.cons_inv;rw[h2.nil_inv];obtain⟨p,us,rfl,h3,h4⟩:=h1.tup_inv;cases e;exact⟨_,_,rfl,.inr ⟨us,BP.of h3,h4.1⟩,q _ .int⟩
 .obtain ⟨v,ws,rfl,h1,h2⟩:=r.cons_inv;rw[h2.nil_inv];cases e;cases h1 with
  |scr h=>exact⟨_,_,rfl,.inl ⟨_,h,(lMq _).symm⟩,q _ .int⟩
 .rcases ot e with ⟨hl,e⟩|e
  .skip
   obtain⟨v,ws,rfl,h1,h2⟩:=r.cons_inv;rw[h2.nil_inv];cases e;cases h1;exact⟨_,_,rfl,⟨by rw[tZ];exact hl,rfl⟩,q _ .int⟩
  .cases e
 .cases e
theorem Qy:Th K (λxs H Q=>∃(a:Addr) (ns:List Int),xs=[.ref a]/\qJ K H a (ns.map V.int)/\0<ns.length/\∀M,M∈ns->(∀x,x∈ns->M<=x)->Q (.int M) H) MR:=by
 intro vs H Q ds d r e q;unfold MR at e;split at e
 .obtain ⟨v,ws,rfl,h1,h2⟩:=r.cons_inv;rw[h2.nil_inv];obtain⟨ns,e1,e⟩:=oBq.mp e;obtain⟨m,e2,e⟩:=oMq.mp e;cases e;rw[tU e1]at h1;obtain⟨p,us,rfl,h3,h4⟩:=h1.list_inv;rw[qc h4]at h3;cases ns with
  |nil=>cases e2
  |cons n ns =>
   cases e2;refine⟨p,_,rfl,qJ.of h3,by simp,λM hM hm=>?_⟩
   have e3:M=ns.foldl min n:=by
    have a1:=hm _ (uK ns n);have a2:=tN ns n;have a3:ns.foldl min n<=M:=by
     rcases aj.mp hM with z|z
     .subst z;exact a2.1
     .exact a2.2 M z
    lia
   rw[e3];exact q _ .int
 .cases e
theorem Qn:Th K (λxs H Q=>∃x T b,xs=[x,.ty T]/\Sq K x H T b/\Q (.bl b) H) Kd:=by
 intro vs H Q ds d r e q;unfold Kd at e;split at e
 rotate_left
 .cases e
 rename_i x T;obtain⟨v,ws,rfl,h1,h2⟩:=r.cons_inv;obtain⟨u,zs,rfl,h3,h4⟩:=h2.cons_inv;rw[h4.nil_inv];cases h3;unfold UC at e;cases x <;> first|(cases e;done)|dsimp only at e
 case int =>
  cases h1;split at e
  .rename_i hT;cases e;exact⟨_,_,_,rfl,.inl ⟨hT,rfl⟩,q _ .bl⟩
  .split at e
   .rename_i hT;cases e;exact⟨_,_,_,rfl,.inr ⟨hT,rfl⟩,q _ .bl⟩
   .cases e
 case bl =>
  cases h1;split at e
  .rename_i hT;cases e;rcases hT with hT|hT
   .exact ⟨_,_,_,rfl,.inl ⟨hT,rfl⟩,q _ .bl⟩
   .exact ⟨_,_,_,rfl,.inr ⟨hT,rfl⟩,q _ .bl⟩
  .cases e
 case str =>
  cases h1;split at e
  .rename_i hT;cases e;exact⟨_,_,_,rfl,⟨hT,rfl⟩,q _ .bl⟩
  .cases e
 case list =>
  obtain⟨p,us,rfl,g3,g4⟩:=h1.list_inv;split at e
  .rename_i hT;cases e;exact⟨_,_,_,rfl,.inl ⟨hT,rfl,us,qJ.of g3⟩,q _ .bl⟩
  .cases e
 case tup =>
  obtain⟨p,us,rfl,g3,g4⟩:=h1.tup_inv;split at e
  .rename_i hT;cases e;exact⟨_,_,_,rfl,.inr (.inr ⟨hT,rfl,us,BP.of g3⟩),q _ .bl⟩
  .cases e
 case dict =>
  obtain⟨p,us,rfl,g3,g4⟩:=h1.dict_inv;split at e
  .rename_i hT;cases e;exact⟨_,_,_,rfl,.inr (.inl ⟨hT,rfl,us,g3⟩),q _ .bl⟩
  .cases e
end
abbrev MF:=List D->Option AV
def qb(K:W.Frag) (f:MF):Sp:=λvs H Q _=>∃(Hf:Hp) (ds:List D) (a:AV),nU Hf H/\ox K Hf ds vs/\f ds=some a /\
 ∀Hf' H' v F,nU Hf Hf'->nU H H'->nU Hf' H'->(∀b,Hf b=none->H b≠none->Hf' b=none)->oh K Hf' H' a v F->F.Nodup->(∀q∈F,H q=none)->Q v H'
def oM(f:MF) (a:MA):MK:=λS=>(a S).bind λx=>(f (x.1.map nj)).map λr=>(r,x.2)
theorem oB{K:W.Frag}{f:MF}{ta:TA}{a:MA}(ha:SA K ta a):SK K (xV (qb K f) [] E0 ta) (oM f a):=by
 intro H₀ Hf₀ Hf S σ H Fs av S' R e Q q;obtain⟨x,e1,e⟩:=oBq.mp e;obtain⟨z,e3,e⟩:=oMq.mp e;cases e;refine ha R (as:=x.1) (S':=x.2) e1 _ λHf1 H1 Fs1 vs Gs t1 R1 r1 o1=>?_
 obtain⟨R2,r2,t2⟩:=R1.gives t1 r1 o1;rw[aNq];refine⟨_,_,av,R2.sub,r2,e3,λHf' H' v F s1 s2 s3 l r nd fr=>?_⟩
 have t3:wF (Z.frz Hf1 H1 Gs.flatten) H1 Fs1 Hf' H' Fs1:=⟨s1,s2,λ_ h=>h,λb h g=>.inl (by
  by_cases e:H1 b=none
  .exact e
  .exact absurd (l b h e) g)⟩
 have hn:∀q∈Fs1.flatten,Hf' q=none:=λq hq=>l q (R2.mem hq).2 (R2.mem hq).1
 have R3:oz K H₀ Hf₀ Hf' x.2 σ H' Fs1:=R2.more s2 s1 s3 hn λb h1 h2=>l b (R2.lim b h1 h2) (HC R2.fr h2)
 refine q _ _ _ v F (t2.trans t3) R3 r ⟨nd,λq hq=>R2.fr.free (fr q hq),λq hq m=>(R2.mem m).1 (fr q hq),λq hq=>.inl (t1.sh.free (fr q hq))⟩
inductive CZ where
 |nx (S:AS)|rt (a:AV)|bk (S:AS)|ct (S:AS)
abbrev MS:=AS->Option CZ
def zu(K:W.Frag) (H₀ Hf₀ Hf:Hp) (D:vk):CZ->Prop
 | .nx S=>∀Hf' σ' H' Fs',nU Hf Hf'->oz K H₀ Hf₀ Hf' S σ' H' Fs'->D.nx σ' H'
 | .bk S=>∀Hf' σ' H' Fs',nU Hf Hf'->oz K H₀ Hf₀ Hf' S σ' H' Fs'->D.bk σ' H'
 | .ct S=>∀Hf' σ' H' Fs',nU Hf Hf'->oz K H₀ Hf₀ Hf' S σ' H' Fs'->D.ct σ' H'
 | .rt a=>∀Hf' H' v F,nU Hf₀ Hf'->nU H₀ H'->nU Hf' H'->(∀b,Hf₀ b=none->H₀ b≠none->Hf' b=none)->oh K Hf' H' a v F->F.Nodup->(∀q∈F,H₀ q=none)->D.rt v H'
def SS(K:W.Frag) (t:TS) (m:MS):Prop:=∀{H₀ Hf₀ Hf:Hp}{S:AS}{σ:St}{H:Hp}{Fs:List (List Addr)}{o:CZ},oz K H₀ Hf₀ Hf S σ H Fs->m S=some o->∀D:vk,zu K H₀ Hf₀ Hf D o->t D σ H
theorem zu.mono{K:W.Frag}{H₀ Hf₀ Hf Hf':Hp}{D:vk}{o:CZ}(s:nU Hf Hf') (h:zu K H₀ Hf₀ Hf D o):zu K H₀ Hf₀ Hf' D o:=by
 cases o with
 |nx S=>exact λHf2 σ' H' Fs' s2 R=>h Hf2 σ' H' Fs' (s.trans s2) R
 |bk S=>exact λHf2 σ' H' Fs' s2 R=>h Hf2 σ' H' Fs' (s.trans s2) R
 |ct S=>exact λHf2 σ' H' Fs' s2 R=>h Hf2 σ' H' Fs' (s.trans s2) R
 |rt a=>exact h
def rY:MS:=λS=>some (.nx S)
def TY:MS:=λS=>some (.bk S)
def UU:MS:=λS=>some (.ct S)
def Ub:MS:=λ_=>none
def nQ(a b:MS):MS:=λS=>(a S).bind λo=>match o with
 | .nx S'=>b S'
 |o=>some o
def oH(i:Nat) (k:MK):MS:=λS=>(k S).map λx=>.nx (x.2.set i (some x.1))
def U0(k:MK):MS:=λS=>(k S).map λx=>.nx x.2
def sH(k:MK):MS:=λS=>(k S).map λx=>.rt x.1
def DL(c:MT) (a b:MS):MS:=λS=>(c S).bind λx=>if x.1=true then a x.2 else b x.2
section
variable {K:W.Frag}{t u:TS}{a b:MS}{te:TE}{k:MK}
theorem rK:SS K OP rY:=by
 intro H₀ Hf₀ Hf S σ H Fs o R e D h;cases e;exact h _ _ _ _ (.refl _) R
theorem ny(ha:SS K t a) (hb:SS K u b):SS K (GX t u) (nQ a b):=by
 intro H₀ Hf₀ Hf S σ H Fs o R e D h;obtain⟨x,e1,e⟩:=oBq.mp e;refine ha R e1 _ ?_;cases x with
 |nx S'=>exact λHf' σ' H' Fs' s R'=>hb R' e D (h.mono s)
 |rt a=>cases e;exact h
 |bk a=>cases e;exact h
 |ct a=>cases e;exact h
theorem nR{i:Nat}(hk:SK K te k):SS K (GH te (sL i)) (oH i k):=by
 intro H₀ Hf₀ Hf S σ H Fs o R e D h;obtain⟨x,e1,e⟩:=oMq.mp e;cases e;refine hk R (a:=x.1) (S':=x.2) e1 _ λHf1 H1 Fs1 v F t1 R1 r1 o1=>?_
 exact h _ _ _ _ t1.sf (R1.set i r1 o1.nd λq hq=>⟨o1.fr q hq,o1.out q hq⟩)
theorem pM(hk:SK K te k):SS K (Q1 te) (sH k):=by
 intro H₀ Hf₀ Hf S σ H Fs o R e D h;obtain⟨x,e1,e⟩:=oMq.mp e;cases e;exact hk R (a:=x.1) (S':=x.2) e1 _ λHf1 H1 Fs1 v F t1 R1 r1 o1=>h _ _ v F R1.sf R1.fr R1.sub R1.lim r1 o1.nd o1.fr
theorem xp{c:TT}{m:MT}(hc:CH K c m) (ha:SS K t a) (hb:SS K u b):SS K (Ku c t u) (DL m a b):=by
 intro H₀ Hf₀ Hf S σ H Fs o R e D h;obtain⟨x,e1,e⟩:=oBq.mp e;refine hc R (b:=x.1) (S':=x.2) e1 _ λHf1 H1 Fs1 t1 R1=>?_
 split at e
 .rename_i hx;rw[hx];exact Gq (ha R1 e D (h.mono t1.sf))
 .rename_i hx;rw[cj]at hx;rw[hx];exact FA (hb R1 e D (h.mono t1.sf))
end
def pS(S:AS) (i:Nat):Option (List AV):=match S[i]?.join with
 |some (.ow avs)=>some avs
 |_=>none
def vV(S:AS) (i:Nat):Option (List (nX×D)):=match S[i]?.join with
 |some (.owd kvs)=>some kvs
 |_=>none
def vY(i:Nat) (k:MK):MS:=λS=>(pS S i).bind λ_=>(k S).bind λx=>(pS x.2 i).bind λavs =>
 uO (avs.length<qB) (some (.nx (x.2.set i (some (.ow (avs++[x.1]))))))
def J7(i:Nat) (l:ML):MS:=λS=>(pS S i).bind λ_=>(l S).bind λx=>(pS x.2 i).bind λavs =>
 uO (avs.length+x.1.length<=qB) (some (.nx (x.2.set i (some (.ow (avs++x.1.map .sh))))))
def intOf:D->Option Int
 | .int i=>some i
 |_=>none
def U6(i:Nat) (b:ME) (k:MK):MS:=λS=>(ux k S).bind λx=>(pS x.2 i).bind λ_=>(b x.2).bind λy=>(pS y.2 i).bind λavs=>(intOf y.1).bind λj=>(Ed avs.length j).map λn =>
 .nx (y.2.set i (some (.ow (((avs.map nj).set n (nj x.1)).map .sh))))
def uC:D->Option nX
 | .int i=>some (.inl i)
 | .str x=>some (.inr x)
 |_=>none
def wA(kvs:List (nX×D)) (k:nX) (d:D):List (nX×D):=if kvs.any (λkv=>decide (kv.1=k)) then kvs.map (λkv=>if kv.1=k then (kv.1,d) else kv) else kvs++[(k,d)]
def getD(kvs:List (nX×D)) (k:nX):Option D:=(kvs.find? λkv=>decide (kv.1=k)).map (·.2)
def AZ(i:Nat) (b:ME) (k:MK):MS:=λS=>(ux k S).bind λx=>(vV x.2 i).bind λ_=>(b x.2).bind λy=>(vV y.2 i).bind λkvs=>(uC y.1).bind λkey =>
 uO (kvs.length<qB) (some (.nx (y.2.set i (some (.owd (wA kvs key (nj x.1)))))))
section
variable {K:W.Frag}{H₀ Hf₀ Hf H:Hp}{S:AS}{σ:St}{Fs:List (List Addr)}
theorem oz.turn(R:oz K H₀ Hf₀ Hf S σ H Fs) {i:Nat}{av:AV}{p:Addr}{o:HO}{F F':List Addr}(s1:σ[i]?=some (some (.ref p))) (s2:Fs[i]?=some F) (hp:p∈F) (r:oh K Hf (oK H p o) av (.ref p) F') (nd:F'.Nodup)
  (hf:∀q∈F',H₀ q=none/\q∉(Fs.set i []).flatten):oz K H₀ Hf₀ Hf (S.set i (some av)) σ (oK H p o) (Fs.set i F'):=by
 have hin:p∈Fs.flatten:=mFq.mpr ⟨F,mGq s2,hp⟩;have pn:Hf p=none:=(R.mem hin).2;have p0:H₀ p=none:=R.fresh p hin;have out:=su R.nd s2 hp;have R1:oz K H₀ Hf₀ Hf (S.set i none) σ (oK H p o) (Fs.set i []):=by
  refine⟨by simp[R.len],by simp[R.lenF],λj a ej=>?_,λj ej=>?_,ql i R.nd aT (λp hp=>by cases hp),λp hp=>R.fresh p (pI hp),λb u e=>?_,λb u e=>?_,R.lim,R.sf⟩
  .rw [bo]at ej
   by_cases hij:i=j
   .subst hij;rw[nK rfl]at ej;split at ej <;> cases ej
   .rw [nS hij]at ej;obtain⟨w,G,f1,f2,q⟩:=R.rep j a ej;refine⟨w,G,f1,by rw[ax hij];exact f2,q.keep (.refl _) (λc hc=>nh λe=>out ?_) λc hc=>(q.owned c hc).2⟩
    subst e;exact mFq.mpr ⟨G,mGq (i:=j) (by rw[ax hij];exact f2),hc⟩
  .rw [bo]at ej
   by_cases hij:i=j
   .subst hij;rw[nK rfl]at ej;split at ej
    .rename_i hi;rw[aD (R.lenF.symm ▸ hi)]
    .cases ej
   .rw [nS hij]at ej;rw[ax hij];exact R.emp j ej
  .rw [nh λz=>by rw[z,pn]at e;cases e]
   exact R.sub b u e
  .rw [nh λz=>by rw[z,p0]at e;cases e]
   exact R.fr b u e
 exact R1.again (F:=F) s1 r nd hf
theorem oI{i:Nat}{F:List Addr}{q:Addr}(s2:Fs[i]?=some F) (h:q∈F):q∈Fs.flatten:=mFq.mpr ⟨F,mGq s2,h⟩
theorem nZ.snoc{as:List AV}{vs:List V}{Gs:List (List Addr)}{a:AV}{v:V}{F:List Addr}(r:nZ K Hf H as vs Gs) (s:oh K Hf H a v F):nZ K Hf H (as++[a]) (vs++[v]) (Gs++[F]):=by
 obtain⟨h1,h2,h3⟩:=r;refine⟨by simp[h1],by simp[h2],λi b w G e1 e2 e3=>?_⟩
 by_cases hi:i<as.length
 .rw [gZq hi]at e1;rw[gZq (h1 ▸ hi)]at e2;rw[gZq (h2 ▸ hi)]at e3;exact h3 i b w G e1 e2 e3
 .have hi':i=as.length:=by
   have:=(gSq.mp e1).1;rw[lAq,lSq]at this;lia
  subst hi';rw[gYq (af _),cP]at e1;rw[h1,gYq (af _),cP]at e2;rw[h2,gYq (af _),cP]at e3;cases e1;cases e2;cases e3;exact s
theorem nZ.keepUpd{as:List AV}{vs:List V}{Gs:List (List Addr)}{p:Addr}{o:HO}(r:nZ K Hf H as vs Gs) (hp:p∉Gs.flatten):nZ K Hf (oK H p o) as vs Gs :=
 ⟨r.1,r.2.1,λi a v F h1 h2 h3=>by
  have q:=r.2.2 i a v F h1 h2 h3;refine q.keep (.refl _) (λc hc=>nh λe=>hp ?_) λc hc=>(q.owned c hc).2
  subst e;exact mFq.mpr ⟨F,mGq h3,hc⟩⟩
theorem oh.keepUpd{a:AV}{v:V}{F:List Addr}{p:Addr}{o:HO}(q:oh K Hf H a v F) (hp:p∉F):oh K Hf (oK H p o) a v F :=
 q.keep (.refl _) (λc hc=>nh λe=>hp (e ▸ hc)) λc hc=>(q.owned c hc).2
theorem N3{ds:List D}{vs:List V}(r:ox K Hf ds vs):nZ K Hf H (ds.map .sh) vs (aE ds.length []) :=
 ⟨by simp[r.1],by simp,λi a v F h1 h2 h3=>by
  rw[gMq]at h1;cases q:ds[i]? with
  |none=>rw[q]at h1;cases h1
  |some d =>
   rw[q]at h1;cases h1;have:F=[]:=cK (mGq h3);subst this;exact .sh (r.2 i d v q h2)⟩
theorem nZ.append{as bs:List AV}{vs ws:List V}{Gs Es:List (List Addr)}(r:nZ K Hf H as vs Gs) (s:nZ K Hf H bs ws Es):nZ K Hf H (as++bs) (vs++ws) (Gs++Es):=by
 obtain⟨h1,h2,h3⟩:=r;refine⟨by simp[h1,s.1],by simp[h2,s.2.1],λi b w G e1 e2 e3=>?_⟩
 by_cases hi:i<as.length
 .rw [gZq hi]at e1;rw[gZq (h1 ▸ hi)]at e2;rw[gZq (h2 ▸ hi)]at e3;exact h3 i b w G e1 e2 e3
 .rw [gYq (by lia)]at e1
  rw[gYq (by lia),←h1]at e2
  rw[gYq (by lia),←h2]at e3
  exact s.2.2 _ b w G e1 e2 e3
end
section
variable {K:W.Frag}{te ta tb:TE}{k:MK}{b:ME}{l:ML}
theorem oQ{S:AS}{i:Nat}{avs:List AV}(h:pS S i=some avs):S[i]?=some (some (.ow avs)):=by
 unfold pS at h;split at h
 .rename_i z e;cases h;exact oq e
 .cases h
theorem Az{S:AS}{i:Nat}{kvs:List (nX×D)}(h:vV S i=some kvs):S[i]?=some (some (.owd kvs)):=by
 unfold vV at h;split at h
 .rename_i z e;cases h;exact oq e
 .cases h
theorem oz.ow{H₀ Hf₀ Hf H:Hp}{S:AS}{σ:St}{Fs:List (List Addr)}(R:oz K H₀ Hf₀ Hf S σ H Fs) {i:Nat}{avs:List AV}(h:S[i]?=some (some (.ow avs))):∃p vs Gs,σ[i]?=some (some (.ref p))/\Fs[i]?=some (p::Gs.flatten)/\H p=some (.lst vs)/\Hf p=none/\nZ K Hf H avs vs Gs /\
  p∉Gs.flatten/\Gs.flatten.Nodup/\∀q∈p::Gs.flatten,H₀ q=none/\q∉(Fs.set i []).flatten:=by
 obtain⟨v,F,s1,s2,r,nd,o,_⟩:=R.move h;obtain⟨p,vs,Gs,rfl,rfl,h1,h2,h3⟩:=r.ow_inv;exact⟨p,vs,Gs,s1,s2,h1,h2,h3,(aH.mp nd).1,(aH.mp nd).2,o⟩
theorem uN{i:Nat}(hk:SK K te k):SS K (xT (Mh K "list" xU (vo i) (rE te uu))) (vY i k):=by
 intro H₀ Hf₀ Hf S σ H Fs o R e D h;obtain⟨a0,e0,e⟩:=oBq.mp e;obtain⟨x,e1,e⟩:=oBq.mp e;obtain⟨avs,e2,e⟩:=oBq.mp e;rcases ot e with ⟨hl,e⟩|e
 .skip
  cases e;obtain⟨p,vs,Gs,s1,_,h1,_⟩:=R.ow (oQ e0);refine⟨.ref p,s1,.inl ⟨rfl,vs,qJ.of h1⟩,hk R (a:=x.1) (S':=x.2) e1 _ λHf1 H1 Fs1 v F t1 R1 r1 o1=>?_⟩
  obtain⟨p',vs',Gs',s1',s2',h1',h2',h3',h4',h5',h6'⟩:=R1.ow (oQ e2);rw[s1]at s1';cases s1';have pF:p∉F:=λm=>o1.out p m (oI s2' (by simp))
  refine⟨p,vs',v,rfl,rfl,h1',by rw[tZ,←h3'.1];exact hl,h _ _ _ _ t1.sf (R1.turn s1 s2' (by simp) (F':=p::(Gs'++[F]).flatten) (oh.news nu h2' ((h3'.keepUpd h4').snoc (r1.keepUpd pF))) ?_ λq hq=>?_)⟩
  .rw [fAq,aY];refine aH.mpr ⟨λm=>(mAq.mp m).elim h4' pF,nAq.mpr ⟨h5',o1.nd,λa ha b hb e=>o1.out b hb (oI s2' (mCo _ (e ▸ ha)))⟩⟩
  .rw [fAq,aY]at hq;rcases aj.mp hq with z|z
   .exact h6' q (by rw[z];simp)
   .rcases mAq.mp z with z|z
    .exact h6' q (mCo _ z)
    .exact ⟨o1.fr q z,λm=>o1.out q z (pI m)⟩
 .cases e
theorem GY{i:Nat}(hl:SL K te l):SS K (xT (Mh K "list" HM (vo i) (rE te uu))) (J7 i l):=by
 intro H₀ Hf₀ Hf S σ H Fs o R e D h;obtain⟨a0,e0,e⟩:=oBq.mp e;obtain⟨x,e1,e⟩:=oBq.mp e;obtain⟨avs,e2,e⟩:=oBq.mp e;rcases ot e with ⟨hle,e⟩|e
 .skip
  cases e;obtain⟨p,vs,Gs,s1,_,h1,_⟩:=R.ow (oQ e0);refine⟨.ref p,s1,.inl ⟨rfl,vs,qJ.of h1⟩,hl R (ds:=x.1) (S':=x.2) e1 _ λHf1 H1 Fs1 b ws t1 R1 hb r1=>?_⟩
  obtain⟨p',vs',Gs',s1',s2',h1',h2',h3',h4',h5',h6'⟩:=R1.ow (oQ e2);rw[s1]at s1';cases s1';refine⟨p,b,vs',ws,rfl,rfl,h1',hb,by rw[tZ,←h3'.1,←r1.1];exact hle,h _ _ _ _ t1.sf (R1.turn s1 s2' (by simp) (F':=p::(Gs'++aE x.1.length []).flatten) (oh.news nu h2' ((h3'.keepUpd h4').append (N3 r1))) ?_ λq hq=>?_)⟩
  .rw [fAq,tX,aNq];exact aH.mpr ⟨h4',h5'⟩
  .rw [fAq,tX,aNq]at hq;exact h6' q hq
 .cases e
theorem AG{H:Hp}:∀{ds:List (nX×D)}{kvs:List (nX×V)}{key:nX},tK K H ds kvs->match getD ds key with
  |some d=>∃v,xW kvs key=some v/\pV K H d v
  |none=>xW kvs key=none
 | [],kvs,key,h=>by
  have:kvs=[]:=by
   have:=congrArg bF h.1;simpa using this.symm
  subst this;rfl
 |d::ds,[],key,h=>by
  have:=congrArg bF h.1;simp at this
 |d::ds,v::kvs,key,h=>by
  have h1:d.1=v.1/\ds.map (·.1)=kvs.map (·.1):=by
   have:=h.1;simpa using this
  have h2:pV K H d.2 v.2:=h.2 0 d v rfl rfl;have ht:tK K H ds kvs:=⟨h1.2,λi a b e1 e2=>h.2 (i+1) a b (by simpa using e1) (by simpa using e2)⟩
  unfold getD xW
  by_cases c:d.1=key
  .rw [cY (by simp[c]),cY (by simp[←h1.1,c])]
   exact⟨v.2,rfl,h2⟩
  .rw [cu (by simp[c]),cu (by simp[←h1.1,c])]
   exact AG ht
theorem xg{H:Hp}{d:D}{v:V}{key:nX}(h:uC d=some key) (r:pV K H d v):v=kV key:=by
 cases r <;> simp only[uC]at h
 all_goals first|(exfalso;simp at h;done)|skip
 all_goals (cases h;rfl)
theorem tK.key{H:Hp}{ds:List (nX×D)}{kvs:List (nX×V)}(h:tK K H ds kvs) {i:Nat}{d:nX×D}{v:nX×V}(e1:ds[i]?=some d) (e2:kvs[i]?=some v):d.1=v.1:=by
 have:=congrArg (λl=>l[i]?) h.1
 simp only[gMq,e1,e2,fZ]at this;exact bc.inj this
theorem tK.len{H:Hp}{ds:List (nX×D)}{kvs:List (nX×V)}(h:tK K H ds kvs):ds.length=kvs.length:=by
 have:=congrArg bF h.1;simpa using this
theorem JM{H:Hp}{ds:List (nX×D)}{kvs:List (nX×V)}{key:nX}{d:D}{v:V}(h:tK K H ds kvs) (r:pV K H d v):tK K H (wA ds key d) (wm kvs key v):=by
 have ha:(ds.any λkv=>decide (kv.1=key))=kvs.any λkv=>decide (kv.1=key):=by
  have e1:(ds.any λkv=>decide (kv.1=key))=(ds.map (·.1)).any λk=>decide (k=key):=by rw[ix];rfl
  have e2:(kvs.any λkv=>decide (kv.1=key))=(kvs.map (·.1)).any λk=>decide (k=key):=by rw[ix];rfl
  rw[e1,e2,h.1]
 unfold wA wm;rw[ha];split
 .refine ⟨?_,λi a b e1 e2=>?_⟩
  .rw [mPq,mPq];have e1:((λkv:nX×D=>kv.1)∘λkv:nX×D=>if kv.1=key then (kv.1,d) else kv)=λkv=>kv.1:=by
    funext kv;show (if kv.1=key then (kv.1,d) else kv).1=kv.1
    split <;> rfl
   have e2:((λkv:nX×V=>kv.1)∘λkv:nX×V=>if kv.1=key then (kv.1,v) else kv)=λkv=>kv.1:=by
    funext kv;show (if kv.1=key then (kv.1,v) else kv).1=kv.1
    split <;> rfl
   rw[e1,e2];exact h.1
  .rw [gMq]at e1 e2;obtain⟨a',f1,rfl⟩:=oMq.mp e1;obtain⟨b',f2,rfl⟩:=oMq.mp e2;have hk:=h.key f1 f2
   by_cases c:a'.1=key
   .rw [nK c,nK (hk ▸ c)];exact r
   .rw [nS c,nS (hk ▸ c)];exact h.2 i a' b' f1 f2
 .refine ⟨by rw[mBq,mBq,h.1];rfl,λi a b e1 e2=>?_⟩
  by_cases hi:i<ds.length
  .rw [gZq hi]at e1;rw[gZq (h.len ▸ hi)]at e2;exact h.2 i a b e1 e2
  .have hi':i=ds.length:=by
    have:=(gSq.mp e1).1;rw[lAq,lSq]at this;lia
   subst hi';rw[gYq (af _),cP]at e1;rw[h.len,gYq (af _),cP]at e2;cases e1;cases e2;exact r
def EN:MK:=λS=>some (.owd [],S)
theorem CQ:SK K Lv EN:=by
 intro H₀ Hf₀ Hf S σ H Fs av S' R e Q q;cases e;intro p hp;obtain⟨t,R2,n1,n2,n3⟩:=R.new (o:=.dK []) hp;exact q _ _ _ (.ref p) [p] t R2 (.owd nu n1 ⟨rfl,λi d v h=>by simp at h⟩) (we.one R hp)
theorem oz.owd{H₀ Hf₀ Hf H:Hp}{S:AS}{σ:St}{Fs:List (List Addr)}(R:oz K H₀ Hf₀ Hf S σ H Fs) {i:Nat}{ds:List (nX×D)}(h:S[i]?=some (some (.owd ds))):∃p kvs,σ[i]?=some (some (.ref p))/\Fs[i]?=some [p]/\H p=some (.dK kvs)/\Hf p=none/\tK K Hf ds kvs /\
  H₀ p=none/\p∉(Fs.set i []).flatten:=by
 obtain⟨v,F,s1,s2,r,nd,o,_⟩:=R.move h;obtain⟨p,kvs,rfl,rfl,h1,h2,h3⟩:=r.owd_inv;exact⟨p,kvs,s1,s2,h1,h2,h3,(o p (by simp)).1,(o p (by simp)).2⟩
theorem ya{i:Nat}(hk:SK K te k) (hb:SR K tb b):SS K (OY (vo i) tb te) (AZ i b k):=by
 intro H₀ Hf₀ Hf S σ H Fs o R e D h;obtain⟨x,e1,e⟩:=oBq.mp e;obtain⟨a0,e0,e⟩:=oBq.mp e;obtain⟨y,e2,e⟩:=oBq.mp e;obtain⟨kvs,e3,e⟩:=oBq.mp e;obtain⟨key,e4,e⟩:=oBq.mp e;rcases ot e with ⟨hl,e⟩|e
 .skip
  cases e;have hk':SK K te (ux k):=SK.frz hk;refine hk' R (a:=x.1) (S':=x.2) e1 _ λHf1 H1 Fs1 v F t1 R1 r1 o1=>?_
  obtain⟨p',_,s1,_⟩:=R1.owd (Az e0);refine⟨_,s1,hb R1 (d:=y.1) (S':=y.2) e2 _ λHf2 H2 Fs2 w t2 R2 r2=>?_⟩
  obtain⟨q',kv,s1',s2',h1',h2',h3',h4',h5'⟩:=R2.owd (Az e3);rw[s1]at s1';cases s1';obtain⟨x1,hx1⟩:∃d,x.1 = .sh d:=by
   obtain⟨w,_,e⟩:=oMq.mp e1;rw[←e];exact⟨_,rfl⟩
  rw[hx1]at r1;have rv:=(r1.sh_inv.2).mono t2.sf;have hw:=xg e4 r2;subst hw;refine⟨p',_,rfl,JR.k h1' (by rw[tZ,←h3'.len];exact hl),h _ _ _ _ (t1.sf.trans t2.sf) (R2.turn s1 s2' (by simp) (F':=[p']) (.owd nu h2' ?_) (by simp) λq hq=>by rw[mSq.mp hq];exact⟨h4',h5'⟩)⟩
  rw[hx1,pT];exact JM h3' rv
 .cases e
def Vt(a b:ME):ME:=λS=>(a S).bind λx=>(b x.2).bind λy=>match y.1 with
 | .dict kvs=>(uC x.1).map λkey=>(.bl (getD kvs key).isSome,y.2)
 |_=>none
def xj(a b:ME):ME:=λS=>(a S).bind λx=>(b x.2).bind λy=>match y.1 with
 | .dict kvs=>(uC x.1).map λkey=>(.bl (!(getD kvs key).isSome),y.2)
 |_=>none
def zk(a b:ME):ME:=λS=>(a S).bind λx=>(b x.2).bind λy=>match x.1 with
 | .dict kvs=>(uC y.1).bind λkey=>(getD kvs key).map λd=>(d,y.2)
 |_=>none
theorem IV{H:Hp}{kvs:List (nX×D)}{x:V}{key:nX}{d:D}(r:pV K H (.dict kvs) x) (e:getD kvs key=some d):∃a v,x = .ref a/\zV H a (kV key) (some v)/\pV K H d v:=by
 obtain⟨p,vs,rfl,h1,h2⟩:=r.dict_inv;have g:=AG (key:=key) h2;rw[e]at g;obtain⟨v,g1,g2⟩:=g;exact⟨p,v,rfl,by rw[←g1];exact zV.k h1,g2⟩
theorem Kl{H:Hp}{kvs:List (nX×D)}{x:V}{key:nX}(r:pV K H (.dict kvs) x):∃a o,x = .ref a/\zV H a (kV key) o/\o.isSome=(getD kvs key).isSome:=by
 obtain⟨p,vs,rfl,h1,h2⟩:=r.dict_inv;have g:=AG (key:=key) h2;refine⟨p,_,rfl,zV.k h1,?_⟩;cases e:getD kvs key with
 |none=>rw[e]at g;rw[g];rfl
 |some d=>rw[e]at g;obtain⟨v,g1,_⟩:=g;rw[g1];rfl
theorem wY{a:ME}(ha:SR K ta a) (hb:SR K tb b):SR K (HL ta tb) (xj a b):=by
 intro H₀ Hf₀ Hf S σ H Fs d S' R e Q q;obtain⟨x,e1,e⟩:=oBq.mp e;obtain⟨y,e2,e⟩:=oBq.mp e;refine ha R (d:=x.1) (S':=x.2) e1 _ λHf1 H1 Fs1 v1 t1 R1 r1=>hb R1 (d:=y.1) (S':=y.2) e2 _ λHf2 H2 Fs2 v2 t2 R2 r2=>?_
 split at e
 .rename_i kvs hy;rw[hy]at r2;obtain⟨key,e3,e⟩:=oMq.mp e;cases e;obtain⟨p,o,rfl,g1,g2⟩:=Kl (key:=key) r2;refine⟨p,o,rfl,by rw[xg e3 r1];exact g1,?_⟩
  rw[g2];exact q _ _ _ _ (t1.trans t2) R2 .bl
 .cases e
theorem yv{a:ME}(ha:SR K ta a) (hb:SR K tb b):SR K (OJ ta tb) (zk a b):=by
 intro H₀ Hf₀ Hf S σ H Fs d S' R e Q q;obtain⟨x,e1,e⟩:=oBq.mp e;obtain⟨y,e2,e⟩:=oBq.mp e;refine ha R (d:=x.1) (S':=x.2) e1 _ λHf1 H1 Fs1 v1 t1 R1 r1=>hb R1 (d:=y.1) (S':=y.2) e2 _ λHf2 H2 Fs2 v2 t2 R2 r2=>?_
 split at e
 .rename_i kvs hy;rw[hy]at r1;obtain⟨key,e3,e⟩:=oBq.mp e;obtain⟨d',e4,e⟩:=oMq.mp e;cases e;obtain⟨p,v,rfl,g1,g2⟩:=IV (r1.mono t2.sh) e4;exact⟨p,v,rfl,by rw[xg e3 r2];exact g1,q _ _ _ _ (t1.trans t2) R2 g2⟩
 .cases e
end
def tw(x:Nat) (body:MS):List D->AS->Option CZ
 | [],S=>some (.nx S)
 |d::ds,S=>(body (S.set x (some (.sh d)))).bind λo=>match o with
  | .nx S'=>tw x body ds S'
  | .ct S'=>tw x body ds S'
  | .bk S'=>some (.nx S')
  | .rt a=>some (.rt a)
def sD:D->Option (List D)
 | .list ds=>some ds
 | .scr ns=>some (ns.map .int)
 |_=>none
def Df(x:Nat) (k:MK) (body:MS):MS:=λS=>(ux k S).bind λy=>(sD (nj y.1)).bind λds=>tw x body ds y.2
def oY(lo:Int) (n:Nat):List D:=(bP n).map λi:Nat=>.int (lo+i)
def Cz:List D->Option (List D)
 | [.int j]=>uO (-(2 ^ 62)<=j/\j<2 ^ 62) (some (oY 0 j.toNat))
 |_=>none
def Uo:List D->Option (List D)
 | [.int i,.int j]=>uO (-(2 ^ 62)<=i/\i<2 ^ 62/\-(2 ^ 62)<=j/\j<2 ^ 62) (some (oY i (j-i).toNat))
 |_=>none
def Gy(x:Nat) (a:ML) (body:MS):MS:=λS=>(a S).bind λy=>(Cz y.1).bind λds=>tw x body ds y.2
def Tp(x:Nat) (a:ML) (body:MS):MS:=λS=>(a S).bind λy=>(Uo y.1).bind λds=>tw x body ds y.2
def yO(x y:Nat) (body:MS):Nat->List D->AS->Option CZ
 |_,[],S=>some (.nx S)
 |i,d::ds,S=>(body ((S.set x (some (.sh (.int i)))).set y (some (.sh d)))).bind λo=>match o with
  | .nx S'=>yO x y body (i+1) ds S'
  | .ct S'=>yO x y body (i+1) ds S'
  | .bk S'=>some (.nx S')
  | .rt a=>some (.rt a)
def Hb(x y:Nat) (k:MK) (body:MS):MS:=λS=>(ux k S).bind λz=>(sD (nj z.1)).bind λds=>yO x y body 0 ds z.2
def GI(x y:Nat) (body:MS):List D->List D->AS->Option CZ
 |d::ds,e::es,S=>(body ((S.set x (some (.sh d))).set y (some (.sh e)))).bind λo=>match o with
  | .nx S'=>GI x y body ds es S'
  | .ct S'=>GI x y body ds es S'
  | .bk S'=>some (.nx S')
  | .rt a=>some (.rt a)
 |_,_,S=>some (.nx S)
def Ux(x y:Nat) (k l:MK) (body:MS):MS:=λS=>(ux k S).bind λz=>(ux l z.2).bind λw=>(sD (nj z.1)).bind λds=>(sD (nj w.1)).bind λes =>
 if ds.length=es.length then GI x y body ds es w.2 else none
def rQ(c:MT) (body:MS):Nat->MS
 |0,_=>none
 |n+1,S=>(c S).bind λx=>if x.1=true then (body x.2).bind λo=>match o with
   | .nx S'=>rQ c body n S'
   | .ct S'=>rQ c body n S'
   | .bk S'=>some (.nx S')
   | .rt a=>some (.rt a)
  else some (.nx x.2)
section
variable {K:W.Frag}{te tf:TE}{k l:MK}{tb:TS}{body:MS}{x y:Nat}
theorem yS{H:Hp}{d:D}{ds:List D}{v:V}(e:sD d=some ds) (r:pV K H d v):∃a vs,v = .ref a/\qJ K H a vs/\ox K H ds vs:=by
 cases d with
 |list es =>
  cases e;obtain⟨p,vs,rfl,h1,h2⟩:=r.list_inv;exact⟨p,vs,rfl,qJ.of h1,h2⟩
 |scr ns =>
  cases e;cases r with
  |scr h=>exact⟨_,_,rfl,h,sW ns⟩
 |_=>cases e
theorem AB{te:TE}{S:AS}{z:AV×AS}(e:ux k S=some z):∃d,z.1 = .sh d:=by
 obtain⟨w,_,e⟩:=oMq.mp e;rw[←e];exact⟨_,rfl⟩
theorem oz.setD{H₀ Hf₀ Hf H:Hp}{S:AS}{σ:St}{Fs:List (List Addr)}{d:D}{v:V}(R:oz K H₀ Hf₀ Hf S σ H Fs) (i:Nat) (r:pV K Hf d v):oz K H₀ Hf₀ Hf (S.set i (some (.sh d))) (σ.set i (some v)) H (Fs.set i []) :=
 R.set i (.sh r) aT λq h=>(by cases h)
theorem yI(hk:SK K te k) (hb:SS K tb body):SS K (M8 (J9 K te) (sL x) tb) (Df x k body):=by
 intro H₀ Hf₀ Hf S σ H Fs o R e D h;obtain⟨z,e1,e⟩:=oBq.mp e;obtain⟨ds,e2,e⟩:=oBq.mp e;have hk':SK K te (ux k):=SK.frz hk;refine hk' R (a:=z.1) (S':=z.2) e1 _ λHf1 H1 Fs1 v F t1 R1 r1 o1=>?_
 obtain⟨d,hd⟩:=AB (te:=te) e1;rw[hd]at r1;rw[hd,pT]at e2;obtain⟨a,vs,rfl,g1,g2⟩:=yS e2 r1.sh_inv.2;refine⟨a,rfl,⟨vs,R1.sub.seq g1⟩,KR (xs:=vs) (λi σ' H'=>∃Hf' S' Fs',oz K H₀ Hf₀ Hf' S' σ' H' Fs'/\nU Hf1 Hf'/\tw x body (ds.drop i) S'=some o) ⟨Hf1,z.2,Fs1,R1,.refl _,e⟩
  (λi σ' H' _ ⟨Hf',S',Fs',R',s',_⟩=>R'.sub.seq (s'.seq g1)) ?_ ?_⟩
 .rintro i w σ' H' hw ⟨Hf',S',Fs',R',s',e'⟩;obtain⟨di,hdi,rw'⟩:=g2.get' hw;have hlt:i<ds.length:=(gSq.mp hdi).1;rw[au hlt]at e';have hdi':ds[i]=di:=(gSq.mp hdi).2;rw[hdi']at e';obtain⟨ob,e3,e4⟩:=oBq.mp e';refine hb (R'.setD x (rw'.mono s')) e3 _ ?_;cases ob with
  |nx S2=>exact λHf2 σ2 H2 Fs2 s2 R2=>⟨Hf2,S2,Fs2,R2,s'.trans s2,e4⟩
  |ct S2=>exact λHf2 σ2 H2 Fs2 s2 R2=>⟨Hf2,S2,Fs2,R2,s'.trans s2,e4⟩
  |bk S2=>cases e4;exact λHf2 σ2 H2 Fs2 s2 R2=>h _ _ _ _ ((t1.sf.trans s').trans s2) R2
  |rt a=>cases e4;exact h
 .rintro σ' H' ⟨Hf',S',Fs',R',s',e'⟩;rw[←g2.1,dz]at e';cases e';exact h _ _ _ _ (t1.sf.trans s') R'
theorem Iz{H₀ Hf₀ Hf1 H1:Hp}{S1:AS}{σ:St}{Fs1:List (List Addr)}{o:CZ}{D:vk}{lo:Int}{n:Nat}(hb:SS K tb body) (R1:oz K H₀ Hf₀ Hf1 S1 σ H1 Fs1) (e:tw x body (oY lo n) S1=some o) (h:zu K H₀ Hf₀ Hf1 D o) :
  ∃W:Nat->Nat->St->Hp->Prop,(∃m,W 0 m σ H1)/\∀i m σ H,W i m σ H ->
   ((Ny lo n).stop i H/\D.nx σ H)∨((Ny lo n).go i H/\∃N:St->Hp->Prop,(∀σ' H',N σ' H'->∃m',m'<m/\W (i+1) m' σ' H')/\∀v H',(Ny lo n).yld i H v H'->sL x v σ H' λσ2 H2=>tb { D with nx:=N,ct:=N,bk:=D.nx } σ2 H2):=by
 refine Je (λi σ' H'=>∃Hf' S' Fs',oz K H₀ Hf₀ Hf' S' σ' H' Fs'/\nU Hf1 Hf'/\tw x body ((oY lo n).drop i) S'=some o) ⟨Hf1,S1,Fs1,R1,.refl _,e⟩ ?_ ?_
 .rintro i σ' H' hi ⟨Hf',S',Fs',R',s',e'⟩;have hlt:i<(oY lo n).length:=by unfold oY;rw[lMq,dh];exact hi
  rw[au hlt]at e';have hdi:(oY lo n)[i] = .int (lo+i):=by simp[oY]
  rw[hdi]at e';obtain⟨ob,e3,e4⟩:=oBq.mp e';refine hb (R'.setD x .int) e3 _ ?_;cases ob with
  |nx S2=>exact λHf2 σ2 H2 Fs2 s2 R2=>⟨Hf2,S2,Fs2,R2,s'.trans s2,e4⟩
  |ct S2=>exact λHf2 σ2 H2 Fs2 s2 R2=>⟨Hf2,S2,Fs2,R2,s'.trans s2,e4⟩
  |bk S2=>cases e4;exact λHf2 σ2 H2 Fs2 s2 R2=>h _ _ _ _ (s'.trans s2) R2
  |rt a=>cases e4;exact h
 .rintro σ' H' ⟨Hf',S',Fs',R',s',e'⟩;have hl:(oY lo n).length=n:=by unfold oY;rw[lMq,dh]
  rw[cX (dR hl)]at e';cases e';exact h _ _ _ _ s' R'
theorem KC{ta:TA}{a:ML}(ha:Ol K ta a) (hb:SS K tb body):SS K (M8 (J5 ta) (sL x) tb) (Gy x a body):=by
 intro H₀ Hf₀ Hf S σ H Fs o R e D h;obtain⟨z,e1,e⟩:=oBq.mp e;obtain⟨ds,e2,e⟩:=oBq.mp e;refine ha R (ds:=z.1) (S':=z.2) e1 _ λHf1 H1 Fs1 vs t1 R1 r1=>?_
 unfold Cz at e2;split at e2
 .rename_i j hz;rcases ot e2 with ⟨hj,e2⟩|e2
  .skip
   cases e2;rw[hz]at r1;obtain⟨v,ws,rfl,h1,h2⟩:=r1.cons_inv;rw[h2.nil_inv];cases h1;exact⟨j,rfl,hj.1,hj.2,Iz hb R1 e (h.mono t1.sf)⟩
  .cases e2
 .cases e2
theorem Hd(hk:SK K te k) (hb:SS K tb body):SS K (M8 (Oz K (rE te uu)) (NL K 2 (Bl (sL x) (Bl (sL y) NA))) tb) (Hb x y k body):=by
 intro H₀ Hf₀ Hf S σ H Fs o R e D h;obtain⟨z,e1,e⟩:=oBq.mp e;obtain⟨ds,e2,e⟩:=oBq.mp e;have hk':SK K te (ux k):=SK.frz hk;refine hk' R (a:=z.1) (S':=z.2) e1 _ λHf1 H1 Fs1 v F t1 R1 r1 o1=>?_
 obtain⟨d,hd⟩:=AB (te:=te) e1;rw[hd]at r1;rw[hd,pT]at e2;obtain⟨a,vs,rfl,g1,g2⟩:=yS e2 r1.sh_inv.2;refine⟨a,rfl,⟨vs,R1.sub.seq g1⟩,LQ (xs:=vs) (λi σ' H'=>∃Hf' S' Fs',oz K H₀ Hf₀ Hf' S' σ' H' Fs'/\nU Hf1 Hf'/\yO x y body i (ds.drop i) S'=some o) ⟨Hf1,z.2,Fs1,R1,.refl _,e⟩
  (λi σ' H' _ ⟨Hf',S',Fs',R',s',_⟩=>R'.sub.seq (s'.seq g1)) ?_ ?_⟩
 .rintro i w σ' H' T hw ⟨Hf',S',Fs',R',s',e'⟩ hT;obtain⟨di,hdi,rw'⟩:=g2.get' hw;have hlt:i<ds.length:=(gSq.mp hdi).1;rw[au hlt]at e';have hdi':ds[i]=di:=(gSq.mp hdi).2;rw[hdi']at e';obtain⟨ob,e3,e4⟩:=oBq.mp e';have R2:=(R'.new (o:=.tup [.int i,w]) hT).2.1;refine hb ((R2.setD x .int).setD y (rw'.mono s')) e3 _ ?_;cases ob with
  |nx S2=>exact λHf2 σ2 H2 Fs2 s2 R2=>⟨Hf2,S2,Fs2,R2,s'.trans s2,e4⟩
  |ct S2=>exact λHf2 σ2 H2 Fs2 s2 R2=>⟨Hf2,S2,Fs2,R2,s'.trans s2,e4⟩
  |bk S2=>cases e4;exact λHf2 σ2 H2 Fs2 s2 R2=>h _ _ _ _ ((t1.sf.trans s').trans s2) R2
  |rt a=>cases e4;exact h
 .rintro σ' H' ⟨Hf',S',Fs',R',s',e'⟩;rw[←g2.1,dz]at e';cases e';exact h _ _ _ _ (t1.sf.trans s') R'
theorem Ba{c:TT}{m:MT}(n:Nat) (hc:CH K c m) (hb:SS K tb body):SS K (KU c tb) (rQ m body n):=by
 intro H₀ Hf₀ Hf S σ H Fs o R e D h;refine⟨λn σ' H'=>∃Hf' S' Fs',oz K H₀ Hf₀ Hf' S' σ' H' Fs'/\nU Hf Hf'/\rQ m body n S'=some o,⟨n,Hf,S,Fs,R,.refl _,e⟩,?_⟩
 rintro n σ' H' ⟨Hf',S',Fs',R',s',e'⟩;cases n with
 |zero=>cases e'
 |succ n =>
  obtain⟨z,e1,e2⟩:=oBq.mp e';refine hc R' (b:=z.1) (S':=z.2) e1 _ λHf1 H1 Fs1 t1 R1=>?_
  split at e2
  .rename_i hz;rw[hz];refine Gq ⟨λσ2 H2=>∃Hf' S' Fs',oz K H₀ Hf₀ Hf' S' σ2 H2 Fs'/\nU Hf Hf'/\rQ m body n S'=some o,λσ2 H2 w=>⟨n,dw n,w⟩,?_⟩
   obtain⟨ob,e3,e4⟩:=oBq.mp e2;refine hb R1 e3 _ ?_;cases ob with
   |nx S2=>exact λHf2 σ2 H2 Fs2 s2 R2=>⟨Hf2,S2,Fs2,R2,(s'.trans t1.sf).trans s2,e4⟩
   |ct S2=>exact λHf2 σ2 H2 Fs2 s2 R2=>⟨Hf2,S2,Fs2,R2,(s'.trans t1.sf).trans s2,e4⟩
   |bk S2=>cases e4;exact λHf2 σ2 H2 Fs2 s2 R2=>h _ _ _ _ ((s'.trans t1.sf).trans s2) R2
   |rt a=>cases e4;exact h
  .rename_i hz;rw[cj]at hz;rw[hz];cases e2;exact FA (h _ _ _ _ (s'.trans t1.sf) R1)
end
def uM(np n:Nat) (m:MS):MF:=λds=>if ds.length=np then (m (ds.map (λd=>some (.sh d))++aE (n-ds.length) none)).bind λo=>match o with
  | .rt a=>some a
  | .nx _=>some (.sh .non)
  |_=>none
 else none
theorem BZ{K:W.Frag}{Hf H:Hp}{ds:List D}{vs:List V}(N:List Str) (s:nU Hf H) (r:ox K Hf ds vs) :
  oz K H Hf Hf (ds.map (λd=>some (.sh d))++aE (N.length-ds.length) none) (L2.ud N vs) H (aE (ds.length+(N.length-ds.length)) []):=by
 have fl:=tX (ds.length+(N.length-ds.length));refine⟨by simp[L2.ud,r.1],by simp,λi av e=>?_,λi e=>?_,by rw[fl];exact aT,λp hp=>(by rw[fl]at hp;cases hp),s,nU.refl _,λb h _=>h,nU.refl _⟩
 .by_cases hi:i<ds.length
  .rw [gZq (by simpa using hi),gMq]at e
   obtain⟨d,e1,e2⟩:=oMq.mp e;cases e2;obtain⟨v,e3,rv⟩:=r.get e1;refine⟨v,[],?_,?_,.sh rv⟩
   .unfold L2.ud;rw[gZq (by simpa [←r.1] using hi),gMq,e3]
    rfl
   .rw [bY,nK (by lia)]
  .rw [gYq (by simpa using hi)]at e
   have:=mGq e;rw[cK this]at e;have h2:=cK this;cases h2
 .rw [bY];have hi:=(gSq.mp e).1;rw[lAq,lMq,dc]at hi;rw[nK hi]
theorem pD{K:W.Frag}{t:TS}{m:MS}{np:Nat}(N:List Str) (h:SS K t m) {vs:List V}{H:Hp}{Q:VK}{E:XK}(hs:qb K (uM np N.length m) vs H Q E):t { nx:=λ_ H'=>Q .non H',rt:=Q } (L2.ud N vs) H:=by
 obtain⟨Hf,ds,a,s,r,e,q⟩:=hs;unfold uM at e;split at e
 .obtain ⟨o,e1,e2⟩:=oBq.mp e;refine h (BZ N s r) e1 _ ?_;cases o with
  |rt a' =>
   cases e2;exact λHf' H' v F s1 s2 s3 l r nd fr=>q Hf' H' v F s1 s2 s3 l r nd fr
  |nx S' =>
   cases e2;exact λHf' σ' H' Fs' s1 R=>q Hf' H' .non [] R.sf R.fr R.sub R.lim (.sh .non) aT λq h=>(by cases h)
  |bk S'=>cases e2
  |ct S'=>cases e2
 .cases e
theorem rh{K:W.Frag}{m:MS}{np n:Nat}{vs:List V}{H:Hp}{Q:VK}{E:XK}(hs:qb K (uM np n m) vs H Q E):vs.length=np:=by
 obtain⟨Hf,ds,a,s,r,e,q⟩:=hs;unfold uM at e;split at e
 .rename_i h;rw[←r.1,h]
 .cases e
def fzAll:List Nat->AS->Option AS
 | [],S=>some S
 |j::js,S=>(S[j]?.join).bind λa=>fzAll js (S.set j (some (.sh (nj a))))
def PY:Option AV->Option AV
 |some (.sh d)=>some (.sh d)
 |_=>none
def CD(S:AS):List Nat->Option AS
 | []=>some []
 |j::js=>(PY S[j]?.join).bind λa=>(CD S js).map (some a :: ·)
def qM(tf:MT) (te:MK) (cap:AS):List D->Option (List AV)
 | []=>some []
 |d::ds=>(tf (some (.sh d)::cap)).bind λb=>if b.1=true then (te b.2).bind λa=>(qM tf te cap ds).map (a.1 :: ·) else qM tf te cap ds
abbrev MI:=AS->Option (List D×AS)
def CI(k:MK):MI:=λS=>(ux k S).bind λy=>(sD (nj y.1)).map λds=>(ds,y.2)
def Q8(a:ML):MI:=λS=>(a S).bind λy=>(Cz y.1).map λds=>(ds,y.2)
def uD(src:MI) (fr:List Nat) (tf:MT) (te:MK):MK:=λS=>(src S).bind λy=>(fzAll fr y.2).bind λS2=>(CD S2 fr).bind λcap=>uO (y.1.length<=qB) ((qM tf te cap y.1).map λavs=>(.ow avs,S2))
def qL:MT:=λS=>some (true,S)
section
variable {K:W.Frag}{H₀ Hf₀ Hf Hf' H H':Hp}{S S':AS}{σ:St}{Fs Fs':List (List Addr)}
theorem oz.fz(R:oz K H₀ Hf₀ Hf S σ H Fs) {j:Nat}{a:AV}(e:S[j]?.join=some a):∃Hf' Fs',wF Hf H Fs Hf' H Fs'/\oz K H₀ Hf₀ Hf' (S.set j (some (.sh (nj a)))) σ H Fs':=by
 obtain⟨v,F,s1,s2,r,nd,o,R1⟩:=R.move (oq e);have n:∀q∈F,Hf q=none:=λq hq=>(r.owned q hq).2
 have R2:=R1.frz o n;have r2:=r.frozen (qw (H:=H) n) λq hq=>xF hq
 have R3:=R2.again (F:=F) (G:=[]) s1 (.sh r2) aT λq h=>(by cases h)
 refine⟨_,_,⟨qw n,.refl _,λp hp=>pI hp,λb h g=>?_⟩,R3⟩
 by_cases m:b∈F
 .exact .inr (mFq.mpr ⟨F,mGq s2,m⟩)
 .rw [sY m]at g;exact absurd h g
theorem oz.fzAll:∀{fr:List Nat}{Hf:Hp}{S S':AS}{Fs:List (List Addr)},oz K H₀ Hf₀ Hf S σ H Fs->fzAll fr S=some S'->∃Hf' Fs',wF Hf H Fs Hf' H Fs'/\oz K H₀ Hf₀ Hf' S' σ H Fs'
 | [],Hf,S,S',Fs,R,e=>by
  cases e;exact⟨Hf,Fs,.refl,R⟩
 |j::js,Hf,S,S',Fs,R,e=>by
  obtain⟨a,e1,e2⟩:=oBq.mp e;obtain⟨Hf1,Fs1,t1,R1⟩:=R.fz e1;obtain⟨Hf2,Fs2,t2,R2⟩:=oz.fzAll R1 e2;exact⟨Hf2,Fs2,t1.trans t2,R2⟩
theorem EB(R:oz K H₀ Hf₀ Hf S σ H Fs):∀{fr:List Nat}{cap:AS},CD S fr=some cap->cap.length=fr.length/\∀(k:Nat) (a:AV),cap[k]?=some (some a)->∃d v,a = .sh d/\(slots σ fr)[k]?=some (some v)/\pV K Hf d v
 | [],cap,e=>by
  cases e;exact⟨rfl,λk a h=>by simp at h⟩
 |j::js,cap,e=>by
  obtain⟨a,e1,e2⟩:=oBq.mp e;obtain⟨cap',e3,e4⟩:=oMq.mp e2;subst e4;obtain⟨h1,h2⟩:=EB R e3;refine⟨by simp[h1],λk b hk=>?_⟩
  cases k with
  |zero =>
   cases hk;cases ej:S[j]?.join with
   |none=>rw[ej]at e1;cases e1
   |some c =>
    rw[ej]at e1;cases c with
    |sh d =>
     cases e1;obtain⟨v,F,s1,s2,r⟩:=R.rep j _ (oq ej);refine⟨d,v,rfl,?_,r.sh_inv.2⟩;show some ((σ[j]?).join)=_;rw[s1];rfl
    |_=>cases e1
  |succ k=>exact h2 k b (by simpa using hk)
theorem IY(R:oz K H₀ Hf₀ Hf S σ H Fs) {fr:List Nat}{cap:AS}(e:CD S fr=some cap) {d:D}{x:V}(rx:pV K Hf d x) :
  oz K H₀ Hf₀ Hf (some (.sh d)::cap) (some x::slots σ fr) H (aE (cap.length+1) []):=by
 obtain⟨h1,h2⟩:=EB R e;have fl:=tX (cap.length+1);refine⟨by simp[slots,h1],by simp,λi av ei=>?_,λi ei=>?_,by rw[fl];exact aT,λp hp=>(by rw[fl]at hp;cases hp),R.sub,R.fr,R.lim,R.sf⟩
 .cases i with
  |zero =>
   cases ei;exact⟨x,[],rfl,by simp,.sh rx⟩
  |succ k =>
   have hk:k<cap.length:=(gSq.mp (by simpa using ei)).1
   obtain⟨d',v,rfl,s1,r⟩:=h2 k av (by simpa using ei)
   exact⟨v,[],by simpa using s1,by rw[bY,nK (by lia)],.sh r⟩
 .rw [bY];have hi:=(gSq.mp ei).1;rw[nK (by simpa using hi)]
theorem oz.updOut(R:oz K H₀ Hf₀ Hf S σ H Fs) {p:Addr}{o:HO}(h1:p∉Fs.flatten) (h2:Hf p=none) (h3:H₀ p=none):oz K H₀ Hf₀ Hf S σ (oK H p o) Fs where
 len:=R.len
 lenF:=R.lenF
 rep:=λi av e=>by
  obtain⟨v,F,s1,s2,r⟩:=R.rep i av e;exact⟨v,F,s1,s2,r.keepUpd λm=>h1 (oI s2 m)⟩
 emp:=R.emp
 nd:=R.nd
 fresh:=R.fresh
 sub:=λb u e=>by
  rw[nh λz=>by rw[z,h2]at e;cases e]
  exact R.sub b u e
 fr:=λb u e=>by
  rw[nh λz=>by rw[z,h3]at e;cases e]
  exact R.fr b u e
 lim:=R.lim
 sf:=R.sf
theorem oz.outer{σ2:St}{Fs2 Fs3:List (List Addr)}{Hf3 H3:Hp}{S3:AS}(R:oz K H₀ Hf₀ Hf S σ H Fs) (R3:oz K H₀ Hf₀ Hf3 S3 σ2 H3 Fs3) (t:wF Hf H Fs2 Hf3 H3 Fs3) (h0:Fs2.flatten=[]):wF Hf H Fs Hf3 H3 Fs/\oz K H₀ Hf₀ Hf3 S σ H3 Fs:=by
 have g:∀b,Hf b=none->H b≠none->Hf3 b=none:=λb h1 h2=>by
  by_cases e:Hf3 b=none
  .exact e
  .rcases t.gr b h1 e with z|z
   .exact absurd z h2
   .rw [h0]at z;cases z
 exact⟨⟨t.sf,t.sh,λ_ h=>h,λb h1 h2=>.inl (by
  by_cases e:H b=none
  .exact e
  .exact absurd (g b h1 e) h2)⟩,R.more t.sh t.sf R3.sub (λq hq=>g q (R.mem hq).2 (R.mem hq).1) R3.lim⟩
end
section
variable {K:W.Frag}{tf:TT}{te:TE}{mf:MT}{me:MK}{fr:List Nat}
theorem B6{H₀ Hf₀ Hf1 H1:Hp}{S1:AS}{σ:St}{Fs1:List (List Addr)}{cap:AS}{ds:List D}{avs:List AV}{J:It}{Q:VK}(hf:CH K tf mf) (he:SK K te me)
  (R1:oz K H₀ Hf₀ Hf1 S1 σ H1 Fs1) (ec:CD S1 fr=some cap) (hl:ds.length<=qB) (e:qM mf me cap ds=some avs)
  (hgo:∀i H,nU Hf1 H->i<ds.length->J.go i H) (hst:∀H,nU Hf1 H->J.stop ds.length H) (hy:∀i H x H',nU Hf1 H->i<ds.length->J.yld i H x H'->H'=H/\∃d,ds[i]?=some d/\pV K Hf1 d x)
  (q:∀Hf' H' v F,wF Hf1 H1 Fs1 Hf' H' Fs1->oz K H₀ Hf₀ Hf' S1 σ H' Fs1->oh K Hf' H' (.ow avs) v F->we H₀ H1 Fs1 Fs1 F->Q v H') :
  ∀acc,H1 acc=none->∃W:Nat->Nat->Hp->Prop,(∃m,W 0 m (oK H1 acc (.lst [])))/\∀i m H,W i m H ->
   (J.stop i H/\Q (.ref acc) H) ∨
   (J.go i H/\∃N:Hp->Prop,(∀H',N H'->∃m',m'<m/\W (i+1) m' H')/\∀x H',J.yld i H x H'->tf (some x::slots σ fr) H' λb H2 =>
    if b=true then te (some x::slots σ fr) H2 λy H3=>∃ys,H3 acc=some (.lst ys)/\ys.length<iN/\N (oK H3 acc (.lst (ys++[y]))) else N H2):=by
 intro acc hacc;obtain⟨t0,R0,n1,n2,n3⟩:=R1.new (o:=.lst []) hacc
 let P:Nat->Hp->Prop:=λi H=>∃Hf as vs Gs rest,oz K H₀ Hf₀ Hf S1 σ H Fs1/\wF Hf1 H1 Fs1 Hf H Fs1/\H acc=some (.lst vs)/\Hf acc=none/\nZ K Hf H as vs Gs/\we H₀ H1 Fs1 Fs1 (acc::Gs.flatten)/\as.length<=i /\
  qM mf me cap (ds.drop i)=some rest/\avs=as++rest
 refine⟨λi m H=>m=ds.length-i/\i<=ds.length/\P i H,⟨ds.length,by simp,aW _,Hf1,[],[],[],avs,R0,t0,nu,n1,.nil,we.one R1 hacc,aW _,e,rfl⟩,?_⟩
 rintro i m H ⟨rfl,hi,Hf,as,vs,Gs,rest,R,t,ha,hfa,ra,ow,la,er,ea⟩;have hs:nU Hf1 H:=t.sf.trans R.sub
 by_cases hlt:i<ds.length
 .refine .inr ⟨hgo i H hs hlt,P (i+1),λH' p=>⟨ds.length-(i+1),by lia,rfl,hlt,p⟩,λx H' y=>?_⟩
  obtain⟨rfl,d,hd,rx⟩:=hy i H x H' hs hlt y;rw[au hlt,(gSq.mp hd).2]at er;obtain⟨b,e1,e2⟩:=oBq.mp er;have fl:=tX (cap.length+1);refine hf (IY R ec (rx.mono t.sf)) (b:=b.1) (S':=b.2) e1 _ λHf2 H2 Fs2 t2 R2=>?_
  obtain⟨t2',R2'⟩:=R.outer R2 t2 fl;have ha2:H2 acc=some (.lst vs):=t2.sh _ _ ha;have hfa2:Hf2 acc=none:=by
   by_cases z:Hf2 acc=none
   .exact z
   .rcases t2.gr acc hfa z with z|z
    .rw [ha]at z;cases z
    .rw [fl]at z;cases z
  have ra2:=ra.stp (λq hq=>ow.out q (mCo _ hq)) t2'
  split at e2
  .rename_i hb;rw[hb];refine Gq ?_;obtain⟨a,e3,e4⟩:=oBq.mp e2;obtain⟨rest',e5,e6⟩:=oMq.mp e4;subst e6;refine he R2 (a:=a.1) (S':=a.2) e3 _ λHf3 H3 Fs3 v F t3 R3 r3 o3=>?_
   have fl2:Fs2.flatten=[]:=by
    cases hz:Fs2.flatten with
    |nil=>rfl
    |cons z zs =>
     have:=t2.own z (by rw[hz];simp)
     rw[fl]at this;cases this
   obtain⟨t3',R3'⟩:=R2'.outer R3 t3 fl2;have ha3:H3 acc=some (.lst vs):=t3.sh _ _ ha2;have hfa3:Hf3 acc=none:=by
    by_cases z:Hf3 acc=none
    .exact z
    .rcases t3.gr acc hfa2 z with z|z
     .rw [ha2]at z;cases z
     .rw [fl2]at z;cases z
   have ra3:=ra2.stp (λq hq=>ow.out q (mCo _ hq)) t3'
   have newF:∀q∈F,H2 q=none:=λq hq=>(o3.new q hq).elim id λz=>by rw[fl2]at z;cases z
   have accF:acc∉F:=λm=>by rw[newF acc m]at ha2;cases ha2
   have accG:acc∉Gs.flatten:=(aH.mp ow.nd).1;have tt:=(t.trans t2').trans t3';refine⟨vs,ha3,?_,?_⟩
   .rw [tZ,←ra.1];lia
   .refine ⟨Hf3,as++[a.1],vs++[v],Gs++[F],rest',R3'.updOut n3 hfa3 n2,⟨tt.sf,λb o eb=>?_,λ_ h=>h,tt.gr⟩,nu,hfa3,(ra3.keepUpd accG).snoc (r3.keepUpd accF),?_,by rw[lAq,lSq];lia,e5,by rw[ea];simp⟩
    .rw [nh λz=>by rw[z,hacc]at eb;cases eb]
     exact tt.sh b o eb
    .rw [fAq,aY];have oF:we H₀ H1 Fs1 Fs1 F:=⟨o3.nd,o3.fr,λq hq m=>(R2'.mem m).1 (newF q hq),λq hq=>.inl ((t.trans t2').sh.free (newF q hq))⟩
     refine(show we H₀ H1 Fs1 Fs1 ((acc::Gs.flatten)++F) from ow.app oF λq hq m=>?_)
     rcases aj.mp hq with z|z
     .rw [z]at m;exact accF m
     .exact (ra2.owned q z).1 (newF q m)
  .rename_i hb;rw[cj]at hb;rw[hb];exact FA ⟨Hf2,as,vs,Gs,rest,R2',t.trans t2',ha2,hfa2,ra2,ow,by lia,e2,ea⟩
 .have e0:i=ds.length:=by lia
  subst e0;rw[dz]at er;cases er;rw[aNq]at ea;subst ea;exact .inl ⟨hst H hs,q Hf H (.ref acc) _ t R (oh.news ha hfa ra) ow⟩
theorem ue{tl:TE}{k:MK}(hk:SK K tl k) (hf:CH K tf mf) (he:SK K te me):SK K (HA (J9 K tl) fr tf te) (uD (CI k) fr mf me):=by
 intro H₀ Hf₀ Hf S σ H Fs av S' R e Q q;obtain⟨y,e1,e⟩:=oBq.mp e;obtain⟨z,e0,e1⟩:=oBq.mp e1;obtain⟨ds,e2,e1⟩:=oMq.mp e1;subst e1;obtain⟨S2,e3,e⟩:=oBq.mp e;obtain⟨cap,e4,e⟩:=oBq.mp e;rcases ot e with ⟨hl,e⟩|e
 .obtain ⟨avs,e5,e⟩:=oMq.mp e;cases e;have hk':SK K tl (ux k):=SK.frz hk;refine hk' R (a:=z.1) (S':=z.2) e0 _ λHf1 H1 Fs1 v F t1 R1 r1 o1=>?_
  obtain⟨d,hd⟩:=AB (te:=tl) e0;rw[hd]at r1;rw[hd,pT]at e2;obtain⟨Hf2,Fs2,t2,R2⟩:=R1.fzAll e3;obtain⟨a,vs,rfl,g1,g2⟩:=yS e2 (r1.sh_inv.2.mono t2.sf);refine⟨a,rfl,⟨vs,R2.sub.seq g1⟩,B6 (K:=K) hf he R2 e4 hl e5 (λi H s hi=>⟨vs,vs[i]'(g2.1 ▸ hi),s.seq g1,gEg (g2.1 ▸ hi)⟩) (λH s=>⟨vs,s.seq g1,dR g2.1.symm⟩) (λi H x H' s hi y=>?_) λHf' H' v F t R' r o=>q _ _ _ v F ((t1.trans t2).trans t) R' r (o.back (t1.trans t2))⟩
  obtain⟨y1,y2⟩:=y;obtain⟨di,h1,h2⟩:=g2.get' (y2 vs (s.seq g1));exact⟨y1,di,h1,h2⟩
 .cases e
theorem xI{lo:Int}{n i:Nat}(h:i<n):(oY lo n)[i]?=some (.int (lo+i)):=by
 unfold oY;rw[gMq,gF h];rfl
theorem pZ(lo:Int) (n:Nat):(oY lo n).length=n:=by unfold oY;rw[lMq,dh]
theorem Ck{ta:TA}{a:ML}(ha:Ol K ta a) (hf:CH K tf mf) (he:SK K te me):SK K (HA (J5 ta) fr tf te) (uD (Q8 a) fr mf me):=by
 intro H₀ Hf₀ Hf S σ H Fs av S' R e Q q;obtain⟨y,e1,e⟩:=oBq.mp e;obtain⟨z,e0,e1⟩:=oBq.mp e1;obtain⟨ds,e2,e1⟩:=oMq.mp e1;subst e1;obtain⟨S2,e3,e⟩:=oBq.mp e;obtain⟨cap,e4,e⟩:=oBq.mp e;rcases ot e with ⟨hl,e⟩|e
 .obtain ⟨avs,e5,e⟩:=oMq.mp e;cases e;refine ha R (ds:=z.1) (S':=z.2) e0 _ λHf1 H1 Fs1 vs t1 R1 r1=>?_
  unfold Cz at e2;split at e2
  .rename_i j hz;rcases ot e2 with ⟨hj,e2⟩|e2
   .skip
    cases e2;rw[hz]at r1;obtain⟨v,ws,rfl,h1,h2⟩:=r1.cons_inv;rw[h2.nil_inv];cases h1;obtain⟨Hf2,Fs2,t2,R2⟩:=R1.fzAll e3;refine⟨j,rfl,hj.1,hj.2,B6 (K:=K) hf he R2 e4 hl e5 (λi H s hi=>(by rw[pZ]at hi;exact hi)) (λH s=>(by rw[pZ];exact af _)) (λi H x H' s hi y=>?_) λHf' H' v F t R' r o=>q _ _ _ v F ((t1.trans t2).trans t) R' r (o.back (t1.trans t2))⟩
    obtain⟨y1,y2⟩:=y;rw[pZ]at hi;exact⟨y1,_,xI hi,by rw[y2];exact .int⟩
   .cases e2
  .cases e2
 .cases e
theorem vp:CH K Sr qL:=by
 intro H₀ Hf₀ Hf S σ H Fs b S' R e Q q;cases e;exact q _ _ _ .refl R
end
mutual
def py:D->Option PyData
 | .non=>some .none
 | .bl b=>some (.bool b)
 | .int i=>some (.int i)
 | .str x=>some (.str x)
 | .list ds=>(Fx ds).map .list
 | .tup ds=>(Fx ds).map .tuple
 |_=>none
def Fx:List D->Option (List PyData)
 | []=>some []
 |d::ds=>(py d).bind λx=>(Fx ds).map (x :: ·)
end
section
variable {X:Cx}
theorem wC{h:Heap}:∀{ds:List D}{vs:List V}{its:List Value}{xs:List PyData},(∀(i:Nat) (d:D) (v:V),ds[i]?=some d->vs[i]?=some v->∀u x,oX v u->py d=some x->∃as,Reads h u x as)->ds.length=vs.length->ou vs its->Fx ds=some xs->∃as,ReadsAll h its xs as
 | [],vs,its,xs,_,hl,hv,e=>by
  have:vs=[]:=aV.mp hl.symm;subst this;cases hv;simp only[Fx]at e;cases e;exact⟨_,.nil⟩
 |d::ds,vs,its,xs,ih,hl,hv,e=>by
  cases vs with
  |nil=>simp at hl
  |cons v vs =>
   cases hv with
   |cons r t =>
    simp only[Fx]at e;obtain⟨x,e1,e2⟩:=oBq.mp e;obtain⟨ys,e3,e4⟩:=oMq.mp e2;subst e4;obtain⟨as,h1⟩:=ih 0 d v rfl rfl _ x r e1;obtain⟨bs,h2⟩:=wC (λi d' v' q1 q2=>ih (i+1) d' v' (by simpa using q1) (by simpa using q2)) (by simpa using hl) t e3
    exact⟨_,.cons h1 h2⟩
theorem yy{mU:List (Addr×Obj)}{σ:St}{H:Hp}{s:iD}(I:Inv X mU σ H s) {d:D}{v:V}(r:pV X.K H d v):∀(u:Value) (x:PyData),oX v u->py d=some x->∃as,Reads s.heap u x as:=by
 induction r with
 |non=>intro u x ru e;cases ru;simp only[py]at e;cases e;exact⟨_,.none⟩
 |bl=>intro u x ru e;cases ru;simp only[py]at e;cases e;exact⟨_,.bool _⟩
 |int=>intro u x ru e;obtain⟨t,rfl⟩:=ru;simp only[py]at e;cases e;exact⟨_,.int _ _⟩
 |str=>intro u x ru e;obtain⟨t,rfl⟩:=ru;simp only[py]at e;cases e;exact⟨_,.str _ _⟩
 |ty=>intro u x ru e;simp only[py]at e;cases e
 |list h l _ ih =>
  intro u x ru e;cases ru;simp only[py]at e;obtain⟨xs,e1,rfl⟩:=oMq.mp e;obtain⟨its,rv,hl,hz⟩:=I.list (qJ.of h);obtain⟨o,ho,hc,n,hd⟩:=hl.isList;obtain⟨as,e2⟩:=wC ih l rv e1;exact⟨_,Reads.list ho hc hd (by simpa using e2)⟩
 |tup h l _ ih =>
  intro u x ru e;cases ru;simp only[py]at e;obtain⟨xs,e1,rfl⟩:=oMq.mp e;obtain⟨its,rv,⟨o,ho,hc,n,hd⟩,hz⟩:=I.tuple (BP.of h);obtain⟨as,e2⟩:=wC ih l rv e1;exact⟨_,Reads.tuple ho hc hd (by simpa using e2)⟩
 |dict h l _ ih=>intro u x ru e;simp only[py]at e;cases e
 |fd h l _ ih=>intro u x ru e;simp only[py]at e;cases e
 |scr h=>intro u x ru e;simp only[py]at e;cases e
 |exc rf nf h hx=>intro u x ru e;simp only[py]at e;cases e
 |exc0 rf h=>intro u x ru e;simp only[py]at e;cases e
 |cls h=>intro u x ru e;simp only[py]at e;cases e
 |ins rf h l _ ih=>intro u x ru e;simp only[py]at e;cases e
def NG(K:W.Frag) (neg:Bool):R2:=λx y H Q=>∃(d e:D) (a b:PyData),pV K H d x/\pV K H e y/\py d=some a/\py e=some b/\SeqAt.shaped a=true/\SeqAt.shaped b=true/\SeqAt.noMix a b=true /\
 Q (.bl (if neg then !(PySem.Spec.same a b) else PySem.Spec.same a b)) H
theorem Pp(hu:X.A.units+64<iX):DJ X (jk .Eq) (NG X.K false):=by
 intro mU s σ H x y v u Q I rx ry h;obtain⟨d,e,a,b,h1,h2,p1,p2,s1,s2,nm,q⟩:=h;obtain⟨as,r1⟩:=yy I h1 _ _ rx p1;obtain⟨bs,r2⟩:=yy I h2 _ _ ry p2;exact il r1 r2 s1 s2 hu nm (oA I q rfl)
theorem GU(hu:X.A.units+64<iX):DJ X (jk .NotEq) (NG X.K true):=by
 intro mU s σ H x y v u Q I rx ry h;obtain⟨d,e,a,b,h1,h2,p1,p2,s1,s2,nm,q⟩:=h;obtain⟨as,r1⟩:=yy I h1 _ _ rx p1;obtain⟨bs,r2⟩:=yy I h2 _ _ ry p2;exact ip r1 r2 s1 s2 hu nm (oA I q rfl)
end
def AN(d e:D):Option D:=(py d).bind λa=>(py e).bind λb=>if SeqAt.shaped a=true/\SeqAt.shaped b=true/\SeqAt.noMix a b=true then some (.bl (PySem.Spec.same a b)) else none
def yE(d e:D):Option D:=(AN d e).bind QC
section
variable {K:W.Frag}
theorem O9:Fd K (NG K false) AN:=by
 intro x y H Q dx dy d rx ry e q;obtain⟨a,e1,e⟩:=oBq.mp e;obtain⟨b,e2,e⟩:=oBq.mp e;split at e
 .rename_i h;cases e;exact⟨dx,dy,a,b,rx,ry,e1,e2,h.1,h.2.1,h.2.2,q _ .bl⟩
 .cases e
theorem GG:Fd K (NG K true) yE:=by
 intro x y H Q dx dy d rx ry e q;obtain⟨c,e,e'⟩:=oBq.mp e;obtain⟨a,e1,e⟩:=oBq.mp e;obtain⟨b,e2,e⟩:=oBq.mp e;split at e
 .rename_i h;cases e;cases e';exact⟨dx,dy,a,b,rx,ry,e1,e2,h.1,h.2.1,h.2.2,q _ .bl⟩
 .cases e
end
abbrev dI(ns:List Int):D:=.list (ns.map .int)
abbrev dM(rs:List (List Int)):D:=.list (rs.map dI)
theorem LA(ns:List Int):Fx (ns.map .int)=some (ns.map PyData.int):=by
 induction ns with
 |nil=>simp[Fx]
 |cons n ns ih=>simp[Fx,py,ih]
theorem P9(ns:List Int):py (dI ns)=some (uv ns):=by
 show py (.list _)=_;simp only[py,LA];rfl
theorem Kv(rs:List (List Int)):Fx (rs.map dI)=some (rs.map uv):=by
 induction rs with
 |nil=>simp[Fx]
 |cons r rs ih =>
  show Fx (dI r::rs.map dI)=_;simp only[Fx,P9,ih];rfl
theorem Rv(rs:List (List Int)):py (dM rs)=some (xP rs):=by
 show py (.list _)=_;simp only[py,Kv];rfl
theorem Bo(r:List Int):SeqAt.shaped (uv r)=true:=by
 have h2:=W.depthAll_ints r;have h3:PyData.depth (uv r)<=64:=by simp only[uv,PyData.depth];lia
 show (PyData.canLay0 (uv r) && decide (PyData.depth (uv r)<=64))=true;rw[eI];exact⟨by simp only[uv,PyData.canLay0];exact W.canLayAll0_ints r,decide_eq_true h3⟩
@[simp] theorem TU (ns ms:List Int):AN (dI ns) (dI ms)=some (.bl (decide (ns=ms))):=by
 unfold AN;rw[P9,P9];show (if _ then _ else _)=_
 rw[nK ⟨Bo ns,Bo ms,by simp only[uv,SeqAt.noMix];exact W.noMix_ints ns ms⟩]
 simp only[uv,PySem.Spec.same,W.same_ints]
@[simp] theorem QS (rs ts:List (List Int)):AN (dM rs) (dM ts)=some (.bl (decide (rs=ts))):=by
 unfold AN;rw[Rv,Rv];show (if _ then _ else _)=_
 rw[nK ⟨zo rs,zo ts,by simp only[xP,SeqAt.noMix];exact A8 rs ts⟩]
 simp only[xP,PySem.Spec.same,Ci]
@[simp] theorem Qq (rs ts:List (List Int)):yE (dM rs) (dM ts)=some (.bl (!decide (rs=ts))):=by unfold yE;rw[QS];rfl
def xK(l:ML):MK:=λS=>(l S).map λx=>(.ow (x.1.map .sh),x.2)
def Gn(l:ML):MK:=λS=>(l S).bind λx=>(qr x.1).map λns=>(.ow ((qK ns).map λn=>.sh (.int n)),x.2)
def uf:List D->Option (List (List Int))
 | []=>some []
 | .list ds::es=>(qr ds).bind λr=>(uf es).map (r :: ·)
 |_=>none
theorem Cf:∀{ds:List D}{rs:List (List Int)},uf ds=some rs->ds=rs.map dI
 | [],rs,h=>by cases h;rfl
 |d::ds,rs,h=>by
  cases d with
  |list es =>
   obtain⟨r,h1,h⟩:=oBq.mp (show (qr es).bind (λr=>(uf ds).map (r :: ·))=some rs from h)
   obtain⟨ts,h2,h3⟩:=oMq.mp h;subst h3;rw[Cf h2,tU h1];rfl
  |_=>cases h
@[simp] theorem xD (rs:List (List Int)):uf (rs.map dI)=some rs:=by
 induction rs with
 |nil=>rfl
 |cons r rs ih =>
  show (qr (r.map .int)).bind (λr=>(uf (rs.map dI)).map (r :: ·))=_
  rw[rN,ih];rfl
def Tr(l:ML):MK:=λS=>(l S).bind λx=>(uf x.1).map λrs=>(.ow ((Lj rs).map λr=>.sh (dI r)),x.2)
section
variable {K:W.Frag}{te:TE}{l:ML}
theorem zL(hl:SQ K te l):SK K (Mj (λxs H Q=>∃p ys,xs=[.ref p]/\(qJ K H p ys∨BP K H p ys)/\∀l,H l=none->Q (.ref l) (oK H l (.lst ys))) (rE te uu)) (xK l):=by
 intro H₀ Hf₀ Hf S σ H Fs av S' R e Q q;obtain⟨x,e1,e⟩:=oMq.mp e;cases e;refine hl R (ds:=x.1) (S':=x.2) e1 _ λHf1 H1 Fs1 p1 vs1 t1 R1 h1 r1=>⟨p1,vs1,rfl,.inl h1,λp hp=>?_⟩
 obtain⟨t4,R4,n1,n2,n3⟩:=R1.new (o:=.lst vs1) hp;exact q _ _ _ (.ref p) [p] (t1.trans t4) R4 (oh.new nu n1 r1) ((we.one R1 hp).back t1)
theorem wz(ns:List Int):(ns.map λn=>AV.sh (.int n))=(ns.map D.int).map .sh:=by rw[mPq];rfl
theorem JT(hl:SQ K te l):SK K (Mj (λxs H Q=>∃(a:Addr) (ns:List Int),xs=[.ref a]/\qJ K H a (ns.map V.int)/\∀p,H p=none->Q (.ref p) (oK H p (.lst ((qK ns).map V.int)))) (rE te uu)) (Gn l):=by
 intro H₀ Hf₀ Hf S σ H Fs av S' R e Q q;obtain⟨x,e1,e⟩:=oBq.mp e;obtain⟨ns,e2,e⟩:=oMq.mp e;cases e;refine hl R (ds:=x.1) (S':=x.2) e1 _ λHf1 H1 Fs1 p1 vs1 t1 R1 h1 r1=>?_
 rw[tU e2]at r1;rw[qc r1]at h1;refine⟨p1,ns,rfl,h1,λp hp=>?_⟩
 obtain⟨t4,R4,n1,n2,n3⟩:=R1.new (o:=.lst ((qK ns).map V.int)) hp;rw[wz]at q;exact q _ _ _ (.ref p) [p] (t1.trans t4) R4 (oh.new nu n1 (sW _)) ((we.one R1 hp).back t1)
theorem xn{H:Hp}:∀{rs:List (List Int)}{vs:List V},ox K H (rs.map dI) vs->∃ps,vs=ps.map V.ref/\pY H ps rs
 | [],vs,h=>⟨[],h.nil_inv,.nil⟩
 |r::rs,vs,h=>by
  obtain⟨v,ws,rfl,h1,h2⟩:=ox.cons_inv (d:=dI r) (ds:=rs.map dI) h;obtain⟨p,us,rfl,h3,h4⟩:=h1.list_inv;rw[qc h4]at h3;obtain⟨ps,rfl,h5⟩:=xn h2;exact⟨p::ps,rfl,pY.cons_iff.mpr ⟨h3,h5⟩⟩
end
def So:String->D->Bool
 |T,.list _=>T == "list"
 |T,.scr _=>T == "list"
 |T,.str _=>T == "str"
 |_,_=>false
def Rb(T:String) (f:D->List D->Option D) (a:ME) (as:ML):ME:=λS=>(a S).bind λx=>if So T x.1=true then (as x.2).bind λy=>(f x.1 y.1).map λd=>(d,y.2) else none
def T4(K:W.Frag) (r:V->List V->Hp->VK->Prop) (f:D->List D->Option D):Prop:=∀{x:V}{vs:List V}{H:Hp}{Q:VK}{dx:D}{ds:List D}{d:D},pV K H dx x->ox K H ds vs->f dx ds=some d->(∀v,pV K H d v->Q v H)->r x vs H Q
section
variable {K:W.Frag}{te:TE}{ta:TA}{a:ME}{as:ML}{r:V->List V->Hp->VK->Prop}{f:D->List D->Option D}{T:String}
theorem QZ{H:Hp}{d:D}{v:V}(h:So T d=true) (rv:pV K H d v):SX K T v H:=by
 cases rv <;> simp only[So]at h
 all_goals first|(exfalso;simp at h;done)|skip
 .exact eq_of_beq h
 .rename_i p vs ds h1 l e;exact .inl ⟨eq_of_beq h,vs,qJ.of h1⟩
 .rename_i p ns h1;exact .inl ⟨eq_of_beq h,_,h1⟩
theorem Jy(hr:T4 K r f) (ha:SR K te a) (hs:Ol K ta as):SR K (Mh K T r te ta) (Rb T f a as):=by
 intro H₀ Hf₀ Hf S σ H Fs d S' R e Q q;obtain⟨x,e1,e⟩:=oBq.mp e;split at e
 .rename_i hT;obtain⟨y,e2,e⟩:=oBq.mp e;obtain⟨z,e3,e⟩:=oMq.mp e;cases e;refine ha R (d:=x.1) (S':=x.2) e1 _ λHf1 H1 Fs1 v t1 R1 r1=>⟨QZ hT r1,hs R1 (ds:=y.1) (S':=y.2) e2 _ λHf2 H2 Fs2 vs t2 R2 r2=>?_⟩
  exact hr (r1.mono t2.sh) r2 e3 λv rv=>q _ _ _ v (t1.trans t2) R2 rv
 .cases e
def yT:D->List D->Option D
 | .list ds,[.int k]=>(qr ds).bind λns=>if k∈ns then some (.int (ns.idxOf k:Nat)) else none
 |_,_=>none
theorem Fc:T4 K (LB K) yT:=by
 intro x vs H Q dx ds d rx rs e q;unfold yT at e;split at e
 .rename_i es k;obtain⟨ns,e1,e⟩:=oBq.mp e;split at e
  .rename_i hk;cases e;obtain⟨v,ws,rfl,h1,h2⟩:=rs.cons_inv;rw[h2.nil_inv];cases h1;rw[tU e1]at rx;obtain⟨p,us,rfl,h3,h4⟩:=rx.list_inv;rw[qc h4]at h3;exact⟨p,ns,k,rfl,rfl,qJ.of h3,hk,q _ .int⟩
  .cases e
 .cases e
def Ib(a:ME):ME:=λS=>(a S).bind λx=>match x.1 with
 | .list ds=>(uf ds).map λrs=>(.int (rs.countP (·=([]:List Int)):Nat),x.2)
 |_=>none
theorem NY(ha:SR K te a):SR K (Mh K "list" J4 te (rE (Pb uu) uu)) (Ib a):=by
 intro H₀ Hf₀ Hf S σ H Fs d S' R e Q q;obtain⟨x,e1,e⟩:=oBq.mp e;refine ha R (d:=x.1) (S':=x.2) e1 _ λHf1 H1 Fs1 v t1 R1 r1=>?_
 split at e
 .rename_i ds hx;obtain⟨rs,e2,e⟩:=oMq.mp e;cases e;rw[hx,Cf e2]at r1;obtain⟨p,us,rfl,h3,h4⟩:=r1.list_inv;obtain⟨ps,rfl,hE⟩:=xn h4;refine⟨.inl ⟨rfl,_,qJ.of h3⟩,aW _,λb hb=>?_⟩
  obtain⟨t4,R4,n1,n2,n3⟩:=R1.new (o:=.lst []) hb;refine⟨p,b,ps,rs,[],rfl,rfl,(by rw[nh (pd h3 hb)];exact h3),hE.same t4.sh,nu,hE.free (H:=H1) hb,q _ _ _ _ (t1.trans t4) R4 .int⟩
 .cases e
def Tn:D->Option Bool
 | .non=>some false
 | .bl b=>some b
 | .int i=>some (i != 0)
 | .list ds=>some (!ds.isEmpty)
 | .tup ds=>some (!ds.isEmpty)
 | .dict ds=>some (!ds.isEmpty)
 |_=>none
def U2(a:ME):MT:=λS=>(a S).bind λx=>(Tn x.1).map λb=>(b,x.2)
end
def oO:AV->List Nat->Option (List AV)
 | .ow avs,[]=>some avs
 | .ow avs,j::js=>(avs[j]?).bind λa=>oO a js
 |_,_=>none
def putAt:AV->List Nat->List AV->AV
 | .ow _,[],as=>.ow as
 | .ow avs,j::js,as=>match avs[j]? with
  |some a=>.ow (avs.set j (putAt a js as))
  |none=>.ow avs
 |a,_,_=>a
def CF(H:Hp):V->List Nat->V->Prop
 |v,[],w=>v=w
 |v,j::js,w=>∃p vs u,v = .ref p/\H p=some (.lst vs)/\vs[j]?=some u/\CF H u js w
section
variable {K:W.Frag}{H₀ Hf₀ Hf Hf' H H':Hp}{S S':AS}{σ:St}{Fs Fs':List (List Addr)}
theorem vW:∀{Fs:List (List Addr)}{F G:List Addr}(i:Nat),Fs.flatten.Nodup->Fs[i]?=some G->F.Nodup->(∀p∈F,p∈G∨p∉Fs.flatten)->(Fs.set i F).flatten.Nodup
 | [],F,G,i,h,e,_,_=>by simp at e
 |E::Gs,F,G,0,h,e,hF,hd=>by
  simp at e;subst e;rw[cS,fCq,nAq];rw[fCq,nAq]at h;refine⟨hF,h.2.1,λa ha b hb e=>?_⟩
  subst e;rcases hd a ha with z|z
  .exact h.2.2 a z a hb rfl
  .exact z (by rw[fCq];exact ar _ hb)
 |E::Gs,F,G,i+1,h,e,hF,hd=>by
  rw[dQ,fCq,nAq];rw[fCq,nAq]at h;have e':Gs[i]?=some G:=by simpa using e
  refine⟨h.1,vW i h.2.1 e' hF λp hp=>(hd p hp).imp id λz m=>z (by rw[fCq];exact ar _ m),λa ha b hb e=>?_⟩
  subst e;rcases qp hb with q|q
  .rcases hd a q with z|z
   .exact h.2.2 a ha a (mFq.mpr ⟨G,mGq e',z⟩) rfl
   .exact z (by rw[fCq];exact bE _ ha)
  .exact h.2.2 a ha a q rfl
theorem AM:∀{Fs:List (List Addr)}{F G:List Addr}{i j:Nat}{p:Addr},Fs.flatten.Nodup->Fs[i]?=some F->Fs[j]?=some G->i≠j->p∈F->p∉G
 | [],F,G,i,j,p,_,e,_,_,_,_=>by simp at e
 |E::Es,F,G,0,0,p,h,e,f,n,_,_=>n rfl
 |E::Es,F,G,0,j+1,p,h,e,f,n,hp,m=>by
  simp at e;subst e;rw[fCq,nAq]at h;exact h.2.2 p hp p (mFq.mpr ⟨G,mGq (i:=j) (by simpa using f),m⟩) rfl
 |E::Es,F,G,i+1,0,p,h,e,f,n,hp,m=>by
  simp at f;subst f;rw[fCq,nAq]at h;exact h.2.2 p m p (mFq.mpr ⟨F,mGq (i:=i) (by simpa using e),hp⟩) rfl
 |E::Es,F,G,i+1,j+1,p,h,e,f,n,hp,m=>by
  rw[fCq,nAq]at h;exact AM h.2.1 (i:=i) (j:=j) (by simpa using e) (by simpa using f) (λz=>n (by rw[z])) hp m
theorem oh.path:∀{path:List Nat}{av:AV}{v:V}{F:List Addr}{as:List AV},oh K Hf H av v F->F.Nodup->oO av path=some as->∃p vs Gs,CF H v path (.ref p)/\H p=some (.lst vs)/\Hf p=none/\nZ K Hf H as vs Gs/\p∈F/\p∉Gs.flatten/\Gs.flatten.Nodup/\(∀q∈Gs.flatten,q∈F) /\
  ∀as' vs' Gs',nZ K Hf (oK H p (.lst vs')) as' vs' Gs'->(p::Gs'.flatten).Nodup->(∀q∈Gs'.flatten,q∈Gs.flatten∨q∉F)->∃F',oh K Hf (oK H p (.lst vs')) (putAt av path as') v F'/\F'.Nodup/\∀q∈F',q∈F∨q∈Gs'.flatten
 | [],av,v,F,as,r,nd,e=>by
  cases av with
  |ow avs =>
   cases e;obtain⟨p,vs,Gs,rfl,rfl,h1,h2,h3⟩:=r.ow_inv;have n:=aH.mp nd;refine⟨p,vs,Gs,rfl,h1,h2,h3,by simp,n.1,n.2,λq hq=>mCo _ hq,λas' vs' Gs' r' nd' _=>⟨p::Gs'.flatten,oh.news nu h2 r',nd',λq hq=>?_⟩⟩
   rcases aj.mp hq with z|z
   .exact .inl (by rw[z];simp)
   .exact .inr z
  |_=>cases e
 |j::js,av,v,F,as,r,nd,e=>by
  cases av with
  |ow avs =>
   obtain⟨a,e1,e2⟩:=oBq.mp (show (avs[j]?).bind (λa=>oO a js)=some as from e)
   obtain⟨p0,vs0,Gs0,rfl,rfl,h1,h2,h3⟩:=r.ow_inv;have n:=aH.mp nd;have hj:j<avs.length:=(gSq.mp e1).1;have hv:vs0[j]?=some (vs0[j]'(h3.1 ▸ hj)):=gEg _;have hg:Gs0[j]?=some (Gs0[j]'(h3.2.1 ▸ hj)):=gEg _;generalize vs0[j]'(h3.1 ▸ hj)=vj at hv;generalize Gs0[j]'(h3.2.1 ▸ hj)=Fj at hg;have rj:=h3.2.2 j a vj Fj e1 hv hg;have ndj:Fj.Nodup:=bI.sublist (aQ (mGq hg)) n.2;have sub:∀q∈Fj,q∈Gs0.flatten:=λq hq=>oI hg hq
   obtain⟨p,vs,Gs,g1,g2,g3,g4,g5,g6,g6',g7,g8⟩:=oh.path rj ndj e2;have pne:p0≠p:=λz=>n.1 (z ▸ sub p g5)
   refine⟨p,vs,Gs,⟨p0,vs0,vj,rfl,h1,hv,g1⟩,g2,g3,g4,mCo _ (sub p g5),g6,g6',λq hq=>mCo _ (sub q (g7 q hq)),λas' vs' Gs' r' nd' hd=>?_⟩
   obtain⟨F',k1,k2,k3⟩:=g8 as' vs' Gs' r' nd' λq hq=>(hd q hq).imp id λz m=>z (mCo _ (sub q m))
   have hF':∀q∈F',q∈Fj∨q∉Gs0.flatten:=λq hq=>by
    rcases k3 q hq with z|z
    .exact .inl z
    .rcases hd q z with y|y
     .exact .inl (g7 q y)
     .exact .inr λm=>y (mCo _ m)
   refine⟨p0::(Gs0.set j F').flatten,?_,aH.mpr ⟨λm=>?_,vW j n.2 hg k2 hF'⟩,λq hq=>?_⟩
   .show oh K Hf (oK H p (.lst vs')) (match avs[j]? with|some a=>.ow (avs.set j (putAt a js as'))|none=>.ow avs) (.ref p0) _
    rw[e1];refine .ow (vs:=vs0) (by rw[nh pne];exact h1) h2 (by rw[lZq];exact h3.1) (by rw[lZq,lZq];exact h3.2.1) λi b w G q1 q2 q3=>?_
    rw[bo]at q1 q3
    by_cases hij:j=i
    .subst hij;rw[nK rfl,nK hj]at q1;rw[nK rfl,nK (h3.2.1 ▸ hj)]at q3;rw[hv]at q2;cases q1;cases q2;cases q3;exact k1
    .rw [nS hij]at q1 q3;exact(h3.2.2 i b w G q1 q2 q3).keepUpd λm=>AM n.2 hg q3 hij g5 m
   .rcases qp m with z|z
    .rcases k3 p0 z with y|y
     .exact n.1 (sub p0 y)
     .rcases hd p0 y with x|x
      .exact n.1 (sub p0 (g7 p0 x))
      .exact x (by simp)
    .exact n.1 z
   .rcases aj.mp hq with z|z
    .exact .inl (by rw[z];simp)
    .rcases qp z with z|z
     .exact (k3 q z).imp (λy=>mCo _ (sub q y)) id
     .exact .inl (mCo _ z)
  |_=>cases e
theorem oz.turnAny(R:oz K H₀ Hf₀ Hf S σ H Fs) {i:Nat}{av:AV}{p:Addr}{o:HO}{v:V}{F F':List Addr}(s1:σ[i]?=some (some v)) (s2:Fs[i]?=some F) (hp:p∈F) (r:oh K Hf (oK H p o) av v F') (nd:F'.Nodup)
  (hf:∀q∈F',H₀ q=none/\q∉(Fs.set i []).flatten):oz K H₀ Hf₀ Hf (S.set i (some av)) σ (oK H p o) (Fs.set i F'):=by
 have hin:p∈Fs.flatten:=mFq.mpr ⟨F,mGq s2,hp⟩;have pn:Hf p=none:=(R.mem hin).2;have p0:H₀ p=none:=R.fresh p hin;have out:=su R.nd s2 hp;have R1:oz K H₀ Hf₀ Hf (S.set i none) σ (oK H p o) (Fs.set i []):=by
  refine⟨by simp[R.len],by simp[R.lenF],λj a ej=>?_,λj ej=>?_,ql i R.nd aT (λp hp=>by cases hp),λp hp=>R.fresh p (pI hp),λb u e=>?_,λb u e=>?_,R.lim,R.sf⟩
  .rw [bo]at ej
   by_cases hij:i=j
   .subst hij;rw[nK rfl]at ej;split at ej <;> cases ej
   .rw [nS hij]at ej;obtain⟨w,G,f1,f2,q⟩:=R.rep j a ej;refine⟨w,G,f1,by rw[ax hij];exact f2,q.keep (.refl _) (λc hc=>nh λe=>out ?_) λc hc=>(q.owned c hc).2⟩
    subst e;exact mFq.mpr ⟨G,mGq (i:=j) (by rw[ax hij];exact f2),hc⟩
  .rw [bo]at ej
   by_cases hij:i=j
   .subst hij;rw[nK rfl]at ej;split at ej
    .rename_i hi;rw[aD (R.lenF.symm ▸ hi)]
    .cases ej
   .rw [nS hij]at ej;rw[ax hij];exact R.emp j ej
  .rw [nh λz=>by rw[z,pn]at e;cases e]
   exact R.sub b u e
  .rw [nh λz=>by rw[z,p0]at e;cases e]
   exact R.fr b u e
 exact R1.again (F:=F) s1 r nd hf
theorem oz.kill(R:oz K H₀ Hf₀ Hf S σ H Fs) (x:Nat):oz K H₀ Hf₀ Hf (S.set x none) σ H (Fs.set x []):=by
 refine⟨by simp[R.len],by simp[R.lenF],λj a ej=>?_,λj ej=>?_,ql x R.nd aT (λp hp=>by cases hp),λp hp=>R.fresh p (pI hp),R.sub,R.fr,R.lim,R.sf⟩
 .rw [bo]at ej
  by_cases hij:x=j
  .subst hij;rw[nK rfl]at ej;split at ej <;> cases ej
  .rw [nS hij]at ej;obtain⟨w,G,f1,f2,q⟩:=R.rep j a ej;exact⟨w,G,f1,by rw[ax hij];exact f2,q⟩
 .rw [bo]at ej
  by_cases hij:x=j
  .subst hij;rw[nK rfl]at ej;split at ej
   .rename_i hi;rw[aD (R.lenF.symm ▸ hi)]
   .cases ej
  .rw [nS hij]at ej;rw[ax hij];exact R.emp j ej
theorem oz.any(R:oz K H₀ Hf₀ Hf (S.set x none) σ H Fs) (v:V):oz K H₀ Hf₀ Hf (S.set x none) (σ.set x (some v)) H Fs where
 len:=by rw[R.len,lZq]
 lenF:=R.lenF
 rep:=λi av e=>by
  by_cases hij:x=i
  .subst hij;rw[bo]at e;rw[nK rfl]at e;split at e <;> cases e
  .obtain ⟨w,G,f1,f2,q⟩:=R.rep i av e;exact⟨w,G,by rw[ax hij];exact f1,f2,q⟩
 emp:=R.emp
 nd:=R.nd
 fresh:=R.fresh
 sub:=R.sub
 fr:=R.fr
 lim:=R.lim
 sf:=R.sf
end
abbrev aI(ns:List Int):AV:=.ow (ns.map λn=>.sh (.int n))
def yY:List AV->Option (List Int)
 | []=>some []
 | .sh (.int i)::r=>(yY r).map (i :: ·)
 |_=>none
def AH:List AV->Option (List (List Int))
 | []=>some []
 | .ow as::r=>(yY as).bind λns=>(AH r).map (ns :: ·)
 |_=>none
theorem Fl:∀{as:List AV}{ns:List Int},yY as=some ns->as=ns.map λn=>.sh (.int n)
 | [],ns,h=>by cases h;rfl
 |a::as,ns,h=>by
  cases a with
  |sh d =>
   cases d with
   |int i =>
    obtain⟨ms,h1,h2⟩:=oMq.mp (show (yY as).map (i :: ·)=some ns from h)
    subst h2;rw[Fl h1];rfl
   |_=>cases h
  |_=>cases h
theorem ER:∀{as:List AV}{rs:List (List Int)},AH as=some rs->as=rs.map aI
 | [],rs,h=>by cases h;rfl
 |a::as,rs,h=>by
  cases a with
  |ow es =>
   obtain⟨r,h1,h⟩:=oBq.mp (show (yY es).bind (λns=>(AH as).map (ns :: ·))=some rs from h)
   obtain⟨ts,h2,h3⟩:=oMq.mp h;subst h3;rw[ER h2,Fl h1];rfl
  |_=>cases h
@[simp] theorem Iy (ns:List Int):yY (ns.map λn=>.sh (.int n))=some ns:=by
 induction ns with
 |nil=>rfl
 |cons n ns ih=>show (yY (ns.map λn=>.sh (.int n))).map (n :: ·)=_;rw[ih];rfl
@[simp] theorem IT (rs:List (List Int)):AH (rs.map aI)=some rs:=by
 induction rs with
 |nil=>rfl
 |cons r rs ih=>show (yY (r.map λn=>.sh (.int n))).bind (λns=>(AH (rs.map aI)).map (ns :: ·))=_;rw[Iy,ih];rfl
def CY(k:MK):MK:=λS=>(k S).bind λx=>match x.1 with
 | .ow avs=>(AH avs).map λrs=>(.ow ((Lj rs).map aI),x.2)
 |_=>none
section
variable {K:W.Frag}{Hf H:Hp}
theorem GS{ns:List Int}{v:V}{F:List Addr}(h:oh K Hf H (aI ns) v F):∃p,v = .ref p/\F=[p]/\H p=some (.lst (ns.map V.int))/\Hf p=none:=by
 obtain⟨p,vs,Gs,rfl,rfl,h1,h2,h3⟩:=h.ow_inv;have e:∀{ns:List Int}{vs:List V}{Gs:List (List Addr)},nZ K Hf H (ns.map λn=>AV.sh (.int n)) vs Gs->vs=ns.map V.int/\Gs.flatten=[]:=by
  intro ns
  induction ns with
  |nil =>
   intro vs Gs h;obtain⟨a,b⟩:=h.nil_inv;exact⟨a,by rw[b];rfl⟩
  |cons n ns ih =>
   intro vs Gs h;obtain⟨v,ws,F,Gs',rfl,rfl,r1,r2⟩:=nZ.cons_inv (a:=.sh (.int n)) h;obtain⟨f1,f2⟩:=r1.sh_inv;subst f1;cases f2;obtain⟨g1,g2⟩:=ih r2;rw[g1];exact⟨rfl,by rw[fCq,g2];rfl⟩
 obtain⟨e1,e2⟩:=e h3;rw[e2];subst e1;exact⟨p,rfl,rfl,h1,h2⟩
theorem Ph{ns:List Int}{p:Addr}(h1:H p=some (.lst (ns.map V.int))) (h2:Hf p=none):oh K Hf H (aI ns) (.ref p) [p]:=by
 have:=oh.new (K:=K) (Hf:=Hf) (H:=H) (ds:=ns.map D.int) h1 h2 (sW ns);rw[←wz]at this;exact this
theorem wu:∀{rs:List (List Int)}{vs:List V}{Gs:List (List Addr)},nZ K Hf H (rs.map aI) vs Gs->∃ps,vs=ps.map V.ref/\Gs=ps.map (λp=>[p])/\pY H ps rs/\∀p∈ps,Hf p=none
 | [],vs,Gs,h=>by
  obtain⟨a,b⟩:=h.nil_inv;exact⟨[],a,b,.nil,λp hp=>by cases hp⟩
 |r::rs,vs,Gs,h=>by
  obtain⟨v,ws,F,Gs',rfl,rfl,r1,r2⟩:=nZ.cons_inv (a:=aI r) (as:=rs.map aI) h;obtain⟨p,rfl,rfl,h1,h2⟩:=GS r1;obtain⟨ps,rfl,rfl,h3,h4⟩:=wu r2;exact⟨p::ps,rfl,rfl,pY.cons_iff.mpr ⟨h1,h3⟩,λq hq=>(aj.mp hq).elim (λe=>e ▸ h2) (h4 q)⟩
theorem AY:∀{rs:List (List Int)}{ps:List Addr},pY H ps rs->(∀p∈ps,Hf p=none)->nZ K Hf H (rs.map aI) (ps.map V.ref) (ps.map λp=>[p])
 | [],[],_,_=>.nil
 | [],_::_,h,_=>by have:=h.length;simp at this
 |_::_,[],h,_=>by have:=h.length;simp at this
 |r::rs,p::ps,h,n=>by
  obtain⟨h1,h2⟩:=pY.cons_iff.mp h;exact .cons (Ph h1 (n p (by simp))) (AY h2 λq hq=>n q (mCo _ hq))
theorem EX(ps:List Addr):(ps.map λp=>[p]).flatten=ps:=by
 induction ps with
 |nil=>rfl
 |cons p ps ih=>rw[ak,fCq,ih];rfl
theorem Ih{te:TE}{k:MK}(hk:SK K te k):SK K (Mj (λxs H Q=>∃(a:Addr) (ps:List Addr) (rs:List (List Int)),xs=[.ref a]/\qJ K H a (ps.map V.ref)/\pY H ps rs /\
  ∀p qs,H p=none->qs.Perm ps->pY (oK H p (.lst (qs.map V.ref))) qs (Lj rs)->Q (.ref p) (oK H p (.lst (qs.map V.ref)))) (rE te uu)) (CY k):=by
 intro H₀ Hf₀ Hf S σ H Fs av S' R e Q q;obtain⟨x,e1,e⟩:=oBq.mp e;refine hk R (a:=x.1) (S':=x.2) e1 _ λHf1 H1 Fs1 v F t1 R1 r1 o1=>?_
 split at e
 .rename_i avs hx;obtain⟨rs,e2,e⟩:=oMq.mp e;cases e;rw[hx,ER e2]at r1;obtain⟨p0,vs,Gs,rfl,rfl,h1,h2,h3⟩:=r1.ow_inv;obtain⟨ps,rfl,rfl,hE,hn⟩:=wu h3;rw[EX]at o1;refine⟨p0,ps,rs,rfl,qJ.of h1,hE,λp qs hp hq hE2=>?_⟩
  obtain⟨t4,R4,n1,n2,n3⟩:=R1.new (o:=.lst (qs.map V.ref)) hp;have pq:p∉qs:=λm=>hE.free (H:=H1) hp (hq.mem_iff.mp m)
  have hm:∀z∈qs,z∈p0::ps:=λz hz=>mCo _ (hq.mem_iff.mp hz)
  refine q _ _ _ (.ref p) (p::(qs.map λp=>[p]).flatten) (t1.trans t4) R4 (oh.news nu n1 (AY hE2 λz hz=>hn z (hq.mem_iff.mp hz))) ?_
  rw[EX];refine⟨aH.mpr ⟨pq,hq.nodup_iff.mpr (aH.mp o1.nd).2⟩,λz hz=>?_,λz hz=>?_,λz hz=>?_⟩
  .rcases aj.mp hz with y|y
   .rw [y];exact n2
   .exact o1.fr z (hm z y)
  .rcases aj.mp hz with y|y
   .rw [y];exact n3
   .exact o1.out z (hm z y)
  .rcases aj.mp hz with y|y
   .rw [y];exact .inl (t1.sh.free hp)
   .exact o1.new z (hm z y)
 .cases e
def NM:AV->Option D
 | .sh d=>if d.scal=true then some d else none
 |_=>none
def vR(f:MF) (a:ML):ME:=λS=>(a S).bind λx=>(f x.1).bind λr=>(NM r).map λd=>(d,x.2)
theorem zC{f:MF}{ta:TA}{a:ML}(ha:Ol K ta a):SR K (xV (qb K f) [] E0 ta) (vR f a):=by
 intro H₀ Hf₀ Hf S σ H Fs d S' R e Q q;obtain⟨x,e1,e⟩:=oBq.mp e;obtain⟨r,e2,e⟩:=oBq.mp e;obtain⟨z,e3,e⟩:=oMq.mp e;cases e;refine ha R (ds:=x.1) (S':=x.2) e1 _ λHf1 H1 Fs1 vs t1 R1 r1=>?_
 rw[aNq];refine⟨H1,x.1,r,.refl _,r1,e2,λHf' H' v F s1 s2 s3 l rv nd fr=>?_⟩
 have t2:wF Hf1 H1 Fs1 Hf1 H' Fs1:=⟨.refl _,s2,λ_ h=>h,λb h g=>absurd h g⟩
 cases r with
 |sh d' =>
  simp only[NM]at e3;split at e3
  .rename_i hs;cases e3;exact q _ _ _ v (t1.trans t2) (R1.laid s2) (rv.sh_inv.2.scal hs)
  .cases e3
 |_=>cases e3
end
section
variable (S:AS)
@[simp] theorem Sw (i:Nat):mZ i S=(S[i]?.join).map λa=>(nj a,S):=rfl
@[simp] theorem Sy (i:Nat):oS i S=(S[i]?.join).map λa=>(.sh (nj a),S.set i (some (.sh (nj a)))):=rfl
@[simp] theorem Su (i:Nat):Gi i S=(S[i]?.join).map λa=>(a,S.set i none):=rfl
@[simp] theorem TJ (k:MK):rOf k S=(k S).map λx=>(nj x.1,x.2):=rfl
@[simp] theorem Tt (m:ME):kSc m S=(m S).bind λx=>if x.1.scal then some (.sh x.1,x.2) else none:=rfl
@[simp] theorem Sk (k:MK):ux k S=(k S).map λx=>(.sh (nj x.1),x.2):=rfl
@[simp] theorem Vw (d:D):rC d S=if d.scal then some (d,S) else none:=rfl
@[simp] theorem Tu (f:D->D->Option D) (a b:ME):oV f a b S=(a S).bind λx=>(b x.2).bind λy=>(f x.1 y.1).map λd=>(d,y.2):=rfl
@[simp] theorem TX (f:D->Option D) (a:ME):Ju f a S=(a S).bind λx=>(f x.1).map λd=>(d,x.2):=rfl
@[simp] theorem P8 (a b:MT):B0 a b S=(a S).bind λx=>if x.1=true then b x.2 else some (false,x.2):=rfl
@[simp] theorem Rg (a b:MT):Fe a b S=(a S).bind λx=>if x.1=true then some (true,x.2) else b x.2:=rfl
@[simp] theorem P3 (a:MT):Hh a S=(a S).map λx=>(!x.1,x.2):=rfl
def Sg:D->Option Bool
 | .bl b=>some b
 |_=>none
@[simp] theorem TN (a:ME):uw a S=(a S).bind λx=>(Sg x.1).map λb=>(b,x.2):=by
 show (a S).bind _=_;congr 1;funext x;obtain⟨d,S'⟩:=x;cases d <;> rfl
@[simp] theorem Nh (b:Bool):Sg (.bl b)=some b:=rfl
@[simp] theorem RG:nY S=some ([],S):=rfl
@[simp] theorem Qi (k:MK) (r:MA):nz k r S=(k S).bind λx=>(r x.2).map λy=>(x.1::y.1,y.2):=rfl
@[simp] theorem QG:nO S=some ([],S):=rfl
@[simp] theorem NK (k:ME) (r:ML):ni k r S=(k S).bind λx=>(r x.2).map λy=>(x.1::y.1,y.2):=rfl
@[simp] theorem Rh (a:MA):sq a S=(a S).bind λx=>uO (x.1.length<=qB) (some (.ow x.1,x.2)):=rfl
@[simp] theorem RQ (a:MA):BE a S=(a S).bind λx=>uO (x.1.length<=qB) (some (.sh (.tup (x.1.map nj)),x.2)):=rfl
@[simp] theorem Sz (a b:ML):IL a b S=(a S).bind λx=>(b x.2).bind λy=>uO (x.1.length+y.1.length<=qB) (some (.ow ((x.1++y.1).map .sh),y.2)):=rfl
@[simp] theorem QX:sJ S=some (none,S):=rfl
@[simp] theorem Qp (m:ME):qm m S=(m S).bind λx=>(intOf x.1).map λi=>(some i,x.2):=by
 show (m S).bind _=_;congr 1;funext x;obtain⟨d,S'⟩:=x;cases d <;> rfl
@[simp] theorem Jk (i:Int):intOf (.int i)=some i:=rfl
@[simp] theorem TL (l:ML) (lo hi:MO):Br l lo hi S=(l S).bind λx=>(lo x.2).bind λy=>(hi y.2).map λz=>(.ow ((vZ x.1 y.1 z.1).map .sh),z.2):=rfl
@[simp] theorem TV (l:ML) (b:ME):Mn l b S=(l S).bind λx=>(b x.2).bind λy=>(intOf y.1).bind λi=>(atI x.1 i).map λd=>(.sh d,y.2):=by
 show (l S).bind _=_;congr 1;funext x;show (b x.2).bind _=_;congr 1;funext y;obtain⟨d,S'⟩:=y;cases d <;> rfl
@[simp] theorem Tj (f:List D->Option D) (a:ML):vQ f a S=(a S).bind λx=>(f x.1).map λd=>(d,x.2):=rfl
@[simp] theorem PV (f:MF) (a:MA):oM f a S=(a S).bind λx=>(f (x.1.map nj)).map λr=>(r,x.2):=rfl
@[simp] theorem O1 (f:MF) (a:ML):vR f a S=(a S).bind λx=>(f x.1).bind λr=>(NM r).map λd=>(d,x.2):=rfl
@[simp] theorem Qg:rY S=some (.nx S):=rfl
def Kn(o:Option CZ) (b:MS):Option CZ:=o.bind λo=>match o with
 | .nx S'=>b S'
 |o=>some o
@[simp] theorem KS (b:MS):Kn (some (.nx S)) b=b S:=rfl
@[simp] theorem KQ (a:AV) (b:MS):Kn (some (.rt a)) b=some (.rt a):=rfl
@[simp] theorem Rn (a b:MS):nQ a b S=Kn (a S) b:=rfl
@[simp] theorem RZ (i:Nat) (k:MK):oH i k S=(k S).map λx=>.nx (x.2.set i (some x.1)):=rfl
@[simp] theorem RL (k:MK):sH k S=(k S).map λx=>.rt x.1:=rfl
@[simp] theorem Tw (c:MT) (a b:MS):DL c a b S=(c S).bind λx=>if x.1=true then a x.2 else b x.2:=rfl
@[simp] theorem Sx (i:Nat) (k:MK):vY i k S=(pS S i).bind λ_=>(k S).bind λx=>(pS x.2 i).bind λavs=>uO (avs.length<qB) (some (.nx (x.2.set i (some (.ow (avs++[x.1])))))):=rfl
@[simp] theorem RF (i:Nat) (l:ML):J7 i l S=(pS S i).bind λ_=>(l S).bind λx=>(pS x.2 i).bind λavs=>uO (avs.length+x.1.length<=qB) (some (.nx (x.2.set i (some (.ow (avs++x.1.map .sh)))))):=rfl
@[simp] theorem Pu (i:Nat) (b:ME) (k:MK):AZ i b k S=(ux k S).bind λx=>(vV x.2 i).bind λ_=>(b x.2).bind λy=>(vV y.2 i).bind λkvs=>(uC y.1).bind λkey =>
 uO (kvs.length<qB) (some (.nx (y.2.set i (some (.owd (wA kvs key (nj x.1))))))):=rfl
def CS:D->Option (List (nX×D))
 | .dict kvs=>some kvs
 |_=>none
@[simp] theorem Eo (kvs:List (nX×D)):CS (.dict kvs)=some kvs:=rfl
@[simp] theorem Ir (i:Int):uC (.int i)=some (.inl i):=rfl
@[simp] theorem JI (a b:ME):xj a b S=(a S).bind λx=>(b x.2).bind λy=>(CS y.1).bind λkvs=>(uC x.1).map λkey=>(.bl (!(getD kvs key).isSome),y.2):=by
 show (a S).bind _=_;congr 1;funext x;show (b x.2).bind _=_;congr 1;funext y;obtain⟨d,S'⟩:=y;cases d <;> rfl
@[simp] theorem Pn (a b:ME):zk a b S=(a S).bind λx=>(b x.2).bind λy=>(CS x.1).bind λkvs=>(uC y.1).bind λkey=>(getD kvs key).map λd=>(d,y.2):=by
 show (a S).bind _=_;congr 1;funext x;show (b x.2).bind _=_;congr 1;funext y;obtain⟨d,S'⟩:=x;cases d <;> rfl
@[simp] theorem O2:EN S=some (.owd [],S):=rfl
@[simp] theorem R7 (x:Nat) (k:MK) (body:MS):Df x k body S=(ux k S).bind λy=>(sD (nj y.1)).bind λds=>tw x body ds y.2:=rfl
@[simp] theorem Nw (x:Nat) (a:ML) (body:MS):Gy x a body S=(a S).bind λy=>(Cz y.1).bind λds=>tw x body ds y.2:=rfl
@[simp] theorem QV (x y:Nat) (k:MK) (body:MS):Hb x y k body S=(ux k S).bind λz=>(sD (nj z.1)).bind λds=>yO x y body 0 ds z.2:=rfl
@[simp] theorem Qd (src:MI) (fr:List Nat) (tf:MT) (te:MK):uD src fr tf te S=(src S).bind λy=>(fzAll fr y.2).bind λS2=>(CD S2 fr).bind λcap=>uO (y.1.length<=qB) ((qM tf te cap y.1).map λavs=>(.ow avs,S2)):=rfl
@[simp] theorem RC (k:MK):CI k S=(ux k S).bind λy=>(sD (nj y.1)).map λds=>(ds,y.2):=rfl
@[simp] theorem Up (a:ML):Q8 a S=(a S).bind λy=>(Cz y.1).map λds=>(ds,y.2):=rfl
@[simp] theorem Ii:fzAll [] S=some S:=rfl
@[simp] theorem GR (j:Nat) (js:List Nat):fzAll (j::js) S=(S[j]?.join).bind λa=>fzAll js (S.set j (some (.sh (nj a)))):=rfl
@[simp] theorem LY:CD S []=some []:=rfl
@[simp] theorem IA (j:Nat) (js:List Nat):CD S (j::js)=(PY S[j]?.join).bind λa=>(CD S js).map (some a :: ·):=rfl
@[simp] theorem PX (l:ML):xK l S=(l S).map λx=>(.ow (x.1.map .sh),x.2):=rfl
@[simp] theorem MY (l:ML):Gn l S=(l S).bind λx=>(qr x.1).map λns=>(.ow ((qK ns).map λn=>.sh (.int n)),x.2):=rfl
def PK:AV->Option (List AV)
 | .ow avs=>some avs
 |_=>none
@[simp] theorem NN (avs:List AV):PK (.ow avs)=some avs:=rfl
@[simp] theorem KG (k:MK):CY k S=(k S).bind λx=>(PK x.1).bind λavs=>(AH avs).map λrs=>(.ow ((Lj rs).map aI),x.2):=by
 show (k S).bind _=_;congr 1;funext x;obtain⟨d,S'⟩:=x;cases d <;> rfl
@[simp] theorem T9 (T:String) (f:D->List D->Option D) (a:ME) (as:ML):Rb T f a as S=(a S).bind λx=>if So T x.1=true then (as x.2).bind λy=>(f x.1 y.1).map λd=>(d,y.2) else none:=rfl
def Oo:D->Option (List D)
 | .list ds=>some ds
 |_=>none
@[simp] theorem FC (ds:List D):Oo (.list ds)=some ds:=rfl
@[simp] theorem O6 (a:ME):Ib a S=(a S).bind λx=>(Oo x.1).bind λds=>(uf ds).map λrs=>(.int (rs.countP (·=([]:List Int)):Nat),x.2):=by
 show (a S).bind _=_;congr 1;funext x;obtain⟨d,S'⟩:=x;cases d <;> rfl
def Ro:AV->Option (List D)
 | .sh (.list ds)=>some ds
 | .ow avs=>some (avs.map nj)
 |_=>none
@[simp] theorem Q0 (ds:List D):Ro (.sh (.list ds))=some ds:=rfl
@[simp] theorem O5 (avs:List AV):Ro (.ow avs)=some (avs.map nj):=rfl
@[simp] theorem TM (k:MK):lOf k S=(k S).bind λx=>(Ro x.1).map λds=>(ds,x.2):=by
 show (k S).bind _=_;congr 1;funext x;obtain⟨a,S'⟩:=x;cases a with
 |sh d=>cases d <;> rfl
 |_=>rfl
end
@[simp] theorem Ks (ds:List D):(ds.map AV.sh).map nj=ds:=by
 rw[mPq];have:nj∘AV.sh=id:=by funext d;simp
 rw[this,dg]
def Tg:AV->AV
 | .ow avs=>.ow ((avs.map nj).map .sh)
 |a=>a
@[simp] theorem Qb (d:D):Tg (.sh d) = .sh d:=rfl
@[simp] theorem Qc (avs:List AV):Tg (.ow avs) = .ow ((avs.map nj).map .sh):=rfl
theorem Bm{S:AS}{i:Nat}{a:AV}(h:S[i]?=some (some a)):S.set i (some a)=S:=by
 obtain⟨hk,ev⟩:=gSq.mp h;rw[←ev];exact eJ hk
@[simp] theorem Se (S:AS) (i:Nat):D9 i S=(S[i]?.join).bind λa=>(Ro a).map λds=>(ds,S.set i (some (Tg a))):=by
 unfold D9;cases e:S[i]?.join with
 |none=>rfl
 |some a =>
  cases a with
  |sh d =>
   cases d with
   |list ds =>
    show some (ds,S)=some (ds,S.set i (some (.sh (.list ds))));rw[Bm (oq e)]
   |_=>rfl
  |ow avs=>rfl
  |owd kvs=>rfl
  |owl kvs=>rfl
def S5:AV->Option (List D)
 | .sh (.scr ns)=>some (ns.map .int)
 |a=>Ro a
@[simp] theorem M5 (ns:List Int):S5 (.sh (.scr ns))=some (ns.map .int):=rfl
@[simp] theorem Pz (ds:List D):S5 (.sh (.list ds))=some ds:=rfl
@[simp] theorem Qr (avs:List AV):S5 (.ow avs)=some (avs.map nj):=rfl
@[simp] theorem Sf (S:AS) (i:Nat):qq i S=(S[i]?.join).bind λa=>(S5 a).map λds=>(ds,S.set i (some (Tg a))):=by
 unfold qq;cases e:S[i]?.join with
 |none=>rfl
 |some a =>
  cases a with
  |sh d =>
   cases d with
   |list ds =>
    show some (ds,S)=some (ds,S.set i (some (.sh (.list ds))));rw[Bm (oq e)]
   |scr ns =>
    show some (ns.map D.int,S)=some (ns.map D.int,S.set i (some (.sh (.scr ns))));rw[Bm (oq e)]
   |_=>rfl
  |ow avs=>rfl
  |owd kvs=>rfl
  |owl kvs=>rfl
@[simp] theorem Mb (i:Int):(D.int i).scal=true:=rfl
@[simp] theorem Nb (i:Bool):(D.bl i).scal=true:=rfl
@[simp] theorem Mx (i:String):(D.ty i).scal=true:=rfl
@[simp] theorem Kz (i:Int):NM (.sh (.int i))=some (.int i):=rfl
@[simp] theorem NU (i j:Int):Fw (.int i) (.int j)=some (.bl (decide (i=j))):=rfl
@[simp] theorem Ia (i j:Int):Q6 (.int i) (.int j)=some (.bl (!decide (i=j))):=rfl
@[simp] theorem IZ (ds:List D):qD [.list ds]=some (.int ds.length):=rfl
@[simp] theorem Kq (ns:List Int):qD [.scr ns]=some (.int ns.length):=rfl
@[simp] theorem DE (ds:List D):sD (.list ds)=some ds:=rfl
@[simp] theorem KL (ds:List D) (i:Int):MJ (.list ds) (.int i)=atI ds i:=rfl
@[simp] theorem N7 (ns:List Int) (i:Int):MJ (.scr ns) (.int i)=(atI ns i).map .int:=rfl
@[simp] theorem NX (d:D):PY (some (.sh d))=some (.sh d):=rfl
@[simp] theorem L1 (ds:List D):So "list" (.list ds)=true:=rfl
theorem M0(S:AS) (i:Nat):pS S i=(S[i]?.join).bind PK:=by
 unfold pS;cases S[i]?.join with
 |none=>rfl
 |some a=>cases a <;> rfl
def KA:AV->Option (List (nX×D))
 | .owd kvs=>some kvs
 |_=>none
@[simp] theorem IS (kvs:List (nX×D)):KA (.owd kvs)=some kvs:=rfl
theorem Kp(S:AS) (i:Nat):vV S i=(S[i]?.join).bind KA:=by
 unfold vV;cases S[i]?.join with
 |none=>rfl
 |some a=>cases a <;> rfl
theorem Fg{x:Nat}{body:MS}(P:Nat->AS->Prop):∀{ds:List D}{S:AS}{k:Nat},P k S->(∀i d S,ds[i]?=some d->P (k+i) S->∃S',(body (S.set x (some (.sh d)))=some (.nx S')∨body (S.set x (some (.sh d)))=some (.ct S'))/\P (k+i+1) S')->∃S',tw x body ds S=some (.nx S')/\P (k+ds.length) S'
 | [],S,k,h0,_=>⟨S,rfl,h0⟩
 |d::ds,S,k,h0,hs=>by
  obtain⟨S',e,h1⟩:=hs 0 d S rfl h0;have hs':∀i d S,ds[i]?=some d->P (k+1+i) S->∃S',(body (S.set x (some (.sh d)))=some (.nx S')∨body (S.set x (some (.sh d)))=some (.ct S'))/\P (k+1+i+1) S':=λi d S h p=>by
   have:=hs (i+1) d S (by simpa using h) (by rw[show k+(i+1)=k+1+i by lia];exact p)
   rw[show k+(i+1)=k+1+i by lia]at this
   exact this
  obtain⟨S2,e2,h2⟩:=Fg P (k:=k+1) h1 hs';refine⟨S2,?_,by rw[lCq,show k+(ds.length+1)=k+1+ds.length by lia];exact h2⟩
  show (body _).bind _=_;rcases e with e|e <;> (rw[e];exact e2)
theorem zr{x:Nat}{body:MS}(P:Nat->AS->Prop) {ds:List D}{S:AS}(h0:P 0 S) (hs:∀i d S,ds[i]?=some d->P i S->∃S',body (S.set x (some (.sh d)))=some (.nx S')/\P (i+1) S'):∃S',tw x body ds S=some (.nx S')/\P ds.length S':=by
 have:=Fg (x:=x) (body:=body) P (ds:=ds) (k:=0) h0 λi d S h p=>by
  rw[bD]at p ⊢;obtain⟨S',e,q⟩:=hs i d S h p;exact⟨S',.inl e,q⟩
 rw[bD]at this;exact this
theorem LH{x y:Nat}{body:MS}(P:Nat->AS->Prop):∀{ds:List D}{S:AS}{k:Nat},P k S->(∀i d S,ds[i]?=some d->P (k+i) S->∃S',body ((S.set x (some (.sh (.int (k+i:Nat))))).set y (some (.sh d)))=some (.nx S')/\P (k+i+1) S')->∃S',yO x y body k ds S=some (.nx S')/\P (k+ds.length) S'
 | [],S,k,h0,_=>⟨S,rfl,h0⟩
 |d::ds,S,k,h0,hs=>by
  obtain⟨S',e,h1⟩:=hs 0 d S rfl h0;have hs':∀i d S,ds[i]?=some d->P (k+1+i) S->∃S',body ((S.set x (some (.sh (.int (k+1+i:Nat))))).set y (some (.sh d)))=some (.nx S')/\P (k+1+i+1) S':=λi d S h p=>by
   have:=hs (i+1) d S (by simpa using h) (by rw[show k+(i+1)=k+1+i by lia];exact p)
   rw[show k+(i+1)=k+1+i by lia]at this
   exact this
  obtain⟨S2,e2,h2⟩:=LH P (k:=k+1) h1 hs';refine⟨S2,?_,by rw[lCq,show k+(ds.length+1)=k+1+ds.length by lia];exact h2⟩
  show (body ((S.set x (some (.sh (.int (k:Nat))))).set y (some (.sh d)))).bind _=_;rw[fP]at e;rw[e];exact e2
theorem rG{te:MK}{cap:AS}(g:D->AV):∀{ds:List D},(∀d∈ds,∃S',te (some (.sh d)::cap)=some (g d,S'))->qM qL te cap ds=some (ds.map g)
 | [],_=>rfl
 |d::ds,h=>by
  obtain⟨S',e⟩:=h d (by simp)
  show (te (some (.sh d)::cap)).bind (λa=>(qM qL te cap ds).map (a.1 :: ·))=_
  rw[e,rG g λx hx=>h x (mCo _ hx)]
  rfl
theorem yw{α β:Type}(f:α->β) (xs:List α) (lo hi:Option Int):vZ (xs.map f) lo hi=(vZ xs lo hi).map f:=by
 unfold vZ;rw[lMq,List.map_take,List.map_drop]
theorem xh{α:Type}(xs:List α) (i:Nat) (h:i<=xs.length):vZ xs (some (i:Int)) none=xs.drop i:=by
 unfold vZ;rw[HT.zQ,HT.Eh,cB h,cW (by rw[aR];exact af _)]
theorem wX{α:Type}(xs:List α) (i:Nat) (h:i<=xs.length):vZ xs none (some (i:Int))=xs.take i:=by
 unfold vZ;rw[HT.zQ,HT.Eh,cB h,cw,Nat.sub_zero]
theorem D5{α:Type}(xs:List α) (i j:Nat):vZ xs (some (i:Int)) (some (j:Int))=(xs.drop i).take (j-i):=by
 unfold vZ;rw[HT.zQ,HT.zQ]
 by_cases h:i<=xs.length
 .rw [cB h]
  by_cases h2:j<=xs.length
  .rw [cB h2]
  .rw [gZ (by lia),cW (by rw[aR];exact af _),cW (by rw[aR];lia)]
 .have e:min i xs.length=xs.length:=gZ (by lia)
  rw[e,bq (af xs.length),bq (show xs.length<=i by lia)]
  simp
theorem He{α:Type}{xs:List α}{i:Int}(h0:0<=i):atI xs i=xs[i.toNat]?:=by
 unfold atI Ed;rw[nK h0]
 by_cases h:i<xs.length
 .rw [nK h];rfl
 .rw [nS h,bM (by lia)]
  rfl
theorem Oj{α β:Type}(f:α->β) (xs:List α) (i:Int):atI (xs.map f) i=(atI xs i).map f:=by
 unfold atI;rw[lMq];cases Ed xs.length i with
 |none=>rfl
 |some j=>show (xs.map f)[j]?=_;rw[gMq];rfl
theorem Ic{n:Nat}{i:Nat}(h:i<n):Ed n (i:Int)=some i:=by
 unfold Ed;rw[nK (by lia),nK (by lia)]
 simp
theorem zD(ns:List Int):(ns.map D.int).map AV.sh=ns.map λn=>AV.sh (.int n):=by rw[mPq];rfl
theorem C2(ns:List Int):(ns.map λn=>AV.sh (.int n)).map nj=ns.map D.int:=by rw[mPq];exact mCq λn _=>by simp
theorem MD(rs:List (List Int)):(rs.map aI).map nj=rs.map dI:=by
 rw[mPq];refine mCq λr _=>?_
 show nj (.ow (r.map λn=>AV.sh (.int n)))=_
 rw[qk,C2]
theorem Ob(rs:List (List Int)):(rs.map dI).map AV.sh=rs.map λr=>AV.sh (dI r):=by rw[mPq];rfl
theorem og(ns:List Int):nj (aI ns)=dI ns:=by
 show nj (.ow (ns.map λn=>AV.sh (.int n)))=_
 rw[qk,C2]
theorem Nk(i j:Int):yW (.int i) (.int j)=some (.int (i+j)):=uV _
theorem Mu(i j:Int):Ai (.int i) (.int j)=some (.int (i-j)):=uV _
theorem QQ(i j:Int):Q9 (.int i) (.int j)=some (.bl (decide (i<j))):=uV _
theorem Pf(i j:Int):FG (.int i) (.int j)=some (.bl (decide (j<i))):=uV _
theorem Pj(i:Int):Bi (.int i)=some (.int (-i)):=rfl
theorem Us:N4 (.int 10) (.int 40)=some (.int (10 ^ 40)):=vq ⟨by decide,by decide,by decide⟩ _
theorem Lx{i j:Int}(h1:-(2 ^ 64)<i) (h2:i<2 ^ 64):Cy (.int i) (.int j)=some (.int (i*j)):=vq (.inl ⟨h1,h2⟩) _
theorem Ht{i j:Int}(h1:-(2 ^ 64)<j) (h2:j<2 ^ 64):Cy (.int i) (.int j)=some (.int (i*j)):=vq (.inr ⟨h1,h2⟩) _
theorem rO{i j:Int}(h:0<j):rP (.int i) (.int j)=some (.int (i % j)):=vq h _
theorem vH{i j:Int}(h:0<j) (h2:j<1073741824):xl (.int i) (.int j)=some (.int (i / j)):=vq ⟨h,h2⟩ _
theorem SD:(0:Nat)<=qB:=by decide
theorem SJ:(1:Nat)<=qB:=by decide
theorem CV{n:Nat}(h:n<=16777216):n<=qB:=h
theorem QH{n:Nat}(h:n<16777216):n<qB:=h
theorem zI{n:Nat}(h:n<1000000):Cz [.int (n:Int)]=some (oY 0 n):=by
 have e:Cz [.int (n:Int)]=some (oY 0 (n:Int).toNat):=vq ⟨by lia,by lia⟩ _
 rw[e,cC]
theorem yZ(n:Nat):oY 0 n=(bP n).map λi:Nat=>D.int i:=by
 unfold oY;exact mCq λi _=>by rw[gP]
theorem Rq(np n:Nat) (m:MS) (ds:List D):uM np n m ds=if ds.length=np then (m (ds.map (λd=>some (.sh d))++aE (n-ds.length) none)).bind λo=>match o with
  | .rt a=>some a
  | .nx _=>some (.sh .non)
  |_=>none
 else none:=rfl
theorem Vr{α:Type}{a b:α}{l:List α}:(a::b::l)[1]?=some b:=rfl
theorem MV{α:Type}{a b v:α}{l:List α}:(a::b::l).set 1 v=a::v::l:=rfl
theorem Vk{α:Type}{a b c:α}{l:List α}:(a::b::c::l)[2]?=some c:=rfl
theorem DK{α:Type}{a b c v:α}{l:List α}:(a::b::c::l).set 2 v=a::b::v::l:=rfl
theorem U8{α:Type}{a b c d:α}{l:List α}:(a::b::c::d::l)[3]?=some d:=rfl
theorem S4{α:Type}{a b c d v:α}{l:List α}:(a::b::c::d::l).set 3 v=a::b::c::v::l:=rfl
theorem Vs{α:Type}{a b c d:α}{l:List α}{n:Nat}:(a::b::c::d::l)[n+4]?=l[n]?:=rfl
theorem S7{α:Type}{a b c d v:α}{l:List α}{n:Nat}:(a::b::c::d::l).set (n+4) v=a::b::c::d::l.set n v:=rfl
def zq:=aa @Z.uV (aa @Z.SD (aa @Z.SJ (aa @Z.Sw (aa @Z.Sy (aa @Z.Su (aa @Z.TJ (aa @Z.Tt (aa @Z.Sk (aa @Z.Vw (aa @Z.Tu (aa @Z.TX (aa @Z.P8 (aa @Z.Rg (aa @Z.P3 (aa @Z.TN (aa @Z.Nh (aa @Z.RG (aa @Z.Qi (aa @Z.QG (aa @Z.NK (aa @Z.Rh (aa @Z.RQ (aa @Z.Sz (aa @Z.QX (aa @Z.Qp (aa @Z.Jk (aa @Z.TL (aa @Z.TV (aa @Z.Tj (aa @Z.PV (aa @Z.O1 (aa @Z.Qg (aa @Z.KS (aa @Z.KQ (aa @Z.Rn (aa @Z.RZ (aa @Z.RL (aa @Z.Tw (aa @Z.Sx (aa @Z.RF (aa @Z.Pu (aa @Z.Eo (aa @Z.Ir (aa @Z.JI (aa @Z.Pn (aa @Z.O2 (aa @Z.R7 (aa @Z.Nw (aa @Z.QV (aa @Z.Qd (aa @Z.RC (aa @Z.Up (aa @Z.Ii (aa @Z.GR (aa @Z.LY (aa @Z.IA (aa @Z.PX (aa @Z.MY (aa @Z.NN (aa @Z.KG (aa @Z.T9 (aa @Z.FC (aa @Z.O6 (aa @Z.Q0 (aa @Z.O5 (aa @Z.TM (aa @Z.Ks (aa @Z.Qb (aa @Z.Qc (aa @Z.Se (aa @Z.M5 (aa @Z.Pz (aa @Z.Qr (aa @Z.Sf (aa @Z.Mb (aa @Z.Nb (aa @Z.Mx (aa @Z.Kz (aa @Z.Nk (aa @Z.Mu (aa @Z.QQ (aa @Z.Pf (aa @Z.Pj (aa @Z.Us (aa @Z.zD (aa @Z.C2 (aa @Z.MD (aa @Z.Ob (aa @Z.NU (aa @Z.Ia (aa @Z.IZ (aa @Z.Kq (aa @Z.DE (aa @Z.KL (aa @Z.N7 (aa @Z.NX (aa @Z.L1 (aa @Z.M0 (aa @Z.Kp (aa @Z.IS (aa @Z.pT (aa @Z.qk (aa @Z.yH (aa @Z.Rq (aa @Z.rN (aa @Z.IT (aa @List.getElem?_cons_zero.{0} (aa @Z.Vr (aa @Z.Vk (aa @Z.U8 (aa @Z.Vs (aa @List.set_cons_zero.{0} (aa @Z.MV (aa @Z.DK (aa @Z.S4 (aa @Z.S7 (aa @Option.join_some.{0} (aa @Option.map_some.{0, 0} (aa @Option.bind_some.{0, 0} (aa @List.length_cons.{0} (aa @List.length_nil.{0} (aa @List.map_cons.{0, 0} (aa @List.map_nil.{0, 0} (aa @List.nil_append.{0} (aa @List.cons_append.{0} (aa @List.length_map.{0, 0} (aa @Bool.not_true (aa @Bool.not_false (aa @Bool.false_eq_true (aa @decide_true (aa @decide_false (aa @Nat.zero_add (aa @List.replicate_zero.{0} @List.append_nil.{0})))))))))))))))))))))))))))))))))))))))))))))))))))))))))))))))))))))))))))))))))))))))))))))))))))))))))))))))))))))))))))))))))))))
theorem NF{K:W.Frag}{f:MF}(h:∀ns:List Int,ns.length<=63->f [.scr ns]=some (.sh (.bl true))):∀vs H Q E,Hw K vs H Q E->qb K f vs H Q E:=by
 rintro vs H Q E ⟨a,ns,rfl,hS,hl,q⟩;refine⟨H,[.scr ns],_,.refl _,.cons (.scr hS) .nil,h ns hl,λHf' H' v F _ _ _ _ r _ _=>?_⟩
 cases r.sh_inv.2;exact q H'
end Z
namespace Mr
open PySem PySem.Spec PyProof.Rows L2
section
variable {X:Cx}{tg:Expr}
def FW{α:Type}(P:α->Prop):List α->Prop
 | []=>True
 |a::l=>P a/\FW P l
theorem FW.mem{α:Type}{P:α->Prop}:∀{l:List α},FW P l->∀a∈l,P a
 | [],_,a,h=>by cases h
 |b::l,hp,a,h=>(aj.mp h).elim (λe=>e ▸ hp.1) (FW.mem hp.2 a)
theorem tL.of{scope:jJ}{cl:List (Str×Addr)}{x:Str}{N:List Str}{fr:List Nat}(h1:N.Nodup) (h2:N[0]?=some x) (h3:N.length=fr.length+1)
  (h4:FW (λp=>X.env.cells.lookup p.1=some p.2) cl) (h5:FW (λp=>(p.2 = .cell∨p.2 = .free)->∃c,cl.lookup p.1=some c) (kf scope X.env).names)
  (h6:FW (λp=>X.N[p.1]?=some p.2/\X.env.scope.names.lookup p.2=some .cell/\(kf scope X.env).names.lookup p.2=some .cell) (fr.zip (N.drop 1))):tL X scope cl x N fr where
 names:=h1
 own:=h2
 len:=h3
 sub:=λy c e=>h4.mem (y,c) (PySem.mem_of_lookup e)
 has:=λy e=>by
  rcases e with e|e
  .exact h5.mem _ (PySem.mem_of_lookup e) (.inl rfl)
  .exact h5.mem _ (PySem.mem_of_lookup e) (.inr rfl)
 get:=λk j y e1 e2=>by
  have hm:(j,y)∈fr.zip (N.drop 1):=by
   refine mGq (i:=k) ?_;rw[List.getElem?_zip_eq_some];exact⟨e1,by rw[fm,iy];exact e2⟩
  exact h6.mem _ hm
end
end Mr
namespace Mr
open PySem PySem.W PySem.Spec PyProof.Rows L2
abbrev g2(K:W.Frag):TG:=NL K 2 (Bl (sL 0) (Bl (sL 1) NA))
end Mr
namespace Z
open PySem L2 Mr
theorem NI(c:MT) (body:MS) (n:Nat) (S:AS):rQ c body (n+1) S=(c S).bind λx=>if x.1=true then (body x.2).bind λo=>match o with
   | .nx S'=>rQ c body n S'
   | .ct S'=>rQ c body n S'
   | .bk S'=>some (.nx S')
   | .rt a=>some (.rt a)
  else some (.nx x.2):=rfl
end Z
namespace Z
open PySem L2 Mr Xe
inductive M9 where
 |ok (a:AV)|ex (c:Str) (fs:List (Str×Int))
abbrev BC:=List D->Option M9
def OC(K:W.Frag) (Hf H:Hp) (Q:VK) (E:XK):M9->Prop
 | .ok a=>∀Hf' H' v F,nU Hf Hf'->nU H H'->nU Hf' H'->(∀b,Hf b=none->H b≠none->Hf' b=none)->oh K Hf' H' a v F->F.Nodup->(∀q∈F,H q=none)->Q v H'
 | .ex c fs=>∀Hf' H' e od,nU Hf Hf'->nU H H'->nU Hf' H'->(∀b,Hf b=none->H b≠none->Hf' b=none)->pV K Hf' (.exc c fs) (.ref e)->E (.ref e) od H'
def Ez(K:W.Frag) (f:BC):Sp:=λvs H Q E=>∃(Hf:Hp) (ds:List D) (r:M9),nU Hf H/\ox K Hf ds vs/\f ds=some r/\OC K Hf H Q E r
def SE:M9->Option AV
 | .ok a=>some a
 |_=>none
def okX(f:BC):MF:=λds=>(f ds).bind SE
theorem Q3{K:W.Frag}{f:BC}{vs:List V}{H:Hp}{Q:VK}{E:XK}(h:qb K (okX f) vs H Q E):Ez K f vs H Q E:=by
 obtain⟨Hf,ds,a,s,r,e,q⟩:=h;obtain⟨z,e1,e2⟩:=oBq.mp e;cases z with
 |ok b=>cases e2;exact⟨Hf,ds,_,s,r,e1,q⟩
 |ex c fs=>cases e2
inductive xR where
 |ok (o:CZ)|ex (c:Str) (fs:List (Str×Int))
abbrev MX:=AS->Option xR
def Aj(K:W.Frag) (H₀ Hf₀ Hf:Hp) (D:vk) (E:XK):xR->Prop
 | .ok o=>zu K H₀ Hf₀ Hf D o
 | .ex c fs=>∀Hf' H' e od,nU Hf₀ Hf'->nU H₀ H'->nU Hf' H'->(∀b,Hf₀ b=none->H₀ b≠none->Hf' b=none)->pV K Hf' (.exc c fs) (.ref e)->E (.ref e) od H'
theorem Aj.mono{K:W.Frag}{H₀ Hf₀ Hf Hf':Hp}{D:vk}{E:XK}{o:xR}(s:nU Hf Hf') (h:Aj K H₀ Hf₀ Hf D E o):Aj K H₀ Hf₀ Hf' D E o:=by
 cases o with
 |ok o=>exact zu.mono s h
 |ex c fs=>exact h
def Jv(K:W.Frag) (E:XK) (t:TS) (m:MX):Prop:=∀{H₀ Hf₀ Hf:Hp}{S:AS}{σ:St}{H:Hp}{Fs:List (List Addr)}{o:xR},oz K H₀ Hf₀ Hf S σ H Fs->m S=some o->∀D:vk,Aj K H₀ Hf₀ Hf D E o->t D σ H
def Hy(m:MS):MX:=λS=>(m S).map .ok
def zz(a b:MX):MX:=λS=>(a S).bind λo=>match o with
 | .ok (.nx S')=>b S'
 |o=>some o
def Tc(c:MT) (a b:MX):MX:=λS=>(c S).bind λx=>if x.1=true then a x.2 else b x.2
def FJ(c fld:Str) (a:ML):MX:=λS=>(a S).bind λx=>match x.1 with
 | [.int n]=>some (.ex c [(fld,n)])
 |_=>none
section
variable {K:W.Frag}{E:XK}{t u:TS}{m n:MS}{a b:MX}{tt:TT}{c:MT}{ta:TA}
theorem tI(h:SS K t m):Jv K E t (Hy m):=by
 intro H₀ Hf₀ Hf S σ H Fs o R e D q;obtain⟨z,e1,e2⟩:=oMq.mp e;subst e2;exact h R e1 D q
theorem sX(ha:Jv K E t a) (hb:Jv K E u b):Jv K E (GX t u) (zz a b):=by
 intro H₀ Hf₀ Hf S σ H Fs o R e D q;obtain⟨z,e1,e2⟩:=oBq.mp e;refine ha R e1 { D with nx:=u D } ?_
 cases z with
 |ok z =>
  cases z with
  |nx S'=>exact λHf' σ' H' Fs' s R'=>hb R' e2 D (q.mono s)
  |bk S'=>cases e2;exact q
  |ct S'=>cases e2;exact q
  |rt a=>cases e2;exact q
 |ex c fs=>cases e2;exact q
theorem Lb(hc:CH K tt c) (ha:Jv K E t a) (hb:Jv K E u b):Jv K E (Ku tt t u) (Tc c a b):=by
 intro H₀ Hf₀ Hf S σ H Fs o R e D q;obtain⟨x,e1,e2⟩:=oBq.mp e;refine hc R (b:=x.1) (S':=x.2) e1 _ λHf1 H1 Fs1 t1 R1=>?_
 split at e2
 .rename_i hx;rw[nK hx];exact ha R1 e2 D (q.mono t1.sf)
 .rename_i hx;rw[nS hx];exact hb R1 e2 D (q.mono t1.sf)
theorem Ex{H:Hp}{n:Int}{v:V}(r:pV K H (.int n) v):v = .int n:=by cases r;rfl
theorem Jc{cn fld:Str}{C M:Addr}{l:ML}(rf:AO K cn C M) (nf:W.findIn K (.ref C) fld=some none) (hl:Ol K ta l):Jv K E (TQ E C (RD K cn fld ta)) (FJ cn fld l):=by
 intro H₀ Hf₀ Hf S σ H Fs o R e D q;obtain⟨x,e1,e2⟩:=oBq.mp e;refine hl R (ds:=x.1) (S':=x.2) e1 _ λHf1 H1 Fs1 vs t1 R1 r1=>?_
 split at e2
 .rename_i k hk;cases e2;rw[hk]at r1;obtain⟨v,ws,rfl,r2,r3⟩:=r1.cons_inv;obtain rfl:=r3.nil_inv;obtain rfl:=Ex r2;refine⟨_,C,M,rfl,rf,nf,λex dx n1 n2 n3=>⟨ex,some dx,rfl,nu,?_⟩⟩
  rw[HQ];have nf1:Hf1 ex=none:=R1.sub.free n1;have nf2:Hf1 dx=none:=R1.sub.free n2;have s1:nU Hf1 (oK (oK Hf1 dx (.xd [(fld,.int k)])) ex (FX ex C (some dx))):=(qf nf2).trans (qf (by rw[nh (Ne.symm n3)];exact nf1))
  have s2:nU H1 (oK (oK H1 dx (.xd [(fld,.int k)])) ex (FX ex C (some dx))):=(qf n2).trans (qf (by rw[nh (Ne.symm n3)];exact n1))
  refine q (oK (oK Hf1 dx (.xd [(fld,.int k)])) ex (FX ex C (some dx))) _ ex (some dx) (R1.sf.trans s1) (R1.fr.trans s2) (λb o' z=>?_) (λb z1 z2=>?_) (.exc rf (λp hp=>?_) nu ?_)
  .by_cases hb:b=ex
   .subst hb;rw[nu]at z ⊢;exact z
   .rw [nh hb]at z ⊢
    by_cases hb2:b=dx
    .subst hb2;rw[nu]at z ⊢;exact z
    .rw [nh hb2]at z ⊢;exact R1.sub b o' z
  .have h1:b≠ex:=λz=>z2 (by rw[z];exact R1.fr.free n1)
   have h2:b≠dx:=λz=>z2 (by rw[z];exact R1.fr.free n2)
   rw[nh h1,nh h2];exact R1.lim b z1 z2
  .simp only [mSq]at hp;subst hp;exact nf
  .rw [nh n3,nu];rfl
 .cases e2
end
def Dt(np n:Nat) (m:MX):BC:=λds=>if ds.length=np then (m (ds.map (λd=>some (.sh d))++aE (n-ds.length) none)).bind λo=>match o with
  | .ok (.rt a)=>some (.ok a)
  | .ok (.nx _)=>some (.ok (.sh .non))
  | .ex c fs=>some (.ex c fs)
  |_=>none
 else none
theorem wV{K:W.Frag}{t:TS}{m:MX}{np:Nat}(N:List Str) {E:XK}(h:Jv K E t m) {vs:List V}{H:Hp}{Q:VK}(hs:Ez K (Dt np N.length m) vs H Q E):t { nx:=λ_ H'=>Q .non H',rt:=Q } (L2.ud N vs) H:=by
 obtain⟨Hf,ds,r,s,rr,e,q⟩:=hs;unfold Dt at e;split at e
 .obtain ⟨o,e1,e2⟩:=oBq.mp e;refine h (BZ N s rr) e1 _ ?_;cases o with
  |ok o =>
   cases o with
   |rt a'=>cases e2;exact λHf' H' v F s1 s2 s3 l r nd fr=>q Hf' H' v F s1 s2 s3 l r nd fr
   |nx S'=>cases e2;exact λHf' σ' H' Fs' s1 R=>q Hf' H' .non [] R.sf R.fr R.sub R.lim (.sh .non) aT λq h=>(by cases h)
   |bk S'=>cases e2
   |ct S'=>cases e2
  |ex c fs=>cases e2;exact q
 .cases e
theorem zH{K:W.Frag}{m:MX}{np n:Nat}{vs:List V}{H:Hp}{Q:VK}{E:XK}(hs:Ez K (Dt np n m) vs H Q E):vs.length=np:=by
 obtain⟨Hf,ds,a,s,r,e,q⟩:=hs;unfold Dt at e;split at e
 .rename_i h;rw[←r.1,h]
 .cases e
abbrev MH:=Str->List (Str×Int)->MS
def under(c c':Str):Bool:=decide (c'=c∨c' = "MapError")
def Vx(i:Nat):CZ->CZ
 | .nx S=>.nx (S.set i none)
 | .bk S=>.bk (S.set i none)
 | .ct S=>.ct (S.set i none)
 | .rt a=>.rt a
def VF(c':Str) (i:Nat) (mb:MS) (rest:MH):MH:=λc fs S=>if under c c'=true then (mb (S.set i (some (.sh (.exc c fs))))).map (Vx i) else rest c fs S
def VB(c':Str) (mb:MS) (rest:MH):MH:=λc fs S=>if under c c'=true then mb S else rest c fs S
def UE(f:BC) (a:MA) (hm:MH):MS:=λS=>(a S).bind λx=>(f (x.1.map nj)).bind λr=>match r with
 | .ok _=>some (.nx x.2)
 | .ex c fs=>hm c fs x.2
def UV(i:Nat) (f:BC) (a:MA) (hm:MH):MS:=λS=>(a S).bind λx=>(f (x.1.map nj)).bind λr=>match r with
 | .ok r=>some (.nx (x.2.set i (some r)))
 | .ex c fs=>hm c fs x.2
section
variable {K:W.Frag}{ta:TA}{a:MA}{f:BC}{th:XH}{hm:MH}{i:Nat}
theorem yN{H₀ Hf₀ Hf1 H1 Hf' H':Hp}{S:AS}{σ:St}{Fs1:List (List Addr)}(R2:oz K H₀ Hf₀ Hf1 S σ H1 Fs1) (s1:nU Hf1 Hf') (s2:nU H1 H') (s3:nU Hf' H') (l:∀b,Hf1 b=none->H1 b≠none->Hf' b=none):oz K H₀ Hf₀ Hf' S σ H' Fs1 :=
 R2.more s2 s1 s3 (λq hq=>l q (R2.mem hq).2 (R2.mem hq).1) λb h1 h2=>l b (R2.lim b h1 h2) (HC R2.fr h2)
end
def Uv(f:Str):D->Option D
 | .exc _ fs=>(fs.lookup f).map .int
 |_=>none
section
variable {K:W.Frag}{te:TE}{m:ME}{f:Str}
def Vq(c:Str):ME:=λS=>some (.cls c,S)
def K5(c:Str):D->Option Bool
 | .cls c'=>some (under c c')
 | .ty T=>if T = "ValueError" then some true else none
 |_=>none
def D2(c:Str):List D->Option Bool
 | []=>some false
 |d::ds=>(K5 c d).bind λb=>(D2 c ds).map λb2=>b || b2
def Vc:List D->Option D
 | [.exc c _,.tup ds]=>(D2 c ds).map .bl
 | [.exc c _,d]=>(K5 c d).map .bl
 |_=>none
end
def kD:nX->D
 | .inl i=>.int i
 | .inr x=>.str x
def FQ(x y:Nat) (body:MS):List (nX×D)->AS->Option CZ
 | [],S=>some (.nx S)
 |p::ps,S=>(body ((S.set x (some (.sh (kD p.1)))).set y (some (.sh p.2)))).bind λo=>match o with
  | .nx S'=>FQ x y body ps S'
  | .ct S'=>FQ x y body ps S'
  | .bk S'=>some (.nx S')
  | .rt a=>some (.rt a)
def US(x y:Nat) (k:MK) (body:MS):MS:=λS=>(k S).bind λz=>(KA z.1).bind λkvs=>FQ x y body kvs z.2
section
variable {K:W.Frag}{te tf:TE}{k:MK}{tb:TS}{body:MS}{x y:Nat}
def TZ(a:ME):MK:=λS=>(a S).bind λx=>(CS x.1).map λkvs=>(.ow (kvs.map λp=>.sh (kD p.1)),x.2)
end
structure Ud (K:W.Frag) (mg:Str->Option Value) (cn:Str) (C:Addr) (bm:List Value):Prop where
 c:SW K cn C
 xc:yo K cn C bm=true
 base:bm.contains (.type "BaseException")=true
 mgc:mg cn=some (.ref C)
structure RN (P:iK) (w:iP) (K:W.Frag) (mg:Str->Option Value) (bs:Heap) (cn fld prm:Str) (C M f:Addr) (fd:iT):Prop where
 c:SW K cn C
 xc:yo K cn C (.ref M::xG)=true
 base:(ao M::xG).contains (.type "BaseException")=true
 mgc:mg cn=some (.ref C)
 i:Uj P w K mg bs 1 cn fld prm C M f fd
theorem L3(M:Addr):(ao M::xG).contains (.type "BaseException")=true:=by rw[cT,show xG.contains (eA "BaseException")=true by decide,eY]
section
variable {K:W.Frag}{h:Heap}{mg:Str->Option Value}{c:Str}{C M:Addr}
theorem Lh(a:W.nsIn K iM c=some (some (.ref C))) (aM:W.nsIn K iM "MapError" = some (some (.ref M))) (x:yo K c C (.ref M::xG)=true) (xM:yo K "MapError" M xG=true) (l:RY K C=true):AO K c C M:=⟨a,aM,x,xM,l⟩
theorem MW(X:K.In h) (G:h.Ns iM mg) (aM:W.nsIn K iM "MapError" = some (some (.ref M))) (xM:yo K "MapError" M xG=true):Ud K mg "MapError" M xG:=⟨⟨aM,.inr ⟨rfl,xM⟩⟩,xM,by decide,W.mg_of X G aM⟩
end
section
variable {P:iK}{w:iP}{K:W.Frag}{mg:Str->Option Value}{base:Heap}
theorem J0{c fld:Str}{prm:Str}{vs:List V}{H:Hp}{Q:VK}{E:XK}{tx:Str}(hs:La K c fld vs H Q E) :
  GX (xT (UB K (rE (vo 0) (rE (tC (.str tx)) uu)))) (U1 K (vo 0) (vo 1) fld) { nx:=λ_ H'=>Q .non H',rt:=Q } (ud ["self", prm] vs) H:=by
 obtain⟨e,v,C,M,rfl,hE,rf,nf,q⟩:=hs;exact⟨_,rfl,e,_,c,C,M,rfl,hE,rf,_,rfl,_,rfl,e,c,C,M,rfl,hE,rf,nf,q⟩
end
theorem FT{X:Cx}{k:Nat}{f:Addr}{fd:iT}{ps:List Str}{x:Str}{p pos:Pos}{e:Expr}{es:List Expr}{t:TA}{st:Stmt}{g:BC}(G:Kx X.prog X.w X.K X.mg X.base k x st ps (Ez X.K g) f fd) (hr:sk k X.A) (ha:PA X (e::es) t) (hg:Gl X x:=by rfl) (hdb:(x == ("__debug__" : Str))=false:=by decide)
  (he:iR (e::es) X.env=(false,eval e X.env)::iR es X.env:=by rfl) (hpl:(jx pos (iR es X.env)).any (·.1)=false:=by rfl) :
  PE X (.Call (.Name x p) (e::es) [] pos) (xV (qb X.K (okX g)) [] E0 t):=Dz (G.ok.imp λ_ _ _ _ h=>Q3 h) hr hg G.D.m G.D.F.kp G.D.b .nil QK ha hdb he hpl
def Vm(c:Str):MK:=λS=>some (.sh (.cls c),S)
def Kb:Option xR->MX->Option xR
 |none,_=>none
 |some (.ok (.nx S)),b=>b S
 |some o,_=>some o
def Na(c fld:Str):List D->Option xR
 | [.int n]=>some (.ex c [(fld,n)])
 |_=>none
def Hr:xR->Option M9
 | .ok (.rt a)=>some (.ok a)
 | .ok (.nx _)=>some (.ok (.sh .non))
 | .ex c fs=>some (.ex c fs)
 |_=>none
def Vy(hm:MH) (S:AS):M9->Option CZ
 | .ok _=>some (.nx S)
 | .ex c fs=>hm c fs S
def Vf(i:Nat) (hm:MH) (S:AS):M9->Option CZ
 | .ok r=>some (.nx (S.set i (some r)))
 | .ex c fs=>hm c fs S
variable (S:AS)
theorem TK(m:MS):Hy m S=(m S).map .ok:=rfl
theorem JL(b:MX):Kb (some (.ok (.nx S))) b=b S:=rfl
theorem JQ(a:AV) (b:MX):Kb (some (.ok (.rt a))) b=some (.ok (.rt a)):=rfl
theorem R9(a b:MX):zz a b S=Kb (a S) b:=by
 show (a S).bind _=_;cases a S with
 |none=>rfl
 |some o =>
  cases o with
  |ok o=>cases o <;> rfl
  |ex c fs=>rfl
theorem Ua(c:MT) (a b:MX):Tc c a b S=(c S).bind λx=>if x.1=true then a x.2 else b x.2:=rfl
theorem Mq(c fld:Str) (a:ML):FJ c fld a S=(a S).bind λx=>Na c fld x.1:=rfl
theorem L9(a:AV):Hr (.ok (.rt a))=some (.ok a):=rfl
theorem Ll:Hr (.ok (.nx S))=some (.ok (.sh .non)):=rfl
theorem LU(c:Str) (fs:List (Str×Int)):Hr (.ex c fs)=some (.ex c fs):=rfl
theorem Rw(np n:Nat) (m:MX) (ds:List D):Dt np n m ds=if ds.length=np then (m (ds.map (λd=>some (.sh d))++aE (n-ds.length) none)).bind Hr else none:=by
 show (if ds.length=np then (m _).bind _ else none)=_
 first|rfl|(congr 2;funext o;cases o with
 |ok o=>cases o <;> rfl
 |ex c fs=>rfl)
theorem QB(a:AV):SE (.ok a)=some a:=rfl
theorem QW(f:BC) (ds:List D):okX f ds=(f ds).bind SE:=rfl
def Vg:=aa @TK (aa @JL (aa @JQ (aa @R9 (aa @Ua (aa @Mq (aa @L9 (aa @Ll (aa @LU (aa @Rw (aa @QB @QW))))))))))
def JJ(x:Nat) (body:MX):List D->AS->Option xR
 | [],S=>some (.ok (.nx S))
 |d::ds,S=>(body (S.set x (some (.sh d)))).bind λo=>match o with
  | .ok (.nx S')=>JJ x body ds S'
  | .ok (.ct S')=>JJ x body ds S'
  | .ok (.bk S')=>some (.ok (.nx S'))
  | .ok (.rt a)=>some (.ok (.rt a))
  | .ex c fs=>some (.ex c fs)
def Vu(x:Nat) (k:MK) (body:MX):MX:=λS=>(ux k S).bind λy=>(sD (nj y.1)).bind λds=>JJ x body ds y.2
def zS(f:AV->Option xR):M9->Option xR
 | .ok r=>f r
 | .ex c fs=>some (.ex c fs)
def Lw(f:BC) (a:MA):MX:=λS=>(a S).bind λx=>(f (x.1.map nj)).bind (zS λ_=>some (.ok (.nx x.2)))
def Vv(i:Nat) (f:BC) (a:MA):MX:=λS=>(a S).bind λx=>(f (x.1.map nj)).bind (zS λr=>some (.ok (.nx (x.2.set i (some r)))))
def Dd(c:Str):MX:=λ_=>some (.ex c [])
section
variable {K:W.Frag}{E:XK}{te:TE}{tb:TS}{k:MK}{body:MX}{x:Nat}{ta:TA}{a:MA}{f:BC}
theorem Hj{H₀ Hf₀ Hf:Hp}{S':AS}{σ:St}{o:xR}{D:vk}{Hf1 H1:Hp}{Fs1:List (List Addr)}{r:M9}{g:AV->Option xR}{Q:VK}(R2:oz K H₀ Hf₀ Hf1 S' σ H1 Fs1) (e:zS g r=some o) (s0:nU Hf Hf1)
  (q:Aj K H₀ Hf₀ Hf D E o) (hg:∀av,g av=some o->∀Hf' H' v F,nU Hf1 Hf'->oz K H₀ Hf₀ Hf' S' σ H' Fs1->oh K Hf' H' av v F->F.Nodup->(∀p∈F,H1 p=none)->Q v H'):OC K Hf1 H1 Q E r:=by
 cases r with
 |ok av=>exact λHf' H' v F s1 s2 s3 l ra nd fr=>hg av e Hf' H' v F s1 (yN R2 s1 s2 s3 l) ra nd fr
 |ex c fs =>
  cases e;intro Hf' H' ex od s1 s2 s3 l rx;have R3:=yN R2 s1 s2 s3 l;exact q Hf' H' ex od R3.sf R3.fr R3.sub R3.lim rx
theorem Ly(ha:SA K ta a):Jv K E (xT (xV (Ez K f) [] E ta)) (Lw f a):=by
 intro H₀ Hf₀ Hf S σ H Fs o R e D q;obtain⟨x,e1,e⟩:=oBq.mp e;obtain⟨r,e2,e⟩:=oBq.mp e;refine ha R (as:=x.1) (S':=x.2) e1 _ λHf1 H1 Fs1 vs Gs t1 R1 r1 o1=>?_
 obtain⟨R2,r2,t2⟩:=R1.gives t1 r1 o1;rw[aNq];exact⟨_,_,r,R2.sub,r2,e2,Hj R2 e t2.sf q λav z Hf' H' v F s1 R' ra nd fr=>by cases z;exact q _ _ _ _ (t2.sf.trans s1) R'⟩
theorem FM{cn:Str}{C M:Addr}(rf:AO K cn C M):Jv K E (TQ E C (Rc K cn)) (Dd cn):=by
 intro H₀ Hf₀ Hf S σ H Fs o R e D q;cases e;refine⟨C,M,rf,λex n1=>⟨ex,none,rfl,nu,?_⟩⟩
 rw[HQ];have nf1:Hf ex=none:=R.sub.free n1;refine q (oK Hf ex (FX ex C none)) _ ex none (R.sf.trans (qf nf1)) (R.fr.trans (qf n1)) (λb o' z=>?_) (λb z1 z2=>?_) (.exc0 rf nu)
 .by_cases hb:b=ex
  .subst hb;rw[nu]at z ⊢;exact z
  .rw [nh hb]at z ⊢;exact R.sub b o' z
 .have h1:b≠ex:=λz=>z2 (by rw[z];exact R.fr.free n1)
  rw[nh h1];exact R.lim b z1 z2
def TB(c fld:Str) (S:AS):List D->Option (D×AS)
 | [.int n]=>some (.exc c [(fld,n)],S)
 |_=>none
def VH(c fld:Str) (a:ML):ME:=λS=>(a S).bind λx=>TB c fld x.2 x.1
def Um(c f1 f2:Str) (S:AS):List D->Option (D×AS)
 | [.int n,.int m]=>some (.exc c [(f1,n),(f2,m)],S)
 |_=>none
def Vn(c f1 f2:Str) (a:ML):ME:=λS=>(a S).bind λx=>Um c f1 f2 x.2 x.1
def Vd:D->D->Option D
 | .tup [.str u,.int i],.tup [.str v,.int j]=>some (.bl (decide (u=v/\i=j)))
 |_,_=>none
def U7:D->D->Option D
 | .tup [.str u,.int i],.tup [.str v,.int j]=>some (.bl (!decide (u=v/\i=j)))
 |_,_=>none
end
theorem JG{X:Cx}{E:XK}{k:Nat}{f:Addr}{fd:iT}{ps:List Str}{x:Str}{p pos:Pos}{e:Expr}{es:List Expr}{t:TA}{st:Stmt}{g:BC}(G:Kx X.prog X.w X.K X.mg X.base k x st ps (Ez X.K g) f fd) (hr:sk k X.A) (hx:yR (OG X.prog X.w) X E) (ha:PA X (e::es) t) (hg:Gl X x:=by rfl) (hdb:(x == ("__debug__" : Str))=false:=by decide)
  (he:iR (e::es) X.env=(false,eval e X.env)::iR es X.env:=by rfl) (hpl:(jx pos (iR es X.env)).any (·.1)=false:=by rfl) :
  PE X (.Call (.Name x p) (e::es) [] pos) (xV (Ez X.K g) [] E t):=Dz G.ok hr hg G.D.m G.D.F.kp G.D.b .nil hx ha hdb he hpl
structure OT (K:W.Frag) (mg:Str->Option Value) (cn:Str) (C M:Addr):Prop where
 c:SW K cn C
 xc:yo K cn C (.ref M::xG)=true
 base:(ao M::xG).contains (.type "BaseException")=true
 mgc:mg cn=some (.ref C)
 i:Rp K mg cn C M
theorem Nv{K:W.Frag}{h:Heap}{mg:Str->Option Value}{c:Str}{C M:Addr}(X:K.In h) (G:h.Ns iM mg) (r:AO K c C M) (ini:W.findIn K (.ref C) "__init__" = some (some (.builtin "ValueError.__init__"))) (kp:W.keepIn K (.ref C)=true):OT K mg c C M :=
 ⟨⟨r.nm,.inl ⟨M,r⟩⟩,r.xc,L3 M,W.mg_of X G r.nm,⟨r,ini,kp,W.mg_of X G r.nm⟩⟩
theorem KD(g:AV->Option xR) (r:AV):zS g (.ok r)=g r:=rfl
theorem PR(S:AS) (f:BC) (a:MA):Lw f a S=(a S).bind λx=>(f (x.1.map nj)).bind (zS λ_=>some (.ok (.nx x.2))):=rfl
theorem LC(S:AS) (c:Str):Dd c S=some (.ex c []):=rfl
def VA:=aa @KD (aa @PR @LC)
def SM(K:W.Frag) (te:TE) (m:ME):Prop:=∀{H₀ Hf₀ Hf:Hp}{S:AS}{σ:St}{H:Hp}{Fs:List (List Addr)}{d:D}{S':AS},oz K H₀ Hf₀ Hf S σ H Fs->m S=some (d,S')->∀Q:VK,
 (∀Hf' H' Fs' v,nU Hf Hf'->oz K H₀ Hf₀ Hf' S' σ H' Fs'->pV K Hf' d v->Q v H')->te σ H Q
def Qs:AV->Option D
 | .sh d=>some d
 |_=>none
theorem JC{a:AV}{d:D}(h:Qs a=some d):a = .sh d:=by
 unfold Qs at h;split at h <;> cases h
 rfl
def xa(i:Nat) (b:ME):ME:=λS=>(pS S i).bind λ_=>(b S).bind λy=>(intOf y.1).bind λz=>(pS y.2 i).bind λavs=>uO (0<=z/\z<avs.length/\avs.length<=qB) ((avs[z.toNat]?.bind Qs).map λd=>(d,y.2.set i (some (.ow (avs.eraseIdx z.toNat)))))
def zW(i:Nat):ME:=λS=>(pS S i).bind λavs=>(avs[avs.length-1]?.bind Qs).map λd=>(d,S.set i (some (.ow avs.dropLast)))
def RX(kvs:List (nX×D)) (k:nX):List (nX×D):=kvs.filter λkv=>decide (kv.1≠k)
def UW(i:Nat) (b:ME):ME:=λS=>(vV S i).bind λ_=>(b S).bind λy=>(uC y.1).bind λkey=>(vV y.2 i).bind λkvs=>(getD kvs key).map λd=>(d,y.2.set i (some (.owd (RX kvs key))))
section
variable {K:W.Frag}
theorem nZ.erase{Hf H:Hp}{as:List AV}{vs:List V}{Gs:List (List Addr)}(r:nZ K Hf H as vs Gs) (k:Nat):nZ K Hf H (as.eraseIdx k) (vs.eraseIdx k) (Gs.eraseIdx k):=by
 obtain⟨h1,h2,h3⟩:=r;refine⟨by rw[dv,dv,h1],by rw[dv,dv,h2],λi b w G e1 e2 e3=>?_⟩
 rw[List.getElem?_eraseIdx]at e1 e2 e3;split at e1
 .rename_i q;rw[nK q]at e2 e3;exact h3 i b w G e1 e2 e3
 .rename_i q;rw[nS q]at e2 e3;exact h3 (i+1) b w G e1 e2 e3
theorem Gf{Gs:List (List Addr)}{k:Nat}(h:Gs[k]?=some []):(Gs.eraseIdx k).flatten=Gs.flatten:=by
 induction Gs generalizing k with
 |nil=>cases h
 |cons g r ih =>
  cases k with
  |zero =>
   simp at h;subst h;rfl
  |succ k =>
   rw[bZ,fCq,fCq,ih (by simpa using h)]
theorem oz.lose{H₀ Hf₀ Hf H:Hp}{S:AS}{σ:St}{Fs:List (List Addr)}(R:oz K H₀ Hf₀ Hf S σ H Fs) {i k:Nat}{avs:List AV}{d:D}(h:S[i]?=some (some (.ow avs))) (hk:avs[k]?=some (.sh d)) :
  ∃p vs y F',σ[i]?=some (some (.ref p))/\H p=some (.lst vs)/\avs.length=vs.length/\vs[k]?=some y/\pV K Hf d y/\oz K H₀ Hf₀ Hf (S.set i (some (.ow (avs.eraseIdx k)))) σ (oK H p (.lst (vs.eraseIdx k))) (Fs.set i F'):=by
 obtain⟨p,vs,Gs,s1,s2,h1,h2,h3,h4,h5,h6⟩:=R.ow h;have lk:k<avs.length:=(gSq.mp hk).1;obtain⟨y,hy⟩:∃y,vs[k]?=some y:=⟨_,gEg (by rw[←h3.1];exact lk)⟩
 obtain⟨G,hG⟩:∃G,Gs[k]?=some G:=⟨_,gEg (by rw[←h3.2.1];exact lk)⟩
 obtain⟨hG0,ry⟩:=(h3.2.2 k _ _ _ hk hy hG).sh_inv;subst hG0;have hf:=Gf hG;refine⟨p,vs,y,p::(Gs.eraseIdx k).flatten,s1,h1,h3.1,hy,ry,R.turn s1 s2 (by simp) (oh.news nu h2 ((h3.keepUpd h4).erase k)) ?_ ?_⟩
 .rw [hf];exact aH.mpr ⟨h4,h5⟩
 .rw [hf];exact h6
theorem E5{i:Nat}{tb:TE}{b:ME}(hb:SR K tb b):SM K (Mh K "list" Ko (vo i) (rE tb uu)) (xa i b):=by
 intro H₀ Hf₀ Hf S σ H Fs d S' R e Q q;obtain⟨a0,e0,e⟩:=oBq.mp e;obtain⟨y,e1,e⟩:=oBq.mp e;obtain⟨z,e2,e⟩:=oBq.mp e;obtain⟨avs,e3,e⟩:=oBq.mp e;rcases ot e with ⟨⟨z0,z1,z2⟩,e⟩|e
 .obtain ⟨d',e4,e⟩:=oMq.mp e;cases e;obtain⟨a,e4,e5⟩:=oBq.mp e4;have e5:=JC e5;subst e5;obtain⟨p,vs,Gs,s1,_,h1,_⟩:=R.ow (oQ e0);refine⟨.ref p,s1,.inl ⟨rfl,vs,qJ.of h1⟩,hb R (d:=y.1) (S':=y.2) e1 _ λHf1 H1 Fs1 v t1 R1 r1=>?_⟩
  obtain⟨p',vs',w,F',s1',hp,hl,hw,rw',R2⟩:=R1.lose (oQ e3) e4;rw[s1]at s1';cases s1';have hv:v = .int z:=by
   have:y.1 = .int z:=by
    revert e2
    unfold intOf;split <;> intro e2 <;> cases e2
    assumption
   rw[this]at r1;cases r1;rfl
  subst hv;have hz:(avs.length:Int)<=16777216:=by
   have:avs.length<=16777216:=z2;lia
  refine⟨p,vs',z,z.toNat,w,rfl,rfl,hp,by lia,by lia,?_,hw,q _ _ _ _ t1.sf R2 rw'⟩
  rw[←hl];unfold lI;have n1:¬ z<0:=by lia
  have n2:(decide (0<=z) && decide (z<(avs.length:Int)))=true:=by
   rw[decide_eq_true z0,decide_eq_true z1];rfl
  simp only[n1,if_false];exact nK n2
 .cases e
theorem QE{i:Nat}:SM K (Mh K "list" Q4 (vo i) uu) (zW i):=by
 intro H₀ Hf₀ Hf S σ H Fs d S' R e Q q;obtain⟨avs,e0,e⟩:=oBq.mp e;obtain⟨d',e4,e⟩:=oMq.mp e;cases e;obtain⟨a,e4,e5⟩:=oBq.mp e4;have e5:=JC e5;subst e5;obtain⟨p,vs,w,F',s1,hp,hl,hw,rw',R2⟩:=R.lose (oQ e0) e4;refine⟨.ref p,s1,.inl ⟨rfl,vs,qJ.of hp⟩,p,vs,w,rfl,rfl,hp,by rw[←hl];exact hw,?_⟩
 rw[xH,hl,xH]at R2;exact q _ _ _ _ (.refl _) R2 rw'
def Ca(i:Nat) (m:ME):MS:=λS=>(m S).map λx=>.nx (x.2.set i (some (.sh x.1)))
theorem N2{i:Nat}{te:TE}{m:ME}(h:SM K te m):SS K (GH te (sL i)) (Ca i m):=by
 intro H₀ Hf₀ Hf S σ H Fs o R e D hd;obtain⟨x,e1,e⟩:=oMq.mp e;cases e;refine h R (d:=x.1) (S':=x.2) e1 _ λHf1 H1 Fs1 v t1 R1 r1=>?_
 exact hd _ _ _ _ t1 (R1.setD i r1)
def UH(i:Nat) (m:ME):MS:=λS=>(pS S i).bind λ_=>(m S).bind λx=>(pS x.2 i).bind λavs=>uO (avs.length<qB) (some (.nx (x.2.set i (some (.ow (avs++[.sh x.1]))))))
def T6(i:Nat) (b:ME) (m:ME):MS:=λS=>(m S).bind λx=>(vV x.2 i).bind λ_=>(b x.2).bind λy=>(vV y.2 i).bind λkvs=>(uC y.1).bind λkey =>
 uO (kvs.length<qB) (some (.nx (y.2.set i (some (.owd (wA kvs key x.1))))))
end
theorem P5(d:D):Qs (.sh d)=some d:=rfl
theorem LX(S:AS) (i:Nat) (b:ME):xa i b S=(pS S i).bind λ_=>(b S).bind λy=>(intOf y.1).bind λz=>(pS y.2 i).bind λavs=>uO (0<=z/\z<avs.length/\avs.length<=qB) ((avs[z.toNat]?.bind Qs).map λd=>(d,y.2.set i (some (.ow (avs.eraseIdx z.toNat))))):=rfl
theorem O4(S:AS) (i:Nat):zW i S=(pS S i).bind λavs=>(avs[avs.length-1]?.bind Qs).map λd=>(d,S.set i (some (.ow avs.dropLast))):=rfl
theorem QT(S:AS) (i:Nat) (m:ME):Ca i m S=(m S).map λx=>.nx (x.2.set i (some (.sh x.1))):=rfl
def Vb:=aa @P5 (aa @LX (aa @O4 @QT))
section
variable {K:W.Frag}{H₀ Hf₀ Hf H:Hp}{S:AS}{σ:St}{Fs:List (List Addr)}{te tb:TE}{k:MK}{b:ME}
theorem oz.poke(R:oz K H₀ Hf₀ Hf S σ H Fs) {p:Addr}{o:HO}(pn:Hf p=none) (p0:H₀ p=none) (pf:p∉Fs.flatten):oz K H₀ Hf₀ Hf S σ (oK H p o) Fs:=by
 refine⟨R.len,R.lenF,λj a ej=>?_,R.emp,R.nd,R.fresh,λb u e=>?_,λb u e=>?_,R.lim,R.sf⟩
 .obtain ⟨w,G,f1,f2,q⟩:=R.rep j a ej;refine⟨w,G,f1,f2,q.keep (.refl _) (λc hc=>nh λe=>pf ?_) λc hc=>(q.owned c hc).2⟩
  subst e;exact oI f2 hc
 .rw [nh λz=>by rw[z,pn]at e;cases e]
  exact R.sub b u e
 .rw [nh λz=>by rw[z,p0]at e;cases e]
  exact R.fr b u e
theorem wF.stays{Hf' H':Hp}{Fs':List (List Addr)}(t:wF Hf H Fs Hf' H' Fs') {p:Addr}(pn:Hf p=none) (ph:H p≠none) (pf:p∉Fs.flatten):Hf' p=none/\p∉Fs'.flatten:=by
 refine⟨?_,λm=>pf (t.own p m)⟩
 by_cases h:Hf' p=none
 .exact h
 .exact ((t.gr p pn h).elim (λe=>absurd e ph) λm=>absurd m pf)
def C5(b:ME) (k:MK):MK:=λS=>(b S).bind λy=>(ux k y.2).bind λx=>(uC y.1).map λkey=>(.owd [(key,nj x.1)],x.2)
theorem EI(hb:SR K tb b) (hk:SK K te k):SK K (OA [(tb,te)]) (C5 b k):=by
 intro H₀ Hf₀ Hf S σ H Fs av S' R e Q q;obtain⟨y,e1,e⟩:=oBq.mp e;obtain⟨x,e2,e⟩:=oBq.mp e;obtain⟨key,e3,e⟩:=oMq.mp e;cases e;have hk':SK K te (ux k):=SK.frz hk;intro p hp;obtain⟨t0,R0,n1,n2,n3⟩:=R.new (o:=.dK []) hp;have own0:=we.one R hp;refine hb R0 (d:=y.1) (S':=y.2) e1 _ λHf1 H1 Fs1 w t1 R1 r1=>?_
 have p0:oK H p (HO.dK []) p=some (.dK []):=nu;have p1:H1 p=some (.dK []):=t1.sh p _ p0;obtain⟨a1,a2⟩:=t1.stays n1 (by rw[p0];simp) n3
 refine hk' R1 (a:=x.1) (S':=x.2) e2 _ λHf2 H2 Fs2 v F t2 R2 r2 o2=>?_
 have p2:H2 p=some (.dK []):=t2.sh p _ p1;obtain⟨b1,b2⟩:=t2.stays a1 (by rw[p1];simp) a2
 obtain⟨x1,hx1⟩:∃d,x.1 = .sh d:=by
  obtain⟨w,_,e⟩:=oMq.mp e2;rw[←e];exact⟨_,rfl⟩
 rw[hx1]at r2;have rv:=r2.sh_inv.2;have hw:=xg e3 r1;subst hw;refine⟨p2,[(key,v)],rfl,by simp,?_⟩
 have t12:=(t0.trans t1).trans t2;have hs:nU H (oK H2 p (HO.dK (yU [] [(key,v)]))):=λc u e=>by
  rw[nh λz=>by rw[z,hp]at e;cases e]
  exact t12.sh c u e
 refine q Hf2 _ Fs2 (.ref p) [p] ⟨t12.sf,hs,t12.own,t12.gr⟩ (R2.poke b1 n2 b2) (.owd nu b1 ⟨rfl,λi d u h1 h2=>?_⟩) ⟨by simp,λc h=>by rw[mSq.mp h];exact n2,λc h=>by rw[mSq.mp h];exact b2,λc h=>by rw[mSq.mp h];exact .inl hp⟩
 match i,h1,h2 with
 |0,h1,h2 =>
  cases h1;cases h2;rw[hx1,pT];exact rv
 |i+1,h1,_=>simp at h1
theorem CL{i:Nat}:SM K (SB K "list" Q4 (vo i)) (zW i):=QE
def xu:List (nX×D)->Option (List Int)
 | []=>some []
 | (.inl i,_)::r=>(xu r).map (i :: ·)
 |_=>none
theorem E6:∀{kvs:List (nX×D)}{ns:List Int},xu kvs=some ns->kvs.map (·.1)=ns.map aS
 | [],ns,h=>by cases h;rfl
 | (.inl i,d)::r,ns,h=>by
  obtain⟨ms,h1,h2⟩:=oMq.mp (show (xu r).map (i :: ·)=some ns from h)
  subst h2;rw[ak,ak,E6 h1]
 | (.inr _,_)::_,_,h=>by cases h
def C1(a:ME):MK:=λS=>(a S).bind λx=>match x.1 with
 | .dict kvs=>(xu kvs).map λns=>(.ow ((qK ns).map λn=>.sh (.int n)),x.2)
 |_=>none
theorem LK(hb:SR K te b):SK K (Mj (λxs H Q=>∃(a:Addr) (kvs:List (nX×V)) (ns:List Int),xs=[.ref a]/\H a=some (.dK kvs)/\kvs.map (·.1)=ns.map aS/\∀p,H p=none->Q (.ref p) (oK H p (.lst ((qK ns).map V.int)))) (rE te uu)) (C1 b):=by
 intro H₀ Hf₀ Hf S σ H Fs av S' R e Q q;obtain⟨x,e1,e⟩:=oBq.mp e;obtain⟨x1,x2⟩:=x;cases x1 with
 |dict kvs =>
  obtain⟨ns,e2,e⟩:=oMq.mp (show (xu kvs).map (λns=>(AV.ow ((qK ns).map λn=>.sh (.int n)),x2))=some (av,S') from e)
  cases e;refine hb R (d:=.dict kvs) (S':=S') e1 _ λHf1 H1 Fs1 w t1 R1 r1=>?_
  obtain⟨p1,vs,rfl,h1,h2⟩:=r1.dict_inv;refine⟨p1,vs,ns,rfl,h1,by rw[←h2.1];exact E6 e2,λp hp=>?_⟩
  obtain⟨t4,R4,n1,n2,n3⟩:=R1.new (o:=.lst ((qK ns).map V.int)) hp;rw[wz]at q;exact q _ _ _ (.ref p) [p] (t1.trans t4) R4 (oh.new nu n1 (sW _)) ((we.one R1 hp).back t1)
 |_=>cases e
end
theorem NT(S:AS) (b:ME) (k:MK):C5 b k S=(b S).bind λy=>(ux k y.2).bind λx=>(uC y.1).map λkey=>(.owd [(key,nj x.1)],x.2):=rfl
def OZ:D->AS->Option (AV×AS)
 | .dict kvs,S=>(xu kvs).map λns=>(.ow ((qK ns).map λn=>.sh (.int n)),S)
 |_,_=>none
theorem Nf(S:AS) (a:ME):C1 a S=(a S).bind λx=>OZ x.1 x.2:=by
 unfold C1;congr 1;funext x;obtain⟨x1,x2⟩:=x;cases x1 <;> rfl
theorem Pq(kvs:List (nX×D)) (S:AS):OZ (.dict kvs) S=(xu kvs).map λns=>(.ow ((qK ns).map λn=>.sh (.int n)),S):=rfl
theorem B2{α:Type}(f:α->Int) (g:α->D):∀l:List α,xu (l.map λx=>(aS (f x),g x))=some (l.map f)
 | []=>rfl
 |x::l=>by
  show (xu (l.map λx=>(aS (f x),g x))).map (f x :: ·)=_
  rw[B2 f g l];rfl
def Va:=aa @NT (aa @Nf @Pq)
section
variable {K:W.Frag}{H₀ Hf₀ Hf Hf' H H':Hp}{S S':AS}{σ σ':St}{Fs Fs':List (List Addr)}
theorem CF.same(s:nU H H'):∀{path:List Nat}{v w:V},CF H v path w->CF H' v path w
 | [],v,w,h=>h
 |j::js,v,w,⟨p,vs,u,h1,h2,h3,h4⟩=>⟨p,vs,u,h1,s _ _ h2,h3,CF.same s h4⟩
theorem CF.one:∀{path:List Nat}{v w w':V},CF H v path w->CF H v path w'->w=w'
 | [],v,w,w',h,h'=>h.symm.trans h'
 |j::js,v,w,w',hz,hy=>by
  obtain⟨p,vs,u,h1,h2,h3,h4⟩:=hz;obtain⟨p',vs',u',g1,g2,g3,g4⟩:=hy;rw[h1]at g1;cases g1;rw[h2]at g2;cases g2;rw[h3]at g3;cases g3;exact h4.one g4
theorem CF.snoc:∀{path:List Nat}{v:V}{p:Addr}{vs:List V}{n:Nat}{u:V},CF H v path (.ref p)->H p=some (.lst vs)->vs[n]?=some u->CF H v (path++[n]) u
 | [],v,p,vs,n,u,h,h1,h2=>⟨p,vs,u,h,h1,h2,rfl⟩
 |j::js,v,p,vs,n,u,⟨p',vs',u',g1,g2,g3,g4⟩,h1,h2=>⟨p',vs',u',g1,g2,g3,g4.snoc h1 h2⟩
theorem CF.kept:∀{path:List Nat}{av:AV}{v w:V}{F:List Addr}{as:List AV},oh K Hf H av v F->oO av path=some as->CF H v path w->(∀q∈F,H' q=H q)->CF H' v path w
 | [],av,v,w,F,as,_,_,h,_=>h
 |j::js,av,v,w,F,as,r,e,hz,hk=>by
  obtain⟨p,vs,u,h1,h2,h3,h4⟩:=hz;cases av with
  |ow avs =>
   obtain⟨p',vs',Gs,e1,e2,e3,e4,e5⟩:=r.ow_inv;rw[h1]at e1;cases e1;rw[h2]at e3;cases e3;obtain⟨a,ea,e⟩:=oBq.mp (show (avs[j]?).bind (λa=>oO a js)=some as from e)
   have hj:j<avs.length:=(gSq.mp ea).1;have hG:=gEg (e5.2.1 ▸ hj);have rj:=e5.2.2 j a u _ ea h3 hG;refine⟨p,vs,u,h1,by rw[hk p (by rw[e2];simp)];exact h2,h3,h4.kept rj e λq hq=>hk q ?_⟩
   rw[e2];exact mCo _ (oI hG hq)
  |_=>cases e
def Tb(H₀ H:Hp) (F:List Addr):Hp:=λb=>if b∈F then H b else H₀ b
theorem Dm{F:List Addr}{b:Addr}(h:b∈F):Tb H₀ H F b=H b:=nK h
theorem xi{F:List Addr}{b:Addr}(h:b∉F):Tb H₀ H F b=H₀ b:=nS h
theorem oz.frame(R:oz K H₀ Hf₀ Hf S σ H Fs) {i:Nat}{F:List Addr}(s2:Fs[i]?=some F):oz K (Tb H₀ H F) Hf₀ Hf (S.set i none) σ H (Fs.set i []):=by
 have R1:=R.kill i;have hF:∀q∈F,q∈Fs.flatten:=λq hq=>oI s2 hq
 refine⟨R1.len,R1.lenF,R1.rep,R1.emp,R1.nd,λp hp=>?_,R1.sub,λb u e=>?_,λb h1 h2=>?_,R1.sf⟩
 .have hn:p∉F:=λz=>su R.nd s2 z hp
  rw[xi hn];exact R1.fresh p hp
 .by_cases hb:b∈F
  .rw [Dm hb]at e;exact e
  .rw [xi hb]at e;exact R.fr b u e
 .by_cases hb:b∈F
  .exact (R.mem (hF b hb)).2
  .rw [xi hb]at h2;exact R.lim b h1 h2
theorem Cw{α:Type}{l:List α}{i:Nat}{a:α}(h:l[i]?=some a):l.set i a=l:=by
 obtain⟨hk,ev⟩:=gSq.mp h;rw[←ev];exact eJ hk
theorem oz.unframe(R:oz K H₀ Hf₀ Hf S σ H Fs) {i:Nat}{av:AV}{v:V}{F:List Addr}(s2:Fs[i]?=some F) (r:oh K Hf H av v F) (nd:F.Nodup) (h0:∀q∈F,H₀ q=none)
  (R':oz K (Tb H₀ H F) Hf₀ Hf' S' σ' H' Fs') (e':S'[i]?=some none) (s1:σ'[i]?=some (some v)) (sf:nU Hf Hf') :
  (∀q∈F,H' q=H q)/\oh K Hf' H' av v F/\oz K H₀ Hf₀ Hf' (S'.set i (some av)) σ' H' (Fs'.set i F):=by
 have hk:∀q∈F,H' q=H q:=λq hq=>by
  have hn:=(R.mem (oI s2 hq)).1;cases hu:H q with
  |none=>exact absurd hu hn
  |some u=>exact R'.fr q u (by rw[Dm hq];exact hu)
 have hf:∀q∈F,Hf' q=none:=λq hq=>by
  have hm:=R.mem (oI s2 hq);refine R'.lim q ?_ (by rw[Dm hq];exact hm.1)
  cases hz:Hf₀ q with
  |none=>rfl
  |some u=>rw[R.sf q u hz]at hm;exact absurd hm.2 (by simp)
 have r':=r.keep sf hk hf;refine⟨hk,r',?_⟩;have R1:oz K H₀ Hf₀ Hf' (S'.set i none) σ' H' (Fs'.set i []):=by
  rw[Cw e',Cw (R'.emp i e')];refine⟨R'.len,R'.lenF,R'.rep,R'.emp,R'.nd,λp hp=>?_,R'.sub,λb u e=>?_,λb h1 h2=>?_,R'.sf⟩
  .have:=R'.fresh p hp
   by_cases hb:p∈F
   .exact h0 p hb
   .rwa [xi hb]at this
  .refine R'.fr b u ?_;rw[xi λz=>by rw[h0 b z]at e;cases e]
   exact e
  .refine R'.lim b h1 ?_;rw[xi λz=>h2 (h0 b z)]
   exact h2
 refine R1.again (F:=F) s1 r' nd λq hq=>⟨h0 q hq,λm=>?_⟩
 rw[Cw (R'.emp i e')]at m;have:=R'.fresh q m;rw[Dm hq]at this;exact(R.mem (oI s2 hq)).1 this
end
abbrev MP:=AS->Option (List Nat×AS)
def Md(i:Nat):MP:=λS=>(pS S i).map λ_=>([],S)
def RE(i:Nat) (pf:MP) (b:ME):MP:=λS=>(pf S).bind λx=>(b x.2).bind λy=>(intOf y.1).bind λj=>(pS y.2 i).bind λavs=>(oO (.ow avs) x.1).bind λas=>(Ed as.length j).map λn=>(x.1++[n],y.2)
def RT(K:W.Frag) (i:Nat) (te:TE) (pf:MP):Prop:=∀{H₀ Hf₀ Hf:Hp}{S:AS}{σ:St}{H:Hp}{Fs:List (List Addr)}{path:List Nat}{S':AS},oz K H₀ Hf₀ Hf S σ H Fs->pf S=some (path,S')->∀Q:VK,
 (∀Hf' H' Fs' v w,wF Hf H Fs Hf' H' Fs'->oz K H₀ Hf₀ Hf' S' σ H' Fs'->σ[i]?=some (some v)->CF H' v path w->Q w H')->te σ H Q
section
variable {K:W.Frag}
theorem HE(i:Nat):RT K i (vo i) (Md i):=by
 intro H₀ Hf₀ Hf S σ H Fs path S' R e Q q;obtain⟨avs,e1,e⟩:=oMq.mp e;cases e;obtain⟨p,vs,Gs,s1,_⟩:=R.ow (oQ e1);exact⟨_,s1,q _ _ _ _ _ .refl R s1 rfl⟩
theorem yc{H₀ Hf₀ Hf H:Hp}{S:AS}{σ:St}{Fs:List (List Addr)}{i:Nat}{avs as:List AV}{path:List Nat}{v w:V}(R:oz K H₀ Hf₀ Hf S σ H Fs) (e:S[i]?=some (some (.ow avs))) (s1:σ[i]?=some (some v)) (en:oO (.ow avs) path=some as) (h:CF H v path w) :
  ∃p vs,w = .ref p/\H p=some (.lst vs)/\vs.length=as.length:=by
 obtain⟨v',F,t1,t2,r,nd,_⟩:=R.move e;rw[s1]at t1;cases t1;obtain⟨p,vs,Gs,g1,g2,g3,g4,_⟩:=r.path nd en;exact⟨p,vs,h.one g1,g2,g4.1.symm⟩
theorem Kk{i:Nat}{te tb:TE}{pf:MP}{b:ME}(hp:RT K i te pf) (hb:SR K tb b):RT K i (MC (Mz K) te tb) (RE i pf b):=by
 intro H₀ Hf₀ Hf S σ H Fs path S' R e Q q;obtain⟨x,e1,e⟩:=oBq.mp e;obtain⟨y,e2,e⟩:=oBq.mp e;obtain⟨j,e3,e⟩:=oBq.mp e;obtain⟨avs,e4,e⟩:=oBq.mp e;obtain⟨as,e5,e⟩:=oBq.mp e;obtain⟨n,e6,e⟩:=oMq.mp e;cases e;refine hp R (path:=x.1) (S':=x.2) e1 _ λHf1 H1 Fs1 v w t1 R1 s1 a1=>hb R1 (d:=y.1) (S':=y.2) e2 _ λHf2 H2 Fs2 u t2 R2 r2=>?_
 have hy:y.1 = .int j:=by
  cases hx:y.1 <;> rw[hx]at e3 <;> first|(cases e3;rfl)|cases e3
 rw[hy]at r2;cases r2;have a2:=a1.same t2.sh;obtain⟨p,vs,rfl,h1,h2⟩:=yc R2 (oQ e4) s1 e5 a2;have hix:=e6;obtain⟨_,hn,_⟩:=HZ e6;have hn':n<vs.length:=by rw[h2];exact hn
 obtain⟨u,hv⟩:∃u,vs[n]?=some u:=⟨_,gEg hn'⟩;refine⟨p,vs,j,u,rfl,rfl,qJ.of h1,?_,q _ _ _ v _ (t1.trans t2) R2 s1 (a2.snoc h1 hv)⟩;unfold atI;rw[h2,e6];exact hv
end
section
variable {K:W.Frag}
theorem oz.grow{H₀ Hf₀ Hf H:Hp}{S:AS}{σ:St}{Fs:List (List Addr)}{i:Nat}{avs as:List AV}{path:List Nat}{v:V}{p:Addr}(R:oz K H₀ Hf₀ Hf S σ H Fs) (e:S[i]?=some (some (.ow avs))) (s1:σ[i]?=some (some v)) (en:oO (.ow avs) path=some as) (h:CF H v path (.ref p)) :
  ∃vs,H p=some (.lst vs)/\as.length=vs.length/\∀(bs:List AV) (ws:List V) (Gs:List (List Addr)),nZ K Hf H bs ws Gs->Gs.flatten.Nodup->(∀q∈Gs.flatten,H₀ q=none/\q∉Fs.flatten) ->
   ∃Fs',oz K H₀ Hf₀ Hf (S.set i (some (putAt (.ow avs) path (as++bs)))) σ (oK H p (.lst (vs++ws))) Fs':=by
 obtain⟨v',F,t1,t2,r,nd,oo,_⟩:=R.move e;rw[s1]at t1;cases t1;obtain⟨p',vs,Es,g1,g2,g3,g4,g5,g6,g6',g7,g8⟩:=r.path nd en;have hpp:V.ref p=V.ref p':=h.one g1;cases hpp;refine⟨vs,g2,g4.1,λbs ws Gs rb nG oG=>?_⟩
 have pG:p∉Gs.flatten:=λm=>(oG p m).2 (oI t2 g5)
 have hfl:(Es++Gs).flatten=Es.flatten++Gs.flatten:=fAq;obtain⟨F',k1,k2,k3⟩:=g8 (as++bs) (vs++ws) (Es++Gs) ((g4.keepUpd g6).append (rb.keepUpd pG)) (by
  rw[hfl];refine aH.mpr ⟨λm=>(mAq.mp m).elim g6 pG,nAq.mpr ⟨g6',nG,λa ha b hb z=>(oG b hb).2 (oI t2 (g7 b (z ▸ ha)))⟩⟩) (λq hq=>by
  rw[hfl]at hq;exact(mAq.mp hq).imp id λm z=>(oG q m).2 (oI t2 z))
 refine⟨_,R.turnAny s1 t2 g5 k1 k2 λq hq=>?_⟩
 rcases k3 q hq with z|z
 .exact oo q z
 .rw [hfl]at z;rcases mAq.mp z with z|z
  .exact oo q (g7 q z)
  .exact ⟨(oG q z).1,λm=>(oG q z).2 (pI m)⟩
def Ut(i:Nat) (pf:MP) (k:MK):MS:=λS=>(pf S).bind λx=>(pS x.2 i).bind λa0=>(oO (.ow a0) x.1).bind λ_=>(k x.2).bind λy=>(pS y.2 i).bind λavs=>(oO (.ow avs) x.1).bind λas=>uO (as.length<qB) (some (.nx (y.2.set i (some (putAt (.ow avs) x.1 (as++[y.1]))))))
def UG(i:Nat) (pf:MP) (l:ML):MS:=λS=>(pf S).bind λx=>(pS x.2 i).bind λa0=>(oO (.ow a0) x.1).bind λ_=>(l x.2).bind λy=>(pS y.2 i).bind λavs=>(oO (.ow avs) x.1).bind λas=>uO (as.length+y.1.length<=qB) (some (.nx (y.2.set i (some (putAt (.ow avs) x.1 (as++y.1.map .sh))))))
def UP(x i:Nat) (path:List Nat) (S:AS) (σ:St) (H:Hp):Prop:=∃v p avs as,S[i]?=some (some (.ow avs))/\oO (.ow avs) path=some as/\σ[x]?=some (some (.ref p))/\σ[i]?=some (some v)/\CF H v path (.ref p)
def LW(K:W.Frag) (x i:Nat) (t:TS) (m:List Nat->MS):Prop:=∀{path:List Nat}{H₀ Hf₀ Hf:Hp}{S:AS}{σ:St}{H:Hp}{Fs:List (List Addr)}{o:CZ},oz K H₀ Hf₀ Hf S σ H Fs->UP x i path S σ H->m path S=some o->∀D:vk,zu K H₀ Hf₀ Hf D o->t D σ H
def NQ(x i:Nat) (pf:MP) (m:List Nat->MS):MS:=λS=>(pf S).bind λy=>(pS y.2 i).bind λavs=>(oO (.ow avs) y.1).bind λ_=>uO (x≠i/\x<y.2.length) (m y.1 (y.2.set x none))
theorem PD{x i:Nat}{te:TE}{pf:MP}{t:TS}{m:List Nat->MS}(hp:RT K i te pf) (hm:LW K x i t m):SS K (GX (GH te (sL x)) t) (NQ x i pf m):=by
 intro H₀ Hf₀ Hf S σ H Fs o R e D h;obtain⟨y,e1,e⟩:=oBq.mp e;obtain⟨avs,e2,e⟩:=oBq.mp e;obtain⟨as,e3,e⟩:=oBq.mp e;rcases ot e with ⟨⟨hne,hlt⟩,e⟩|e
 .refine hp R (path:=y.1) (S':=y.2) e1 _ λHf1 H1 Fs1 v w t1 R1 s1 a1=>?_
  obtain⟨p,vs,rfl,h1,h2⟩:=yc R1 (oQ e2) s1 e3 a1;have R2:=(R1.kill x).any (V.ref p);refine hm R2 ⟨v,p,avs,as,?_,e3,?_,?_,a1⟩ e D (h.mono t1.sf)
  .rw [ax hne];exact oQ e2
  .exact aD (by rw[←R1.len];exact hlt)
  .rw [ax hne];exact s1
 .cases e
theorem OW{x i:Nat}{t:TS}{m:MS}(h:SS K t m):LW K x i t (λ_=>m):=λR _ e D o=>h R e D o
theorem P4{x i:Nat}{t u:TS}{a:List Nat->MS}{b:MS}(ha:LW K x i t a) (hb:SS K u b):LW K x i (GX t u) (λpath=>nQ (a path) b):=by
 intro path H₀ Hf₀ Hf S σ H Fs o R A e D h;obtain⟨y,e1,e⟩:=oBq.mp e;refine ha R A e1 _ ?_;cases y with
 |nx S'=>exact λHf' σ' H' Fs' s R'=>hb R' e D (h.mono s)
 |rt a=>cases e;exact h
 |bk a=>cases e;exact h
 |ct a=>cases e;exact h
def DS(i:Nat) (c:MT) (a b:List Nat->MS):List Nat->MS:=λpath S=>(c S).bind λy=>(pS y.2 i).bind λavs=>(oO (.ow avs) path).bind λ_=>if y.1=true then a path y.2 else b path y.2
theorem JE{x i:Nat}{c:TT}{m:MT}{t u:TS}{a b:List Nat->MS}(hc:CH K c m) (ha:LW K x i t a) (hb:LW K x i u b):LW K x i (Ku c t u) (DS i m a b):=by
 intro path H₀ Hf₀ Hf S σ H Fs o R A e D h;obtain⟨y,e1,e⟩:=oBq.mp e;obtain⟨avs,e2,e⟩:=oBq.mp e;obtain⟨as,e3,e⟩:=oBq.mp e;obtain⟨v,p,_,_,_,_,s2,s1,at0⟩:=A;refine hc R (b:=y.1) (S':=y.2) e1 _ λHf1 H1 Fs1 t1 R1=>?_
 have A1:UP x i path y.2 σ H1:=⟨v,p,avs,as,oQ e2,e3,s2,s1,at0.same t1.sh⟩;split at e
 .rename_i hx;rw[hx];exact Gq (ha R1 A1 e D (h.mono t1.sf))
 .rename_i hx;rw[cj]at hx;rw[hx];exact FA (hb R1 A1 e D (h.mono t1.sf))
def Ha(i:Nat) (k:MK):List Nat->MS:=λpath S=>(k S).bind λy=>(pS y.2 i).bind λavs=>(oO (.ow avs) path).bind λas=>uO (as.length<qB) (some (.nx (y.2.set i (some (putAt (.ow avs) path (as++[y.1]))))))
theorem PH{x i:Nat}{te:TE}{k:MK}(hk:SK K te k):LW K x i (xT (Mh K "list" xU (vo x) (rE te uu))) (Ha i k):=by
 intro path H₀ Hf₀ Hf S σ H Fs o R A e D h;obtain⟨y,e4,e⟩:=oBq.mp e;obtain⟨avs,e5,e⟩:=oBq.mp e;obtain⟨as,e6,e⟩:=oBq.mp e;rcases ot e with ⟨hl,e⟩|e
 .cases e;obtain⟨v,p,a0,n0,e2,e3,s2,s1,at0⟩:=A;obtain⟨p',vs,hp,h1,h2⟩:=yc R e2 s1 e3 at0;cases hp;refine⟨.ref p,s2,.inl ⟨rfl,vs,qJ.of h1⟩,hk R (a:=y.1) (S':=y.2) e4 _ λHf2 H2 Fs2 u F t2 R2 r2 o2=>?_⟩
  obtain⟨vs',g1,g2,g3⟩:=R2.grow (oQ e5) s1 e6 (at0.same t2.sh);obtain⟨Fs',R3⟩:=g3 [y.1] [u] [F] (nZ.nil.snoc r2) (by rw[aY];exact o2.nd) (λq hq=>by rw[aY]at hq;exact⟨o2.fr q hq,o2.out q hq⟩)
  exact⟨p,vs',u,rfl,rfl,g1,by rw[tZ,←g2];exact hl,h _ _ _ _ t2.sf R3⟩
 .cases e
def Uy(i:Nat) (l:ML):List Nat->MS:=λpath S=>(l S).bind λy=>(pS y.2 i).bind λavs=>(oO (.ow avs) path).bind λas=>uO (as.length+y.1.length<=qB) (some (.nx (y.2.set i (some (putAt (.ow avs) path (as++y.1.map .sh))))))
def Cv(i:Nat) (mm:ME):List Nat->MS:=λpath S=>(pS S i).bind λavs=>(oO (.ow avs) path).bind λas=>(mm (S.set i none)).bind λy=>uO (y.2[i]?=some none/\as.length<qB) (some (.nx (y.2.set i (some (putAt (.ow avs) path (as++[.sh y.1]))))))
theorem Mt{x i:Nat}{te:TE}{mm:ME}(hk:SM K te mm):LW K x i (xT (Mh K "list" xU (vo x) (rE te uu))) (Cv i mm):=by
 intro path H₀ Hf₀ Hf S σ H Fs o R A e D h;obtain⟨avs,e2,e⟩:=oBq.mp e;obtain⟨as,e3,e⟩:=oBq.mp e;obtain⟨y,e4,e⟩:=oBq.mp e;rcases ot e with ⟨⟨hn,hl⟩,e⟩|e
 .cases e;obtain⟨v,p,a0,n0,_,_,s2,s1,at0⟩:=A;have e2':=oQ e2;obtain⟨p',vs,hp,h1,h2⟩:=yc R e2' s1 e3 at0;cases hp;obtain⟨v',F,t1,t2,r,nd,oo,_⟩:=R.move e2';rw[s1]at t1;cases t1;refine⟨.ref p,s2,.inl ⟨rfl,vs,qJ.of h1⟩,hk (R.frame t2) (d:=y.1) (S':=y.2) e4 _ λHf2 H2 Fs2 u t3 R2 r2=>?_⟩
  obtain⟨k1,k2,R3⟩:=R.unframe t2 r nd (λq hq=>(oo q hq).1) R2 hn s1 t3
  have hlt:i<y.2.length:=(gSq.mp hn).1;have e5:(y.2.set i (some (.ow avs)))[i]?=some (some (.ow avs)):=aD hlt;obtain⟨vs',g1,g2,g3⟩:=R3.grow e5 s1 e3 (at0.kept r e3 k1);obtain⟨Fs',R4⟩:=g3 [.sh y.1] [u] [[]] (nZ.nil.snoc (.sh r2)) (by simp) (λq hq=>by simp at hq)
  rw[eZ]at R4;exact⟨p,vs',u,rfl,rfl,g1,by rw[tZ,←g2];exact hl,h _ _ _ _ t3 R4⟩
 .cases e
def PN(K:W.Frag) (J:List Nat) (t:TS) (m:MS):Prop:=∀{H₀ Hf₀ Hf:Hp}{S:AS}{σ:St}{H:Hp}{Fs:List (List Addr)}{S':AS},oz K H₀ Hf₀ Hf S σ H Fs->m S=some (.nx S')->∀D:vk,(∀Hf' σ' H' Fs',nU Hf Hf'->oz K H₀ Hf₀ Hf' S' σ' H' Fs'->(∀j∈J,σ'[j]?=σ[j]?)->D.nx σ' H')->t D σ H
theorem LM{J:List Nat}{t:TS}(h:∀D σ H,D.nx σ H->t D σ H):PN K J t rY:=by
 intro H₀ Hf₀ Hf S σ H Fs S' R e D q;cases e;exact h _ _ _ (q _ _ _ _ (.refl _) R λ_ _=>rfl)
theorem HX{J:List Nat}{y:Nat}{te:TE}{k:MK}(hk:SK K te k) (hJ:y∉J):PN K J (GH te (sL y)) (oH y k):=by
 intro H₀ Hf₀ Hf S σ H Fs S' R e D q;obtain⟨x,e1,e⟩:=oMq.mp e;cases e;refine hk R (a:=x.1) (S':=x.2) e1 _ λHf1 H1 Fs1 v F t1 R1 r1 o1=>?_
 exact q _ _ _ _ t1.sf (R1.set y r1 o1.nd λq hq=>⟨o1.fr q hq,o1.out q hq⟩) λj hj=>ax (show y≠j from λz=>hJ (by rw[z];exact hj))
theorem Kw{J:List Nat}{y:Nat}{te:TE}{m:ME}(hk:SM K te m) (hJ:y∉J):PN K J (GH te (sL y)) (Ca y m):=by
 intro H₀ Hf₀ Hf S σ H Fs S' R e D q;obtain⟨x,e1,e⟩:=oMq.mp e;cases e;refine hk R (d:=x.1) (S':=x.2) e1 _ λHf1 H1 Fs1 v t1 R1 r1=>?_
 exact q _ _ _ _ t1 (R1.setD y r1) λj hj=>ax (show y≠j from λz=>hJ (by rw[z];exact hj))
theorem PB{J:List Nat}{c:TT}{m:MT}{t u:TS}{a b:MS}(hc:CH K c m) (ha:PN K J t a) (hb:PN K J u b):PN K J (Ku c t u) (DL m a b):=by
 intro H₀ Hf₀ Hf S σ H Fs S' R e D q;obtain⟨x,e1,e⟩:=oBq.mp e;refine hc R (b:=x.1) (S':=x.2) e1 _ λHf1 H1 Fs1 t1 R1=>?_
 split at e
 .rename_i hx;rw[hx];exact Gq (ha R1 e D λHf' σ' H' Fs' s R' j=>q _ _ _ _ (t1.sf.trans s) R' j)
 .rename_i hx;rw[cj]at hx;rw[hx];exact FA (hb R1 e D λHf' σ' H' Fs' s R' j=>q _ _ _ _ (t1.sf.trans s) R' j)
def C8(i:Nat) (a:MS) (m:List Nat->MS):List Nat->MS:=λpath S=>(pS S i).bind λavs=>(a (S.set i none)).bind λo=>match o with
 | .nx S1=>uO (S1[i]?=some none) (m path (S1.set i (some (.ow avs))))
 |_=>none
theorem GE{x i:Nat}{t u:TS}{a:MS}{m:List Nat->MS}(ha:PN K [x,i] t a) (hm:LW K x i u m):LW K x i (GX t u) (C8 i a m):=by
 intro path H₀ Hf₀ Hf S σ H Fs o R A e D h;obtain⟨avs,e2,e⟩:=oBq.mp e;obtain⟨oo,e3,e⟩:=oBq.mp e;cases oo with
 |nx S1 =>
  rcases ot (show uO (S1[i]?=some none) (m path (S1.set i (some (.ow avs))))=some o from e) with ⟨hn,e⟩|e
  .obtain ⟨v,p,a0,n0,e2',e4,s2,s1,at0⟩:=A;have e5:=oQ e2;rw[e5]at e2';cases e2';obtain⟨v',F,t1,t2,r,nd,ow,_⟩:=R.move e5;rw[s1]at t1;cases t1;refine ha (R.frame t2) e3 _ λHf' σ' H' Fs' s R' hJ=>?_
   have j1:σ'[x]?=σ[x]?:=hJ x (by simp)
   have j2:σ'[i]?=σ[i]?:=hJ i (by simp)
   obtain⟨k1,k2,R3⟩:=R.unframe t2 r nd (λq hq=>(ow q hq).1) R' hn (j2.trans s1) s
   have hlt:i<S1.length:=(gSq.mp hn).1;exact hm R3 ⟨v,p,avs,n0,aD hlt,e4,j1.trans s2,j2.trans s1,at0.kept r e4 k1⟩ e D (h.mono s)
  .cases e
 |_=>cases e
end
theorem RM(S:AS) (i:Nat):Md i S=(pS S i).map λ_=>([],S):=rfl
theorem Ui(S:AS) (i:Nat) (pf:MP) (b:ME):RE i pf b S=(pf S).bind λx=>(b x.2).bind λy=>(intOf y.1).bind λj=>(pS y.2 i).bind λavs=>(oO (.ow avs) x.1).bind λas=>(Ed as.length j).map λn=>(x.1++[n],y.2):=rfl
theorem RS(S:AS) (x i:Nat) (pf:MP) (m:List Nat->MS):NQ x i pf m S=(pf S).bind λy=>(pS y.2 i).bind λavs=>(oO (.ow avs) y.1).bind λ_=>uO (x≠i/\x<y.2.length) (m y.1 (y.2.set x none)):=rfl
theorem R8(S:AS) (i:Nat) (c:MT) (a b:List Nat->MS) (path:List Nat):DS i c a b path S=(c S).bind λy=>(pS y.2 i).bind λavs=>(oO (.ow avs) path).bind λ_=>if y.1=true then a path y.2 else b path y.2:=rfl
theorem O3(S:AS) (i:Nat) (k:MK) (path:List Nat):Ha i k path S=(k S).bind λy=>(pS y.2 i).bind λavs=>(oO (.ow avs) path).bind λas=>uO (as.length<qB) (some (.nx (y.2.set i (some (putAt (.ow avs) path (as++[y.1])))))):=rfl
theorem MQ(S:AS) (i:Nat) (mm:ME) (path:List Nat):Cv i mm path S=(pS S i).bind λavs=>(oO (.ow avs) path).bind λas=>(mm (S.set i none)).bind λy=>uO (y.2[i]?=some none/\as.length<qB) (some (.nx (y.2.set i (some (putAt (.ow avs) path (as++[.sh y.1])))))):=rfl
def R5(i:Nat) (avs:List AV) (m:List Nat->MS) (path:List Nat):CZ->Option CZ
 | .nx S1=>uO (S1[i]?=some none) (m path (S1.set i (some (.ow avs))))
 |_=>none
theorem RP(S:AS) (i:Nat) (a:MS) (m:List Nat->MS) (path:List Nat):C8 i a m path S=(pS S i).bind λavs=>(a (S.set i none)).bind (R5 i avs m path):=by
 unfold C8;congr 1
theorem MU(i:Nat) (avs:List AV) (m:List Nat->MS) (path:List Nat) (S1:AS):R5 i avs m path (.nx S1)=uO (S1[i]?=some none) (m path (S1.set i (some (.ow avs)))):=rfl
theorem FV(avs:List AV):oO (.ow avs) []=some avs:=rfl
theorem EM(avs:List AV) (j:Nat) (js:List Nat):oO (.ow avs) (j::js)=(avs[j]?).bind λa=>oO a js:=rfl
theorem GQ{avs:List AV}{j:Nat}{js:List Nat}{as:List AV}{a:AV}(h:avs[j]?=some a):putAt (.ow avs) (j::js) as = .ow (avs.set j (putAt a js as)):=by
 show (match avs[j]? with|some a=>_|none=>_)=_
 rw[h]
def Vz:=aa @RM (aa @Ui (aa @RS (aa @R8 (aa @O3 (aa @MQ (aa @RP (aa @MU @FV)))))))
section
variable {K:W.Frag}
def Di(m:ME):MS:=λS=>(m S).map λx=>.nx x.2
theorem JS{te:TE}{m:ME}(h:SM K te m):SS K (xT te) (Di m):=by
 intro H₀ Hf₀ Hf S σ H Fs o R e D hd;obtain⟨x,e1,e⟩:=oMq.mp e;cases e;exact h R (d:=x.1) (S':=x.2) e1 _ λHf1 H1 Fs1 v t1 R1 r1=>hd _ _ _ _ t1 R1
def Vh(i:Nat):MS:=λS=>(pS S i).map λavs=>.nx (S.set i (some (.ow avs.reverse)))
end
theorem NW(S:AS) (m:ME):Di m S=(m S).map λx=>.nx x.2:=rfl
def Vi:=@NW
end Z
namespace HT
open PySem PyProof.Rows
open PySem.SeqAt
open PySem.AutoSeq1 (wpAny_loadPart')
open PySem.MeetsSeq PySem.MeetsSeq2 PySem.MeetsSeq3
def pQ:List (List Int)->List (List Int)->Bool
 |_,[]=>false
 | [],_::_=>true
 |x::xs,y::ys=>if x=y then pQ xs ys else pB x y
theorem wQ:∀xs:List (List Int),pQ xs xs=false
 | []=>rfl
 |x::xs=>by rw[pQ,nK rfl];exact wQ xs
theorem uX:∀xs ys:List (List Int),pQ xs ys=true->pQ ys xs=false
 |xs,[],h=>by cases xs <;> cases h
 | [],y::ys,_=>rfl
 |x::xs,y::ys,h=>by
  rw[pQ]at h ⊢
  by_cases e:x=y
  .rw [nK e]at h;rw[nK e.symm];exact uX xs ys h
  .rw [nS e]at h;rw[nS (λq=>e q.symm)]
   exact Mr.yn _ _ h
theorem yQ:∀xs ys:List (List Int),pQ xs ys=false->pQ ys xs=false->xs=ys
 | [],[],_,_=>rfl
 | [],y::ys,h,_=>by cases h
 |x::xs,[],_,h=>by cases h
 |x::xs,y::ys,h1,h2=>by
  rw[pQ]at h1 h2
  by_cases e:x=y
  .rw [nK e]at h1;rw[nK e.symm]at h2;rw[e,yQ xs ys h1 h2]
  .rw [nS e]at h1;rw[nS (λq=>e q.symm)]at h2
   exact absurd (Mr.ye _ _ h1 h2) e
theorem sU:∀xs ys zs:List (List Int),pQ ys xs=false->pQ zs ys=false->pQ zs xs=false
 | [],ys,zs,_,_=>by cases zs <;> rfl
 |x::xs,[],zs,h1,_=>by cases h1
 |x::xs,y::ys,[],_,h2=>by cases h2
 |x::xs,y::ys,z::zs,h1,h2=>by
  rw[pQ]at h1 h2 ⊢
  by_cases e1:y=x
  .rw [nK e1]at h1
   by_cases e2:z=y
   .rw [nK e2]at h2;rw[nK (e2.trans e1)];exact sU xs ys zs h1 h2
   .rw [nS e2]at h2;rw[nS (by rw[←e1];exact e2),←e1]
    exact h2
  .rw [nS e1]at h1
   by_cases e2:z=y
   .rw [nS (by rw[e2];exact e1),e2]
    exact h1
   .rw [nS e2]at h2
    by_cases e3:z=x
    .rw [e3]at h2;exact absurd (Mr.ye _ _ h1 h2) e1
    .rw [nS e3];exact Mr.wW _ _ _ h1 h2
end HT
namespace Mr
open PySem PySem.Spec PyProof.Rows L2
def Mk(x y:List (List Int)):Bool:=!HT.pQ y x
def rB(ms:List (List (List Int))):List (List (List Int)):=ms.mergeSort Mk
theorem rW(ms:List (List (List Int))):(rB ms).Perm ms:=fc _ _
theorem Iu(x y z:List (List Int)) (h1:Mk x y=true) (h2:Mk y z=true):Mk x z=true:=by
 unfold Mk at *;rw[eh]at *;exact HT.sU _ _ _ h1 h2
theorem IU(x y:List (List Int)):(Mk x y || Mk y x)=true:=by
 unfold Mk;cases h:HT.pQ y x with
 |false=>rfl
 |true=>rw[HT.uX _ _ h];rfl
theorem zf(ms:List (List (List Int))):(rB ms).Pairwise (λx y=>HT.pQ y x=false):=by
 have:=dU (le:=Mk) (λa b c=>Iu a b c) (λa b=>IU a b) ms
 exact this.imp λh=>by unfold Mk at h;rwa [eh]at h
theorem CU{xs ms:List (List (List Int))}(hp:xs.Perm ms) (h:xs.Pairwise (λx y=>HT.pQ y x=false)):xs=rB ms :=
 bO.eq_of_pairwise (λa b _ _ e1 e2=>HT.yQ a b e2 e1) h (zf ms) (hp.trans (rW ms).symm)
def Uz(r:Addr->List (List Int)) (x y:iE):Bool:=match x.1,y.1 with
 | .ref p,.ref q=>HT.pQ (r p) (r q)
 |_,_=>false
end Mr
namespace Z
open PySem L2 Mr Xe
def N5(f:D->D->Option D) (m b:ME):ME:=λS=>(m S).bind λx=>(b x.2).bind λy=>(f x.1 y.1).bind λd=>if d.scal then some (d,y.2) else none
def Qh(i:Nat) (g:Int->Int->Int) (b:ME):MS:=λS=>(mZ i S).bind λx=>(intOf x.1).bind λa=>(b x.2).bind λy=>(intOf y.1).map λc=>.nx (y.2.set i (some (.sh (.int (g a c)))))
def FL(i:Nat) (pf:MP) (mm:ME):MS:=λS=>(pf S).bind λx=>(pS x.2 i).bind λavs=>(oO (.ow avs) x.1).bind λas=>(mm (x.2.set i none)).bind λy=>uO (y.2[i]?=some none/\as.length<qB) (some (.nx (y.2.set i (some (putAt (.ow avs) x.1 (as++[.sh y.1]))))))
def LR(g:MF) (f:BC) (a:MA):MX:=λS=>(a S).bind λx=>(f (x.1.map nj)).bind (zS λr=>(g [nj r]).map λz=>.ok (.rt z))
section
variable {K:W.Frag}
theorem E7{d:D}{z:Int}(h:intOf d=some z):d = .int z:=by
 cases d <;> first|(cases h;rfl)|cases h
theorem R6{r:R2}{f:D->D->Option D}{ta tb:TE}{m b:ME}(hr:Fd K r f) (ha:SM K ta m) (hb:SR K tb b):SM K (MC r ta tb) (N5 f m b):=by
 intro H₀ Hf₀ Hf S σ H Fs d S' R e Q q;obtain⟨x,e1,e⟩:=oBq.mp e;obtain⟨y,e2,e⟩:=oBq.mp e;obtain⟨z,e3,e⟩:=oBq.mp e;split at e
 .rename_i hs;cases e;refine ha R (d:=x.1) (S':=x.2) e1 _ λHf1 H1 Fs1 v1 t1 R1 r1=>hb R1 (d:=y.1) (S':=y.2) e2 _ λHf2 H2 Fs2 v2 t2 R2 r2=>?_
  exact hr ((r1.mono R1.sub).mono t2.sh) r2 e3 λv rv=>q _ _ _ v (t1.trans t2.sf) R2 (rv.scal hs)
 .cases e
theorem Qz{i:Nat}{g:Int->Int->Int}{te:TE}{b:ME}(hb:SR K te b):SS K (SI i te (Tv g)) (Qh i g b):=by
 intro H₀ Hf₀ Hf S σ H Fs o R e D hd;obtain⟨x,e1,e⟩:=oBq.mp e;obtain⟨a,e2,e⟩:=oBq.mp e;obtain⟨y,e3,e⟩:=oBq.mp e;obtain⟨c,e4,e⟩:=oMq.mp e;cases e;refine mY i R (d:=x.1) (S':=x.2) e1 (λv H1=>te σ H1 λw H2=>Tv g v w H2 λz H3=>D.nx (σ.set i (some z)) H3) λHf1 H1 Fs1 v t1 R1 r1=>?_
 refine hb R1 (d:=y.1) (S':=y.2) e3 _ λHf2 H2 Fs2 w t2 R2 r2=>?_
 rw[E7 e2]at r1;rw[E7 e4]at r2;cases r1;cases r2;exact⟨a,c,rfl,rfl,hd _ _ _ _ (t1.sf.trans t2.sf) (R2.setD i .int)⟩
theorem J3{i:Nat}{tp te:TE}{pf:MP}{mm:ME}(hp:RT K i tp pf) (hk:SM K te mm):SS K (xT (Mh K "list" xU tp (rE te uu))) (FL i pf mm):=by
 intro H₀ Hf₀ Hf S σ H Fs o R e D h;obtain⟨x,e1,e⟩:=oBq.mp e;obtain⟨avs,e2,e⟩:=oBq.mp e;obtain⟨as,e3,e⟩:=oBq.mp e;obtain⟨y,e4,e⟩:=oBq.mp e;rcases ot e with ⟨⟨hn,hl⟩,e⟩|e
 .cases e;refine hp R (path:=x.1) (S':=x.2) e1 _ λHf1 H1 Fs1 v w t1 R1 s1 at0=>?_
  have e2':=oQ e2;obtain⟨p,vs,rfl,h1,h2⟩:=yc R1 e2' s1 e3 at0;obtain⟨v',F,u1,u2,r,nd,oo,_⟩:=R1.move e2';rw[s1]at u1;cases u1;refine⟨.inl ⟨rfl,vs,qJ.of h1⟩,hk (R1.frame u2) (d:=y.1) (S':=y.2) e4 _ λHf2 H2 Fs2 u t3 R2 r2=>?_⟩
  obtain⟨k1,k2,R3⟩:=R1.unframe u2 r nd (λq hq=>(oo q hq).1) R2 hn s1 t3
  have hlt:i<y.2.length:=(gSq.mp hn).1;have e5:(y.2.set i (some (.ow avs)))[i]?=some (some (.ow avs)):=aD hlt;obtain⟨vs',g1,g2,g3⟩:=R3.grow e5 s1 e3 (at0.kept r e3 k1);obtain⟨Fs',R4⟩:=g3 [.sh y.1] [u] [[]] (nZ.nil.snoc (.sh r2)) (by simp) (λq hq=>by simp at hq)
  rw[eZ]at R4;exact⟨p,vs',u,rfl,rfl,g1,by rw[tZ,←g2];exact hl,h _ _ _ _ (t1.sf.trans t3) R4⟩
 .cases e
theorem Ki{E:XK}{ta:TA}{a:MA}{f:BC}{g:MF}(ha:SA K ta a):Jv K E (Q1 (xV (qb K g) [] E0 (rE (xV (Ez K f) [] E ta) uu))) (LR g f a):=by
 intro H₀ Hf₀ Hf S σ H Fs o R e D q;obtain⟨x,e1,e⟩:=oBq.mp e;obtain⟨r,e2,e⟩:=oBq.mp e;refine ha R (as:=x.1) (S':=x.2) e1 _ λHf1 H1 Fs1 vs Gs t1 R1 r1 o1=>?_
 obtain⟨R2,r2,t2⟩:=R1.gives t1 r1 o1;rw[aNq];refine⟨_,_,r,R2.sub,r2,e2,Hj R2 e t2.sf q λav z Hf' H' v F s1 R' ra nd fr=>?_⟩
 obtain⟨z1,ez,z⟩:=oMq.mp z;cases z;have rs:nZ K Hf' H' [av] [v] [F]:=nZ.nil.snoc ra;have n:∀q∈[F].flatten,Hf' q=none:=λq hq=>(rs.owned q hq).2
 have hF:∀q∈[F].flatten,q∈F:=λq hq=>by rwa [aY]at hq
 have R3:=R'.frz (λq hq=>⟨R2.fr.free (fr q (hF q hq)),λm=>(R2.mem m).1 (fr q (hF q hq))⟩) n
 have r3:=rs.frozen (qw n) λq hq=>xF hq
 refine⟨_,[nj av],z1,R3.sub,r3,ez,λHf4 H4 v4 F4 u1 u2 u3 l' ra' nd' fr'=>?_⟩
 have R4:=yN R3 u1 u2 u3 l';exact q _ _ _ _ R4.sf R4.fr R4.sub R4.lim ra' nd' λp hp=>R3.fr.free (fr' p hp)
end
theorem Pl(S:AS) (g:MF) (f:BC) (a:MA):LR g f a S=(a S).bind λx=>(f (x.1.map nj)).bind (zS λr=>(g [nj r]).map λz=>.ok (.rt z)):=rfl
theorem RA(S:AS) (f:D->D->Option D) (m b:ME):N5 f m b S=(m S).bind λx=>(b x.2).bind λy=>(f x.1 y.1).bind λd=>if d.scal then some (d,y.2) else none:=rfl
theorem Rf(S:AS) (i:Nat) (g:Int->Int->Int) (b:ME):Qh i g b S=(mZ i S).bind λx=>(intOf x.1).bind λa=>(b x.2).bind λy=>(intOf y.1).map λc=>.nx (y.2.set i (some (.sh (.int (g a c))))):=rfl
theorem NC(S:AS) (i:Nat) (pf:MP) (mm:ME):FL i pf mm S=(pf S).bind λx=>(pS x.2 i).bind λavs=>(oO (.ow avs) x.1).bind λas=>(mm (x.2.set i none)).bind λy=>uO (y.2[i]?=some none/\as.length<qB) (some (.nx (y.2.set i (some (putAt (.ow avs) x.1 (as++[.sh y.1])))))):=rfl
def U5:=aa @Pl (aa @RA (aa @Rf @NC))
def C3(l:ML):MK:=λS=>(l S).map λx=>(.sh (.tup x.1),x.2)
section
variable {K:W.Frag}
theorem Fu{te:TE}{l:ML}(hl:SQ K te l):SK K (Mj (λxs H Q=>∃p ys,xs=[.ref p]/\((qJ K H p ys/\∀l,H l=none->Q (.ref l) (oK H l (.tup ys)))∨(BP K H p ys/\Q (.ref p) H))) (rE te uu)) (C3 l):=by
 intro H₀ Hf₀ Hf S σ H Fs av S' R e Q q;obtain⟨x,e1,e⟩:=oMq.mp e;cases e;refine hl R (ds:=x.1) (S':=x.2) e1 _ λHf1 H1 Fs1 p1 vs1 t1 R1 h1 r1=>⟨p1,vs1,rfl,.inl ⟨h1,λp hp=>?_⟩⟩
 obtain⟨t3,R3⟩:=R1.layF (o:=.tup vs1) hp;exact q _ _ _ (.ref p) [] (t1.trans t3) R3 (.sh (.mk_tup nu (r1.mono t3.sf))) .nil
end
theorem Oc(S:AS) (l:ML):C3 l S=(l S).map λx=>(.sh (.tup x.1),x.2):=rfl
def Ve:=@Oc
end Z
namespace HT
open PySem PyProof.Rows
open PySem.SeqAt
open PySem.AutoSeq1 (wpAny_loadPart')
open PySem.MeetsSeq PySem.MeetsSeq2 PySem.MeetsSeq3
def Pe(A:Around) (s:iD) (op:CmpOp) (y x:Value) (b:Bool):Prop:=∀(P:iK) (w:iP) (E Q:Value->iD->Prop),Q (.bool b) s->iI (iG P w) A (ki op y x) Q E s
def EY(e c:Nat->Bool) (z:Bool):List Nat->Bool
 | []=>z
 |j::js=>if e j then EY e c z js else c j
theorem DX{m i:Nat}(h:i<m):(bP m).drop i=i::(bP m).drop (i+1):=by
 rw[au (by simpa using h)]
 simp
section
variable (l b:Addr) (xs ys:Array Value) (n n2:Nat) (dd dd2:Option Addr) (sl sl2:Array (Option Value)) (e c:Nat->Bool)
theorem Qo:Meets (Builtin.«tuple.__lt__» ⟨[.ref l,.ref b],[]⟩) (λA R s=>s.heap.get? l=some { cls:=.type "tuple", dict:=dd,data:=.seq xs n,slots:=sl }/\s.heap.get? b=some { cls:=.type "tuple", dict:=dd2,data:=.seq ys n2,slots:=sl2 }/\(∀j (h1:j<xs.size) (h2:j<ys.size),EqAt A.in1 s xs[j] ys[j] (e j))/\(∀j (h1:j<xs.size) (h2:j<ys.size),e j=false->Pe A.in1 s .Lt xs[j] ys[j] (c j))/\R (.ok (.ret (.bool (EY e c (decide (xs.size<ys.size)) (bP (min xs.size ys.size)))))) s) :=
 .of_wp λprog w A R s h=>by
  obtain⟨hp,g,d,tk,os⟩:=s;obtain⟨hl,hb,he,hc,h⟩:=h;have f2:=AutoSeq1.sub_tuple_tuple;have hZ:(xs.toList.zip ys.toList).length=min xs.size ys.size:=by simp
  wp_walk using wpAny_loadPart' hl,wpAny_loadPart' hb,wpAny_forIn_list _ (λrest b s'=>b.1=none/\s'=⟨hp,g,d,tk,os⟩/\∃i,rest=(xs.toList.zip ys.toList).drop i/\R (.ok (.ret (.bool (EY e c (decide (xs.size<ys.size)) ((bP (min xs.size ys.size)).drop i))))) ⟨hp,g,d,tk,os⟩) _
  case turn =>
   rintro⟨y,x⟩ rest b s' ⟨hb',rfl,i,hz,hR⟩;have hlt:i<(xs.toList.zip ys.toList).length:=Nat.lt_of_not_le λz=>by rw[bq z]at hz;cases hz
   have hm:i<min xs.size ys.size:=hZ ▸ hlt;have h1:i<xs.size:=by lia
   have h2:i<ys.size:=by lia
   rw[au hlt]at hz;injection hz with hyx hrest
   have hy:y=xs[i]:=by simpa using congrArg Prod.fst hyx
   have hx:x=ys[i]:=by simpa using congrArg Prod.snd hyx
   subst hy hx;rw[DX hm,EY]at hR;refine iF (he i h1 h2 prog w _ _ ?_);cases q:e i with
   |true =>
    rw[q,nK rfl]at hR
    wp_walk
    exact⟨rfl,rfl,i+1,hrest,hR⟩
   |false =>
    rw[q,nS (by simp)]at hR
    have hri:∀(E Q:Value->iD->Prop),Q (.bool (c i)) ⟨hp,g,d,tk,os⟩->iI (iG prog w) A.in1 (ki .Lt xs[i] ys[i]) Q E ⟨hp,g,d,tk,os⟩:=λE Q z=>hc i h1 h2 q prog w E Q z
    wp_walk using hri
    exact⟨_,rfl,hR⟩
  case fin =>
   rintro⟨b1,b2⟩ s' ⟨hb',rfl,i,hz,hR⟩;simp only at hb';subst hb';have hge:min xs.size ys.size<=i:=eF λz=>by rw[au (hZ ▸ z)]at hz;cases hz
   rw[bq (by simpa using hge)]at hR
   wp_walk
   exact⟨_,rfl,by simpa [Builtin.Tuple.tupleCompareSizes,EY] using hR⟩
  case h=>exact⟨rfl,rfl,0,rfl,by simpa using h⟩
end
def tH(r:List Int):PyData:=.tuple (r.map .int)
theorem JO(r t:List Int):PyData.eqv (tH r) (tH t)=decide (r=t):=by
 rw[←same_eq_eqv _ _ (by simp[tH,SeqAt.noMix,W.noMix_ints r t])]
 simp[tH,PySem.Spec.same,W.same_ints r t]
def wj(h:Heap) (q:Addr) (r:List Int):Prop:=∃vs:List Value,h.IsTuple q vs.toArray/\iW vs r
def rd(h:Heap) (p:Addr) (c:List (List Int)):Prop:=∃qs:List Addr,h.IsTuple p (qs.map ao).toArray/\qs.length=c.length/\∀(i:Nat) (q:Addr) (r:List Int),qs[i]?=some q->c[i]?=some r->wj h q r
theorem wj.reads{h:Heap}{q:Addr}{r:List Int}(t:wj h q r):Reads h (.ref q) (tH r) []:=by
 obtain⟨vs,⟨o,ho,hc,n,hd⟩,hi⟩:=t;exact Reads.tuple ho hc hd (by simpa using W.readsAll_of_ints hi)
theorem wj.eq{A:Around}{s:iD}{q q':Addr}{r r':List Int}(h:wj s.heap q r) (h':wj s.heap q' r') (hu:A.units+4<iX):EqAt A s (.ref q) (.ref q') (decide (r=r')):=by
 rw[←JO];have d1:=W.depthAll_ints r;refine eqAt_reads (tH r) (tH r') A s (.ref q) (.ref q') [] [] h.reads h'.reads (by simp[tH,PyData.canLay0,W.canLayAll0_ints r]) (by simp[tH,PyData.canLay0,W.canLayAll0_ints r']) ?_
 have:(tH r).depth<=2:=by simp only[tH,PyData.depth];lia
 lia
theorem wj.lt{A:Around}{s:iD}{q q':Addr}{r r':List Int}(h:wj s.heap q r) (h':wj s.heap q' r') (hu:A.units+4<iX):Pe A s .Lt (.ref q) (.ref q') (pB r r'):=by
 obtain⟨vs,h1,h2⟩:=h;obtain⟨ws,g1,g2⟩:=h';exact λP w E Q z=>FD (items:=vs.toArray) (items2:=ws.toArray) h1 g1 h2 g2 (by lia) z
theorem Et(c d:List (List Int)):∀(k i:Nat),min c.length d.length-i=k->i<=c.length->i<=d.length->EY (λj=>decide (c.getD j []=d.getD j [])) (λj=>pB (c.getD j []) (d.getD j [])) (decide (c.length<d.length)) ((bP (min c.length d.length)).drop i)=pQ (c.drop i) (d.drop i)
 |0,i,hk,h1,h2=>by
  rw[bq (by simp;lia),EY]
  by_cases q:i=c.length
  .rw [bq (l:=c) (by lia)]
   by_cases q2:i<d.length
   .rw [au q2];exact decide_eq_true (by lia)
   .rw [bq (l:=d) (by lia)]
    exact decide_eq_false (by lia)
  .have q2:i=d.length:=by lia
   rw[bq (l:=d) (by lia),au (show i<c.length by lia)]
   exact decide_eq_false (by lia)
 |k+1,i,hk,h1,h2=>by
  have a1:i<c.length:=by lia
  have a2:i<d.length:=by lia
  rw[DX (by lia),EY,au a1,au a2,pQ]
  have e1:c.getD i []=c[i]:=by rw[gDq,gEg a1];rfl
  have e2:d.getD i []=d[i]:=by rw[gDq,gEg a2];rfl
  rw[e1,e2,Et c d k (i+1) (by lia) (by lia) (by lia)]
  generalize c[i]=x;generalize d[i]=y
  by_cases q:x=y <;> simp[q]
theorem C6{qs:List Addr}{j:Nat}(h:j<(qs.map ao).toArray.size):∃q,qs[j]?=some q/\(qs.map ao).toArray[j] = .ref q:=by
 have hj:j<qs.length:=by simpa using h
 exact⟨qs[j],gEg hj,by simp⟩
theorem zE{h:Heap}{qs:List Addr}{c:List (List Int)}(hl:qs.length=c.length) (hr:∀(i:Nat) (q:Addr) (r:List Int),qs[i]?=some q->c[i]?=some r->wj h q r) {j:Nat}{q:Addr}(hq:qs[j]?=some q):wj h q (c.getD j []):=by
 have hj:j<c.length:=by rw[←hl];exact(gSq.mp hq).1
 refine hr j q _ hq ?_;rw[gDq,gEg hj];rfl
theorem rd.lt{A:Around}{s:iD}{p p':Addr}{c d:List (List Int)}(h:rd s.heap p c) (h':rd s.heap p' d) (hu:A.units+8<iX):Pe A s .Lt (.ref p) (.ref p') (pQ c d):=by
 obtain⟨qs,⟨⟨cls,dd,data,sl⟩,ho,hc,n,hd⟩,l1,r1⟩:=h;obtain⟨qs',⟨⟨cls',dd',data',sl'⟩,ho',hc',n',hd'⟩,l2,r2⟩:=h';simp only at hc hd hc' hd';subst hc hd hc' hd';intro P w E Q z;have key:=Et c d _ 0 rfl (aW _) (aW _);rw[cw,cw,cw]at key;have hi:A.in1.units+4<iX:=by show A.units+1+4<iX;lia
 refine kL (op:=.Lt) ⟨_,ho,rfl⟩ ⟨_,ho',rfl⟩ F.slot_tuple_lt F.entry_tuple_lt (F.args_tuple_lt_2 _ _) (Qo p p' (qs.map ao).toArray (qs'.map ao).toArray n n' dd dd' sl sl' (λj=>decide (c.getD j []=d.getD j [])) λj=>pB (c.getD j []) (d.getD j [])) ⟨ho,ho',λj j1 j2=>?_,λj j1 j2 _=>?_,⟨(λx=>nomatch x),?_⟩⟩ (by lia)
 .obtain ⟨q,e1,e2⟩:=C6 j1;obtain⟨q',e3,e4⟩:=C6 j2;rw[e2,e4];exact(zE l1 r1 e1).eq (zE l2 r2 e3) hi
 .obtain ⟨q,e1,e2⟩:=C6 j1;obtain⟨q',e3,e4⟩:=C6 j2;rw[e2,e4];exact(zE l1 r1 e1).lt (zE l2 r2 e3) hi
 .simp only [az,lMq,l1,l2];rw[key];exact z
theorem wj.keep{h h':Heap}{q:Addr}{r:List Int}(k:∀b o,h.get? b=some o->h'.get? b=some o) (t:wj h q r):wj h' q r:=by
 obtain⟨vs,⟨o,ho,rest⟩,hi⟩:=t;exact⟨vs,⟨o,k _ _ ho,rest⟩,hi⟩
theorem rd.keep{h h':Heap}{p:Addr}{c:List (List Int)}(k:∀b o,h.get? b=some o->h'.get? b=some o) (t:rd h p c):rd h' p c:=by
 obtain⟨qs,⟨o,ho,rest⟩,l1,r1⟩:=t;exact⟨qs,⟨o,k _ _ ho,rest⟩,l1,λi q r e1 e2=>(r1 i q r e1 e2).keep k⟩
section
variable {P0:iK}{w0:iP}{A:Around}{R:Result->iD->Prop}{I:Addr}{fp wr:List Addr}{n:Nat}{P:Nat->Value->Prop}{St:Nat->Heap->Prop}
def QN(P0:iK) (w0:iP) (A:Around) (P:Nat->Value->Prop) (bt:Nat->Nat->Bool) (G:Heap->Prop):Prop:=∀(i j:Nat) (vi vj:Value) (s:iD) (Q E:Value->iD->Prop),G s.heap->P i vi->P j vj->Q (.bool (bt i j)) s->iI (iG P0 w0) A (ki .Lt vi vj) Q E s
theorem Il(W:Walks P0 w0 A.in1 I fp wr n P St) (bt:Nat->Nat->Bool) {G:Heap->Prop}(S:Addr) (hG:∀h h':Heap,G h->(∀b o,b∉wr->b≠S->h.get? b=some o->h'.get? b=some o)->G h') (hc:QN P0 w0 A.in1 P bt G) (hS:S∉fp) :
  ∀(k j:Nat) (s:iD) (v0:Value) (c:Nat),n-(j+1)=k->j+1<=n->G s.heap->St (j+1) s.heap->P (jr bt j) v0->s.heap.get? S=some { cls:=.type "list", dict:=none,data:=.seq #[v0,v0] c,slots:=#[] } ->
  (∀v h' tk,P (jr bt (n-1)) v->(∀b o,b∉wr->b≠S->s.heap.get? b=some o->h'.get? b=some o)->R (.ok (.ret v)) { s with heap:=h',toks:=tk })->jU (iG P0 w0) A (.builtin "min.loop" ⟨[.ref I,.none,.ref S],[]⟩) R s:=by
 have hw:S∉wr:=λz=>hS (W.sub _ z);have nm:(toString "min" ++ toString ".loop" : String) = "min.loop" := by decide
 intro k;induction k with
 |zero =>
  intro j s v0 c hk hj hg st hP0 h0 hR;have en:j+1=n:=by lia
  refine jn F.entry_min_loop ?_;rw[Around.under_plainId F.plain_min_loop _];show iI _ A.in1 (seqItems? (.ref S) >>= _) _ _ s;refine iF (kS h0 rfl ?_);show iI _ A.in1 (tryCatch (pyNext (.ref I)) _ >>= _) _ _ s;refine iF (kc (W.done s _ _ (en ▸ st) λh1 t1 k1=>?_));have h01:=k1 S _ hw h0
  show iI _ A.in1 (updateSeq S (λ_=>#[]) >>= _) _ _ _;refine iF ?_
  refine kG h01 rfl (iF (kM (iO (hR v0 _ t1 (by rw[←en];exact hP0) λb o x1 x2 z=>?_))))
  exact(aJ _ _ (Ne.symm x2)).trans (k1 b o x1 z)
 |succ k ih =>
  intro j s v0 c hk hj hg st hP0 h0 hR;have lt:j+1<n:=by lia
  refine jn F.entry_min_loop ?_;rw[Around.under_plainId F.plain_min_loop _];show iI _ A.in1 (seqItems? (.ref S) >>= _) _ _ s;refine iF (kS h0 rfl ?_);show iI _ A.in1 (tryCatch (pyNext (.ref I)) _ >>= _) _ _ s;refine iF (kc (W.item (j+1) s _ _ lt st λv h1 t1 hP MV k1=>?_));have h01:=k1 S _ hw h0
  have g1:G h1:=hG _ _ hg λb o x1 _ z=>k1 b o x1 z
  show iI _ A.in1 (tryCatch (holding [v,v] (ki .Lt v v0 >>= _)) _ >>= _) _ _ _;refine iF (kc (jg (iF (hc (j+1) (jr bt j) v v0 _ _ _ g1 hP hP0 ?_))));refine iF (jg (jv ?_));refine iF (kM (iO ?_));cases q:bt (j+1) (jr bt j) with
  |true =>
   simp only[if_true];refine iF ?_;refine kG h01 rfl (iF (kM ?_));rw[nm];refine iO ⟨jD F.plain_min_loop _,ih (j+1) _ v _ (by lia) lt (hG _ _ g1 λb o _ x2 z=>(aJ _ _ (Ne.symm x2)).trans z) (W.frame _ _ _ MV λb hb o z=>(aJ _ _ (λy:S=b=>hS (by rw[y];exact hb))).trans z) (by simp only[jr,q,if_true];exact hP) (bL _ h01 rfl) λv' h2 t2 hP2 k2=>hR v' h2 t2 hP2 λb o x1 x2 z=>k2 b o x1 x2 ((aJ _ _ (Ne.symm x2)).trans (k1 b o x1 z))⟩
  |false =>
   simp only[cy,if_false];refine iF (kM ?_);rw[nm];exact iO ⟨jD F.plain_min_loop _,ih (j+1) _ v0 c (by lia) lt g1 MV (by simp only[jr,q,cy,if_false];exact hP0) h01 λv' h2 t2 hP2 k2=>hR v' h2 t2 hP2 λb o x1 x2 z=>k2 b o x1 x2 (k1 b o x1 z)⟩
theorem GV(W:Walks P0 w0 A.in1 I fp wr n P St) (bt:Nat->Nat->Bool) {G:Heap->Prop}(S:Addr) (hG:∀h h':Heap,G h->(∀b o,b∉wr->b≠S->h.get? b=some o->h'.get? b=some o)->G h') (hc:QN P0 w0 A.in1 P bt G) (hS:S∉fp) (hn:0<n) {s:iD}{c:Nat}(hg:G s.heap) (st:St 0 s.heap)
  (h0:s.heap.get? S=some { cls:=.type "list", dict:=none,data:=.seq #[] c,slots:=#[] }) (hR:∀v h' tk,P (jr bt (n-1)) v->(∀b o,b∉wr->b≠S->s.heap.get? b=some o->h'.get? b=some o)->R (.ok (.ret v)) { s with heap:=h',toks:=tk }) :
  jU (iG P0 w0) A (.builtin "min.loop" ⟨[.ref I,.none,.ref S],[]⟩) R s:=by
 have hw:S∉wr:=λz=>hS (W.sub _ z);have nm:(toString "min" ++ toString ".loop" : String) = "min.loop" := by decide
 refine jn F.entry_min_loop ?_;rw[Around.under_plainId F.plain_min_loop _];show iI _ A.in1 (seqItems? (.ref S) >>= _) _ _ s;refine iF (kS h0 rfl ?_);show iI _ A.in1 (tryCatch (pyNext (.ref I)) _ >>= _) _ _ s;refine iF (kc (W.item 0 s _ _ hn st λv h1 t1 hP MV k1=>?_));have h01:=k1 S _ hw h0
 have g1:G h1:=hG _ _ hg λb o x1 _ z=>k1 b o x1 z
 show iI _ A.in1 (updateSeq S (λ_=>#[v,v]) >>= _) _ _ _;refine iF ?_;refine kG h01 rfl ?_;rw[nm]
 exact iO ⟨jD F.plain_min_loop _,Il W bt S hG hc hS _ 0 _ v _ rfl hn (hG _ _ g1 λb o _ x2 z=>(aJ _ _ (Ne.symm x2)).trans z) (W.frame _ _ _ MV λb hb o z=>(aJ _ _ (λy:S=b=>hS (by rw[y];exact hb))).trans z) hP (bL _ h01 rfl) λv' h2 t2 hP2 k2=>hR v' h2 t2 hP2 λb o x1 x2 z=>k2 b o x1 x2 ((aJ _ _ (Ne.symm x2)).trans (k1 b o x1 z))⟩
end
section
variable {P0:iK}{w0:iP}{A:Around}{E:Value->iD->Prop}{s:iD}
theorem ID{x:Value}{Q:Value->iD->Prop}(h:iI (iG P0 w0) A.in1 (pyIter x) (λit s2=>∃(I:Addr) (fp wr:List Addr) (n:Nat) (P:Nat->Value->Prop) (St:Nat->Heap->Prop) (bt:Nat->Nat->Bool) (G:Heap->Prop),it = .ref I/\Walks P0 w0 A.in1 I fp wr n P St/\St 0 s2.heap/\(∀b∈fp,b<s2.heap.objs.size)/\0<n/\G s2.heap/\(∀h h':Heap,G h->(∀b o,b∉wr->b≠s2.heap.objs.size->h.get? b=some o->h'.get? b=some o)->G h')/\QN P0 w0 A.in1 P bt G /\
   ∀v h' tk,P (jr bt (n-1)) v->(∀b o,b∉wr->s2.heap.get? b=some o->h'.get? b=some o)->Q v { s2 with heap:=h',toks:=tk }) E s):iI (iG P0 w0) A (call (.builtin "min") [x]) Q E s:=by
 have nm:(toString "min" ++ toString ".loop" : String) = "min.loop" := by decide
 refine call_function_tree F.kind_min F.plain_min F.entry_min (F.args_min1 _) ?_;show iI _ A.in1 (Builtin.Builtins.bindParams "min" ["key", "default"] 0 ⟨[],[]⟩ >>= _) _ _ s;refine iF (wpAny_of_eq (show Builtin.Builtins.bindParams "min" ["key", "default"] 0 ⟨[],[]⟩=pure [none,none] from rfl) ?_);refine iF (iO ?_)
 refine iF (iU h (λit s2 z=>?_) λ_ _ e=>e);obtain⟨I,fp,wr,n,P,St,bt,G,rfl,W,st,hf,hn,g,hG,hc,hQ⟩:=z
 refine iF (ko ?_);have hS:s2.heap.objs.size∉fp:=λm=>cf _ (hf _ m);rw[nm]
 refine iO ⟨jD F.plain_min_loop _,GV W bt s2.heap.objs.size hG hc hS hn (hG _ _ g λb o _ _ z=>ae _ z) (W.frame _ _ _ st λb _ o z=>ae _ z) (aU _ rfl) λv h1 tk hP k1=>?_⟩
 exact hQ v h1 tk hP λb o x1 z=>k1 b o x1 (aw (ah z)) (ae _ z)
end
end HT
namespace Mr
open PySem L2
open PySem.Spec PyProof.Rows
def HN(K:W.Frag) (H:Hp) (p:Addr) (c:List (List Int)):Prop:=∃qs:List Addr,BP K H p (qs.map V.ref)/\qs.length=c.length/\∀(i:Nat) (q:Addr) (r:List Int),qs[i]?=some q->c[i]?=some r->BP K H q (r.map V.int)
section
variable {X:Cx}
theorem Hc{mU:List (Addr×Obj)}{σ:St}{H:Hp}{s:iD}{p:Addr}{c:List (List Int)}(I:Inv X mU σ H s) (h:HN X.K H p c):HT.rd s.heap p c:=by
 obtain⟨qs,h1,h2,h3⟩:=h;obtain⟨its,rv,pl,_⟩:=I.tuple h1;have ei:=sN rv;subst ei;refine⟨qs,pl,h2,λi q r e1 e2=>?_⟩
 obtain⟨its,rv,pl,_⟩:=I.tuple (h3 i q r e1 e2);exact⟨its,pl,vC rv⟩
def RB(cs:List (List (List Int))) (i:Nat):Prop:=∀(j:Nat) (c d:List (List Int)),cs[j]?=some c->cs[i]?=some d->HT.pQ c d=false
theorem Fh{cs:List (List (List Int))}:∀k,k<cs.length->jr (λi j=>HT.pQ (cs.getD i []) (cs.getD j [])) k<=k/\∀j,j<=k->HT.pQ (cs.getD j []) (cs.getD (jr (λi j=>HT.pQ (cs.getD i []) (cs.getD j [])) k) [])=false
 |0,_=>⟨af _,λj hj=>by
  have:j=0:=by lia
  subst this;exact HT.wQ _⟩
 |k+1,hk=>by
  obtain⟨h1,h2⟩:=Fh (cs:=cs) k (by lia)
  simp only[jr]
  by_cases c:HT.pQ (cs.getD (k+1) []) (cs.getD (jr (λi j=>HT.pQ (cs.getD i []) (cs.getD j [])) k) [])=true
  .rw [nK c];refine⟨af _,λj hj=>?_⟩
   by_cases hjk:j<=k
   .exact HT.sU _ _ _ (HT.uX _ _ c) (h2 j hjk)
   .have:j=k+1:=by lia
    subst this;exact HT.wQ _
  .rw [nS c];refine⟨by lia,λj hj=>?_⟩
   by_cases hjk:j<=k
   .exact h2 j hjk
   .have:j=k+1:=by lia
    subst this;exact gS.mpr c
theorem IK(hc:X.calm=true) (hu:X.A.units+64<iX):vS X (.builtin "min") (λxs H Q=>∃(a:Addr) (ps:List Addr) (cs:List (List (List Int))),xs=[.ref a]/\qJ X.K H a (ps.map V.ref)/\0<ps.length/\ps.length=cs.length/\(∀(i:Nat) (p:Addr) (c:List (List Int)),ps[i]?=some p->cs[i]?=some c->HN X.K H p c)/\∀i p,ps[i]?=some p->RB cs i->Q (.ref p) H):=by
 intro mU s σ H xs us Q I r h;obtain⟨a,ps,cs,rfl,hS,hpos,hl,hE,q⟩:=h;obtain⟨u,rfl,ru⟩:=uP r;cases ru;obtain⟨its,rv,pl,hz⟩:=I.list hS;have ei:=sN rv;subst ei;have hL:=pl.isList;have hlt:a<s.heap.objs.size:=by obtain⟨o,e,_⟩:=hL;exact ah e
 have codes:∀i p,ps[i]?=some p->HT.rd s.heap p (cs.getD i []):=λi p hp=>by
  have hi:i<cs.length:=by rw[←hl];exact(gSq.mp hp).1
  exact Hc I (hE i p _ hp (by rw[gDq,gEg hi];rfl))
 refine HT.ID (wpAny_pyIter_list hL ?_);have old:∀b o,s.heap.get? b=some o->b≠s.heap.objs.size/\b≠s.heap.objs.size+1:=λb o e=>⟨aw (ah e),aw (bj (ah e))⟩
 refine⟨_,_,_,_,_,_,λi j=>HT.pQ (cs.getD i []) (cs.getD j []),λh=>∀b o,s.heap.get? b=some o->h.get? b=some o,rfl,Walks.list (A:=X.A.in1) (I.ok.hd hc) _ a (aw hlt) (ps.map ao).toArray,⟨⟨_,aU _ rfl,rfl,rfl⟩,hL.push _⟩,λb hb=>?_,by simpa using hpos,λb o e=>ae _ e,λh h' g k b o e=>k b o ?_ ?_ (g b o e),λi j vi vj s' Q E g hi hj z=>?_,λv h' tk hP hk=>?_⟩
 .show b<(s.heap.push _).objs.size;rw[dZ];rcases aj.mp hb with rfl|hb
  .exact dw _
  .rw [mSq.mp hb];exact bj hlt
 .intro m;exact(old b o e).1 (mSq.mp m)
 .show b≠(s.heap.push _).objs.size;rw[dZ];exact(old b o e).2
 .have gi:∀{i:Nat}{v:Value},(ps.map ao).toArray[i]?=some v->∃p,ps[i]?=some p/\v = .ref p:=λ{i v} h=>by
   rw[gj,gMq]at h;obtain⟨p,h1,rfl⟩:=oMq.mp h;exact⟨p,h1,rfl⟩
  obtain⟨p,h1,rfl⟩:=gi hi;obtain⟨p',h2,rfl⟩:=gi hj;exact((codes i p h1).keep g).lt ((codes j p' h2).keep g) (by show X.A.units+1+8<iX;lia) X.prog X.w E Q z
 .have hn:(ps.map ao).toArray.size=ps.length:=by simp
  rw[hn]at hP;have hb:=Fh (cs:=cs) (ps.length-1) (by lia)
  have hP':(ps.map ao).toArray[jr (λi j=>HT.pQ (cs.getD i []) (cs.getD j [])) (ps.length-1)]?=some v:=hP
  rw[gj,gMq]at hP';obtain⟨p,h1,rfl⟩:=oMq.mp hP';refine⟨.ref p,H,I.kept λb o e=>hk b o (λm=>(old b o e).1 (mSq.mp m)) (ae _ e),rfl,q _ p h1 λj c d e1 e2=>?_⟩
  have hj:j<cs.length:=(gSq.mp e1).1;have:=hb.2 j (by lia)
  rw[gDq,e1,gDq,e2]at this;exact this
theorem Be{h:Heap}{p:Addr}{c:List (List Int)}(hc:HT.rd h p c):Reads h (.ref p) (.tuple (c.map HT.tH)) []:=by
 obtain⟨qs,⟨o,ho,hcl,n,hd⟩,l1,r1⟩:=hc;refine Reads.tuple ho hcl hd ?_;rw[fe]
 clear ho hd
 induction qs generalizing c with
 |nil =>
  have:c=[]:=aV.mp l1.symm;subst this;exact .nil
 |cons q qs ih =>
  cases c with
  |nil=>cases l1
  |cons r c=>exact ReadsAll.cons (as:=[]) (bs:=[]) (r1 0 q r rfl rfl).reads (ih (by simpa using l1) λi q' r' e1 e2=>r1 (i+1) q' r' (by simpa using e1) (by simpa using e2))
theorem Hz:∀c:List (List Int),PyData.depthAll (c.map HT.tH)<=2
 | []=>by simp[PyData.depthAll]
 |r::c=>by
  have h1:=W.depthAll_ints r;have h2:=Hz c;simp only[ak,PyData.depthAll,HT.tH,PyData.depth];lia
theorem Lr:∀c:List (List Int),PyData.canLayAll0 (c.map HT.tH)=true
 | []=>by simp[PyData.canLayAll0]
 |r::c=>by
  have h1:=W.canLayAll0_ints r;have h2:=Lr c;simp only[ak,PyData.canLayAll0,HT.tH,PyData.canLay0];simp[h1,h2]
theorem G1:∀rs ts:List (List Int),SeqAt.noMixAll (rs.map HT.tH) (ts.map HT.tH)=true
 | [],[]=>by simp[SeqAt.noMixAll]
 | [],_::_=>by simp[SeqAt.noMixAll]
 |_::_,[]=>by simp[SeqAt.noMixAll]
 |r::rs,t::ts=>by simp[SeqAt.noMixAll,HT.tH,SeqAt.noMix,W.noMix_ints r t,G1 rs ts]
theorem JV:∀rs ts:List (List Int),PySem.Spec.sameAll (rs.map HT.tH) (ts.map HT.tH)=decide (rs=ts)
 | [],[]=>by simp[PySem.Spec.sameAll]
 | [],_::_=>by simp[PySem.Spec.sameAll]
 |_::_,[]=>by simp[PySem.Spec.sameAll]
 |r::rs,t::ts=>by
  simp only[ak,PySem.Spec.sameAll,HT.tH,PySem.Spec.same,W.same_ints r t];rw[JV rs ts]
  by_cases h:r=t <;> simp[h]
theorem T5{A:Around}{s:iD}{p p':Addr}{c d:List (List Int)}(h:HT.rd s.heap p c) (h':HT.rd s.heap p' d) (hu:A.units+8<iX):SeqAt.EqAt A s (.ref p) (.ref p') (decide (c=d)):=by
 have e:PyData.eqv (.tuple (c.map HT.tH)) (.tuple (d.map HT.tH))=decide (c=d):=by
  rw[←SeqAt.same_eq_eqv _ _ (by simp only[SeqAt.noMix];exact G1 c d)]
  simp only[PySem.Spec.same,JV]
 rw[←e];have d1:=Hz c;refine SeqAt.eqAt_reads _ _ A s (.ref p) (.ref p') [] [] (Be h) (Be h') (by simp only[PyData.canLay0];exact Lr c) (by simp only[PyData.canLay0];exact Lr d) ?_
 have:(PyData.tuple (c.map HT.tH)).depth<=3:=by simp only[PyData.depth];lia
 lia
end
end Mr
namespace Z
open PySem L2 Mr Xe
abbrev dC(c:List (List Int)):D:=.tup (c.map λr=>.tup (r.map .int))
def zJ:List D->Option (List (List Int))
 | []=>some []
 | .tup es::ds=>(qr es).bind λr=>(zJ ds).map (r :: ·)
 |_=>none
def yX:D->Option (List (List Int))
 | .tup ds=>zJ ds
 |_=>none
def vx:List D->Option (List (List (List Int)))
 | []=>some []
 |d::ds=>(yX d).bind λc=>(vx ds).map (c :: ·)
theorem AR:∀{ds:List D}{c:List (List Int)},zJ ds=some c->ds=c.map λr=>.tup (r.map .int)
 | [],c,h=>by cases h;rfl
 |d::ds,c,h=>by
  cases d with
  |tup es =>
   obtain⟨r,h1,h⟩:=oBq.mp h;obtain⟨c',h2,rfl⟩:=oMq.mp h;rw[AR h2,tU h1];rfl
  |_=>cases h
theorem DP{d:D}{c:List (List Int)}(h:yX d=some c):d=dC c:=by
 cases d with
 |tup ds=>rw[AR (ds:=ds) h]
 |_=>cases h
theorem xf:∀{ds:List D}{cs:List (List (List Int))},vx ds=some cs->ds=cs.map dC
 | [],cs,h=>by cases h;rfl
 |d::ds,cs,h=>by
  obtain⟨c,h1,h⟩:=oBq.mp h;obtain⟨c',h2,rfl⟩:=oMq.mp h;rw[xf h2,DP h1];rfl
theorem zd:∀c:List (List Int),zJ (c.map λr=>.tup (r.map .int))=some c
 | []=>rfl
 |r::c=>by
  show (qr (r.map .int)).bind _=_;rw[rN,fG,zd c];rfl
theorem Du(c:List (List Int)):yX (dC c)=some c:=zd c
theorem ug:∀cs:List (List (List Int)),vx (cs.map dC)=some cs
 | []=>rfl
 |c::cs=>by
  show (yX (dC c)).bind _=_;rw[Du,fG,ug cs];rfl
def Dx:List (List (List Int))->Option (List (List Int))
 | []=>none
 |c::cs=>some (cs.foldl (λm c=>if HT.pQ c m then c else m) c)
theorem AI:∀(cs:List (List (List Int))) (m:List (List Int)),(cs.foldl (λm c=>if HT.pQ c m then c else m) m=m∨cs.foldl (λm c=>if HT.pQ c m then c else m) m∈cs)/\HT.pQ m (cs.foldl (λm c=>if HT.pQ c m then c else m) m)=false/\∀c∈cs,HT.pQ c (cs.foldl (λm c=>if HT.pQ c m then c else m) m)=false
 | [],m=>⟨.inl rfl,HT.wQ _,λc h=>by cases h⟩
 |c::cs,m=>by
  rw[bK]
  by_cases q:HT.pQ c m=true
  .rw [nK q];obtain⟨h1,h2,h3⟩:=AI cs c;refine⟨.inr ?_,HT.sU _ _ _ h2 (HT.uX _ _ q),λd hd=>?_⟩
   .rcases h1 with h1|h1
    .rw [h1];simp
    .exact mCo _ h1
   .rcases aj.mp hd with rfl|hd
    .exact h2
    .exact h3 d hd
  .rw [nS q];obtain⟨h1,h2,h3⟩:=AI cs m;refine⟨?_,h2,λd hd=>?_⟩
   .rcases h1 with h1|h1
    .exact .inl h1
    .exact .inr (mCo _ h1)
   .rcases aj.mp hd with rfl|hd
    .exact HT.sU _ _ _ h2 (gS.mpr q)
    .exact h3 d hd
theorem Ar{cs:List (List (List Int))}{m:List (List Int)}(h:Dx cs=some m):m∈cs/\∀c∈cs,HT.pQ c m=false:=by
 cases cs with
 |nil=>cases h
 |cons c cs =>
  cases h;obtain⟨h1,h2,h3⟩:=AI cs c;refine⟨?_,λd hd=>?_⟩
  .rcases h1 with h1|h1
   .rw [h1];simp
   .exact mCo _ h1
  .rcases aj.mp hd with rfl|hd
   .exact h2
   .exact h3 d hd
def K6(l:ML):MK:=λS=>(l S).bind λx=>(vx x.1).bind λcs=>(Dx cs).map λm=>(.sh (dC m),x.2)
section
variable {K:W.Frag}{te:TE}
theorem EV{H:Hp}{c:List (List Int)}{v:V}(r:pV K H (dC c) v):∃p,v = .ref p/\HN K H p c:=by
 obtain⟨p,vs,rfl,h1,h2⟩:=r.tup_inv;have key:∀{c:List (List Int)}{vs:List V},ox K H (c.map λr=>.tup (r.map .int)) vs->∃qs:List Addr,vs=qs.map V.ref/\qs.length=c.length/\∀(i:Nat) (q:Addr) (r:List Int),qs[i]?=some q->c[i]?=some r->H q=some (.tup (r.map V.int)):=λ{c}=>by
  induction c with
  |nil =>
   intro vs h;exact⟨[],h.nil_inv,rfl,λi q r e=>by cases e⟩
  |cons r c ih =>
   intro vs h;obtain⟨v,ws,rfl,g1,g2⟩:=h.cons_inv;obtain⟨q,us,rfl,k1,k2⟩:=g1.tup_inv;rw[qc k2]at k1;obtain⟨qs,rfl,l1,e1⟩:=ih g2;refine⟨q::qs,rfl,by simp[l1],λi q' r' a b=>?_⟩
   cases i with
   |zero=>cases a;cases b;exact k1
   |succ i=>exact e1 i q' r' (by simpa using a) (by simpa using b)
 obtain⟨qs,rfl,l1,e1⟩:=key h2;exact⟨p,rfl,qs,BP.of h1,l1,λi q r a b=>BP.of (e1 i q r a b)⟩
theorem Ab{H:Hp}:∀{cs:List (List (List Int))}{vs:List V},ox K H (cs.map dC) vs->∃ps:List Addr,vs=ps.map V.ref/\ps.length=cs.length/\∀(i:Nat) (p:Addr) (c:List (List Int)),ps[i]?=some p->cs[i]?=some c->pV K H (dC c) (.ref p)
 | [],vs,h=>⟨[],h.nil_inv,rfl,λi q r e=>by cases e⟩
 |c::cs,vs,h=>by
  obtain⟨v,ws,rfl,g1,g2⟩:=h.cons_inv;obtain⟨p,rfl,_⟩:=EV g1;obtain⟨ps,rfl,l1,e1⟩:=Ab g2;refine⟨p::ps,rfl,by simp[l1],λi q' r' a b=>?_⟩
  cases i with
  |zero=>cases a;cases b;exact g1
  |succ i=>exact e1 i q' r' (by simpa using a) (by simpa using b)
theorem ND{l:ML}(hl:SQ K te l):SK K (Mj (λxs H Q=>∃(a:Addr) (ps:List Addr) (cs:List (List (List Int))),xs=[.ref a]/\qJ K H a (ps.map V.ref)/\0<ps.length/\ps.length=cs.length/\(∀(i:Nat) (p:Addr) (c:List (List Int)),ps[i]?=some p->cs[i]?=some c->HN K H p c)/\∀i p,ps[i]?=some p->RB cs i->Q (.ref p) H) (rE te uu)) (K6 l):=by
 intro H₀ Hf₀ Hf S σ H Fs av S' R e Q q;obtain⟨x,e1,e⟩:=oBq.mp e;obtain⟨cs,e2,e⟩:=oBq.mp e;obtain⟨m,e3,e⟩:=oMq.mp e;cases e;refine hl R (ds:=x.1) (S':=x.2) e1 _ λHf1 H1 Fs1 p1 vs1 t1 R1 h1 r1=>?_
 rw[xf e2]at r1;obtain⟨ps,rfl,l1,r2⟩:=Ab r1;obtain⟨low1,low2⟩:=Ar e3;have pos:0<ps.length:=by rw[l1];exact eB low1
 refine⟨p1,ps,cs,rfl,h1,pos,l1,λi p c a b=>?_,λi p hp low=>?_⟩
 .obtain ⟨p',e,h⟩:=EV ((r2 i p c a b).mono R1.sub);cases e;exact h
 .have hi:i<cs.length:=by rw[←l1];exact(gSq.mp hp).1
  have hc:cs[i]?=some cs[i]:=gEg hi;obtain⟨j,hj,ej⟩:=bB.mp low1;have em:cs[i]=m:=HT.yQ _ _ (low2 _ (gRq hi)) (low j m _ (by rw[gEg hj,ej]) hc)
  have rp:=r2 i p _ hp hc;rw[em]at rp;exact q _ _ _ (.ref p) [] t1 R1 (.sh rp) .nil
end
theorem Qj(S:AS) (l:ML):K6 l S=(l S).bind λx=>(vx x.1).bind λcs=>(Dx cs).map λm=>(.sh (dC m),x.2):=rfl
def Vj:=@Qj
def Ti:=aa zq (aa Vg (aa VA (aa Vb (aa Va (aa Vz (aa Vi (aa U5 (aa Ve (Vj)))))))))
end Z
local macro_rules | `(tactic| simp_arith [$ls,*]) => `(tactic| simp -implicitDefEqProofs only [Z.Ti,fy,gG,fJ,fK,eU,↓reduceIte,reduceCtorEq,$ls,*])
namespace Mr
open PySem L2
open PySem.Spec PyProof.Rows
def O7:V->Int
 | .int i=>i
 |_=>0
def vm(H:Hp) (p:Addr) (c:List (List Int)):Prop:=∃qs:List Addr,H p=some (.tup (qs.map V.ref))/\qs.length=c.length/\∀(i:Nat) (q:Addr) (r:List Int),qs[i]?=some q->c[i]?=some r->H q=some (.tup (r.map V.int))
def qE(H:Hp) (p:Addr):List (List Int):=match H p with
 |some (.tup vs)=>vs.map λv=>match v with
  | .ref q=>match H q with
   |some (.tup ws)=>ws.map O7
   |_=>[]
  |_=>[]
 |_=>[]
theorem vm.eq{H:Hp}{p:Addr}{c:List (List Int)}(h:vm H p c):qE H p=c:=by
 obtain⟨qs,h1,h2,h3⟩:=h;unfold qE;rw[h1];show (qs.map V.ref).map _=c;rw[mPq];refine eg λi=>?_
 rw[gMq]
 by_cases hi:i<qs.length
 .have hc:i<c.length:=by lia
  have e:=h3 i qs[i] c[i] (gEg hi) (gEg hc);rw[gEg hi,gEg hc];show some (match H qs[i] with|some (.tup ws)=>ws.map O7|_=>[])=some c[i]
  rw[e];show some ((c[i].map V.int).map O7)=_;rw[mPq];exact congrArg some (List.map_id' c[i])
 .rw [bM (by lia),bM (by lia)]
  rfl
theorem vm.same{H H':Hp}{p:Addr}{c:List (List Int)}(h:vm H p c) (s:nU H H'):vm H' p c:=by
 obtain⟨qs,h1,h2,h3⟩:=h;exact⟨qs,s _ _ h1,h2,λi q r e1 e2=>s _ _ (h3 i q r e1 e2)⟩
def DT(H:Hp) (ps:List Addr) (cs:List (List (List Int))):Prop:=cs=ps.map (qE H)/\∀p∈ps,vm H p (qE H p)
end Mr
namespace MrS
open PySem PyProof.Rows
section
variable {prog:iK}{w:iP}{A:Around}{E:Value->iD->Prop}{s:iD}{Pk:iE->Prop}{lt:iE->iE->Bool}{κ:iZ}
theorem D6{a:Addr}{vs:List Value}{n:Nat}{P:PySem.Fin->iD->Prop}(ho:s.heap.get? a=some (iS "list" vs.toArray n)) (hs:vs.length<=iN)
  (hkk:2<=vs.length->∀Q:iZ->iD->Prop,Q κ { s with heap:=pX s.heap a vs }->iI (iG prog w) A (ke vs.toArray) Q E { s with heap:=pX s.heap a vs })
  (C:wc prog w A { s with heap:=pX s.heap a vs } κ Pk lt) (hp:∀x,x∈jb vs->Pk x)
  (h:∀xs:Array iE,xs.Perm (jb vs)->xk lt xs 0 (jb vs).size->P (.done (.ret .none)) { s with heap:=jz s.heap a vs (xs.map (·.2)) }) :
  iI (iG prog w) A (Builtin.«list.sort» ⟨[.ref a],[]⟩) P E s:=by
 rw[list_sort_plain];have ha:a<s.heap.objs.size:=ah ho;refine iF (listItems_at ho rfl ?_);refine iF (jE ho rfl ?_ (hsz:=by simpa using hs))
 obtain⟨e1,ho1⟩:∃e1,(s.heap.update a (Obj.mapSeq λ_=>#[])).get? a=some (iS "list" #[] e1):=⟨_,jY ho (λ_=>#[])⟩
 refine iF (jO ho1 rfl ?_);refine iF (wpAny_newTuple ?_);refine iF (jC ?_);refine jg ?_;have ho6:(pX s.heap a vs).get? a=some (iS "list" #[] e1):=by
  rw[cE _ _ _ (by rw[kx,bS];exact aw (bj ha)),cE _ _ _ (by rw[bS];exact aw ha)]
  exact ho1
 show iI (iG prog w) A _ P E { s with heap:=pX s.heap a vs }
 dsimp only;have hsz:vs.toArray.size=vs.length:=by simp
 have hs':iN=16777216:=iY
 by_cases h2:vs.toArray.size<2
 .rw [nK h2,nK h2];refine iF (iO ?_);rw[StateT.run_pure];refine iF (iO ?_);dsimp only;refine iF (jO ho6 rfl ?_);refine iF (jE ho6 rfl ?_ (hsz2:=by rw[fj];show (jb vs).size<=_;rw[jj,iY];lia))
  simp only[bne_self_eq_false,cy,if_false];refine iO (h _ (gD.refl _) ?_);intro i j x y _ hij hj ex ey;have:i=j:=by rw[jj]at hj;lia
  subst this;rw[ex]at ey;cases ey;exact C.refl (hp x (aQq ex))
 .rw [nS h2,nS h2];refine iF (hkk (by lia) _ ?_)
  refine iF (iU (yt C (arr:=jb vs) (g:=7) (E:=E)
   (Q:=λ_ st'=>∃xs p g',st'=uQ κ xs p g'/\xs.Perm (jb vs)/\xk lt xs 0 (jb vs).size) hp (by rw[jj];lia) λxs p g' a1 a2=>⟨xs,p,g',rfl,a1,a2⟩) ?_ λ_ _ e=>e)
  rintro⟨⟨⟩,st'⟩ s' ⟨rfl,xs,p,g',rfl,hpm,hsg⟩;dsimp only;refine iF (jO ho6 rfl ?_);refine iF (jE ho6 rfl ?_ (hsz2:=by refine br (dR ((fj ..).trans (hpm.size_eq.trans (jj _)))) ?_;lia))
  simp only[bne_self_eq_false,cy,if_false];exact iO (h xs hpm hsg)
theorem LV{l:Addr}{vs:List Value}{Q:Value->iD->Prop}(hl:s.heap.IsList l vs.toArray) (hs:vs.length<=iN)
  (hC:∀s':iD,(∀b o,s.heap.get? b=some o->s'.heap.get? b=some o)->(2<=vs.length->∀Q:iZ->iD->Prop,Q κ s'->iI (iG prog w) A.in1.in1 (ke vs.toArray) Q E s')/\wc prog w A.in1.in1 s' κ Pk lt)
  (hp:∀v∈vs,Pk (v,v))
  (h:∀(out:List Value) (h':Heap) (n':Nat),out.Perm vs->out.Pairwise (λx y=>lt (y,y) (x,x)=false)->(∀b o,s.heap.get? b=some o->h'.get? b=some o) ->
   h'.get? (s.heap.objs.size+1)=some (iS "list" out.toArray n')->Q (.ref (s.heap.objs.size+1)) { s with heap:=h' }) :
  iI (iG prog w) A (call (.builtin "sorted") [.ref l]) Q E s:=by
 refine Calls.call_function_entry lJ lD lF (lH _) ?_;unfold Builtin.«sorted»;refine iF (m:=checkCount "sorted" 1 1 _) (iO ?_);refine iF (collect_list hl ?_ hs);refine iF (jC ?_);have hsz:((s.heap.push (iS "list" #[] 0)).update s.heap.objs.size (Obj.mapSeq (· ++ vs.toArray))).objs.size=s.heap.objs.size+1:=by
  rw[bS,kx]
 have hoL:(((s.heap.push (iS "list" #[] 0)).update s.heap.objs.size (Obj.mapSeq (· ++ vs.toArray))).push (iS "list" vs.toArray 0)).get? (s.heap.objs.size+1)=some (iS "list" vs.toArray 0):=by
  rw[←hsz];exact aU _ rfl
 show iI _ _ _ _ _ { s with heap:=((s.heap.push (iS "list" #[] 0)).update s.heap.objs.size (Obj.mapSeq (· ++ vs.toArray))).push (iS "list" vs.toArray 0) }
 rw[hsz];generalize hG:((s.heap.push (iS "list" #[] 0)).update s.heap.objs.size (Obj.mapSeq (· ++ vs.toArray))).push (iS "list" vs.toArray 0)=G at hoL ⊢;have k1:∀b o,s.heap.get? b=some o->G.get? b=some o:=λb o e=>by
  rw[←hG];refine ae _ ?_;rw[bx _ _ _ _ (aw (ah e))];exact ae _ e
 have k2:∀b o,s.heap.get? b=some o->(pX G (s.heap.objs.size+1) vs).get? b=some o:=λb o e=>by
  refine ae _ (ae _ ?_);rw[bx _ _ _ _ (aw (bj (ah e)))];exact k1 b o e
 obtain⟨q1,q2⟩:=hC { s with heap:=pX G (s.heap.objs.size+1) vs } k2
 refine iF (jg (kC kT ⟨_,hoL,rfl⟩ kH (D6 (Pk:=Pk) (lt:=lt) hoL hs q1 q2 (λx hx=>?_) λxs a1 a2=>⟨_,rfl,?_⟩) (kW _)))
 .obtain ⟨m1,m2⟩:=tq hx;have:x=(x.1,x.1):=gI rfl m2;rw[this];exact hp _ m1
 .obtain ⟨v1,v2⟩:=wM a1 a2;obtain⟨e1,ho1⟩:=CB vs hoL;obtain⟨n1,g1⟩:=Dg (xs.map (·.2)) ho1;refine iO ⟨_,rfl,h _ (jz G (s.heap.objs.size+1) vs (xs.map (·.2))) n1 v1 v2 (λb o e=>?_) ?_⟩
  .unfold jz;rw[bx _ _ _ _ (aw (bj (ah e)))];exact k2 b o e
  .rw [show (xs.map (·.2)).toList.toArray=xs.map (·.2) from eS]
   exact g1
end
end MrS
namespace Mr
open PySem L2
open PySem.Spec PyProof.Rows
theorem E9{prog:iK}{w:iP}{A:Around}{s:iD}{Q:Bool->iD->Prop}(hu:A.units+4<iX) {fin:Bool}:∀(qs qs':List Addr) (c d:List (List Int)) (i:Nat),qs.length=c.length->qs'.length=d.length ->
  (∀(i:Nat) (q:Addr) (r:List Int),qs[i]?=some q->c[i]?=some r->HT.wj s.heap q r)->(∀(i:Nat) (q:Addr) (r:List Int),qs'[i]?=some q->d[i]?=some r->HT.wj s.heap q r)->fin=decide (c.length<d.length)->Q (HT.pQ c d) s->W.KatLex prog w A false fin Q ((qs.map ao).zip (qs'.map ao)) i s
 | [],qs',[],d,i,_,l2,_,_,hf,k=>by
  refine W.kat_nil ?_;cases d with
  |nil=>rw[hf];simpa [HT.pQ] using k
  |cons y d=>rw[hf];simpa [HT.pQ] using k
 |q::qs,[],r::c,[],i,_,_,_,_,hf,k=>by
  refine W.kat_nil ?_;rw[hf];simpa [HT.pQ] using k
 |q::qs,q'::qs',r::c,r'::d,i,l1,l2,h1,h2,hf,k=>by
  have t1:=h1 0 q r rfl rfl;have t2:=h2 0 q' r' rfl rfl;refine W.kat_cons (t1.eq t2 hu prog w _ _ ?_);rw[HT.pQ]at k;refine W.kat_go (λe=>?_) λe=>?_
  .have e:=of_decide_eq_true e;rw[nK e]at k;exact W.kat_yes (E9 hu qs qs' c d (i+1) (by simpa using l1) (by simpa using l2) (λj q r a b=>h1 (j+1) q r a b) (λj q r a b=>h2 (j+1) q r a b) (by rw[hf];simp) k)
  .have e:=of_decide_eq_false e;rw[nS e]at k;refine W.kat_no ?_;show iI _ _ (oneLt' false _ _) _ _ _;exact W.kat_one _ _ (t1.lt t2 hu prog w _ _ k)
theorem TF{prog:iK}{w:iP}{A:Around}{s:iD}{ps:List Addr}{r:Addr->List (List Int)}(hu:A.units+40<iX)
  (h:∀p∈ps,HT.rd s.heap p (r p)):MrS.wc prog w A s (tuples' false) (λx=>∃p,x.1 = .ref p/\p∈ps) (Uz r) where
 ask:=by
  rintro⟨_,x⟩ ⟨_,y⟩ ⟨p,e1,hp⟩ ⟨q,e2,hq⟩ E Q k;dsimp only at e1 e2;subst e1 e2;obtain⟨qs,⟨o,ho,hc,n,hd⟩,l1,r1⟩:=h p hp;obtain⟨qs',⟨o',ho',hc',n',hd'⟩,l2,r2⟩:=h q hq;refine W.kat_lt ho hd ho' hd' ?_;exact E9 (by lia) qs qs' (r p) (r q) 0 l1 l2 r1 r2 (by simp[l1,l2]) k
 asym:=by
  rintro⟨_,x⟩ ⟨_,y⟩ ⟨a,e1,_⟩ ⟨b,e2,_⟩ h;dsimp only at e1 e2;subst e1 e2;exact HT.uX _ _ h
 trans:=by
  rintro⟨_,x⟩ ⟨_,y⟩ ⟨_,z⟩ ⟨a,e1,_⟩ ⟨b,e2,_⟩ ⟨c,e3,_⟩ h1 h2;dsimp only at e1 e2 e3;subst e1 e2 e3;exact HT.sU _ _ _ h1 h2
theorem Rr{M:jR}{A:Around}{E:Value->iD->Prop}{s:iD}{ps:List Addr}{r:Addr->List (List Int)}{Q:iZ->iD->Prop}(h2:2<=ps.length) (h:∀p∈ps,HT.rd s.heap p (r p)) (hne:∀p∈ps,r p≠[]) (q:Q (tuples' false) s):iI M A (ke (ps.map ao).toArray) Q E s:=by
 have key:∀ps:List Addr,(∀p∈ps,HT.rd s.heap p (r p))->(∀p∈ps,r p≠[])->∃fs:List Addr,fs.length=ps.length/\W.KatTups s.heap (ps.map ao) (fs.map ao)/\∀f∈fs,∃z,HT.wj s.heap f z:=λps=>by
  induction ps with
  |nil=>intro _ _;exact⟨[],rfl,W.KatTups.nil,λf hf=>by cases hf⟩
  |cons p ps ih =>
   intro h hne;obtain⟨fs,a1,a2,a3⟩:=ih (λp hp=>h p (mCo _ hp)) (λp hp=>hne p (mCo _ hp))
   obtain⟨qs,⟨o,ho,hc,n,hd⟩,l1,r1⟩:=h p (ay ..);have n1:=hne p (ay ..);cases hr:r p with
   |nil=>exact absurd hr n1
   |cons z c =>
    rw[hr]at l1 r1;cases qs with
    |nil=>cases l1
    |cons f qs =>
     refine⟨f::fs,by rw[lCq,lCq,a1],W.KatTups.cons ho hc hd rfl a2,λg hg=>?_⟩
     rcases aj.mp hg with w|w
     .rw [w];exact⟨z,r1 0 f z rfl rfl⟩
     .exact a3 g w
 obtain⟨fs,a1,a2,a3⟩:=key ps h hne;refine W.kat_kind (T:=.type "tuple") a2 (by rw[lMq];lia) (λv hv=>?_) (by rfl) q
 obtain⟨f,hf,rfl⟩:=mMq.mp hv;obtain⟨z,vs,⟨o,ho,hc,_⟩,_⟩:=a3 f hf;intro A Q E s2 k2 q2;exact wpAny_typeOf (T := "tuple") ⟨o,k2 _ _ ho,hc⟩ q2
end Mr
namespace Mr
open PySem L2 PySem.Calls
open PySem.Spec PyProof.Rows
section
variable {X:Cx}
theorem L0{mU:List (Addr×Obj)}{σ:St}{H:Hp}{s:iD}{p:Addr}{c:List (List Int)}(I:Inv X mU σ H s) (h:vm H p c):HT.rd s.heap p c:=by
 obtain⟨qs,h1,h2,h3⟩:=h;exact Hc I ⟨qs,BP.of h1,h2,λi q r e1 e2=>BP.of (h3 i q r e1 e2)⟩
theorem vD(hu:X.A.units+64<iX):vS X (.builtin "sorted") (λxs H Q=>∃(a:Addr) (ps:List Addr) (cs:List (List (List Int))),xs=[.ref a]/\qJ X.K H a (ps.map V.ref)/\DT H ps cs/\(∀c∈cs,c≠[]) /\
  ∀(p:Addr) (qs:List Addr),H p=none->qs.Perm ps->qs.map (qE H)=rB cs->Q (.ref p) (oK H p (.lst (qs.map V.ref)))):=by
 intro mU s σ H xs us Q I r h;obtain⟨a,ps,ms,rfl,hS,⟨hm,hE⟩,hne,q⟩:=h;obtain⟨u,rfl,ru⟩:=uP r;cases ru;obtain⟨its,rv,hl,hz⟩:=I.list hS;have ei:=sN rv;subst ei;have keepL:∀(s':iD),(∀b o,s.heap.get? b=some o->s'.heap.get? b=some o)->∀p∈ps,HT.rd s'.heap p (qE H p):=λs' k p hp=>(L0 I (hE p hp)).keep k
 have hne':∀p∈ps,qE H p≠[]:=λp hp=>hne _ (by rw[hm];exact mMq.mpr ⟨p,hp,rfl⟩)
 refine MrS.LV (κ:=tuples' false) (Pk:=λx=>∃p,x.1 = .ref p/\p∈ps) (lt:=Uz (qE H)) hl.isList (by simpa using hz) (λs' k=>⟨λh2 Q q=>?_,TF (by show X.A.units+1+1+40<iX;lia) (keepL s' k)⟩) (λv m=>?_) λout h' n' o1 o2 o3 o4=>?_
 .exact Rr (by simpa using h2) (keepL s' k) hne' q
 .obtain ⟨p,hp,rfl⟩:=mMq.mp m;exact⟨p,rfl,hp⟩
 .have ho:∀v∈out,∃p∈ps,v = .ref p:=λv m=>by
   obtain⟨p,hp,rfl⟩:=mMq.mp (o1.mem_iff.mp m);exact⟨p,hp,rfl⟩
  have eo:out=(out.map qY).map ao:=by
   rw[mPq];have e:=mCq (l:=out) (f:=id) (g:=ao∘qY) λv hv=>by
    obtain⟨p,_,rfl⟩:=ho v hv;rfl
   rw[←e,dg]
  have hq:(out.map qY).Perm ps:=by
   have:=o1.map qY;rw[mPq,show qY∘ao=id from rfl,dg]at this
   exact this
  have hp:H (s.heap.objs.size+1)=none:=I.hok.fresh (bw _);generalize out.map qY=qs at eo hq;have es:qs.map (qE H)=rB ms:=by
   refine CU (by rw[hm];exact hq.map _) ?_
   rw[bA];rw[eo,bA]at o2;exact o2
  refine⟨.ref (s.heap.objs.size+1),_,I.laid (t':=s.toks) o3 (bw _) (show pL X.prog X.w _ h' _ (.lst (qs.map V.ref)) from ⟨?_,out,n',?_,o4⟩),rfl,q _ qs hp hq es⟩
  .rw [lMq,hq.length_eq];simpa using hz
  .rw [eo];exact yV qs
def OD:V->List V->Hp->VK->Prop:=λx vs H Q=>∃(a b:Addr) (ps:List Addr) (cs:List (List (List Int))) (c:List (List Int)),x = .ref a/\vs=[.ref b]/\H a=some (.lst (ps.map V.ref))/\DT H ps cs/\vm H b c/\Q (.int (cs.count c:Nat)) H
theorem KO{α:Type} [BEq α] [LawfulBEq α] [DecidableEq α] {ps:List Addr}{g:Addr->α}{c:α}:(ps.map ao).countP (λy=>decide (g (qY y)=c))=(ps.map g).count c:=by
 rw[eW,List.count,eW];refine gT λx _=>?_
 show decide (g x=c)=true↔(g x == c)=true;rw[decide_eq_true_iff,beq_iff_eq]
theorem Nj(hu:X.A.units+65<iX):Q7 X "list.count" OD:=by
 intro mU s σ H x xs v us Q I rx r h;obtain⟨a,b,ps,cs,c,rfl,rfl,h1,⟨hm,hE⟩,h2,q⟩:=h;cases rx;obtain⟨u,rfl,ru⟩:=uP r;cases ru;obtain⟨its,rv,⟨o,n,ho,hc,hd0,hd⟩,hz⟩:=I.list (qJ.of h1);have ei:=sN rv;subst ei;obtain⟨cls,dd,data,sl⟩:=o;simp only at hc hd0 hd;subst hc hd0 hd;refine jA cQ ⟨_,ho,rfl⟩ fD (fx _ _)
  (SeqAt.list_countAt a (ps.map ao).toArray n none sl (.ref b) (λy=>decide (qE H (qY y)=c))) ⟨ho,λy hy=>?_,?_⟩
 .rw [List.mem_toArray]at hy;obtain⟨p,hp,rfl⟩:=mMq.mp hy;exact T5 (L0 I (hE p hp)) (L0 I h2) (by first|(show X.A.units+1+8<iX;lia)|(show X.A.units+1+1+8<iX;lia))
 .refine ⟨.int _,H,I.tok _,⟨_,rfl⟩,?_⟩;rw[fe,KO,←hm];exact q
end
end Mr
namespace Z
open PySem L2 Mr Xe
def xy(l:ML):MK:=λS=>(l S).bind λx=>(vx x.1).bind λcs=>uO (∀c∈cs,c≠[]) (some (.ow ((rB cs).map λc=>.sh (dC c)),x.2))
theorem HJ(l:ML) (S:AS):xy l S=(l S).bind λx=>(vx x.1).bind λcs=>uO (∀c∈cs,c≠[]) (some (.ow ((rB cs).map λc=>.sh (dC c)),x.2)):=rfl
def Cb:D->List D->Option D
 | .list ds,[d]=>(vx ds).bind λcs=>(yX d).map λc=>.int (cs.count c:Nat)
 |_,_=>none
section
variable {K:W.Frag}{te:TE}{l:ML}
theorem Hn{H:Hp}{c:List (List Int)}{v:V}(r:pV K H (dC c) v):∃p,v = .ref p/\vm H p c:=by
 obtain⟨p,vs,rfl,h1,h2⟩:=r.tup_inv;have key:∀{c:List (List Int)}{vs:List V},ox K H (c.map λr=>.tup (r.map .int)) vs->∃qs:List Addr,vs=qs.map V.ref/\qs.length=c.length/\∀(i:Nat) (q:Addr) (r:List Int),qs[i]?=some q->c[i]?=some r->H q=some (.tup (r.map V.int)):=λ{c}=>by
  induction c with
  |nil =>
   intro vs h;exact⟨[],h.nil_inv,rfl,λi q r e=>by cases e⟩
  |cons r c ih =>
   intro vs h;obtain⟨v,ws,rfl,g1,g2⟩:=h.cons_inv;obtain⟨q,us,rfl,k1,k2⟩:=g1.tup_inv;rw[qc k2]at k1;obtain⟨qs,rfl,l1,e1⟩:=ih g2;refine⟨q::qs,rfl,by simp[l1],λi q' r' a b=>?_⟩
   cases i with
   |zero=>cases a;cases b;exact k1
   |succ i=>exact e1 i q' r' (by simpa using a) (by simpa using b)
 obtain⟨qs,rfl,l1,e1⟩:=key h2;exact⟨p,rfl,qs,h1,l1,e1⟩
theorem AD{H:Hp}:∀{cs:List (List (List Int))}{vs:List V},ox K H (cs.map dC) vs->∃ps,vs=ps.map V.ref/\DT H ps cs/\∀p∈ps,pV K H (dC (qE H p)) (.ref p)
 | [],vs,h=>⟨[],h.nil_inv,⟨rfl,λp hp=>by cases hp⟩,λp hp=>by cases hp⟩
 |c::cs,vs,h=>by
  obtain⟨v,ws,rfl,h1,h2⟩:=h.cons_inv;obtain⟨ps,rfl,⟨e1,e2⟩,e3⟩:=AD h2;obtain⟨p,rfl,g⟩:=Hn h1;refine⟨p::ps,rfl,⟨by rw[ak,g.eq,e1],λq hq=>?_⟩,λq hq=>?_⟩
  .rcases aj.mp hq with z|z
   .rw [z,g.eq];exact g
   .exact e2 q z
  .rcases aj.mp hq with z|z
   .rw [z,g.eq];exact h1
   .exact e3 q z
theorem Ee{H:Hp}:∀{ps:List Addr},(∀p∈ps,pV K H (dC (qE H p)) (.ref p))->ox K H ((ps.map (qE H)).map dC) (ps.map V.ref)
 | [],_=>ox.nil
 |p::ps,h=>ox.cons (h p (ay ..)) (Ee λq hq=>h q (mCo _ hq))
theorem AC(hl:SQ K te l):SK K (Mj (λxs H Q=>∃(a:Addr) (ps:List Addr) (cs:List (List (List Int))),xs=[.ref a]/\qJ K H a (ps.map V.ref)/\DT H ps cs/\(∀c∈cs,c≠[]) /\
  ∀(p:Addr) (qs:List Addr),H p=none->qs.Perm ps->qs.map (qE H)=rB cs->Q (.ref p) (oK H p (.lst (qs.map V.ref)))) (rE te uu)) (xy l):=by
 intro H₀ Hf₀ Hf S σ H Fs av S' R e Q q;obtain⟨x,e1,e⟩:=oBq.mp e;obtain⟨ms,e2,e⟩:=oBq.mp e;rcases ot e with ⟨hne,e⟩|e
 .cases e;refine hl R (ds:=x.1) (S':=x.2) e1 _ λHf1 H1 Fs1 p1 vs1 t1 R1 h1 r1=>?_
  rw[xf e2]at r1;obtain⟨ps,rfl,⟨hm,hE⟩,hR⟩:=AD r1;have hsame:∀p∈ps,qE H1 p=qE Hf1 p:=λp hp=>((hE p hp).same R1.sub).eq
  have hE1:DT H1 ps ms:=⟨by rw[hm];exact mCq λp hp=>(hsame p hp).symm,λp hp=>by rw[hsame p hp];exact(hE p hp).same R1.sub⟩
  refine⟨p1,ps,ms,rfl,h1,hE1,hne,λp qs hp hq es=>?_⟩
  obtain⟨t4,R4,n1,n2,n3⟩:=R1.new (o:=.lst (qs.map V.ref)) hp;have hq2:∀b∈qs,pV K Hf1 (dC (qE Hf1 b)) (.ref b):=λb hb=>hR b (hq.mem_iff.mp hb)
  have es2:qs.map (qE Hf1)=rB ms:=by rw[←es];exact mCq λb hb=>(hsame b (hq.mem_iff.mp hb)).symm
  have e3:(rB ms).map (λm=>AV.sh (dC m))=((rB ms).map dC).map AV.sh:=by rw[mPq];rfl
  rw[e3]at q;refine q _ _ _ (.ref p) [p] (t1.trans t4) R4 (oh.new nu n1 ?_) ((we.one R1 hp).back t1);rw[←es2];exact Ee hq2
 .cases e
theorem Nr:T4 K OD Cb:=by
 intro x vs H Q dx ds d rx rs e q;unfold Cb at e;split at e
 .rename_i es d';obtain⟨cs,e1,e⟩:=oBq.mp e;obtain⟨c,e2,e⟩:=oMq.mp e;cases e;obtain⟨v,ws,rfl,h1,h2⟩:=rs.cons_inv;rw[h2.nil_inv];rw[DP e2]at h1;obtain⟨b,rfl,g⟩:=Hn h1;rw[xf e1]at rx;obtain⟨p,us,rfl,h3,h4⟩:=rx.list_inv;obtain⟨ps,rfl,hE,_⟩:=AD h4;exact⟨p,b,ps,cs,c,rfl,rfl,h3,hE,g,q _ .int⟩
 .cases e
end
theorem P6(cs:List (List (List Int))) (c:List (List Int)):Cb (.list (cs.map dC)) [dC c]=some (.int (cs.count c:Nat)):=by
 show (vx (cs.map dC)).bind _=_;rw[ug];show (yX (dC c)).map _=_;rw[Du];rfl
end Z
namespace Ms
open PySem PyProof.Rows Mr
def Ur(F:List Int) (k:Int):List Int:=if k∈F then F else F++[k]
def dd(ns:List Int):List Int:=ns.foldl Ur []
def SA(h:Heap) (a:Addr) (es:Array (Int×Value)) (ep:Nat) (t:SetTable):Prop:=∃o,h.get? a=some o/\o.ExactSet/\o.data = .set es ep t
end Ms
namespace Z
open PySem PySem.Spec PyProof.Rows L2 Mr
inductive BI:Nat->D->PyData->Prop
 |non {n}:BI n .non .none
 |bl {n b}:BI n (.bl b) (.bool b)
 |int {n i}:BI n (.int i) (.int i)
 |str {n x} (h:PyData.canLay0 (.str x)=true):BI n (.str x) (.str x)
 |list {n} {ds:List D}{ps:List PyData}(l:ds.length=ps.length) (e:∀(i:Nat) (d:D) (p:PyData),ds[i]?=some d->ps[i]?=some p->BI n d p):BI (n+1) (.list ds) (.list ps)
 |tup {n} {ds:List D}{ps:List PyData}(l:ds.length=ps.length) (e:∀(i:Nat) (d:D) (p:PyData),ds[i]?=some d->ps[i]?=some p->BI n d p):BI (n+1) (.tup ds) (.tuple ps)
theorem yz{α:Type}{ds:List D}{ps:List α}(l:ds.length=ps.length) {p:α}(h:p∈ps):∃(i:Nat) (d:D),ds[i]?=some d/\ps[i]?=some p:=by
 obtain⟨i,hi⟩:=bf.mp h;have hl:=(gSq.mp hi).1;exact⟨i,_,gEg (l ▸ hl),hi⟩
theorem Hv{ps:List PyData}(h:∀p∈ps,p.canLay0=true):PyData.canLayAll0 ps=true:=by
 induction ps with
 |nil=>rfl
 |cons p ps ih=>rw[PyData.canLayAll0,h p (ay ..),ih λq hq=>h q (mCo _ hq)];rfl
theorem Hg{ps:List PyData}(h:∀p∈ps,SeqAt.noMix p p=true):SeqAt.noMixAll ps ps=true:=by
 induction ps with
 |nil=>simp[SeqAt.noMixAll]
 |cons p ps ih=>rw[SeqAt.noMixAll,h p (ay ..),ih λq hq=>h q (mCo _ hq)];rfl
theorem Ft{n:Nat}{ps:List PyData}(h:∀p∈ps,p.depth<=n):PyData.depthAll ps<=n:=by
 induction ps with
 |nil=>rw[PyData.depthAll];exact aW _
 |cons p ps ih =>
  rw[PyData.depthAll];have:=h p (ay ..);have:=ih λq hq=>h q (mCo _ hq)
  lia
theorem BI.lay{n:Nat}{d:D}{p:PyData}(h:BI n d p):p.canLay0=true:=by
 induction h with
 |str h=>exact h
 |list l _ ih=>rw[PyData.canLay0];exact Hv λp hp=>let ⟨i,d,h1,h2⟩:=yz l hp;ih i d p h1 h2
 |tup l _ ih=>rw[PyData.canLay0];exact Hv λp hp=>let ⟨i,d,h1,h2⟩:=yz l hp;ih i d p h1 h2
 |_=>rfl
theorem BI.mix{n:Nat}{d:D}{p:PyData}(h:BI n d p):SeqAt.noMix p p=true:=by
 induction h with
 |list l _ ih=>rw[SeqAt.noMix];exact Hg λp hp=>let ⟨i,d,h1,h2⟩:=yz l hp;ih i d p h1 h2
 |tup l _ ih=>rw[SeqAt.noMix];exact Hg λp hp=>let ⟨i,d,h1,h2⟩:=yz l hp;ih i d p h1 h2
 |_=>simp[SeqAt.noMix]
theorem BI.deep{n:Nat}{d:D}{p:PyData}(h:BI n d p):p.depth<=n:=by
 induction h with
 |list l _ ih=>rw[PyData.depth];exact fE (Ft λp hp=>let ⟨i,d,h1,h2⟩:=yz l hp;ih i d p h1 h2)
 |tup l _ ih=>rw[PyData.depth];exact fE (Ft λp hp=>let ⟨i,d,h1,h2⟩:=yz l hp;ih i d p h1 h2)
 |_=>simp[PyData.depth]
theorem BI.shaped{n:Nat}{d:D}{p:PyData}(h:BI n d p) (hn:n<=64):SeqAt.shaped p=true:=by
 show (PyData.canLay0 p && decide (PyData.depth p<=64))=true;rw[h.lay,decide_eq_true (br h.deep hn)];rfl
end Z
namespace Mr
open PySem L2
variable {K:W.Frag}{h:Heap}{mg:Str->Option Value}{x z:Str}{st:Stmt}{f O:Addr}{fd:iT}
structure At (K:W.Frag) (x:Str) (st:Stmt) (f:Addr) (fd:iT):Prop where
 a:W.nsIn K iM x=some (some (.ref f))
 F:Mm K x x st f fd
section
variable {oc kV doc pm sI ct:Value}{od an:Option Addr}{osl:Array (Option Value)}
theorem Ri(a:W.nsIn K iM x=some (some (.ref f))) (l:K.lookup f=some ⟨oc,od,.func (W.fnOf x x (tj st) (rJ st) (nD st) .none kV doc pm an sI ct),osl⟩)
  (c:W.codeIn K sI x=true) (k:W.keepIn K (.ref f)=true):At K x st f (W.fnOf x x (tj st) (rJ st) (nD st) .none kV doc pm an sI ct):=⟨a,Bp l c k⟩
end
abbrev BA(x q:Str) (st:Stmt) (ps:List Str) (us:List Value):Prop:=∀(kV doc pm:Value) (an:Option Addr) (sI ct:Value),bindArgs (W.fnOf x q (tj st) (rJ st) (nD st) .none kV doc pm an sI ct) ⟨us,[]⟩=pure (ps.zip us)
section
variable {q a b c d:Str}(F:Mm K x q st f fd)
include F
theorem b1(h:∀u,BA x q st [a] [u]):vU K fd [a] []:=F.binds λ_ _ _ _ _ _ us hl=>by
 obtain - | ⟨u, - | ⟨v,l⟩⟩:=us <;> cases hl
 apply h
theorem b2(h:∀u v,BA x q st [a,b] [u,v]):vU K fd [a,b] []:=F.binds λ_ _ _ _ _ _ us hl=>by
 obtain - | ⟨u, - | ⟨v, - | ⟨w,l⟩⟩⟩:=us <;> cases hl
 apply h
theorem b3(h:∀u v w,BA x q st [a,b,c] [u,v,w]):vU K fd [a,b,c] []:=F.binds λ_ _ _ _ _ _ us hl=>by
 obtain - | ⟨u, - | ⟨v, - | ⟨w, - | ⟨y,l⟩⟩⟩⟩:=us <;> cases hl
 apply h
end
theorem CA{ps:List Str}(X:K.In h) (G:h.Ns iM mg) (a:At K x st f fd) (b:vU K fd ps []):zG K mg x st ps f fd:=⟨a.F,W.mg_of X G a.a,b⟩
end Mr
namespace Zl
open PySem L2 Mr Z
def yG:MS:=(nQ (DL (uw (oV Fw (vQ qD (ni (mZ 0) nO)) (rC (.int 0)))) (sH (sq nY)) rY)
 (nQ (oH 1 (kSc (Rb "list" yT (mZ 0) (ni (vQ MR (ni (mZ 0) nO)) nO))))
 (sH (IL (lOf (Br (qq 0) (qm (mZ 1)) sJ)) (lOf (Br (qq 0) sJ (qm (mZ 1))))))))
def uo:MF:=uM 1 2 yG
def uk:MS:=(J7 1 (D9 2))
def yq:MS:=(nQ (oH 1 (sq nY))
 (nQ (Df 2 (oS 0) uk)
 (sH (Gi 1))))
def qR:MF:=uM 1 3 yq
def vN:MS:=(nQ (DL (uw (oV Q9 (mZ 1) (vQ qD (ni (mZ 0) nO)))) (sH (kSc (oV MJ (mZ 0) (mZ 1)))) rY)
 (sH (kSc (rC (.int 0)))))
def oy:MF:=uM 2 2 vN
def vg:MS:=(sH (CY (uD (CI (oS 0)) [] qL (oM Zl.uo (nz (oS 0) nY)))))
def oj:MF:=uM 1 1 vg
def Ah:MS:=(sH (Gn (lOf (oM Zl.qR (nz (oS 0) nY)))))
def uU:MF:=uM 1 1 Ah
def uq:MS:=(AZ 1 (mZ 4) (oS 2))
def tY:MS:=(Df 4 (oS 3) uq)
def yu:MS:=(nQ (oH 1 EN)
 (nQ (Hb 2 3 (oS 0) tY)
 (sH (Gi 1))))
def qO:MF:=uM 1 5 yu
theorem Dj(ns:List Int) {k:Int}(h:0<=k):oy [.scr ns,.int k]=some (.sh (.int (cell ns k.toNat))):=by
 by_cases c:k<(ns.length:Int)
 .have hk:k.toNat<ns.length:=by lia
  have e:ns.getD k.toNat 0=ns[k.toNat]:=zP hk
  simp_arith [oy,vN,c,He h,gEg hk,cell,e]
 .have hk:ns.length<=k.toNat:=by lia
  have e:ns.getD k.toNat 0=0:=by rw[gDq,bM hk];rfl
  simp_arith [oy,vN,c,cell,e]
theorem Re(ns:List Int):oy [.scr ns,.int 0]=some (.sh (.int (cell ns 0))):=Dj ns (by decide)
theorem Ru(ns:List Int):oy [.scr ns,.int 1]=some (.sh (.int (cell ns 1))):=Dj ns (by decide)
theorem Rj(ns:List Int):oy [.scr ns,.int 2]=some (.sh (.int (cell ns 2))):=Dj ns (by decide)
theorem Jt{n:Int}{ns:List Int}:ns.foldl min n∈n::ns/\∀x∈n::ns,ns.foldl min n<=x:=⟨uK ns n,λx hx=>(aj.mp hx).elim (λe=>e ▸ (tN ns n).1) ((tN ns n).2 x)⟩
theorem Jm{ns:List Int}(hl:ns.length<=500000):uo [dI ns]=some (aI (tF ns)):=by
 cases ns with
 |nil =>
  have h1:((0:Nat):Int)=0:=rfl
  simp_arith [uo,yG,h1]
  rfl
 |cons n ns =>
  obtain⟨h1,h2⟩:=Jt (n:=n) (ns:=ns);have e:=Em h1 h2;have hle:=FO (n::ns);have hne:¬ ((n::ns).length:Int)=0:=by simp only[lCq];lia
  have hm:MR [dI (n::ns)]=some (.int (ns.foldl min n)):=by
   show (qr ((n::ns).map D.int)).bind (λns=>(Ho ns).map D.int)=_
   rw[rN];rfl
  have hx:yT (dI (n::ns)) [.int (ns.foldl min n)]=some (.int (pO (n::ns) (n::ns).length:Nat)):=by
   show (qr ((n::ns).map D.int)).bind _=_;rw[rN];show (if _ then _ else _)=_
   rw[nK h1,e]
  generalize hN:n::ns=N at *;have hlen:(N.drop (pO N N.length)).length+(N.take (pO N N.length)).length<=qB:=by rw[aR,lTq];show _<=16777216;lia
  simp_arith [uo,yG,hne,hm,hx,yw,wX N _ hle,xh N _ hle,hlen,←mBq,zD]
  rfl
theorem uE{rs:List (List Int)}{i:Nat}{r:List Int}(h:rs[i]?=some r):(rs.take (i+1)).flatten=(rs.take i).flatten++r:=by
 rw[df,h,fAq];simp
theorem vX(rs:List (List Int)) (i:Nat):(rs.take i).flatten.length<=rs.flatten.length:=by
 have:=congrArg bF (congrArg List.flatten (aZ i rs));rw[fAq,lAq]at this;lia
theorem HV{rs:List (List Int)}{i:Nat}{d:D}(h:(rs.map dI)[i]?=some d):∃r,rs[i]?=some r/\d=dI r:=by
 rw[gMq]at h;obtain⟨r,h1,h2⟩:=oMq.mp h;exact⟨r,h1,h2.symm⟩
theorem Oh{ns:List Int}{i:Nat}{d:D}(h:(ns.map D.int)[i]?=some d):∃z,ns[i]?=some z/\d = .int z:=by
 rw[gMq]at h;obtain⟨r,h1,h2⟩:=oMq.mp h;exact⟨r,h1,h2.symm⟩
theorem G2{rs:List (List Int)}(hl:rs.flatten.length<=500000):qR [dM rs]=some (aI rs.flatten):=by
 have key:=zr (x:=2) (body:=uk) (λi S=>∃v,S=[some (.sh (dM rs)),some (aI (rs.take i).flatten),v]) (ds:=rs.map dI) (S:=[some (.sh (dM rs)),some (.ow []),none]) ⟨none,by simp⟩ (by
  rintro i d S hd ⟨v,rfl⟩;obtain⟨r,hr,rfl⟩:=HV hd;have h1:=uE hr;have h2:=vX rs (i+1);rw[h1,lAq]at h2;have h3:(rs.take i).flatten.length+r.length<=qB:=by show _<=16777216;lia
  refine⟨_,?_,some (.sh (dI r)),rfl⟩;rw[h1]
  simp_arith [uk,h3,zD,←mBq])
 obtain⟨S',e,v,rfl⟩:=key;rw[lMq,bH]at e
 simp_arith [qR,yq,e]
theorem P2{rs:List (List Int)}{d:D}(h:d∈rs.map dI):∃r∈rs,d=dI r:=by
 obtain⟨r,h1,h2⟩:=mMq.mp h;exact⟨r,h1,h2.symm⟩
def MZ:D->List Int
 | .list ds=>(qr ds).getD []
 |_=>[]
theorem HU(r:List Int):MZ (dI r)=r:=by
 show (qr (r.map D.int)).getD []=r;rw[rN];rfl
theorem Kf{β:Type}(g:List Int->β) (rs:List (List Int)):(rs.map dI).map (λd=>g (MZ d))=rs.map g:=by
 rw[mPq];exact mCq λr _=>by show g (MZ (dI r))=g r;rw[HU]
theorem Er{rs:List (List Int)}(hl:∀r∈rs,r.length<=500000):qM qL (oM uo (nz (oS 0) nY)) [] (rs.map dI)=some ((rs.map tF).map aI):=by
 rw[rG (λd=>aI (tF (MZ d)))]
 .rw [Kf (λr=>aI (tF r)),mPq]
  rfl
 .intro d hd;obtain⟨r,hr,rfl⟩:=P2 hd;refine⟨[some (.sh (dI r))],?_⟩
  simp_arith [Jm (hl r hr),HU]
theorem SN{ts:List (List Int)}{a:Nat}(h:a<ts.length):atI (ts.map dI) (a:Int)=some (dI (ts.getD a [])):=by
 rw[Oj,He (by lia),cC,gDq,gEg h]
 rfl
theorem uZ{rs:List (List Int)}(hl:∀r∈rs,r.length<=500000) (h7:rs.length<=qB):oj [dM rs]=some (.ow ((Lj (rs.map tF)).map aI)):=by
 have h6:=Er (rs:=rs) hl
 simp_arith [oj,vg,h6,h7]
end Zl
namespace Zl
open PySem L2 Mr Z Xe
def bare(rs:List (List Int)):Nat:=rs.countP (·=([]:List Int))
section
variable {rs:List (List Int)}(hl:rs.flatten.length<=500000)
include hl
end
end Zl
namespace Zl
open PySem L2 Mr Z
theorem Hi{rs:List (List Int)}(hl:rs.flatten.length<=500000):uU [dM rs]=some (aI (qK rs.flatten)):=by
 simp_arith [uU,Ah,G2 hl]
def tE(p:Nat) (r:List Int):List (nX×D):=r.map λe=>(.inl e,.int (p:Int))
def oU:Nat->List (List Int)->List (nX×D)
 |_,[]=>[]
 |p,r::rs=>tE p r++oU (p+1) rs
theorem zc(r:List Int):∀(rs:List (List Int)) (p:Nat),oU p (rs++[r])=oU p rs++tE (p+rs.length) r
 | [],p=>by simp[oU]
 |s::rs,p=>by
  show tE p s++oU (p+1) (rs++[r])=(tE p s++oU (p+1) rs)++_;rw[zc r rs (p+1),aA,lCq,show p+1+rs.length=p+(rs.length+1) by lia]
theorem wt:∀(rs:List (List Int)) (p:Nat),(oU p rs).map (·.1)=rs.flatten.map aS
 | [],p=>rfl
 |r::rs,p=>by
  show (tE p r++oU (p+1) rs).map (·.1)=_;rw[mBq,wt rs (p+1),fCq,mBq];congr 1;unfold tE;rw[mPq];rfl
theorem FP(rs:List (List Int)) (p:Nat):(oU p rs).length=rs.flatten.length:=by
 have:=congrArg bF (wt rs p)
 rwa [lMq,lMq]at this
theorem EF{kvs:List (nX×D)}{k:nX}{d:D}(h:k∉kvs.map (·.1)):wA kvs k d=kvs++[(k,d)]:=by
 unfold wA;rw[nS];intro e;obtain⟨kv,hk,e⟩:=fL.mp e;exact h (mMq.mpr ⟨kv,hk,of_decide_eq_true e⟩)
theorem getD_app{k:nX}:∀{a b:List (nX×D)},k∉a.map (·.1)->Z.getD (a++b) k=Z.getD b k
 | [],b,_=>rfl
 |x::a,b,h=>by
  unfold Z.getD;rw[List.cons_append,cu (by
   intro e;exact h (by rw[←of_decide_eq_true e];simp))]
  exact getD_app (k:=k) (a:=a) (b:=b) λm=>h (by simp only[ak,aj];exact .inr m)
theorem Ey{p:Nat}{e:Int}{b:List (nX×D)}:∀{r:List Int},e∈r->Z.getD (tE p r++b) (.inl e)=some (.int p)
 | [],h=>by cases h
 |x::r,h=>by
  unfold Z.getD;show ((((aS x:nX),D.int (p:Int))::(tE p r++b)).find? _).map _=_
  by_cases c:x=e
  .subst c;rw[cY (by simp)]
   rfl
  .rw [cu (by simp[c])]
   exact Ey (r:=r) ((aj.mp h).resolve_left λz=>c z.symm)
theorem vy{e:Int}{r:List Int}:∀{rs:List (List Int)}{i:Nat}(p:Nat),rs.flatten.Nodup->rs[i]?=some r->e∈r->Z.getD (oU p rs) (.inl e)=some (.int ((p+i:Nat):Int))
 | [],i,p,_,h,_=>by simp at h
 |s::rs,0,p,hn,h,he=>by
  simp at h;subst h;exact Ey he
 |s::rs,i+1,p,hn,h,he=>by
  rw[fCq,nAq]at hn;have h':rs[i]?=some r:=by simpa using h
  have:=vy (rs:=rs) (i:=i) (p+1) hn.2.1 h' he;rw[show p+1+i=p+(i+1) by lia]at this
  rw[←this];refine getD_app ?_;unfold tE;rw[mPq];intro m;obtain⟨x,hx,e2⟩:=mMq.mp m;cases e2;exact hn.2.2 _ hx _ (mFq.mpr ⟨r,mGq h',he⟩) rfl
theorem yj{rs:List (List Int)}(hn:rs.flatten.Nodup) (hl:rs.flatten.length<=500000):qO [dM rs]=some (.owd (oU 0 rs)):=by
 have key:=LH (x:=2) (y:=3) (k:=0) (body:=tY) (λi S=>∃v2 v3 v4,S=[some (.sh (dM rs)),some (.owd (oU 0 (rs.take i))),v2,v3,v4]) (ds:=rs.map dI) (S:=[some (.sh (dM rs)),some (.owd []),none,none,none]) ⟨none,none,none,rfl⟩ (by
  rintro i d S hd ⟨v2,v3,v4,rfl⟩;rw[bD];obtain⟨r,hr,rfl⟩:=HV hd;have hfl:=uE hr;have hle:=vX rs (i+1);have hi:i<rs.length:=(gSq.mp hr).1;have hnd:((rs.take i).flatten++r).Nodup:=by
   rw[←hfl];have e0:rs.flatten=(rs.take (i+1)).flatten++(rs.drop (i+1)).flatten:=by rw[←fAq,aZ]
   rw[e0]at hn;exact(nAq.mp hn).1
  rw[hfl,lAq]at hle;have k2:=zr (x:=4) (body:=uq) (λj S=>∃v4,S=[some (.sh (dM rs)),some (.owd (oU 0 (rs.take i)++tE i (r.take j))),some (.sh (.int i)),some (.sh (dI r)),v4]) (ds:=r.map D.int) (S:=[some (.sh (dM rs)),some (.owd (oU 0 (rs.take i))),some (.sh (.int i)),some (.sh (dI r)),v4]) ⟨v4,by simp[tE]⟩ (by
   rintro j d S hd ⟨v4,rfl⟩;obtain⟨z,hz,rfl⟩:=Oh hd;have hj:j<r.length:=(gSq.mp hz).1;have h3:(oU 0 (rs.take i)++tE i (r.take j)).length<qB:=QH (by
    rw[lAq,FP];unfold tE;rw[lMq,lTq];lia)
   have hput:wA (oU 0 (rs.take i)++tE i (r.take j)) (.inl z) (.int (i:Int))=oU 0 (rs.take i)++tE i (r.take (j+1)):=by
    rw[EF]
    .unfold tE;rw[tS hz,mBq,aA];rfl
    .rw [mBq,wt];intro m;have e1:r.take (j+1)=r.take j++[z]:=tS hz;rcases mAq.mp m with m|m
     .obtain ⟨x,hx,e2⟩:=mMq.mp m;cases e2;exact(nAq.mp hnd).2.2 _ hx _ (mGq hz) rfl
     .unfold tE at m;rw[mPq]at m;obtain⟨x,hx,e2⟩:=mMq.mp m;cases e2;have:=bI.sublist (bh (j+1) r) (nAq.mp hnd).2.1;rw[e1]at this;exact(nAq.mp this).2.2 _ hx _ (by simp) rfl
   refine⟨_,?_,some (.sh (.int z)),rfl⟩
   simp_arith [uq,h3,hput])
  obtain⟨S2,e2,w4,rfl⟩:=k2;rw[lMq,bH]at e2;refine⟨_,?_,some (.sh (.int i)),some (.sh (dI r)),w4,rfl⟩;rw[tS hr,zc,lTq,cB (by lia),bD]
  simp_arith [tY,e2])
 obtain⟨S',e,v2,v3,v4,rfl⟩:=key;rw[bD,lMq,bH]at e
 simp_arith [qO,yu,e]
theorem yi{c:MT}{body:MS}(P:AS->Prop) (μ:AS->Nat) (Qf:AS->Prop) (h:∀S,P S->∃b S1,c S=some (b,S1)/\(b=true->∃S2,body S1=some (.nx S2)/\P S2/\μ S2<μ S)/\(b=false->Qf S1)) :
  ∀(fuel:Nat) (S:AS),P S->μ S<fuel->∃S',rQ c body fuel S=some (.nx S')/\Qf S'
 |0,S,_,hm=>absurd hm (bW _)
 |n+1,S,hp,hm=>by
  obtain⟨b,S1,e1,h1,h2⟩:=h S hp;rw[NI,e1,fG];cases b with
  |true =>
   obtain⟨S2,e2,p2,m2⟩:=h1 rfl;rw[nK rfl,e2];exact yi P μ Qf h n S2 p2 (by lia)
  |false =>
   rw[nS (by simp)]
   exact⟨S1,rfl,h2 rfl⟩
end Zl
namespace Zl
open PySem L2 Mr Z Xe
def kd(ks:List Nat):List (nX×D):=ks.map λk:Nat=>((aS (k:Int):nX),D.bl true)
theorem kd_any(ks:List Nat) (t:Nat):(kd ks).any (λkv=>decide (kv.1=(aS (t:Int):nX)))=decide (t∈ks):=by
 induction ks with
 |nil=>simp[kd]
 |cons k ks ih =>
  unfold kd at ih ⊢;rw[ak,eE,ih]
  by_cases h:t=k
  .subst h;simp
  .have h':¬ (aS (k:Int):nX)=aS (t:Int):=λq=>h (by have:=aS.inj q;lia)
   simp[h',h]
theorem kd_get(ks:List Nat) (t:Nat):(Z.getD (kd ks) (aS (t:Int))).isSome=decide (t∈ks):=by
 unfold Z.getD;rw[ed,←kd_any,bV,gU,fL]
def addN(kn:List Nat) (t:Nat):List Nat:=if t∈kn then kn else kn++[t]
theorem kd_put2(ks:List Nat) (t:Nat):wA (kd ks) (aS (t:Int)) (.bl true)=kd (addN ks t):=by
 unfold addN
 by_cases h:t∈ks
 .rw [nK h];unfold wA;rw[kd_any,decide_eq_true h,nK rfl];unfold kd;rw[mPq];refine mCq λk _=>?_
  show (if _ then _ else _)=_
  split <;> rfl
 .rw [nS h];unfold wA;rw[kd_any,decide_eq_false h,nS (by simp)]
  simp[kd]
def plc(rs:List (List Int)) (e:Int):Nat:=rs.findIdx λr=>decide (e∈r)
theorem same_place{rs:List (List Int)}(hn:rs.flatten.Nodup) {i j:Nat}{r s:List Int}{e:Int}(hi:rs[i]?=some r) (hj:rs[j]?=some s) (h1:e∈r) (h2:e∈s):i=j:=by
 have a:=vy 0 hn hi h1;have b:=vy 0 hn hj h2;rw[a]at b;have:=D.int.inj (bc.inj b);lia
theorem plc_eq{rs:List (List Int)}(hn:rs.flatten.Nodup) {i:Nat}{r:List Int}{e:Int}(hi:rs[i]?=some r) (h1:e∈r):plc rs e=i:=by
 have hl:rs.findIdx (λr=>decide (e∈r))<rs.length:=eC ⟨r,mGq hi,decide_eq_true h1⟩
 have h2:=gw (xs:=rs) (p:=λr=>decide (e∈r)) (w:=hl)
 exact same_place hn (gEg hl) hi (of_decide_eq_true h2) h1
structure Mp (rs:List (List Int)):Prop where
 hn:rs.flatten.Nodup
 hl:rs.flatten.length<=1000
 hr:rs.length<=1000
 hneg:∀e∈rs.flatten, -e∈rs.flatten
theorem Mp.at{rs:List (List Int)}(h:Mp rs) {e:Int}(he:e∈rs.flatten):∃r,rs[plc rs e]?=some r/\e∈r:=by
 obtain⟨r,h1,h2⟩:=mFq.mp he;obtain⟨i,h3⟩:=bf.mp h1;exact⟨r,by rw[plc_eq h.hn h3 h2];exact h3,h2⟩
theorem Mp.kv{rs:List (List Int)}(h:Mp rs) {e:Int}(he:e∈rs.flatten):Z.getD (oU 0 rs) (aS e)=some (.int (plc rs e:Int)):=by
 obtain⟨r,h1,h2⟩:=h.at he;have:=vy 0 h.hn h1 h2
 rwa [bD]at this
theorem Mp.lt{rs:List (List Int)}(h:Mp rs) {e:Int}(he:e∈rs.flatten):plc rs e<rs.length:=by
 obtain⟨r,h1,_⟩:=h.at he;exact(gSq.mp h1).1
theorem Mp.row{rs:List (List Int)}(h:Mp rs) {k:Nat}{r:List Int}(hk:rs[k]?=some r):r.length<=1000:=by
 have:=du.length_le (aQ (mGq hk));have:=h.hl;lia
theorem IJ{α β:Type}{f:α->β->α}{a:α}{r:List β}{i:Nat}{e:β}(he:r[i]?=some e):(r.take (i+1)).foldl f a=f ((r.take i).foldl f a) e:=by
 obtain⟨hi,h2⟩:=gSq.mp he;rw[cJ hi,fA,h2];rfl
end Zl
namespace K51
open PySem L2 Mr Z Xe
def qV:MS:=(nQ (oH 7 (kSc (zk (mZ 2) (Ju Bi (mZ 6))))) (DL (uw (xj (mZ 7) (mZ 3))) (nQ (AZ 3 (mZ 7) (kSc (rC (.bl true)))) (vY 4 (oS 7))) rY))
def tM:MS:=(nQ (Ca 5 (zW 4)) (Df 6 (Mn (qq 0) (mZ 5)) qV))
def Bq:MS:=(nQ (oH 2 (oM Zl.qO (nz (oS 0) nY)))
 (nQ (oH 3 (C5 (mZ 1) (kSc (rC (.bl true)))))
 (nQ (oH 4 (sq (nz (oS 1) nY)))
 (nQ (rQ (uw (oV FG (vQ qD (ni (mZ 4) nO)) (rC (.int 0)))) tM 100000)
 (sH (C1 (mZ 3)))))))
def tW:MF:=uM 2 8 Bq
def uF:MS:=(AZ 1 (mZ 5) (kSc (rC (.bl true))))
def qN:MS:=(DL (uw (xj (mZ 3) (mZ 1))) (nQ (oH 4 (oM K51.tW (nz (oS 0) (nz (oS 3) nY)))) (nQ (Df 5 (oS 4) uF) (vY 2 (uD (CI (oS 4)) [0] qL (xK (lOf (Mn (qq 1) (mZ 0)))))))) rY)
def yM:MS:=(nQ (oH 1 EN)
 (nQ (oH 2 (sq nY))
 (nQ (Gy 3 (ni (vQ qD (ni (mZ 0) nO)) nO) qN)
 (sH (Gi 2)))))
def rA:MF:=uM 1 6 yM
def qh:MX:=(Tc (uw (oV Q6 (vQ qD (ni (rOf (oM K51.rA (nz (oS 0) nY))) nO)) (rC (.int 1)))) (Dd "NotOnePiece") (Hy rY))
def nW:BC:=Dt 1 1 qh
def B5:MS:=(sH (uD (CI (oS 0)) [] qL (xK (qq 0))))
def vc:MF:=uM 1 1 B5
end K51
namespace K31
open PySem L2 Mr Z Xe
def xS:MS:=(nQ (oH 2 (kSc (Rb "list" yT (mZ 0) (ni (mZ 1) nO))))
 (sH (IL (lOf (Br (qq 0) (qm (mZ 2)) sJ)) (lOf (Br (qq 0) sJ (qm (mZ 2)))))))
def rV:MF:=uM 2 3 xS
def pK:MS:=(nQ (oH 7 (kSc (Ju Bi (oV MJ (mZ 4) (mZ 6))))) (nQ (oH 8 (kSc (zk (mZ 2) (mZ 7)))) (nQ (DL (uw (xj (mZ 8) (mZ 5))) (nQ (AZ 5 (mZ 8) (kSc (rC (.bl true)))) (nQ (vY 3 (oM K31.rV (nz (Mn (qq 0) (mZ 8)) (nz (oS 7) nY)))) (J7 4 (lOf (Mn (qq 3) (Ju Bi (rC (.int 1)))))))) rY) (Qh 6 (λa b=>a+b) (rC (.int 1))))))
def wL:MX:=(zz (Hy (oH 2 (oM Zl.qO (nz (oS 0) nY))))
 (zz (Tc (uw (xj (mZ 1) (mZ 2))) (FJ "NotThere" "end" (ni (mZ 1) nO)) (Hy rY))
 (zz (Hy (oH 3 (sq (nz (oM K31.rV (nz (Mn (qq 0) (zk (mZ 2) (mZ 1))) (nz (oS 1) nY))) nY))))
 (zz (Hy (oH 4 (xK (lOf (Mn (qq 3) (rC (.int 0)))))))
 (zz (Hy (oH 5 (C5 (zk (mZ 2) (mZ 1)) (kSc (rC (.bl true))))))
 (zz (Hy (oH 6 (kSc (rC (.int 0)))))
 (zz (Hy (rQ (uw (oV Q9 (mZ 6) (vQ qD (ni (mZ 4) nO)))) pK 100000))
 (Hy (sH (Gi 3))))))))))
def rF:BC:=Dt 2 9 wL
def yD:MS:=(nQ (oH 3 (kSc (rC (.int 1))))
 (nQ (oH 4 (kSc (rC (.int 0))))
 (nQ (DL (uw (oV FG (oV rP (mZ 0) (rC (.int 3))) (rC (.int 0)))) (nQ (oH 3 (kSc (oV yW (rC (.int 1)) (oV rP (oV xl (mZ 0) (rC (.int 3))) (oV N4 (rC (.int 10)) (rC (.int 40))))))) (oH 4 (kSc (oV rP (oV xl (mZ 1) (rC (.int 66))) (oV N4 (rC (.int 10)) (rC (.int 40))))))) rY)
 (sH (kSc (oV yW (oV Cy (mZ 3) (oV yW (oV rP (oV yW (oV Cy (oV yW (rC (.int 1)) (oV rP (mZ 1) (rC (.int 66)))) (mZ 2)) (mZ 0)) (rC (.int 67))) (rC (.int 1)))) (mZ 4)))))))
def rz:MF:=uM 3 5 yD
def qt:MS:=(NQ 8 3 (RE 3 (Md 3) (oV MJ (mZ 4) (oV Ai (vQ qD (ni (mZ 4) nO)) (rC (.int 1))))) (DS 3 (B0 (uw (oV Fw (oV rP (mZ 7) (rC (.int 4))) (rC (.int 1)))) (uw (oV FG (vQ qD (ni (mZ 4) nO)) (rC (.int 1))))) (λ_=>(Di (zW 4))) (DS 3 (B0 (uw (oV Fw (oV rP (mZ 7) (rC (.int 4))) (rC (.int 2)))) (uw (oV FG (vQ qD (ni (mZ 5) nO)) (rC (.int 0))))) (C8 3 (oH 9 (kSc (oV Ai (vQ qD (ni (mZ 5) nO)) (rC (.int 1))))) (C8 3 (DL (uw (mZ 2)) (oH 9 (kSc (oV rP (oV xl (mZ 7) (rC (.int 8))) (vQ qD (ni (mZ 5) nO))))) rY) (Cv 3 (xa 5 (mZ 9))))) (DS 3 (uw (oV FG (vQ qD (ni (mZ 6) nO)) (rC (.int 0)))) (C8 3 (Ca 10 (N5 Cy (xa 6 (rC (.int 0))) (oV Ai (rC (.int 1)) (oV Cy (rC (.int 2)) (oV rP (oV xl (mZ 7) (rC (.int 4))) (rC (.int 2))))))) (λpath=>nQ ((Ha 3 (oS 10)) path) (DL (uw (oV Fw (oV rP (mZ 7) (rC (.int 4))) (rC (.int 0)))) (nQ (vY 3 (sq (nz (kSc (Ju Bi (mZ 10))) nY))) (vY 4 (kSc (oV Ai (vQ qD (ni (mZ 3) nO)) (rC (.int 1)))))) (vY 5 (kSc (Ju Bi (mZ 10))))))) (λ_=>rY)))))
def tP:MS:=(FL 3 (RE 3 (Md 3) (oV MJ (mZ 4) (oV Ai (vQ qD (ni (mZ 4) nO)) (rC (.int 1))))) (zW 5))
def zZ:MS:=(nQ (oH 3 (sq (nz (sq nY) nY)))
 (nQ (oH 4 (sq (nz (kSc (rC (.int 0))) nY)))
 (nQ (oH 5 (sq nY))
 (nQ (oH 6 (xK (qq 1)))
 (nQ (Df 7 (oS 0) qt)
 (nQ (rQ (uw (oV FG (vQ qD (ni (mZ 5) nO)) (rC (.int 0)))) tP 100000)
 (sH (Gi 3))))))))
def qz:MF:=uM 3 11 zZ
end K31
namespace K33
open PySem L2 Mr Z Xe
def xQ:MS:=(sH (C3 (lOf (uD (CI (oS 1)) [0] qL (kSc (zk (mZ 1) (Ju Bi (mZ 0))))))))
def qo:MF:=uM 2 2 xQ
def vw:MS:=(AZ 1 (mZ 3) (oS 2))
def Av:MS:=(nQ (oH 1 EN)
 (nQ (Hb 2 3 (oM Zl.qR (nz (oS 0) nY)) vw)
 (sH (C3 (lOf (uD (CI (oS 0)) [1] qL (oM K33.qo (nz (oS 1) (nz (oS 0) nY)))))))))
def rX:MF:=uM 1 4 Av
def xw:MX:=(LR K33.rX K31.rF (nz (oS 0) (nz (oS 1) nY)))
def qu:BC:=Dt 2 2 xw
end K33
namespace K34
open PySem L2 Mr Z Xe
def uL:MX:=(zz (Lw K51.nW (nz (oS 0) nY))
 (zz (Hy (oH 1 (oM Zl.uU (nz (oS 0) nY))))
 (zz (Hy (DL (uw (oV Fw (vQ qD (ni (mZ 1) nO)) (rC (.int 0)))) (sH (oM K33.rX (nz (oS 0) nY))) rY))
 (Hy (sH (K6 (lOf (uD (CI (oS 1)) [0] qL (oM (okX K33.qu) (nz (oS 1) (nz (oS 0) nY)))))))))))
def oa:BC:=Dt 1 2 uL
end K34
namespace K35
open PySem L2 Mr Z Xe
def DR:MS:=(sH (xy (lOf (uD (CI (oM K51.rA (nz (oS 0) nY))) [] qL (oM (okX K34.oa) (nz (oS 0) nY))))))
def sA:MF:=uM 1 1 DR
def wK:MS:=(nQ (J7 9 (D9 11)) (vY 10 (oM (okX K34.oa) (nz (oM Zl.oj (nz (oS 11) nY)) nY))))
def LG:MS:=(nQ (oH 1 (kSc (vR Zl.oy (ni (mZ 0) (ni (rC (.int 0)) nO)))))
 (nQ (oH 2 (kSc (vR Zl.oy (ni (mZ 0) (ni (rC (.int 1)) nO)))))
 (nQ (oH 3 (kSc (vR Zl.oy (ni (mZ 0) (ni (rC (.int 2)) nO)))))
 (nQ (oH 4 (Br (qq 0) (qm (rC (.int 3))) (qm (rC (.int 66)))))
 (nQ (oH 5 (uD (Q8 (ni (rC (.int 18)) nO)) [1,2] qL (kSc (vR K31.rz (ni (mZ 1) (ni (mZ 2) (ni (mZ 0) nO)))))))
 (nQ (oH 6 (kSc (oV rP (oV xl (mZ 3) (rC (.int 2))) (oV yW (vQ qD (ni (mZ 4) nO)) (rC (.int 1))))))
 (nQ (oH 7 (kSc (oV rP (oV xl (mZ 3) (rC (.int 128))) (oV yW (vQ qD (ni (mZ 4) nO)) (rC (.int 1))))))
 (nQ (oH 8 (sq (nz (oM K31.qz (nz (Br (qq 4) sJ (qm (mZ 6))) (nz (Br (qq 5) sJ (qm (rC (.int 6)))) (nz (kSc (oV Fw (oV rP (mZ 3) (rC (.int 2))) (rC (.int 1)))) nY)))) nY)))
 (nQ (vY 8 (oM K31.qz (nz (Br (qq 4) (qm (mZ 6)) sJ) (nz (Br (qq 5) (qm (rC (.int 6))) (qm (rC (.int 12)))) (nz (kSc (oV Fw (oV rP (mZ 3) (rC (.int 2))) (rC (.int 1)))) nY)))))
 (nQ (vY 8 (oM K31.qz (nz (Br (qq 4) sJ (qm (mZ 7))) (nz (Br (qq 5) (qm (rC (.int 12))) sJ) (nz (kSc (rC (.bl false))) nY)))))
 (nQ (oH 8 (IL (lOf (Br (qq 8) sJ (qm (oV yW (rC (.int 1)) (oV rP (oV xl (mZ 3) (rC (.int 8192))) (rC (.int 3))))))) (lOf (uD (Q8 (ni (oV rP (oV xl (mZ 3) (rC (.int 24576))) (rC (.int 3))) nO)) [] qL (sq (nz (sq nY) nY))))))
 (nQ (oH 9 (sq nY))
 (nQ (oH 10 (sq nY))
 (nQ (Df 11 (oS 8) wK)
 (nQ (oH 12 (oM Zl.oj (nz (oS 9) nY)))
 (nQ (oH 13 (oM K51.vc (nz (oS 12) nY)))
 (nQ (oH 14 (oM K35.sA (nz (oS 13) nY)))
 (nQ (DL (Fe (Hh (uw (vQ Kd (ni (mZ 14) (ni (rC (.ty "list")) nO))))) (Fe (uw (oV yE (mZ 13) (mZ 12))) (uw (oV yE (rOf (oM K35.sA (nz (sq nY) nY))) (rOf (sq nY)))))) (sH (kSc (rC (.bl false)))) rY)
 (nQ (DL (Fe (uw (oV yE (mZ 14) (rOf (xy (qq 10))))) (uw (oV Q6 (Rb "list" Cb (mZ 14) (ni (rOf (BE (nz (BE nY) nY))) nO)) (Ib (mZ 12))))) (sH (kSc (rC (.bl false)))) rY)
 (nQ (vY 14 (BE (nz (BE nY) nY)))
 (sH (kSc (oV AN (rOf (oM K35.sA (nz (oS 13) nY))) (rOf (xy (qq 10))))))))))))))))))))))))))
def LL:MF:=uM 1 15 LG
def By(i:Nat):Stmt:=PySem.Challenge.pw_mapround_k35_codes_of_pieces.main.body.getD i (.Pass ⟨0,0,0,0⟩)
def Uq(i:Nat):Stmt:=match By i with|.ClassDef _ _ _ (m::_) _ _ _ _ _ _ _=>m|s=>s
section
variable {P:iK}{w:iP}{K:W.Frag}{mg:Str->Option Value}{base:Heap}
abbrev tD:Stmt:=Uq 2
theorem C4:oE ["self", "end"] ["self", "end"] (nD tD):=by trivial
theorem Cu{C M f:Addr}{fd:iT}(F:Mm K "__init__" "NotThere.__init__" tD f fd) (b:vU K fd ["self", "end"] []) (rf:AO K "NotThere" C M) (mM:mg "MapError" = some (.ref M)) (hr0:W.readsIn K M (.type "type")=true) (hs0:W.specialIn K (.ref M) "__getattribute__" = some (some (.builtin "type.__getattribute__"))) (hf0:W.findCls K (.ref M) (.type "type") "__init__" = some (.val (.builtin "ValueError.__init__"))) (ini:W.findIn K (.ref C) "__init__" = some (some (.ref f))) (fn:W.isFn K (.ref f)=true) (kp:W.keepIn K (.ref C)=true) (nf:W.findIn K (.ref C) "end" = some none) (m:mg "NotThere" = some (.ref C)):RN P w K mg base "NotThere" "end" "end" C M f fd :=
 ⟨⟨rf.nm,.inl ⟨M,rf⟩⟩,rf.xc,L3 M,m,⟨rf,ini,fn,kp,nf,m,b,F.ok C4 (λvs H Q E h=>by obtain⟨e,v,C,M,rfl,_⟩:=h;rfl) λsI A outer s H vs Q E hr h=>⟨_,mX (pH (Sm (by rfl) mM hr0 hs0 hf0 (mV (pv 0) (mV Pg mW)))) (nr (RK (pv 0) (pv 1) rfl)),J0 h⟩⟩⟩
abbrev rZ:Stmt:=By 5
theorem vv:oE ["turns", "told", "turn"] ["turns"] (nD rZ):=by trivial
theorem CG     (D:zG K mg "told_ends" rZ ["turns"] f fd) (B:Bt mg)     : Fn P w K mg base 1 "told_ends" rZ ["turns"] (qb K Zl.qR) f fd :=
 ⟨D,D.F.ok vv (λ_ _ _ _=>rh) λsI A outer s H vs Q E hr h=>⟨_,(mX (nJ (i:=1) vv.nd rfl (by trivial) (qG mW)) (mX (vF PassesOwn.never rfl (qW (pv 0)) (qS (i:=2) vv.nd rfl (by trivial)) (nr (pH (qX ai dG dJ yA (pv 1) (mV (pv 2) mW))))) (nr (pE (pv 1))))),pD _ (K:=K) (ny (nR (i:=1) (qP nI)) (ny (yI (nP 0) (GY (i:=1) (CM 2))) (pM (Af 1)))) h⟩⟩
abbrev uS:Stmt:=By 6
theorem GA:oE ["m"] ["m"] (nD uS):=by trivial
theorem Gb  (D:zG K mg "ends_of" uS ["m"] f fd) (B:Bt mg)   (G_told_ends:Fn P w K mg base 1 "told_ends" rZ ["turns"] (qb K Zl.qR) ftold_ends fdtold_ends)  : Fn P w K mg base 2 "ends_of" uS ["m"] (qb K Zl.uU) f fd :=
 ⟨D,D.F.ok GA (λ_ _ _ _=>rh) λsI A outer s H vs Q E hr h=>⟨_,(nr (pE (nT CT (by rfl) B.sorted bN (mV (qj G_told_ends (hr.mono (by decide)) (mV (pv 0) mW)) mW)))),pD _ (K:=K) (pM (JT (SL.q (SK.lOf (oB (nv (nP 0) nI)))))) h⟩⟩
abbrev sj:Stmt:=By 7
theorem sF:oE ["m", "places", "place", "turn", "end"] ["m"] (nD sj):=by trivial
theorem Dk     (D:zG K mg "places_at" sj ["m"] f fd) (B:Bt mg)     : Fn P w K mg base 1 "places_at" sj ["m"] (qb K Zl.qO) f fd :=
 ⟨D,D.F.ok sF (λ_ _ _ _=>rh) λsI A outer s H vs Q E hr h=>⟨_,(mX (nJ (i:=1) sF.nd rfl (by trivial) zU) (mX (vF PassesOwn.never rfl (G4 (by rfl) B.enum (mV (pv 0) mW)) (Ky rfl (xY (qS (i:=2) sF.nd rfl (by trivial)) (xY (qS (i:=3) sF.nd rfl (by trivial)) HR))) (nr (vF PassesOwn.never rfl (qW (pv 3)) (qS (i:=4) sF.nd rfl (by trivial)) (nr (xO (uy hr) (pv 1) (pv 4) (pv 2) rfl))))) (nr (pE (pv 1))))),pD _ (K:=K) (ny (nR (i:=1) CQ) (ny (Hd (nP 0) (yI (nP 3) (ya (i:=1) (nP 2) (mY 4)))) (pM (Af 1)))) h⟩⟩
abbrev uT:Stmt:=By 9
theorem rR:oE ["m", "start", "place_of", "known", "waiting", "here", "end", "there"] ["m", "start"] (nD uT):=by trivial
theorem Gm  (D:zG K mg "reached" uT ["m", "start"] f fd) (B:Bt mg)   (G_places_at:Fn P w K mg base 1 "places_at" sj ["m"] (qb K Zl.qO) fplaces_at fdplaces_at)  : Fn P w K mg base 2 "reached" uT ["m", "start"] (qb K K51.tW) f fd :=
 ⟨D,D.F.ok rR (λ_ _ _ _=>rh) λsI A outer s H vs Q E hr h=>⟨_,(mX (nJ (i:=2) rR.nd rfl (by trivial) (qj G_places_at (hr.mono (by decide)) (mV (pv 0) mW))) (mX (nJ (i:=3) rR.nd rfl (by trivial) (G9 (DO (pv 1) zj G5) rfl rfl (by simp) (by decide))) (mX (nJ (i:=4) rR.nd rfl (by trivial) (qG (mV (pv 1) mW))) (mX (A9 PassesOwn.never (pN BV (nT oW (by rfl) B.len PySem.boot_len (mV (pv 4) mW)) nk (qd _)) (mX (nJ (i:=5) rR.nd rfl (by trivial) (FH ai cz cA Gd (pv 4))) (nr (vF PassesOwn.never rfl (qW (vO rL (pv 0) (pv 5) (λ_ _=>rfl))) (qS (i:=6) rR.nd rfl (by trivial)) (mX (nJ (i:=7) rR.nd rfl (by trivial) (yl (uy hr) (pv 2) (Cm yJ (pv 6)) (by first|rfl|exact trivial|(intro _ _;rfl)))) (nr (tJ (CJ (wZ (uy hr) (pv 7) (pv 3))) (mX (xO (uy hr) (pv 3) (pv 7) zj rfl) (nr (pH (qX ai aK aL oZ (pv 4) (mV (pv 7) mW))))) qT))))))) (nr (pE (nT (Dn rfl) (by rfl) B.sorted bN (mV (pv 3) mW)))))))),pD _ (K:=K) (ny (nR (i:=2) (oB (nv (nP 0) nI))) (ny (nR (i:=3) (EI (mY 1) (SR.kSc zt))) (ny (nR (i:=4) (qP (nv (nP 1) nI))) (ny (Ba 100000 (pP (nH BY (si qF (nF (mY 4) nV)) nq)) (ny (N2 (i:=5) (CL (i:=4))) (yI (B8 (pR 0) (mY 5)) (ny (nR (i:=7) (SR.kSc (yv (mY 2) (Co yC (mY 6))))) (xp (Ax (wY (mY 7) (mY 3))) (ny (ya (i:=3) (SR.kSc zt) (mY 7)) (uN (i:=4) (nP 7))) rK))))) (pM (LK (mY 3))))))) h⟩⟩
abbrev vb:Stmt:=By 10
theorem tT:oE ["m", "known", "found", "start", "places", "place"] ["m"] (nD vb):=by trivial
theorem Jg  (D:zG K mg "pieces" vb ["m"] f fd) (B:Bt mg)   (G_reached:Fn P w K mg base 2 "reached" uT ["m", "start"] (qb K K51.tW) freached fdreached)  : Fn P w K mg base 3 "pieces" vb ["m"] (qb K K51.rA) f fd :=
 ⟨D,D.F.ok tT (λ_ _ _ _=>rh) λsI A outer s H vs Q E hr h=>⟨_,(mX (nJ (i:=1) tT.nd rfl (by trivial) zU) (mX (nJ (i:=2) tT.nd rfl (by trivial) (qG mW)) (mX (vF PassesOwn.never rfl (yF (by rfl) B.range (mV (nT oW (by rfl) B.len PySem.boot_len (mV (pv 0) mW)) mW)) (qS (i:=3) tT.nd rfl (by trivial)) (nr (tJ (CJ (wZ (uy hr) (pv 3) (pv 1))) (mX (nJ (i:=4) tT.nd rfl (by trivial) (qj G_reached (hr.mono (by decide)) (mV (pv 0) (mV (pv 3) mW)))) (mX (vF PassesOwn.never rfl (qW (pv 4)) (qS (i:=5) tT.nd rfl (by trivial)) (nr (xO (uy hr) (pv 1) (pv 5) zj rfl))) (nr (pH (qX ai aK aL oZ (pv 2) (mV (uA (N:=["place", "m"]) (fr:=[0]) rfl rfl (by decide +kernel) rfl (by decide +kernel) rfl (tL.of (by decide +kernel) rfl rfl (by exact⟨rfl,trivial⟩) (by repeat (first|exact trivial|refine⟨(by first|exact λ_=>⟨_,rfl⟩|exact λh=>(by rcases h with h|h <;> cases h)),?_⟩)) (by exact⟨⟨rfl,rfl,rfl⟩,trivial⟩)) (qW (pv 4)) (λ_ _ _ _=>vL) (λ_ _ _ _=>(tV tO (by rfl) B.list cv (mV (vO rL (pv 1) (pv 0) (λ_ _=>rfl)) mW)))) mW)))))) qT))) (nr (pE (pv 2)))))),pD _ (K:=K) (ny (nR (i:=1) CQ) (ny (nR (i:=2) (qP nI)) (ny (KC (nF (si qF (nF (mY 0) nV)) nV) (xp (Ax (wY (mY 3) (mY 1))) (ny (nR (i:=4) (oB (nv (nP 0) (nv (nP 3) nI)))) (ny (yI (nP 4) (ya (i:=1) (SR.kSc zt) (mY 5))) (uN (i:=2) (ue (nP 4) vp (zL (SL.q (SK.lOf (B8 (pR 1) (mY 0))))))))) rK)) (pM (Af 2))))) h⟩⟩
abbrev oP:Stmt:=By 11
theorem uR:oE ["m"] ["m"] (nD oP):=by trivial
theorem uY  {Bs Bv:Addr}  (D:zG K mg "refuse_not_one_piece" oP ["m"] f fd) (B:Bt mg)  (rD:OT K mg "NotOnePiece" Bs Bv) (G_pieces:Fn P w K mg base 3 "pieces" vb ["m"] (qb K K51.rA) fpieces fdpieces)  : Kx P w K mg base 4 "refuse_not_one_piece" oP ["m"] (Ez K K51.nW) f fd :=
 ⟨D,okX D.F uR (λvs H Q E h=>zH h) λsI A outer s H vs Q E hr h=>⟨_,(nr (tJ (pN OX (nT oW (by rfl) B.len PySem.boot_len (mV (qj G_pieces (hr.mono (by decide)) (mV (pv 0) mW)) mW)) nk (qd _)) (nr (Fk rD.i.rf yL rfl (Qx rD.i))) qT)),wV _ (K:=K) (Lb (pP (nH OB (si qF (nF (SK.rOf (oB (nv (nP 0) nI))) nV)) nq)) (FM rD.i.rf) (tI rK)) h⟩⟩
abbrev tu:Stmt:=By 13
theorem yh:oE ["turn", "end", "start"] ["turn", "end"] (nD tu):=by trivial
theorem C9     (D:zG K mg "turn_from" tu ["turn", "end"] f fd) (B:Bt mg)     : Fn P w K mg base 1 "turn_from" tu ["turn", "end"] (qb K K31.rV) f fd :=
 ⟨D,D.F.ok yh (λ_ _ _ _=>rh) λsI A outer s H vs Q E hr h=>⟨_,(mX (nJ (i:=2) yh.nd rfl (by trivial) (qX ai dS fR EA (pv 0) (mV (pv 1) mW))) (nr (pE (om Gz (qv rH (pv 0) (qH (pv 2)) sZ) (qv rH (pv 0) sZ (qH (pv 2))))))),pD _ (K:=K) (ny (nR (i:=2) (SR.kSc (Jy (T := "list") Fc (mY 0) (nF (mY 1) nV)))) (pM (Gh (SK.lOf (vP (pR 0) (qI (mY 2)) tm)) (SK.lOf (vP (pR 0) tm (qI (mY 2))))))) h⟩⟩
abbrev rn:Stmt:=By 14
theorem oN:oE ["m", "end", "place_of", "turns", "ends", "known", "spot", "other", "there"] ["m", "end"] (nD rn):=by trivial
theorem AQ  (D:zG K mg "round_turns" rn ["m", "end"] f fd) (B:Bt mg)  (sV:RN P w K mg base "NotThere" "end" "end" Pi PP OE MB) (G_places_at:Fn P w K mg base 1 "places_at" sj ["m"] (qb K Zl.qO) fplaces_at fdplaces_at) (G_turn_from:Fn P w K mg base 1 "turn_from" tu ["turn", "end"] (qb K K31.rV) fturn_from fdturn_from)  : Kx P w K mg base 3 "round_turns" rn ["m", "end"] (Ez K K31.rF) f fd :=
 ⟨D,okX D.F oN (λvs H Q E h=>zH h) λsI A outer s H vs Q E hr h=>⟨_,(mX (nJ (i:=2) oN.nd rfl (by trivial) (qj G_places_at (hr.mono (by decide)) (mV (pv 0) mW))) (mX (tJ (CJ (wZ (uy hr) (pv 1) (pv 2))) (nr (Fk sV.i.rf yL rfl (QY sV.i (hr.mono (by decide)) (mV (pv 1) mW)))) qT) (mX (nJ (i:=3) oN.nd rfl (by trivial) (qG (mV (qj G_turn_from (hr.mono (by decide)) (mV (vO rL (pv 0) (yl (uy hr) (pv 2) (pv 1) (by first|rfl|exact trivial|(intro _ _;rfl))) (λ_ _=>rfl)) (mV (pv 1) mW))) mW))) (mX (nJ (i:=4) oN.nd rfl (by trivial) (tV tO (by rfl) B.list cv (mV (vO rL (pv 3) nk (λ_ _=>rfl)) mW))) (mX (nJ (i:=5) oN.nd rfl (by trivial) (G9 (DO (yl (uy hr) (pv 2) (pv 1) (by first|rfl|exact trivial|(intro _ _;rfl))) zj G5) rfl rfl (by simp) (by decide))) (mX (nJ (i:=6) oN.nd rfl (by trivial) nk) (mX (A9 PassesOwn.leaving (pN OL (pv 6) (nT oW (by rfl) B.len PySem.boot_len (mV (pv 4) mW)) (qd _)) (mX (nJ (i:=7) oN.nd rfl (by trivial) (Cm yJ (vO rL (pv 4) (pv 6) (λ_ _=>rfl)))) (mX (nJ (i:=8) oN.nd rfl (by trivial) (yl (uy hr) (pv 2) (pv 7) (by first|rfl|exact trivial|(intro _ _;rfl)))) (mX (tJ (CJ (wZ (uy hr) (pv 8) (pv 5))) (mX (xO (uy hr) (pv 5) (pv 8) zj rfl) (mX (pH (qX ai aK aL oZ (pv 3) (mV (qj G_turn_from (hr.mono (by decide)) (mV (vO rL (pv 0) (pv 8) (λ_ _=>rfl)) (mV (pv 7) mW))) mW))) (nr (pH (qX ai dG dJ yA (pv 4) (mV (vO rL (pv 3) (Cm yJ nk) (λ_ _=>rfl)) mW)))))) qT) (nr (PM (i:=6) oN.nd rfl (by trivial) nk PL)))))) (nr (pE (pv 3)))))))))),wV _ (K:=K) (sX (tI (nR (i:=2) (oB (nv (nP 0) nI)))) (sX (Lb (Ax (wY (mY 1) (mY 2))) (Jc sV.i.rf sV.i.nf (nF (mY 1) nV)) (tI rK)) (sX (tI (nR (i:=3) (qP (nv (oB (nv (B8 (pR 0) (yv (mY 2) (mY 1))) (nv (nP 1) nI))) nI)))) (sX (tI (nR (i:=4) (zL (SL.q (SK.lOf (B8 (pR 3) nq)))))) (sX (tI (nR (i:=5) (EI (yv (mY 2) (mY 1)) (SR.kSc zt)))) (sX (tI (nR (i:=6) (SR.kSc nq))) (sX (tI (Ba 100000 (pP (nH Ot (mY 6) (si qF (nF (mY 4) nV)))) (ny (nR (i:=7) (SR.kSc (Co yC (nH H0 (mY 4) (mY 6))))) (ny (nR (i:=8) (SR.kSc (yv (mY 2) (mY 7)))) (ny (xp (Ax (wY (mY 8) (mY 5))) (ny (ya (i:=5) (SR.kSc zt) (mY 8)) (ny (uN (i:=3) (oB (nv (B8 (pR 0) (mY 8)) (nv (nP 7) nI)))) (GY (i:=4) (SK.lOf (B8 (pR 3) (Co yC nq)))))) rK) (Qz (i:=6) nq)))))) (tI (pM (Af 3)))))))))) h⟩⟩
abbrev tG:Stmt:=By 16
theorem Dc:oE ["spots", "turn"] ["spots", "turn"] (nD tG):=by trivial
theorem DF     (D:zG K mg "turn_code" tG ["spots", "turn"] f fd) (B:Bt mg)    (b_tuple:mg "tuple" = none)   : Fn P w K mg base 1 "turn_code" tG ["spots", "turn"] (qb K K33.qo) f fd :=
 ⟨D,D.F.ok Dc (λ_ _ _ _=>rh) λsI A outer s H vs Q E hr h=>⟨_,(nr (pE (tV xx (by rfl) b_tuple fS (mV (uA (N:=["end", "spots"]) (fr:=[0]) rfl rfl (by decide +kernel) rfl (by decide +kernel) rfl (tL.of (by decide +kernel) rfl rfl (by exact⟨rfl,trivial⟩) (by repeat (first|exact trivial|refine⟨(by first|exact λ_=>⟨_,rfl⟩|exact λh=>(by rcases h with h|h <;> cases h)),?_⟩)) (by exact⟨⟨rfl,rfl,rfl⟩,trivial⟩)) (qW (pv 1)) (λ_ _ _ _=>vL) (λ_ _ _ _=>(yl (uy hr) (pv 1) (Cm yJ (pv 0)) (by first|rfl|exact trivial|(intro _ _;rfl))))) mW)))),pD _ (K:=K) (pM (Fu (SL.q (SK.lOf (ue (nP 1) vp (SR.kSc (yv (mY 1) (Co yC (mY 0))))))))) h⟩⟩
abbrev tQ:Stmt:=By 15
theorem vB:oE ["turns", "spots", "spot", "end"] ["turns"] (nD tQ):=by trivial
theorem FB  (D:zG K mg "code_of" tQ ["turns"] f fd) (B:Bt mg)    (b_tuple:mg "tuple" = none) (G_told_ends:Fn P w K mg base 1 "told_ends" rZ ["turns"] (qb K Zl.qR) ftold_ends fdtold_ends) (G_turn_code:Fn P w K mg base 1 "turn_code" tG ["spots", "turn"] (qb K K33.qo) fturn_code fdturn_code)  : Fn P w K mg base 2 "code_of" tQ ["turns"] (qb K K33.rX) f fd :=
 ⟨D,D.F.ok vB (λ_ _ _ _=>rh) λsI A outer s H vs Q E hr h=>⟨_,(mX (nJ (i:=1) vB.nd rfl (by trivial) zU) (mX (vF PassesOwn.never rfl (G4 (by rfl) B.enum (mV (qj G_told_ends (hr.mono (by decide)) (mV (pv 0) mW)) mW)) (Ky rfl (xY (qS (i:=2) vB.nd rfl (by trivial)) (xY (qS (i:=3) vB.nd rfl (by trivial)) HR))) (nr (xO (uy hr) (pv 1) (pv 3) (pv 2) rfl))) (nr (pE (tV xx (by rfl) b_tuple fS (mV (uA (N:=["turn", "spots"]) (fr:=[1]) rfl rfl (by decide +kernel) rfl (by decide +kernel) rfl (tL.of (by decide +kernel) rfl rfl (by exact⟨rfl,trivial⟩) (by repeat (first|exact trivial|refine⟨(by first|exact λ_=>⟨_,rfl⟩|exact λh=>(by rcases h with h|h <;> cases h)),?_⟩)) (by exact⟨⟨rfl,rfl,rfl⟩,trivial⟩)) (qW (pv 0)) (λ_ _ _ _=>vL) (λ_ _ _ _=>(qj G_turn_code (hr.mono (by decide)) (mV (pv 1) (mV (pv 0) mW))))) mW)))))),pD _ (K:=K) (ny (nR (i:=1) CQ) (ny (Hd (oB (nv (nP 0) nI)) (ya (i:=1) (nP 2) (mY 3))) (pM (Fu (SL.q (SK.lOf (ue (nP 0) vp (oB (nv (nP 1) (nv (nP 0) nI)))))))))) h⟩⟩
abbrev sm:Stmt:=By 17
theorem Bx:oE ["m", "end"] ["m", "end"] (nD sm):=by trivial
theorem BN  (D:zG K mg "round_code" sm ["m", "end"] f fd) (B:Bt mg)   (G_code_of:Fn P w K mg base 2 "code_of" tQ ["turns"] (qb K K33.rX) fcode_of fdcode_of) (G_round_turns:Kx P w K mg base 3 "round_turns" rn ["m", "end"] (Ez K K31.rF) fround_turns fdround_turns)  : Kx P w K mg base 4 "round_code" sm ["m", "end"] (Ez K K33.qu) f fd :=
 ⟨D,okX D.F Bx (λvs H Q E h=>zH h) λsI A outer s H vs Q E hr h=>⟨_,(nr (pE (qj G_code_of (hr.mono (by decide)) (mV (JG G_round_turns (hr.mono (by decide)) B3 (mV (pv 0) (mV (pv 1) mW))) mW)))),wV _ (K:=K) (Ki (nv (nP 0) (nv (nP 1) nI))) h⟩⟩
abbrev qU:Stmt:=By 18
theorem xo:oE ["m", "ends"] ["m"] (nD qU):=by trivial
theorem Bz  (D:zG K mg "least_code" qU ["m"] f fd) (B:Bt mg)   (G_refuse_not_one_piece:Kx P w K mg base 4 "refuse_not_one_piece" oP ["m"] (Ez K K51.nW) frefuse_not_one_piece fdrefuse_not_one_piece) (G_ends_of:Fn P w K mg base 2 "ends_of" uS ["m"] (qb K Zl.uU) fends_of fdends_of) (G_code_of:Fn P w K mg base 2 "code_of" tQ ["turns"] (qb K K33.rX) fcode_of fdcode_of) (G_round_code:Kx P w K mg base 4 "round_code" sm ["m", "end"] (Ez K K33.qu) fround_code fdround_code)  : Kx P w K mg base 5 "least_code" qU ["m"] (Ez K K34.oa) f fd :=
 ⟨D,okX D.F xo (λvs H Q E h=>zH h) λsI A outer s H vs Q E hr h=>have hu:=hr.units;⟨_,(mX (pH (JG G_refuse_not_one_piece (hr.mono (by decide)) B3 (mV (pv 0) mW))) (mX (nJ (i:=1) xo.nd rfl (by trivial) (qj G_ends_of (hr.mono (by decide)) (mV (pv 0) mW))) (mX (tJ (pN Ao (nT oW (by rfl) B.len PySem.boot_len (mV (pv 1) mW)) nk (qd _)) (nr (pE (qj G_code_of (hr.mono (by decide)) (mV (pv 0) mW)))) qT) (nr (pE (nT (IK rfl hu) (by rfl) B.min gk (mV (uA (N:=["end", "m"]) (fr:=[0]) rfl rfl (by decide +kernel) rfl (by decide +kernel) rfl (tL.of (by decide +kernel) rfl rfl (by exact⟨rfl,trivial⟩) (by repeat (first|exact trivial|refine⟨(by first|exact λ_=>⟨_,rfl⟩|exact λh=>(by rcases h with h|h <;> cases h)),?_⟩)) (by exact⟨⟨rfl,rfl,rfl⟩,trivial⟩)) (qW (pv 1)) (λ_ _ _ _=>vL) (λ_ _ _ _=>(FT G_round_code (hr.mono (by decide)) (mV (pv 1) (mV (pv 0) mW))))) mW))))))),wV _ (K:=K) (sX (Ly (nv (nP 0) nI)) (sX (tI (nR (i:=1) (oB (nv (nP 0) nI)))) (sX (tI (xp (pP (nH zi (si qF (nF (mY 1) nV)) nq)) (pM (oB (nv (nP 0) nI))) rK)) (tI (pM (ND (SL.q (SK.lOf (ue (nP 1) vp (oB (nv (nP 1) (nv (nP 0) nI)))))))))))) h⟩⟩
abbrev ym:Stmt:=By 19
theorem JF:oE ["m"] ["m"] (nD ym):=by trivial
theorem Lq  (D:zG K mg "codes" ym ["m"] f fd) (B:Bt mg)   (G_least_code:Kx P w K mg base 5 "least_code" qU ["m"] (Ez K K34.oa) fleast_code fdleast_code) (G_pieces:Fn P w K mg base 3 "pieces" vb ["m"] (qb K K51.rA) fpieces fdpieces)  : Fn P w K mg base 6 "codes" ym ["m"] (qb K K35.sA) f fd :=
 ⟨D,D.F.ok JF (λ_ _ _ _=>rh) λsI A outer s H vs Q E hr h=>have hu:=hr.units;⟨_,(nr (pE (nT (vD hu) (by rfl) B.sorted bN (mV (uA (cl:=[]) (N:=["piece"]) (fr:=[]) rfl rfl (by decide +kernel) rfl (by decide +kernel) rfl (tL.none (by decide +kernel)) (qW (qj G_pieces (hr.mono (by decide)) (mV (pv 0) mW))) (λ_ _ _ _=>vL) (λ_ _ _ _=>(FT G_least_code (hr.mono (by decide)) (mV (pv 0) mW)))) mW)))),pD _ (K:=K) (pM (AC (SL.q (SK.lOf (ue (oB (nv (nP 0) nI)) vp (oB (nv (nP 0) nI))))))) h⟩⟩
abbrev wI:Stmt:=By 21
theorem Jf:oE ["_law_script", "_law_k"] ["_law_script", "_law_k"] (nD wI):=by trivial
theorem Jr     (D:zG K mg "_law_cell" wI ["_law_script", "_law_k"] f fd) (B:Bt mg)     : Fn P w K mg base 1 "_law_cell" wI ["_law_script", "_law_k"] (qb K Zl.oy) f fd :=
 ⟨D,D.F.ok Jf (λ_ _ _ _=>rh) λsI A outer s H vs Q E hr h=>⟨_,(mX (tJ (pN OL (pv 1) (nT oW (by rfl) B.len PySem.boot_len (mV (pv 0) mW)) (qd _)) (nr (pE (vO rL (pv 0) (pv 1) (λ_ _=>rfl)))) qT) (nr (pE nk))),pD _ (K:=K) (ny (xp (pP (nH Ot (mY 1) (si qF (nF (mY 0) nV)))) (pM (SR.kSc (nH H0 (mY 0) (mY 1)))) rK) (pM (SR.kSc nq))) h⟩⟩
abbrev wJ:Stmt:=By 22
theorem va:oE ["_law_one", "_law_two", "_law_k", "_law_step", "_law_shift"] ["_law_one", "_law_two", "_law_k"] (nD wJ):=by trivial
theorem IM     (D:zG K mg "_law_name" wJ ["_law_one", "_law_two", "_law_k"] f fd) (B:Bt mg)     : Fn P w K mg base 1 "_law_name" wJ ["_law_one", "_law_two", "_law_k"] (qb K K31.rz) f fd :=
 ⟨D,D.F.ok va (λ_ _ _ _=>rh) λsI A outer s H vs Q E hr h=>⟨_,(mX (nJ (i:=3) va.nd rfl (by trivial) nk) (mX (nJ (i:=4) va.nd rfl (by trivial) nk) (mX (tJ (pN BV (om rm (pv 0) nk) nk (qd _)) (mX (nJ (i:=3) va.nd rfl (by trivial) (om wU nk (om rm (om uI (pv 0) nk) (om KY nk nk)))) (nr (nJ (i:=4) va.nd rfl (by trivial) (om rm (om uI (pv 1) nk) (om KY nk nk))))) qT) (nr (pE (om wU (om C0 (pv 3) (om wU (om rm (om wU (om C0 (om wU nk (om rm (pv 1) nk)) (pv 2)) (pv 0)) nk) nk)) (pv 4))))))),pD _ (K:=K) (ny (nR (i:=3) (SR.kSc nq)) (ny (nR (i:=4) (SR.kSc nq)) (ny (xp (pP (nH BY (nH ri (mY 0) nq) nq)) (ny (nR (i:=3) (SR.kSc (nH wq nq (nH ri (nH wD (mY 0) nq) (nH Lf nq nq))))) (nR (i:=4) (SR.kSc (nH ri (nH wD (mY 1) nq) (nH Lf nq nq))))) rK) (pM (SR.kSc (nH wq (nH Dl (mY 3) (nH wq (nH ri (nH wq (nH Dl (nH wq nq (nH ri (mY 1) nq)) (mY 2)) (mY 0)) nq) nq)) (mY 4))))))) h⟩⟩
abbrev vf:Stmt:=By 23
theorem qa:oE ["_law_cells", "_law_names", "_law_wild", "_law_turns_here", "_law_way", "_law_loose", "_law_left", "_law_cell_here", "_law_here", "_law_at", "_law_end"] ["_law_cells", "_law_names", "_law_wild"] (nD vf):=by trivial
theorem GD     (D:zG K mg "_law_turns" vf ["_law_cells", "_law_names", "_law_wild"] f fd) (B:Bt mg)     : Fn P w K mg base 1 "_law_turns" vf ["_law_cells", "_law_names", "_law_wild"] (qb K K31.qz) f fd :=
 ⟨D,D.F.ok qa (λ_ _ _ _=>rh) λsI A outer s H vs Q E hr h=>⟨_,(mX (nJ (i:=3) qa.nd rfl (by trivial) (qG (mV (qG mW) mW))) (mX (nJ (i:=4) qa.nd rfl (by trivial) (qG (mV nk mW))) (mX (nJ (i:=5) qa.nd rfl (by trivial) (qG mW)) (mX (nJ (i:=6) qa.nd rfl (by trivial) (tV tO (by rfl) B.list cv (mV (pv 1) mW))) (mX (vF PassesOwn.never rfl (qW (pv 0)) (qS (i:=7) qa.nd rfl (by trivial)) (mX (nJ (i:=8) qa.nd rfl (by trivial) (vO rL (pv 3) (vO rL (pv 4) (om A5 (nT oW (by rfl) B.len PySem.boot_len (mV (pv 4) mW)) nk) (λ_ _=>rfl)) (λ_ _=>rfl))) (nr (tJ (PW.pt (K3 (pN Ao (om rm (pv 7) nk) nk (qd _)) (Hk (pN BV (nT oW (by rfl) B.len PySem.boot_len (mV (pv 4) mW)) nk (qd _))))) (nr (pH (FH ai cz cA Gd (pv 4)))) (nr (tJ (PW.pt (K3 (pN Ao (om rm (pv 7) nk) nk (qd _)) (Hk (pN BV (nT oW (by rfl) B.len PySem.boot_len (mV (pv 5) mW)) nk (qd _))))) (mX (nJ (i:=9) qa.nd rfl (by trivial) (om A5 (nT oW (by rfl) B.len PySem.boot_len (mV (pv 5) mW)) nk)) (mX (tJ (Lu (pv 2)) (nr (nJ (i:=9) qa.nd rfl (by trivial) (om rm (om uI (pv 7) nk) (nT oW (by rfl) B.len PySem.boot_len (mV (pv 5) mW))))) qT) (nr (pH (qX ai aK aL oZ (pv 8) (mV (qX ai cz cA EW (pv 5) (mV (pv 9) mW)) mW)))))) (nr (tJ (pN BV (nT oW (by rfl) B.len PySem.boot_len (mV (pv 6) mW)) nk (qd _)) (mX (nJ (i:=10) qa.nd rfl (by trivial) (om C0 (qX ai cz cA EW (pv 6) (mV nk mW)) (om A5 nk (om C0 nk (om rm (om uI (pv 7) nk) nk))))) (mX (pH (qX ai aK aL oZ (pv 8) (mV (pv 10) mW))) (nr (tJ (pN Ao (om rm (pv 7) nk) nk (qd _)) (mX (pH (qX ai aK aL oZ (pv 3) (mV (qG (mV (Cm yJ (pv 10)) mW)) mW))) (nr (pH (qX ai aK aL oZ (pv 4) (mV (om A5 (nT oW (by rfl) B.len PySem.boot_len (mV (pv 3) mW)) nk) mW))))) (nr (pH (qX ai aK aL oZ (pv 5) (mV (Cm yJ (pv 10)) mW)))))))) qT)))))))) (mX (A9 PassesOwn.never (pN BV (nT oW (by rfl) B.len PySem.boot_len (mV (pv 5) mW)) nk (qd _)) (nr (pH (qX ai aK aL oZ (vO rL (pv 3) (vO rL (pv 4) (om A5 (nT oW (by rfl) B.len PySem.boot_len (mV (pv 4) mW)) nk) (λ_ _=>rfl)) (λ_ _=>rfl)) (mV (FH ai cz cA Gd (pv 5)) mW))))) (nr (pE (pv 3))))))))),pD _ (K:=K) (ny (nR (i:=3) (qP (nv (qP nI) nI))) (ny (nR (i:=4) (qP (nv (SR.kSc nq) nI))) (ny (nR (i:=5) (qP nI)) (ny (nR (i:=6) (zL (pR 1))) (ny (yI (nP 0) (PD (Kk (HE 3) (nH H0 (mY 4) (nH AL (si qF (nF (mY 4) nV)) nq))) (JE (L8 (pP (nH zi (nH ri (mY 7) nq) nq)) (pP (nH BY (si qF (nF (mY 4) nV)) nq))) (OW (JS (CL (i:=4)))) (JE (L8 (pP (nH zi (nH ri (mY 7) nq) nq)) (pP (nH BY (si qF (nF (mY 5) nV)) nq))) (GE (HX (SR.kSc (nH AL (si qF (nF (mY 5) nV)) nq)) (by decide)) (GE (PB (Ax (mY 2)) (HX (SR.kSc (nH ri (nH wD (mY 7) nq) (si qF (nF (mY 5) nV)))) (by decide)) (LM (λ_ _ _ h=>h))) (Mt (E5 (i:=5) (mY 9))))) (JE (pP (nH BY (si qF (nF (mY 6) nV)) nq)) (GE (Kw (R6 Dl (E5 (i:=6) nq) (nH AL nq (nH Dl nq (nH ri (nH wD (mY 7) nq) nq)))) (by decide)) (P4 (PH (nP 10)) (xp (pP (nH zi (nH ri (mY 7) nq) nq)) (ny (uN (i:=3) (qP (nv (SR.kSc (Co yC (mY 10))) nI))) (uN (i:=4) (SR.kSc (nH AL (si qF (nF (mY 3) nV)) nq)))) (uN (i:=5) (SR.kSc (Co yC (mY 10))))))) (OW rK)))))) (ny (Ba 100000 (pP (nH BY (si qF (nF (mY 5) nV)) nq)) (J3 (Kk (HE 3) (nH H0 (mY 4) (nH AL (si qF (nF (mY 4) nV)) nq))) (CL (i:=5)))) (pM (Af 3)))))))) h⟩⟩
abbrev uh:Stmt:=By 24
theorem zl:oE ["_law_turn", "_law_at"] ["_law_turn"] (nD uh):=by trivial
theorem DQ     (D:zG K mg "_law_turned" uh ["_law_turn"] f fd) (B:Bt mg)     : Fn P w K mg base 1 "_law_turned" uh ["_law_turn"] (qb K Zl.uo) f fd :=
 ⟨D,D.F.ok zl (λ_ _ _ _=>rh) λsI A outer s H vs Q E hr h=>⟨_,(mX (tJ (pN Ao (nT oW (by rfl) B.len PySem.boot_len (mV (pv 0) mW)) nk (qd _)) (nr (pE (qG mW))) qT) (mX (nJ (i:=1) zl.nd rfl (by trivial) (qX ai dS fR EA (pv 0) (mV (nT (IC rfl) (by rfl) B.min gk (mV (pv 0) mW)) mW))) (nr (pE (om Gz (qv rH (pv 0) (qH (pv 1)) sZ) (qv rH (pv 0) sZ (qH (pv 1)))))))),pD _ (K:=K) (ny (xp (pP (nH zi (si qF (nF (mY 0) nV)) nq)) (pM (qP nI)) rK) (ny (nR (i:=1) (SR.kSc (Jy (T := "list") Fc (mY 0) (nF (si Qy (nF (mY 0) nV)) nV)))) (pM (Gh (SK.lOf (vP (pR 0) (qI (mY 1)) tm)) (SK.lOf (vP (pR 0) tm (qI (mY 1)))))))) h⟩⟩
abbrev wk:Stmt:=By 25
theorem Js:oE ["_law_turns_here"] ["_law_turns_here"] (nD wk):=by trivial
theorem IH  (D:zG K mg "_law_good" wk ["_law_turns_here"] f fd) (B:Bt mg)   (Gv:Fn P w K mg base 1 "_law_turned" uh ["_law_turn"] (qb K Zl.uo) fL_turned fdL_turned)  : Fn P w K mg base 2 "_law_good" wk ["_law_turns_here"] (qb K Zl.oj) f fd :=
 ⟨D,D.F.ok Js (λ_ _ _ _=>rh) λsI A outer s H vs Q E hr h=>have hu:=hr.units;⟨_,(nr (pE (nT (C7 hu) (by rfl) B.sorted bN (mV (uA (cl:=[]) (N:=["_law_turn"]) (fr:=[]) rfl rfl (by decide +kernel) rfl (by decide +kernel) rfl (tL.none (by decide +kernel)) (qW (pv 0)) (λ_ _ _ _=>vL) (λ_ _ _ _=>(qj Gv (hr.mono (by decide)) (mV (pv 0) mW)))) mW)))),pD _ (K:=K) (pM (Ih (ue (nP 0) vp (oB (nv (nP 0) nI))))) h⟩⟩
abbrev wy:Stmt:=By 26
theorem II:oE ["_law_m"] ["_law_m"] (nD wy):=by trivial
theorem Jq     (D:zG K mg "_law_copy" wy ["_law_m"] f fd) (B:Bt mg)     : Fn P w K mg base 1 "_law_copy" wy ["_law_m"] (qb K K51.vc) f fd :=
 ⟨D,D.F.ok II (λ_ _ _ _=>rh) λsI A outer s H vs Q E hr h=>⟨_,(nr (pE (uA (cl:=[]) (N:=["_law_turn"]) (fr:=[]) rfl rfl (by decide +kernel) rfl (by decide +kernel) rfl (tL.none (by decide +kernel)) (qW (pv 0)) (λ_ _ _ _=>vL) (λ_ _ _ _=>(tV tO (by rfl) B.list cv (mV (pv 0) mW)))))),pD _ (K:=K) (pM (ue (nP 0) vp (zL (pR 0)))) h⟩⟩
abbrev xr:Stmt:=By 27
theorem qZ:oE ["_law_script", "_law_one", "_law_two", "_law_pick", "_law_cells", "_law_names", "_law_first", "_law_second", "_law_built", "_law_turns_here", "_law_due", "_law_piece", "_law_m", "_law_handed", "_law_found"] ["_law_script"] (nD xr):=by trivial
theorem Px  (D:zG K mg "law" xr ["_law_script"] f fd) (B:Bt mg)   (A0:Fn P w K mg base 1 "_law_cell" wI ["_law_script", "_law_k"] (qb K Zl.oy) fL_cell fdL_cell) (Ec:Fn P w K mg base 2 "_law_good" wk ["_law_turns_here"] (qb K Zl.oj) fL_good fdL_good) (JN:Fn P w K mg base 1 "_law_copy" wy ["_law_m"] (qb K K51.vc) fL_copy fdL_copy) (G_codes:Fn P w K mg base 6 "codes" ym ["m"] (qb K K35.sA) fcodes fdcodes) (Ln:Fn P w K mg base 1 "_law_name" wJ ["_law_one", "_law_two", "_law_k"] (qb K K31.rz) fL_name fdL_name) (yK:Fn P w K mg base 1 "_law_turns" vf ["_law_cells", "_law_names", "_law_wild"] (qb K K31.qz) fL_turns fdL_turns) (G_least_code:Kx P w K mg base 5 "least_code" qU ["m"] (Ez K K34.oa) fleast_code fdleast_code)  : Fn P w K mg base 7 "law" xr ["_law_script"] (qb K K35.LL) f fd :=
 ⟨D,D.F.ok qZ (λ_ _ _ _=>rh) λsI A outer s H vs Q E hr h=>have hu:=hr.units;have hu65:=sk.units65 hr;⟨_,(mX (nJ (i:=1) qZ.nd rfl (by trivial) (qj A0 (hr.mono (by decide)) (mV (pv 0) (mV nk mW)))) (mX (nJ (i:=2) qZ.nd rfl (by trivial) (qj A0 (hr.mono (by decide)) (mV (pv 0) (mV nk mW)))) (mX (nJ (i:=3) qZ.nd rfl (by trivial) (qj A0 (hr.mono (by decide)) (mV (pv 0) (mV nk mW)))) (mX (nJ (i:=4) qZ.nd rfl (by trivial) (qv rH (pv 0) (qH nk) (qH nk))) (mX (N8 (i:=5) (N:=["_law_k", "_law_one", "_law_two"]) (fr:=[1,2]) rfl qZ.nd rfl (by trivial) rfl (by decide +kernel) rfl (by decide +kernel) rfl (tL.of (by decide +kernel) rfl rfl (by exact⟨rfl,rfl,trivial⟩) (by repeat (first|exact trivial|refine⟨(by first|exact λ_=>⟨_,rfl⟩|exact λh=>(by rcases h with h|h <;> cases h)),?_⟩)) (by exact⟨⟨rfl,rfl,rfl⟩,⟨rfl,rfl,rfl⟩,trivial⟩)) (yF (by rfl) B.range (mV nk mW)) (λ_ _ _ _=>vL) (λ_ _ _ _=>(qj Ln (hr.mono (by decide)) (mV (pv 1) (mV (pv 2) (mV (pv 0) mW)))))) (mX (nJ (i:=6) qZ.nd rfl (by trivial) (om rm (om uI (pv 3) nk) (om wU (nT oW (by rfl) B.len PySem.boot_len (mV (pv 4) mW)) nk))) (mX (nJ (i:=7) qZ.nd rfl (by trivial) (om rm (om uI (pv 3) nk) (om wU (nT oW (by rfl) B.len PySem.boot_len (mV (pv 4) mW)) nk))) (mX (nJ (i:=8) qZ.nd rfl (by trivial) (qG (mV (qj yK (hr.mono (by decide)) (mV (qv rH (pv 4) sZ (qH (pv 6))) (mV (qv rH (pv 5) sZ (qH nk)) (mV (Dr Ao (om rm (pv 3) nk) nk (qd _)) mW)))) mW))) (mX (pH (qX ai aK aL oZ (pv 8) (mV (qj yK (hr.mono (by decide)) (mV (qv rH (pv 4) (qH (pv 6)) sZ) (mV (qv rH (pv 5) (qH nk) (qH nk)) (mV (Dr Ao (om rm (pv 3) nk) nk (qd _)) mW)))) mW))) (mX (pH (qX ai aK aL oZ (pv 8) (mV (qj yK (hr.mono (by decide)) (mV (qv rH (pv 4) sZ (qH (pv 7))) (mV (qv rH (pv 5) (qH nk) sZ) (mV zj mW)))) mW))) (mX (nJ (i:=8) qZ.nd rfl (by trivial) (om Gz (qv rH (pv 8) sZ (qH (om wU nk (om rm (om uI (pv 3) nk) nk)))) (uA (cl:=[]) (N:=["_law_k"]) (fr:=[]) rfl rfl (by decide +kernel) rfl (by decide +kernel) rfl (tL.none (by decide +kernel)) (yF (by rfl) B.range (mV (om rm (om uI (pv 3) nk) nk) mW)) (λ_ _ _ _=>vL) (λ_ _ _ _=>(qG (mV (qG mW) mW)))))) (mX (nJ (i:=9) qZ.nd rfl (by trivial) (qG mW)) (mX (nJ (i:=10) qZ.nd rfl (by trivial) (qG mW)) (mX (vF PassesOwn.never rfl (qW (pv 8)) (qS (i:=11) qZ.nd rfl (by trivial)) (mX (pH (qX ai dG dJ yA (pv 9) (mV (pv 11) mW))) (nr (pH (qX ai aK aL oZ (pv 10) (mV (FT G_least_code (hr.mono (by decide)) (mV (qj Ec (hr.mono (by decide)) (mV (pv 11) mW)) mW)) mW)))))) (mX (nJ (i:=12) qZ.nd rfl (by trivial) (qj Ec (hr.mono (by decide)) (mV (pv 9) mW))) (mX (nJ (i:=13) qZ.nd rfl (by trivial) (qj JN (hr.mono (by decide)) (mV (pv 12) mW))) (mX (nJ (i:=14) qZ.nd rfl (by trivial) (qj G_codes (hr.mono (by decide)) (mV (pv 13) mW))) (mX (tJ (PW.pt (Lg (Ql (Lu (nT J1 (by rfl) B.isi ic (mV (pv 14) (mV (N0 (v:=.ty "list") (by rfl) B.list cv rfl) mW))))) (Lg (pN (GU hu) (pv 13) (pv 12) (qd _)) (Mf (pN (GU hu) (qj G_codes (hr.mono (by decide)) (mV (qG mW) mW)) (qG mW) (qd _)))))) (nr (pE zj)) qT) (mX (tJ (PW.pt (Lg (pN (GU hu) (pv 14) (nT (vD hu) (by rfl) B.sorted bN (mV (pv 10) mW)) (qd _)) (Mf (pN OX (qX ai cQ fU (Nj hu65) (pv 14) (mV (DA (mV (DA mW) mW)) mW)) (qX ai cQ fU (Ma hu65) (pv 12) (mV (qG mW) mW)) (qd _))))) (nr (pE zj)) qT) (mX (pH (qX ai aK aL oZ (pv 14) (mV (DA (mV (DA mW) mW)) mW))) (nr (pE (Dr (Pp hu) (qj G_codes (hr.mono (by decide)) (mV (pv 13) mW)) (nT (vD hu) (by rfl) B.sorted bN (mV (pv 10) mW)) (qd _)))))))))))))))))))))))),pD _ (K:=K) (ny (nR (i:=1) (SR.kSc (zC (nF (mY 0) (nF nq nV))))) (ny (nR (i:=2) (SR.kSc (zC (nF (mY 0) (nF nq nV))))) (ny (nR (i:=3) (SR.kSc (zC (nF (mY 0) (nF nq nV))))) (ny (nR (i:=4) (vP (pR 0) (qI nq) (qI nq))) (ny (nR (i:=5) (Ck (nF nq nV) vp (SR.kSc (zC (nF (mY 1) (nF (mY 2) (nF (mY 0) nV))))))) (ny (nR (i:=6) (SR.kSc (nH ri (nH wD (mY 3) nq) (nH wq (si qF (nF (mY 4) nV)) nq)))) (ny (nR (i:=7) (SR.kSc (nH ri (nH wD (mY 3) nq) (nH wq (si qF (nF (mY 4) nV)) nq)))) (ny (nR (i:=8) (qP (nv (oB (nv (vP (pR 4) tm (qI (mY 6))) (nv (vP (pR 5) tm (qI nq)) (nv (SR.kSc (nH zi (nH ri (mY 3) nq) nq)) nI)))) nI))) (ny (uN (i:=8) (oB (nv (vP (pR 4) (qI (mY 6)) tm) (nv (vP (pR 5) (qI nq) (qI nq)) (nv (SR.kSc (nH zi (nH ri (mY 3) nq) nq)) nI))))) (ny (uN (i:=8) (oB (nv (vP (pR 4) tm (qI (mY 7))) (nv (vP (pR 5) (qI nq) tm) (nv (SR.kSc zt) nI))))) (ny (nR (i:=8) (Gh (SK.lOf (vP (pR 8) tm (qI (nH wq nq (nH ri (nH wD (mY 3) nq) nq))))) (SK.lOf (Ck (nF (nH ri (nH wD (mY 3) nq) nq) nV) vp (qP (nv (qP nI) nI)))))) (ny (nR (i:=9) (qP nI)) (ny (nR (i:=10) (qP nI)) (ny (yI (nP 8) (ny (GY (i:=9) (CM 11)) (uN (i:=10) (oB (nv (oB (nv (nP 11) nI)) nI))))) (ny (nR (i:=12) (oB (nv (nP 9) nI))) (ny (nR (i:=13) (oB (nv (nP 12) nI))) (ny (nR (i:=14) (oB (nv (nP 13) nI))) (ny (xp (Lc (Qk (Ax (si Qn (nF (mY 14) (nF RO nV))))) (Lc (pP (nH GG (mY 13) (mY 12))) (pP (nH GG (SK.rOf (oB (nv (qP nI) nI))) (SK.rOf (qP nI)))))) (pM (SR.kSc zt)) rK) (ny (xp (Lc (pP (nH GG (mY 14) (SK.rOf (AC (pR 10))))) (pP (nH OB (Jy (T := "list") Nr (mY 14) (nF (SK.rOf (Dp (nv (Dp nI) nI))) nV)) (NY (mY 12))))) (pM (SR.kSc zt)) rK) (ny (uN (i:=14) (Dp (nv (Dp nI) nI))) (pM (SR.kSc (nH O9 (SK.rOf (oB (nv (nP 13) nI))) (SK.rOf (AC (pR 10)))))))))))))))))))))))))) h⟩⟩
end
end K35
namespace K12
open PySem L2 Mr Z Xe Zl
abbrev aP(part:List (List Int)):AV:=.ow (part.map aI)
theorem LJ{α β:Type}(f:α->β) (l:List α) (i:Nat) (a:α):(l.map f).set i (f a)=(l.set i a).map f:=by rw[List.map_set]
structure Wd where
 P0:List (List (List Int))
 last:List (List Int)
 t0:List Nat
 h:Nat
 left:List Int
 used:Nat
abbrev cN(ks:List Nat):List Int:=ks.map λn:Nat=>(n:Int)
def st(v0 v1:Option AV) (w:Wd) (v6 v7 v8 v9:Option AV):AS:=[v0,v1,some (.ow ((w.P0++[w.last]).map aP)),some (aI (cN (w.t0++[w.h]))),some (aI w.left),some (.sh (.int (w.used:Int))),v6,v7,v8,v9]
section
variable {nm:List Int}{P0:List (List (List Int))}{last:List (List Int)}{t0:List Nat}{hd:Nat}{left r:List Int}{used:Nat}{c e:Int}{v0 v1 v8:Option AV}
theorem AX(r:List Int) (e:Int):(r.map λn=>AV.sh (.int n))++[.sh (.int e)]=(r++[e]).map λn=>.sh (.int n):=by rw[mBq];rfl
theorem MN(l:List (List Int)) (e:Int):l.map aI++[.ow [.sh (.int e)]]=(l++[[e]]).map aI:=by rw[mBq];rfl
theorem Ox(ks:List Nat) (n:Nat):(cN ks).map (λn=>AV.sh (.int n))++[.sh (.int (n:Int))]=(cN (ks++[n])).map λn=>.sh (.int n):=by unfold cN;rw[mBq,mBq];rfl
theorem K2{α β:Type}(f:α->β):∀(l:List α) (i:Nat),(l.map f).eraseIdx i=(l.eraseIdx i).map f
 | [],i=>rfl
 |x::l,0=>rfl
 |x::l,i+1=>by rw[ak,bZ,bZ,K2 f l i,ak]
end
theorem yd{x r:List Int}(a:Int):∀{l:List (List Int)}{h:Nat},l[h]?=some r->(l.set h (r++x)).flatten.count a=l.flatten.count a+x.count a
 | [],_,h=>by simp at h
 |s::l,0,h=>by
  cases h;rw[cS,fCq,fCq,cAq,cAq,cAq];lia
 |s::l,h+1,e=>by
  rw[dQ,fCq,fCq,cAq,cAq,yd a (by simpa using e)]
  lia
theorem B4(a:Int):∀{l:List Int}{j:Nat},j<l.length->(l.eraseIdx j).count a+[l.getD j 0].count a=l.count a
 | [],_,h=>by simp at h
 |x::l,0,_=>by
  rw[dW,show x::l=[x]++l from rfl,cAq]
  show l.count a+[x].count a=_;lia
 |x::l,j+1,h=>by
  have ih:=B4 a (l:=l) (j:=j) (by simpa using h)
  rw[bZ,show x::l.eraseIdx j=[x]++l.eraseIdx j from rfl,show (x::l).getD (j+1) 0=l.getD j 0 from rfl,show x::l=[x]++l from rfl,cAq,cAq]
  lia
theorem G3{l:List (List Int)}{h:Nat}{r:List Int}(e:l[h]?=some r):r.length<=l.flatten.length:=du.length_le (aQ (mGq e))
def Kt(st sh a b k:Int):Int:=st*((a*k+b) % 67+1)+sh
theorem Hs{st sh a b:Int}(h1:1<=st) (h2:1<=a) (h3:a<=66) {j k:Nat}(hj:j<67) (hk:k<67) (h:Kt st sh a b j=Kt st sh a b k):j=k:=by
 unfold Kt at h;have e1:st*((a*j+b) % 67+1)=st*((a*k+b) % 67+1):=by lia
 have e2:=Int.eq_of_mul_eq_mul_left (by lia) e1
 have e3:((a*j+b)-(a*k+b)) % 67=0:=Int.emod_eq_emod_iff_emod_sub_eq_zero.mp (by lia)
 have e4:(a*((j:Int)-k)) % 67=0:=by
  rw[←e3];congr 1;rw[Int.mul_sub];lia
 obtain⟨tn,rfl⟩:∃tn:Nat,a=(tn:Int)+1:=⟨(a-1).toNat,by lia⟩
 rcases gR j k with q|q|q
 .exfalso;refine Mr.HF ⟨tn,by lia⟩ ⟨k-j,by lia⟩ (by show 0<k-j;lia) ?_
  show (tn+1)*(k-j) % 67=0;have e5:(((tn:Int)+1)*((k:Int)-j)) % 67=0:=by
   have:((tn:Int)+1)*((k:Int)-j) = -(((tn:Int)+1)*((j:Int)-k)):=by
    rw[←Int.mul_neg];congr 1;lia
   rw[this];lia
  have e6:(((tn+1)*(k-j) % 67:Nat):Int)=0:=by
   rw[←e5];push_cast [bX q];rfl
  lia
 .exact q
 .exfalso;refine Mr.HF ⟨tn,by lia⟩ ⟨j-k,by lia⟩ (by show 0<j-k;lia) ?_
  show (tn+1)*(j-k) % 67=0;have e6:(((tn+1)*(j-k) % 67:Nat):Int)=0:=by
   rw[←e4];push_cast [bX q];rfl
  lia
theorem EL:∀{l:List Int},l.Nodup->(∀x∈l,1<=x)->(l.flatMap λx=>[x, -x]).Nodup
 | [],_,_=>aT
 |x::l,hn,hp=>by
  have hn':=aH.mp hn;have px:=hp x (ay ..);rw[cF,nAq];refine⟨?_,EL hn'.2 λy hy=>hp y (mCo _ hy),λa ha b hb e=>?_⟩
  .rw [aH];refine⟨?_,by simp⟩
   rw[mSq];lia
  .subst e;obtain⟨y,hy,q⟩:=eK.mp hb;have py:=hp y (mCo _ hy);simp at ha q;have:y=x:=by lia
   exact hn'.1 (this ▸ hy)
end K12
namespace K51
open PySem L2 Mr Z Xe Zl
theorem NP{rs:List (List Int)}(hl:rs.length<=500000):vc [dM rs]=some (.ow (rs.map aI)):=by
 have key:=rG (te:=xK (qq 0)) (cap:=[]) (λd=>match d with|.list ds=>.ow (ds.map .sh)|_=>.sh .non) (ds:=rs.map dI) (by
  intro d hd;obtain⟨r,_,rfl⟩:=mMq.mp hd;refine⟨[some (.sh (dI r))],?_⟩
  simp_arith [dI])
 have h1:rs.length<=qB:=by show _<=16777216;lia
 have e:(rs.map dI).map (λd=>match d with|D.list ds=>AV.ow (ds.map .sh)|_=>.sh .non)=rs.map aI:=by
  rw[mPq];refine mCq λr _=>?_
  show AV.ow ((r.map D.int).map .sh)=aI r;rw[mPq];rfl
 rw[e]at key
 simp_arith [vc,B5,dM,key,h1]
def kd(ks:List Nat):List (nX×D):=ks.map λk:Nat=>((aS (k:Int):nX),D.bl true)
def wd(ws:List Nat):List AV:=ws.map λk:Nat=>AV.sh (.int (k:Int))
theorem kd_any(ks:List Nat) (t:Nat):(kd ks).any (λkv=>decide (kv.1=(aS (t:Int):nX)))=decide (t∈ks):=by
 induction ks with
 |nil=>simp[kd]
 |cons k ks ih =>
  unfold kd at ih ⊢;rw[ak,eE,ih]
  by_cases h:t=k
  .subst h;simp
  .have h':¬ (aS (k:Int):nX)=aS (t:Int):=λq=>h (by have:=aS.inj q;lia)
   simp[h',h]
theorem kd_get(ks:List Nat) (t:Nat):(getD (kd ks) (aS (t:Int))).isSome=decide (t∈ks):=by
 unfold getD;rw[ed,←kd_any,bV,gU,fL]
theorem K7{ks:List Nat}{t:Nat}(h:t∉ks):wA (kd ks) (aS (t:Int)) (.bl true)=kd (ks++[t]):=by
 unfold wA;rw[kd_any,decide_eq_false h,nS (by simp)]
 simp[kd]
theorem Gp{kvs:List (nX×D)}{ks ws:List Nat}{e:Int}{t:Nat}{v0 v1 v5 v7:Option AV}(hg:getD kvs (aS (-e))=some (.int (t:Int))) (hk:ks.length<500000) (hw:ws.length<500000) :
  qV [v0,v1,some (.owd kvs),some (.owd (kd ks)),some (.ow (wd ws)),v5,some (.sh (.int e)),v7]=some (.nx [v0,v1,some (.owd kvs),some (.owd (kd (if t∈ks then ks else ks++[t]))),some (.ow (wd (if t∈ks then ws else ws++[t]))),v5,some (.sh (.int e)),some (.sh (.int (t:Int)))]):=by
 have l1:(kd ks).length<qB:=by unfold kd;rw[lMq];show _<16777216;lia
 have l2:(wd ws).length<qB:=by unfold wd;rw[lMq];show _<16777216;lia
 have hg2:=kd_get ks t
 by_cases h:t∈ks
 .rw [decide_eq_true h]at hg2
  simp_arith [qV,hg,hg2,h]
 .rw [decide_eq_false h]at hg2;have hp:=K7 h;have hw2:wd ws++[.sh (.int (t:Int))]=wd (ws++[t]):=by simp[wd]
  simp_arith [qV,hg,hg2,h,hp,l1,l2,hw2]
def zK(pl:Int->Nat) (x:List Nat×List Nat) (e:Int):List Nat×List Nat:=if pl (-e)∈x.1 then x else (x.1++[pl (-e)],x.2++[pl (-e)])
theorem Hu(pl:Int->Nat):∀(r:List Int) (x:List Nat×List Nat),(r.foldl (zK pl) x).1.length<=x.1.length+r.length/\(r.foldl (zK pl) x).2.length<=x.2.length+r.length
 | [],x=>⟨af _,af _⟩
 |e::r,x=>by
  obtain⟨h1,h2⟩:=Hu pl r (zK pl x e);have h3:(zK pl x e).1.length<=x.1.length+1/\(zK pl x e).2.length<=x.2.length+1:=by
   unfold zK;split
   .exact ⟨bw _,bw _⟩
   .simp
  rw[bK,lCq];lia
theorem IF{kvs:List (nX×D)}{ks ws:List Nat}{r:List Int}{pl:Int->Nat}{v0 v1 v5 v6 v7:Option AV}(hg:∀e∈r,getD kvs (aS (-e))=some (.int (pl (-e):Int))) (hk:ks.length+r.length<500000) (hw:ws.length+r.length<500000) :
  ∃v6' v7',tw 6 qV (r.map D.int) [v0,v1,some (.owd kvs),some (.owd (kd ks)),some (.ow (wd ws)),v5,v6,v7]=some (.nx [v0,v1,some (.owd kvs),some (.owd (kd (r.foldl (zK pl) (ks,ws)).1)),some (.ow (wd (r.foldl (zK pl) (ks,ws)).2)),v5,v6',v7']):=by
 have key:=zr (x:=6) (body:=qV) (λi S=>∃v6' v7',S=[v0,v1,some (.owd kvs),some (.owd (kd ((r.take i).foldl (zK pl) (ks,ws)).1)),some (.ow (wd ((r.take i).foldl (zK pl) (ks,ws)).2)),v5,v6',v7']) (ds:=r.map D.int) (S:=[v0,v1,some (.owd kvs),some (.owd (kd ks)),some (.ow (wd ws)),v5,v6,v7])
  ⟨v6,v7,rfl⟩ (by
  rintro i d S hd ⟨v6',v7',rfl⟩;rw[gMq]at hd;obtain⟨e,he,rfl⟩:=oMq.mp hd;have hi:i<r.length:=(gSq.mp he).1;have hm:e∈r:=mGq he;obtain⟨n1,n2⟩:=Hu pl (r.take i) (ks,ws);rw[lTq]at n1 n2;have n1':((r.take i).foldl (zK pl) (ks,ws)).1.length<=ks.length+min i r.length:=n1;have n2':((r.take i).foldl (zK pl) (ks,ws)).2.length<=ws.length+min i r.length:=n2;have step:=Gp (v0:=v0) (v1:=v1) (v5:=v5) (v7:=v7') (hg e hm) (ks:=((r.take i).foldl (zK pl) (ks,ws)).1) (ws:=((r.take i).foldl (zK pl) (ks,ws)).2) (by lia) (by lia)
  have et:(r.take (i+1)).foldl (zK pl) (ks,ws)=zK pl ((r.take i).foldl (zK pl) (ks,ws)) e:=by
   have:r[i]'hi=e:=by rw[gEg hi]at he;exact bc.inj he
   rw[cJ hi,fA,this];rfl
  refine⟨_,step,some (.sh (.int e)),some (.sh (.int (pl (-e):Int))),?_⟩;rw[et];unfold zK;split <;> rfl)
 obtain⟨S',e,v6',v7',rfl⟩:=key;rw[lMq,bH]at e;exact⟨v6',v7',e⟩
theorem NB:∀(N:Nat) (l:List Nat),l.Nodup->(∀x∈l,x<N)->l.length<=N
 |0,l,_,h=>by
  cases l with
  |nil=>exact af _
  |cons x l=>exact absurd (h x (ay ..)) (bW _)
 |N+1,l,hn,h=>by
  have h2:=NB N (l.erase N) (hn.erase N) (λx hx=>by
   have:=(hn.mem_erase_iff).mp hx;have:=h x this.2;lia)
  rw[List.length_erase]at h2;split at h2 <;> lia
def plc(rs:List (List Int)) (e:Int):Nat:=rs.findIdx λr=>decide (e∈r)
theorem same_place{rs:List (List Int)}(hn:rs.flatten.Nodup) {i j:Nat}{r s:List Int}{e:Int}(hi:rs[i]?=some r) (hj:rs[j]?=some s) (h1:e∈r) (h2:e∈s):i=j:=by
 have a:=vy 0 hn hi h1;have b:=vy 0 hn hj h2;rw[a]at b;have:=D.int.inj (bc.inj b);lia
theorem plc_eq{rs:List (List Int)}(hn:rs.flatten.Nodup) {i:Nat}{r:List Int}{e:Int}(hi:rs[i]?=some r) (h1:e∈r):plc rs e=i:=by
 have hl:rs.findIdx (λr=>decide (e∈r))<rs.length:=eC ⟨r,mGq hi,decide_eq_true h1⟩
 have h2:=gw (xs:=rs) (p:=λr=>decide (e∈r)) (w:=hl)
 exact same_place hn (gEg hl) hi (of_decide_eq_true h2) h1
structure Mp (rs:List (List Int)):Prop where
 hn:rs.flatten.Nodup
 hl:rs.flatten.length<=1000
 hr:rs.length<=1000
 hneg:∀e∈rs.flatten, -e∈rs.flatten
theorem Mp.at{rs:List (List Int)}(h:Mp rs) {e:Int}(he:e∈rs.flatten):∃r,rs[plc rs e]?=some r/\e∈r:=by
 obtain⟨r,h1,h2⟩:=mFq.mp he;obtain⟨i,h3⟩:=bf.mp h1;exact⟨r,by rw[plc_eq h.hn h3 h2];exact h3,h2⟩
theorem Mp.other{rs:List (List Int)}(h:Mp rs) {k:Nat}{r:List Int}{e:Int}(hk:rs[k]?=some r) (he:e∈r):-e∈rs.flatten:=h.hneg e (mFq.mpr ⟨r,mGq hk,he⟩)
theorem Mp.kv{rs:List (List Int)}(h:Mp rs) {e:Int}(he:e∈rs.flatten):getD (oU 0 rs) (aS e)=some (.int (plc rs e:Int)):=by
 obtain⟨r,h1,h2⟩:=h.at he;have:=vy 0 h.hn h1 h2
 rwa [bD]at this
theorem Mp.lt{rs:List (List Int)}(h:Mp rs) {e:Int}(he:e∈rs.flatten):plc rs e<rs.length:=by
 obtain⟨r,h1,_⟩:=h.at he;exact(gSq.mp h1).1
theorem Mp.row{rs:List (List Int)}(h:Mp rs) {k:Nat}{r:List Int}(hk:rs[k]?=some r):r.length<=1000:=by
 have:=du.length_le (aQ (mGq hk));have:=h.hl;lia
inductive DM (rs:List (List Int)) (s:Nat):Nat->Prop
 |base:DM rs s s
 |step {k:Nat}{r:List Int}{e:Int}:DM rs s k->rs[k]?=some r->e∈r->DM rs s (plc rs (-e))
theorem Am(pl:Int->Nat):∀(r:List Int) (ks ws:List Nat),∃a,r.foldl (zK pl) (ks,ws)=(ks++a,ws++a)/\(∀k∈a,∃e∈r,k=pl (-e))/\(∀e∈r,pl (-e)∈ks++a)/\(ks.Nodup->(ks++a).Nodup)
 | [],ks,ws=>⟨[],by simp,by simp,by simp,by simp⟩
 |e::r,ks,ws=>by
  rw[bK]
  by_cases h:pl (-e)∈ks
  .have e1:zK pl (ks,ws) e=(ks,ws):=by unfold zK;rw[nK h]
   rw[e1];obtain⟨a,h1,h2,h3,h4⟩:=Am pl r ks ws;refine⟨a,h1,λk hk=>?_,λx hx=>?_,h4⟩
   .obtain ⟨x,hx,q⟩:=h2 k hk;exact⟨x,mCo _ hx,q⟩
   .rcases aj.mp hx with rfl|hx
    .exact mAq.mpr (.inl h)
    .exact h3 x hx
  .have e1:zK pl (ks,ws) e=(ks++[pl (-e)],ws++[pl (-e)]):=by unfold zK;rw[nS h]
   rw[e1];obtain⟨a,h1,h2,h3,h4⟩:=Am pl r (ks++[pl (-e)]) (ws++[pl (-e)]);refine⟨pl (-e)::a,by rw[h1,aA,aA];rfl,λk hk=>?_,λx hx=>?_,λhn=>?_⟩
   .rcases aj.mp hk with rfl|hk
    .exact ⟨e,ay ..,rfl⟩
    .obtain ⟨x,hx,q⟩:=h2 k hk;exact⟨x,mCo _ hx,q⟩
   .rcases aj.mp hx with rfl|hx
    .exact mAq.mpr (.inr (ay ..))
    .have:=h3 x hx
     rwa [aA]at this
   .have:=h4 (by
     rw[nAq];exact⟨hn,by simp,λx hx y hy q=>h (by rw[mSq.mp hy]at q;rw[←q];exact hx)⟩)
    rwa [aA]at this
structure Inv (rs:List (List Int)) (s:Nat) (ks ws:List Nat):Prop where
 nd:ks.Nodup
 lt:∀k∈ks,k<rs.length
 st:s∈ks
 rc:∀k∈ks,DM rs s k
 sub:∀w∈ws,w∈ks
 cl:∀k∈ks,k∉ws->∀r e,rs[k]?=some r->e∈r->plc rs (-e)∈ks
 few:2*(rs.length-ks.length)+ws.length<=2*rs.length+1
theorem Inv.go{rs:List (List Int)}(hm:Mp rs) {s h:Nat}{ks ws:List Nat}{r:List Int}(hi:Inv rs s ks (ws++[h])) (hr:rs[h]?=some r):∃a,r.foldl (zK (plc rs)) (ks,ws)=(ks++a,ws++a)/\Inv rs s (ks++a) (ws++a)/\2*(rs.length-(ks++a).length)+(ws++a).length<2*(rs.length-ks.length)+(ws++[h]).length:=by
 obtain⟨a,h1,h2,h3,h4⟩:=Am (plc rs) r ks ws;have hh:h∈ks:=hi.sub h (by simp)
 have nd:=h4 hi.nd;have lt:∀k∈ks++a,k<rs.length:=by
  intro k hk;rcases mAq.mp hk with q|q
  .exact hi.lt k q
  .obtain ⟨e,he,rfl⟩:=h2 k q;exact hm.lt (hm.other hr he)
 have pl:=NB _ _ nd lt;have p0:=hi.few;rw[lAq]at pl;rw[lAq,lSq]at p0;have key:2*(rs.length-(ks++a).length)+(ws++a).length<2*(rs.length-ks.length)+(ws++[h]).length:=by
  rw[lAq,lAq,lAq,lSq];lia
 refine⟨a,h1,⟨nd,lt,mAq.mpr (.inl hi.st),λk hk=>?_,λw hw=>?_,λk hk hw=>?_,?_⟩,key⟩
 .rcases mAq.mp hk with q|q
  .exact hi.rc k q
  .obtain ⟨e,he,rfl⟩:=h2 k q;exact .step (hi.rc h hh) hr he
 .rcases mAq.mp hw with q|q
  .exact mAq.mpr (.inl (hi.sub w (mAq.mpr (.inl q))))
  .exact mAq.mpr (.inr q)
 .intro r' e hr' he;have k1:k∈ks:=(mAq.mp hk).resolve_right λq=>hw (mAq.mpr (.inr q))
  by_cases q:k=h
  .subst q;rw[hr]at hr';cases hr';exact h3 e he
  .exact mAq.mpr (.inl (hi.cl k k1 (λz=>by
    rcases mAq.mp z with z|z
    .exact hw (mAq.mpr (.inl z))
    .exact q (mSq.mp z)) r' e hr' he))
 .rw [lAq,lAq]at key ⊢;rw[lAq,lSq]at key;lia
def mu(N:Nat):AS->Nat
 | [_,_,_,some (.owd kv),some (.ow w),_,_,_]=>2*(N-kv.length)+w.length
 |_=>0
theorem FK{rs:List (List Int)}(hm:Mp rs) {s:Nat}(hs:s<rs.length):∃S',rQ (uw (oV FG (vQ qD (ni (mZ 4) nO)) (rC (.int 0)))) tM 100000 [some (.sh (dM rs)),some (.sh (.int (s:Int))),some (.owd (oU 0 rs)),some (.owd (kd [s])),some (.ow (wd [s])),none,none,none]=some (.nx S') /\
  ∃ks v5 v6 v7,S'=[some (.sh (dM rs)),some (.sh (.int (s:Int))),some (.owd (oU 0 rs)),some (.owd (kd ks)),some (.ow (wd [])),v5,v6,v7]/\Inv rs s ks []:=by
 have h1000:=hm.hr;refine yi (c:=uw (oV FG (vQ qD (ni (mZ 4) nO)) (rC (.int 0)))) (body:=tM) (λS=>∃ks ws v5 v6 v7,S=[some (.sh (dM rs)),some (.sh (.int (s:Int))),some (.owd (oU 0 rs)),some (.owd (kd ks)),some (.ow (wd ws)),v5,v6,v7]/\Inv rs s ks ws) (mu rs.length) (λS'=>∃ks v5 v6 v7,S'=[some (.sh (dM rs)),some (.sh (.int (s:Int))),some (.owd (oU 0 rs)),some (.owd (kd ks)),some (.ow (wd [])),v5,v6,v7]/\Inv rs s ks []) ?_ 100000 _ ⟨[s],[s],none,none,none,rfl,?_⟩ ?_
 .rintro S ⟨ks,ws,v5,v6,v7,rfl,hi⟩;rcases dk ws with rfl|⟨ws,h,rfl⟩
  .refine ⟨false,_,?_,λq=>(nomatch q),λ_=>⟨ks,v5,v6,v7,rfl,hi⟩⟩
   simp_arith [wd]
   rfl
  .rw [dm]at hi ⊢;have hlt:h<rs.length:=hi.lt h (hi.sub h (by simp))
   have hr:rs[h]?=some rs[h]:=gEg hlt;obtain⟨a,e1,hi2,mlt⟩:=hi.go hm hr;have few:=hi.few;have kl:=NB _ _ hi.nd hi.lt;have rl:=hm.row hr;rw[lAq,lSq]at few;obtain⟨v6',v7',e2⟩:=IF (kvs:=oU 0 rs) (ks:=ks) (ws:=ws) (r:=rs[h]) (pl:=plc rs) (v0:=some (.sh (dM rs))) (v1:=some (.sh (.int (s:Int)))) (v5:=some (.sh (.int (h:Int)))) (v6:=v6) (v7:=v7) (λe he=>hm.kv (hm.other hr he)) (by lia) (by lia)
   rw[e1]at e2;have hw:wd (ws++[h])=wd ws++[.sh (.int (h:Int))]:=by simp[wd]
   have wl:(wd ws).length=ws.length:=by simp[wd]
   have c1:(0:Int)<((wd ws++[AV.sh (.int (h:Int))]).length:Int):=by
    rw[lAq,lSq];lia
   have p1:(wd ws++[AV.sh (.int (h:Int))])[(wd ws++[AV.sh (.int (h:Int))]).length-1]?=some (.sh (.int (h:Int))):=by
    rw[lAq,lSq,gYq (by lia)]
    simp
   have p2:(wd ws++[AV.sh (.int (h:Int))]).dropLast=wd ws:=cH;have at1:atI (rs.map dI) (h:Int)=some (dI rs[h]):=xX (by rw[gMq,hr];rfl)
   refine⟨true,[some (.sh (dM rs)),some (.sh (.int (s:Int))),some (.owd (oU 0 rs)),some (.owd (kd ks)),some (.ow (wd ws++[.sh (.int (h:Int))])),v5,v6,v7],?_,λ_=>⟨[some (.sh (dM rs)),some (.sh (.int (s:Int))),some (.owd (oU 0 rs)),some (.owd (kd (ks++a))),some (.ow (wd (ws++a))),some (.sh (.int (h:Int))),v6',v7'],?_,⟨_,_,_,_,_,rfl,hi2⟩,?_⟩,λq=>(nomatch q)⟩
   .simp_arith [hw,c1]
   .simp_arith [tM,p1,p2,dM,at1,e2]
   .show 2*(rs.length-(kd (ks++a)).length)+(wd (ws++a)).length<2*(rs.length-(kd ks).length)+(wd (ws++[h])).length;unfold kd wd;rw[lMq,lMq,lMq,lMq];exact mlt
 .refine ⟨by simp,?_,by simp,?_,λw h=>h,?_,?_⟩
  .intro k hk;rw[mSq.mp hk];exact hs
  .intro k hk;rw[mSq.mp hk];exact .base
  .intro k hk hn;exact absurd hk hn
  .simp only [lSq];lia
 .show 2*(rs.length-(kd [s]).length)+(wd [s]).length<100000;simp only[kd,wd,lMq,lSq];lia
theorem Gr{rs:List (List Int)}(hm:Mp rs) {s:Nat}(hs:s<rs.length):∃ks,Inv rs s ks []/\tW [dM rs,.int (s:Int)]=some (aI (qK (ks.map λk:Nat=>(k:Int)))):=by
 obtain⟨S',e,ks,v5,v6,v7,rfl,hi⟩:=FK hm hs;have hl:=hm.hl;have pa:=yj hm.hn (by lia)
 have e1:[((aS (s:Int):nX),D.bl true)]=kd [s]:=rfl;have e2:[AV.sh (.int (s:Int))]=wd [s]:=rfl;have e3:xu (kd ks)=some (ks.map λk:Nat=>(k:Int)):=B2 (λk:Nat=>(k:Int)) (λ_=>D.bl true) ks
 have l1:(wd [s]).length<=qB:=by show 1<=16777216;decide
 refine⟨ks,hi,?_⟩
 simp_arith [tW,Bq,pa,e1,e2,e,e3,l1]
theorem Mv(ks:List Nat):∃ps:List Nat,ps.Perm ks/\ps.Pairwise (·<=·)/\qK (ks.map λk:Nat=>(k:Int))=ps.map λk:Nat=>(k:Int):=by
 have hp:=tR (ks.map λk:Nat=>(k:Int))
 have hs:=zp (ks.map λk:Nat=>(k:Int))
 have hc:(qK (ks.map λk:Nat=>(k:Int)))=((qK (ks.map λk:Nat=>(k:Int))).map gn).map λk:Nat=>(k:Int):=by
  rw[mPq]
  conv=>lhs;rw[←dg (qK (ks.map λk:Nat=>(k:Int)))]
  refine mCq λz hz=>?_
  obtain⟨k,_,rfl⟩:=mMq.mp (hp.mem_iff.mp hz);rfl
 refine⟨(qK (ks.map λk:Nat=>(k:Int))).map gn,?_,?_,hc⟩
 .have:=hp.map gn;rw[mPq]at this;have e:ks.map (gn∘λk:Nat=>(k:Int))=ks:=by
   conv=>rhs;rw[←dg ks]
   refine mCq λk _=>?_
   show gn (k:Int)=k;exact cC k
  rwa [e]at this
 .rw [bA];refine bI.imp (λh=>?_) hs
  lia
structure Pc (rs:List (List Int)) (s:Nat) (ps:List Nat):Prop where
 nd:ps.Nodup
 so:ps.Pairwise (·<=·)
 lt:∀k∈ps,k<rs.length
 iff:∀k,k∈ps↔DM rs s k
theorem Bj{rs:List (List Int)}(hm:Mp rs) {s:Nat}(hs:s<rs.length):∃ps,Pc rs s ps/\tW [dM rs,.int (s:Int)]=some (aI (ps.map λk:Nat=>(k:Int))):=by
 obtain⟨ks,hi,e⟩:=Gr hm hs;obtain⟨ps,h1,h2,h3⟩:=Mv ks;rw[h3]at e;refine⟨ps,⟨h1.symm.nodup hi.nd,h2,λk hk=>hi.lt k (h1.mem_iff.mp hk),λk=>⟨λhk=>hi.rc k (h1.mem_iff.mp hk),λhk=>h1.mem_iff.mpr ?_⟩⟩,e⟩
 induction hk with
 |base=>exact hi.st
 |step _ a b c=>exact hi.cl _ c (fF) _ _ a b
def addN(kn:List Nat) (t:Nat):List Nat:=if t∈kn then kn else kn++[t]
theorem kd_put2(ks:List Nat) (t:Nat):wA (kd ks) (aS (t:Int)) (.bl true)=kd (addN ks t):=by
 unfold addN
 by_cases h:t∈ks
 .rw [nK h];unfold wA;rw[kd_any,decide_eq_true h,nK rfl];unfold kd;rw[mPq];refine mCq λk _=>?_
  show (if _ then _ else _)=_
  split <;> rfl
 .rw [nS h];exact K7 h
theorem JH(kn:List Nat) (t:Nat):(addN kn t).length<=kn.length+1:=by
 unfold addN;split
 .lia
 .simp
theorem El:∀(ps kn:List Nat),(ps.foldl addN kn).length<=kn.length+ps.length
 | [],kn=>af _
 |p::ps,kn=>by
  have h1:=El ps (addN kn p);have h2:=JH kn p;rw[bK,lCq];lia
theorem Kj{kn:List Nat}{t k:Nat}:k∈addN kn t↔k∈kn∨k=t:=by
 unfold addN;split
 .rename_i h;exact⟨.inl,λq=>q.elim id λq=>q ▸ h⟩
 .simp
theorem qi:∀{ps kn:List Nat}{k:Nat},k∈ps.foldl addN kn↔k∈kn∨k∈ps
 | [],kn,k=>by simp
 |p::ps,kn,k=>by
  rw[bK,qi,Kj,aj,or_assoc]
theorem MM{kn:List Nat}{t:Nat}(h:kn.Nodup):(addN kn t).Nodup:=by
 unfold addN;split
 .exact h
 .rename_i q;rw[nAq];exact⟨h,by simp,λx hx y hy z=>q (by rw[mSq.mp hy]at z;rw[←z];exact hx)⟩
theorem DG:∀{ps kn:List Nat},kn.Nodup->(ps.foldl addN kn).Nodup
 | [],kn,h=>h
 |p::ps,kn,h=>by
  rw[bK];exact DG (MM h)
theorem Cs{ps kn:List Nat}{v0 v2 v3 v4 v5:Option AV}(hk:kn.length+ps.length<500000):∃v5',tw 5 uF ((ps.map λk:Nat=>(k:Int)).map D.int) [v0,some (.owd (kd kn)),v2,v3,v4,v5]=some (.nx [v0,some (.owd (kd (ps.foldl addN kn))),v2,v3,v4,v5']):=by
 have key:=zr (x:=5) (body:=uF) (λi S=>∃v5',S=[v0,some (.owd (kd ((ps.take i).foldl addN kn))),v2,v3,v4,v5']) (ds:=(ps.map λk:Nat=>(k:Int)).map D.int) (S:=[v0,some (.owd (kd kn)),v2,v3,v4,v5]) ⟨v5,rfl⟩ (by
  rintro i d S hd ⟨v5',rfl⟩;rw[gMq,gMq]at hd;obtain⟨z,hz,rfl⟩:=oMq.mp hd;obtain⟨k,hk',rfl⟩:=oMq.mp hz;have hi:i<ps.length:=(gSq.mp hk').1;have n1:=El (ps.take i) kn;rw[lTq]at n1;have l1:(kd ((ps.take i).foldl addN kn)).length<qB:=by unfold kd;rw[lMq];show _<16777216;lia
  have et:(ps.take (i+1)).foldl addN kn=addN ((ps.take i).foldl addN kn) k:=by
   have:ps[i]'hi=k:=by rw[gEg hi]at hk';exact bc.inj hk'
   rw[cJ hi,fA,this];rfl
  have hp:=kd_put2 ((ps.take i).foldl addN kn) k;rw[←et]at hp;refine⟨_,?_,some (.sh (.int (k:Int))),rfl⟩
  simp_arith [uF,l1,hp])
 obtain⟨S',e,v5',rfl⟩:=key;rw[lMq,lMq,bH]at e;exact⟨v5',e⟩
theorem Bf{rs:List (List Int)}{ps:List Nat}(h:∀k∈ps,k<rs.length):qM qL (xK (lOf (Mn (qq 1) (mZ 0)))) [some (.sh (dM rs))] ((ps.map λk:Nat=>(k:Int)).map D.int)=some (ps.map λk=>aI (rs.getD k [])):=by
 have key:=rG (te:=xK (lOf (Mn (qq 1) (mZ 0)))) (cap:=[some (.sh (dM rs))]) (λd=>match d with|.int k=>aI (rs.getD k.toNat [])|_=>.sh .non) (ds:=(ps.map λk:Nat=>(k:Int)).map D.int) (by
  intro d hd;rw[mPq]at hd;obtain⟨k,hk,rfl⟩:=mMq.mp hd;have at1:=SN (h k hk);refine⟨[some (.sh (.int (k:Int))),some (.sh (dM rs))],?_⟩
  simp_arith [dM,at1,Function.comp,cC,dI,aI,mPq]
  rfl)
 rw[key,mPq,mPq];rfl
def pA(rs:List (List Int)) (ps:List Nat):AV:=.ow (ps.map λk=>aI (rs.getD k []))
theorem DM.trans{rs:List (List Int)}{a b c:Nat}(h:DM rs a b) (h2:DM rs b c):DM rs a c:=by
 induction h2 with
 |base=>exact h
 |step _ p q r=>exact .step r p q
theorem DM.symm{rs:List (List Int)}(hm:Mp rs) {a b:Nat}(h:DM rs a b):DM rs b a:=by
 induction h with
 |base=>exact .base
 | @step k r e _ p q ih =>
  obtain⟨r',h1,h2⟩:=hm.at (hm.other p q);have:=DM.step (s:=plc rs (-e)) .base h1 h2;rw[hU,plc_eq hm.hn p q]at this;exact this.trans ih
structure Ps (rs:List (List Int)) (i:Nat) (kn:List Nat) (PS:List (List Nat)):Prop where
 sub:∀ps∈PS,∀k∈ps,k∈kn
 dj:PS.Pairwise λa b=>∀k∈a,k∉b
 pc:∀ps∈PS,∃s,s<rs.length/\Pc rs s ps
 all:∀k,k<i->k∈kn
 mem:∀k,k∈kn->∃ps∈PS,k∈ps
 nd:kn.Nodup
 lt:∀k∈kn,k<rs.length
 len:PS.length<=i
theorem Ik{rs:List (List Int)}(hm:Mp rs):∃kn PS,Ps rs rs.length kn PS/\rA [dM rs]=some (.ow (PS.map (pA rs))):=by
 have h1000:=hm.hr;have key:=zr (x:=3) (body:=qN) (λi S=>∃kn PS v3 v4 v5,S=[some (.sh (dM rs)),some (.owd (kd kn)),some (.ow (PS.map (pA rs))),v3,v4,v5]/\Ps rs i kn PS) (ds:=oY 0 rs.length) (S:=[some (.sh (dM rs)),some (.owd []),some (.ow []),none,none,none])
  ⟨[],[],none,none,none,rfl,⟨by simp,by simp,by simp,by simp,by simp,by simp,by simp,by simp⟩⟩ (by
  rintro i d S hd ⟨kn,PS,v3,v4,v5,rfl,hp⟩;have hi:i<rs.length:=by
   have:=(gSq.mp hd).1
   rwa [pZ]at this
  rw[xI hi,gP]at hd;cases hd;have hg:=kd_get kn i
  by_cases c:i∈kn
  .rw [decide_eq_true c]at hg;refine⟨[some (.sh (dM rs)),some (.owd (kd kn)),some (.ow (PS.map (pA rs))),some (.sh (.int (i:Int))),v4,v5],?_,kn,PS,_,_,_,rfl,hp.sub,hp.dj,hp.pc,?_,hp.mem,hp.nd,hp.lt,?_⟩
   .simp_arith [qN,hg]
   .intro k hk;rcases cM.mp hk with q|rfl
    .exact hp.all k q
    .exact c
   .have:=hp.len;lia
  .rw [decide_eq_false c]at hg;obtain⟨ps,h1,e1⟩:=Bj hm hi;have p1:=NB _ _ hp.nd hp.lt;have p2:=NB _ _ h1.nd h1.lt;have p3:=hp.len;have l2:ps.length<=qB:=by show _<=16777216;lia
   have l3:PS.length<qB:=by show _<16777216;lia
   obtain⟨v5',e2⟩:=Cs (ps:=ps) (kn:=kn) (v0:=some (.sh (dM rs))) (v2:=some (.ow (PS.map (pA rs)))) (v3:=some (.sh (.int (i:Int)))) (v4:=some (.sh (dI (ps.map λk:Nat=>(k:Int))))) (v5:=v5) (by lia)
   have e3:=Bf h1.lt;refine⟨[some (.sh (dM rs)),some (.owd (kd (ps.foldl addN kn))),some (.ow ((PS++[ps]).map (pA rs))),some (.sh (.int (i:Int))),some (.sh (dI (ps.map λk:Nat=>(k:Int)))),v5'],?_,ps.foldl addN kn,PS++[ps],_,_,_,rfl,?_,?_,?_,?_,?_,DG hp.nd,?_,?_⟩
   .simp_arith [qN,hg,e1,e2,e3,l2,l3,mBq,pA]
   .intro qs hq k hk;rcases mAq.mp hq with q|q
    .exact qi.mpr (.inl (hp.sub qs q k hk))
    .rw [mSq.mp q]at hk;exact qi.mpr (.inr hk)
   .rw [aB];refine⟨hp.dj,dX ..,λqs hq b hb k hk hk2=>c ?_⟩
    rw[mSq.mp hb]at hk2;obtain⟨s,hs,hc⟩:=hp.pc qs hq;exact hp.sub qs hq i ((hc.iff i).mpr (((hc.iff k).mp hk).trans (((h1.iff k).mp hk2).symm hm)))
   .intro qs hq;rcases mAq.mp hq with q|q
    .exact hp.pc qs q
    .rw [mSq.mp q];exact⟨i,hi,h1⟩
   .intro k hk;rcases cM.mp hk with q|rfl
    .exact qi.mpr (.inl (hp.all k q))
    .exact qi.mpr (.inr ((h1.iff k).mpr .base))
   .intro k hk;rcases qi.mp hk with q|q
    .obtain ⟨qs,a,b⟩:=hp.mem k q;exact⟨qs,mAq.mpr (.inl a),b⟩
    .exact ⟨ps,mAq.mpr (.inr (mSq.mpr rfl)),q⟩
   .intro k hk;rcases qi.mp hk with q|q
    .exact hp.lt k q
    .exact h1.lt k q
   .rw [lAq,lSq];lia)
 obtain⟨S',e,kn,PS,v3,v4,v5,rfl,hp⟩:=key;rw[pZ]at hp;have r1:=zI (n:=rs.length) (by lia)
 refine⟨kn,PS,hp,?_⟩
 simp_arith [rA,yM,dM,r1,e]
end K51
namespace K12
open PySem L2 Mr Z Xe Zl
abbrev gm(p:List (List Int)):List (List Int):=Lj (p.map tF)
theorem oJ(p:List (List Int)):(gm p).Perm (p.map tF):=E4 _
theorem QL{P Q:List (List (List Int))}(hQ:Q.Perm (P.map gm)):Q.flatten.Perm (P.flatten.map tF):=by
 refine hQ.flatten.trans ?_
 clear hQ
 induction P with
 |nil=>exact .refl _
 |cons p P ih =>
  rw[ak,fCq,fCq,mBq];exact(oJ p).append ih
theorem flat_nd:∀{PS:List (List Nat)},(∀ps∈PS,ps.Nodup)->(PS.Pairwise λa b=>∀k∈a,k∉b)->PS.flatten.Nodup
 | [],_,_=>aT
 |p::PS,h1,h2=>by
  obtain⟨h3,h4⟩:=dO.mp h2;rw[fCq,nAq];refine⟨h1 p (ay ..),flat_nd (λps hp=>h1 ps (mCo _ hp)) h4,λa ha b hb e=>?_⟩
  obtain⟨q,hq,hb'⟩:=mFq.mp hb;exact h3 q hq a ha (e ▸ hb')
theorem EK{rs:List (List Int)}{kn:List Nat}{PS:List (List Nat)}(hp:K51.Ps rs rs.length kn PS):(PS.map λps=>ps.map λk=>rs.getD k []).flatten.Perm rs:=by
 have e1:(PS.map λps=>ps.map λk=>rs.getD k []).flatten=PS.flatten.map λk=>rs.getD k []:=by rw[←List.map_flatten]
 rw[e1];have nd:PS.flatten.Nodup:=flat_nd (λps h=>by obtain⟨s,_,q⟩:=hp.pc ps h;exact q.nd) hp.dj
 have pm:PS.flatten.Perm (bP rs.length):=(ft nd hV).mpr λk=>by
  rw[dY,mFq];constructor
  .rintro ⟨ps,h1,h2⟩;obtain⟨s,_,q⟩:=hp.pc ps h1;exact q.lt k h2
  .intro hk;exact hp.mem k (hp.all k hk)
 have e2:(bP rs.length).map (λk=>rs.getD k [])=rs:=by
  refine eg λi=>?_
  rw[gMq]
  by_cases hi:i<rs.length
  .rw [gF hi,gEg hi,fZ,gDq,gEg hi];rfl
  .rw [bM (by simpa using hi),bM (by lia)]
   rfl
 have:=pm.map (λk=>rs.getD k [])
 rwa [e2]at this
end K12
namespace K11
open PySem L2 Mr Z Xe Zl K12
def AA(p:List (List Int)):Prop:=∀k,0<k->k<p.length->∃j e,j<k/\e∈p.getD j []/\-e∈p.getD k []
structure Cn (p:List (List Int)):Prop where
 ne:p≠[]
 clo:∀z∈p.flatten, -z∈p.flatten
 tr:AA p
theorem yf{l:List (List Int)}{h:Nat}{r x:List Int}(hr:l[h]?=some r) {k:Nat}{e:Int}(he:e∈l.getD k []):e∈(l.set h (r++x)).getD k []:=by
 rw[gDq]at he ⊢
 by_cases q:h=k
 .subst q;have hlt:=(gSq.mp hr).1;rw[aD hlt];rw[hr]at he;exact bE _ he
 .rw [ax q];exact he
theorem CW{l:List (List Int)}{h:Nat}{r x:List Int}(hr:l[h]?=some r) {e:Int}(he:e∈x):e∈(l.set h (r++x)).getD h []:=by
 have hlt:=(gSq.mp hr).1;rw[gDq,aD hlt];exact ar _ he
theorem AA.set{l:List (List Int)}{h:Nat}{r x:List Int}(t:AA l) (hr:l[h]?=some r):AA (l.set h (r++x)):=λk h0 hk=>by
 rw[lZq]at hk;obtain⟨j,e,h1,h2,h3⟩:=t k h0 hk;exact⟨j,e,h1,yf hr h2,yf hr h3⟩
theorem getD_app{l:List (List Int)}{x:List Int}{k:Nat}(h:k<l.length):(l++[x]).getD k []=l.getD k []:=by
 rw[gDq,gDq,gZq h]
theorem K0{l:List (List Int)}{x:List Int}:(l++[x]).getD l.length []=x:=by
 rw[gDq,gYq (af _),cP];rfl
theorem AA.add{l:List (List Int)}{h:Nat}{e:Int}(t:AA l) (hh:h<l.length) (he:e∈l.getD h []):AA (l++[[-e]]):=λk h0 hk=>by
 rw[lAq,lSq]at hk
 by_cases q:k<l.length
 .obtain ⟨j,e',h1,h2,h3⟩:=t k h0 q;exact⟨j,e',h1,by rw[getD_app (by lia)];exact h2,by rw[getD_app q];exact h3⟩
 .have ek:k=l.length:=by lia
  subst ek;exact⟨h,e,hh,by rw[getD_app hh];exact he,by rw[K0];simp⟩
theorem Jz(r:List Int):AA [r]:=λk h0 hk=>by
 rw[lSq]at hk;lia
end K11
namespace K31
open PySem L2 Mr Z Xe Zl K12
theorem NH(one two:Int):∃st sh a b:Int,1<=st/\st<=10 ^ 40/\0<=sh/\sh<10 ^ 40/\1<=a/\a<=66/\∀k:Nat,rz [.int one,.int two,.int (k:Int)]=some (.sh (.int (Kt st sh a b k))):=by
 have a1:0<=two % 66:=bg _ (by decide)
 have a2:two % 66<66:=bb _ (by decide)
 have s1:0<=one / 3 % 10 ^ 40:=bg _ (by decide)
 have s2:one / 3 % 10 ^ 40<10 ^ 40:=bb _ (by decide)
 have s3:0<=two / 66 % 10 ^ 40:=bg _ (by decide)
 have s4:two / 66 % 10 ^ 40<10 ^ 40:=bb _ (by decide)
 have m3:=λi:Int=>rO (i:=i) (j:=3) (by decide)
 have m66:=λi:Int=>rO (i:=i) (j:=66) (by decide)
 have m67:=λi:Int=>rO (i:=i) (j:=67) (by decide)
 have m40:=λi:Int=>rO (i:=i) (j:=10 ^ 40) (by decide)
 have d3:=λi:Int=>vH (i:=i) (j:=3) (by decide) (by decide)
 have d66:=λi:Int=>vH (i:=i) (j:=66) (by decide) (by decide)
 have c1:=λk:Nat=>Lx (i:=1+two % 66) (j:=(k:Int)) (by lia) (by lia)
 by_cases h0:0<one % 3
 .refine ⟨1+one / 3 % 10 ^ 40,two / 66 % 10 ^ 40,1+two % 66,one,by lia,by lia,s3,s4,by lia,by lia,λk=>?_⟩
  have b1:0<=((1+two % 66)*(k:Int)+one) % 67:=bg _ (by decide)
  have b2:((1+two % 66)*(k:Int)+one) % 67<67:=bb _ (by decide)
  have c2:=Ht (i:=1+one / 3 % 10 ^ 40) (j:=((1+two % 66)*(k:Int)+one) % 67+1) (by lia) (by lia)
  simp_arith [rz,yD,h0,m3,m66,m67,m40,d3,d66,c1,c2,Us,Kt]
 .refine ⟨1,0,1+two % 66,one,by decide,by decide,by decide,by decide,by lia,by lia,λk=>?_⟩
  have b1:0<=((1+two % 66)*(k:Int)+one) % 67:=bg _ (by decide)
  have b2:((1+two % 66)*(k:Int)+one) % 67<67:=bb _ (by decide)
  have c2:=Ht (i:=1) (j:=((1+two % 66)*(k:Int)+one) % 67+1) (by lia) (by lia)
  simp_arith [rz,yD,h0,m3,m66,m67,c1,c2,Kt]
theorem zg{T:List (List Int)}{h:Nat}{r:List Int}(hr:T[h]?=some r):oO (.ow (T.map aI)) [h]=some (r.map λn=>.sh (.int n)):=by
 rw[EM,gMq,hr];rfl
theorem M4{T:List (List Int)}{h:Nat}{r r':List Int}(hr:T[h]?=some r):putAt (.ow (T.map aI)) [h] (r'.map λn=>.sh (.int n)) = .ow ((T.set h r').map aI):=by
 rw[GQ (a:=aI r) (by rw[gMq,hr];rfl)]
 show AV.ow ((T.map aI).set h (aI r'))=_;rw[LJ]
structure Wd where
 T:List (List Int)
 t0:List Nat
 h:Nat
 loose:List Int
 left:List Int
def BH(wild:Bool) (c:Int) (loose:List Int):Nat:=if wild then (c / 8 % loose.length).toNat else loose.length-1
def sg(c x:Int):Int:=x*(1-2*(c / 4 % 2))
def ze(wild:Bool) (w:Wd) (c:Int):Wd :=
 let r:=w.T.getD w.h []
 if c % 4=1/\w.t0≠[] then { w with t0:=w.t0.dropLast,h:=w.t0.getLast?.getD 0 }
 else if c % 4=2/\w.loose≠[] then { w with T:=w.T.set w.h (r++[w.loose.getD (BH wild c w.loose) 0]),loose:=w.loose.eraseIdx (BH wild c w.loose) }
 else match w.left with
  | []=>w
  |x::left=>if c % 4=0 then { w with T:=w.T.set w.h (r++[sg c x])++[[-(sg c x)]],t0:=w.t0++[w.h],h:=w.T.length,left:=left }
   else { w with T:=w.T.set w.h (r++[sg c x]),loose:=w.loose++[-(sg c x)],left:=left }
def st(v0 v1:Option AV) (wild:Bool) (w:Wd) (v7 v8 v9 v10:Option AV):AS:=[v0,v1,some (.sh (.bl wild)),some (.ow (w.T.map aI)),some (aI (cN (w.t0++[w.h]))),some (aI w.loose),some (aI w.left),v7,v8,v9,v10]
section
variable {T:List (List Int)}{t0:List Nat}{hd:Nat}{loose left r:List Int}{c:Int}{wild:Bool}{v0 v1 v8 v9 v10:Option AV}
theorem KZ:atI ((cN (t0++[hd])).map D.int) (((t0++[hd]).length:Int)-1)=some (.int (hd:Int)):=by
 have:((t0++[hd]).length:Int)-1=(t0.length:Int):=by rw[lAq,lSq];lia
 rw[this];refine xX ?_;unfold cN;rw[mBq,mBq,gYq (by simp)]
 simp
theorem Ac(l:List Nat):(cN l).length=l.length:=lMq ..
def JK:List Nat->MS:=(DS 3 (uw (oV FG (vQ qD (ni (mZ 6) nO)) (rC (.int 0)))) (C8 3 (Ca 10 (N5 Cy (xa 6 (rC (.int 0))) (oV Ai (rC (.int 1)) (oV Cy (rC (.int 2)) (oV rP (oV xl (mZ 7) (rC (.int 4))) (rC (.int 2))))))) (λpath=>nQ ((Ha 3 (oS 10)) path) (DL (uw (oV Fw (oV rP (mZ 7) (rC (.int 4))) (rC (.int 0)))) (nQ (vY 3 (sq (nz (kSc (Ju Bi (mZ 10))) nY))) (vY 4 (kSc (oV Ai (vQ qD (ni (mZ 3) nO)) (rC (.int 1)))))) (vY 5 (kSc (Ju Bi (mZ 10))))))) (λ_=>rY))
def Lz:List Nat->MS:=(DS 3 (B0 (uw (oV Fw (oV rP (mZ 7) (rC (.int 4))) (rC (.int 1)))) (uw (oV FG (vQ qD (ni (mZ 4) nO)) (rC (.int 1))))) (λ_=>(Di (zW 4))) (DS 3 (B0 (uw (oV Fw (oV rP (mZ 7) (rC (.int 4))) (rC (.int 2)))) (uw (oV FG (vQ qD (ni (mZ 5) nO)) (rC (.int 0))))) (C8 3 (oH 9 (kSc (oV Ai (vQ qD (ni (mZ 5) nO)) (rC (.int 1))))) (C8 3 (DL (uw (mZ 2)) (oH 9 (kSc (oV rP (oV xl (mZ 7) (rC (.int 8))) (vQ qD (ni (mZ 5) nO))))) rY) (Cv 3 (xa 5 (mZ 9))))) JK))
theorem My:qt=(NQ 8 3 (RE 3 (Md 3) (oV MJ (mZ 4) (oV Ai (vQ qD (ni (mZ 4) nO)) (rC (.int 1))))) Lz):=rfl
theorem JD(hr:T[hd]?=some r):qt (st v0 v1 wild ⟨T,t0,hd,loose,left⟩ (some (.sh (.int c))) v8 v9 v10)=Lz [hd] (st v0 v1 wild ⟨T,t0,hd,loose,left⟩ (some (.sh (.int c))) none v9 v10):=by
 have hh:hd<T.length:=(gSq.mp hr).1;have n1:=zg hr;have iL:Ed T.length (hd:Int)=some hd:=Ic hh;have sl:=og (cN (t0++[hd]));have at4:=KZ (t0:=t0) (hd:=hd);have cl:=Ac (t0++[hd]);have q:((8:Nat)≠3/\8<11)=True:=by simp
 rw[My]
 simp_arith [st,n1,iL,sl,dI,at4,cl,q]
theorem M6{t:List Nat}{h':Nat}(hr:T[hd]?=some r) (h1:c % 4=1):Lz [hd] (st v0 v1 wild ⟨T,t++[h'],hd,loose,left⟩ (some (.sh (.int c))) v8 v9 v10)=some (.nx (st v0 v1 wild ⟨T,t,h',loose,left⟩ (some (.sh (.int c))) v8 v9 v10)):=by
 have m4:=rO (i:=c) (j:=4) (by decide)
 have n1:=zg hr;have sl:=og (cN (t++[h']++[hd]));have cl:=Ac (t++[h']++[hd]);have k1:(1:Int)<((t++[h']++[hd]).length:Int):=by simp;lia
 have ec:(cN (t++[h']++[hd])).map (λn=>AV.sh (.int n))=(cN (t++[h'])).map (λn=>AV.sh (.int n))++[.sh (.int (hd:Int))]:=(Ox (t++[h']) hd).symm
 have p1:((cN (t++[h'])).map (λn=>AV.sh (.int n))++[AV.sh (.int (hd:Int))])[((cN (t++[h'])).map (λn=>AV.sh (.int n))++[AV.sh (.int (hd:Int))]).length-1]?=some (.sh (.int (hd:Int))):=by
  rw[lAq,lSq,gYq (by lia)]
  simp
 have p2:((cN (t++[h'])).map (λn=>AV.sh (.int n))++[AV.sh (.int (hd:Int))]).dropLast=(cN (t++[h'])).map (λn=>AV.sh (.int n)):=cH
 simp_arith [Lz,st,m4,h1,n1,sl,dI,cl,k1,eq_self,ec,p1,p2]
theorem N6(hr:T[hd]?=some r) (hrl:r.length<500000) (hll:loose.length<500000) (h1:¬ c % 4=1) (h2:c % 4=2) (hne:loose≠[]):Lz [hd] (st v0 v1 wild ⟨T,t0,hd,loose,left⟩ (some (.sh (.int c))) v8 v9 v10)=some (.nx (st v0 v1 wild ⟨T.set hd (r++[loose.getD (BH wild c loose) 0]),t0,hd,loose.eraseIdx (BH wild c loose),left⟩ (some (.sh (.int c))) v8 (some (.sh (.int (BH wild c loose:Nat)))) v10)):=by
 have m4:=rO (i:=c) (j:=4) (by decide)
 have d8:=vH (i:=c) (j:=8) (by decide) (by decide)
 have hpos:0<loose.length:=ff.mpr hne;have ml:=rO (i:=c / 8) (j:=(loose.length:Int)) (by lia)
 have n1:=zg hr;have l1:r.length<qB:=by show _<16777216;lia
 have sl:=og loose;have k0:(0:Int)<(loose.length:Int):=by lia
 have hlt:BH wild c loose<loose.length:=by
  unfold BH;have b0:0<=c / 8 % (loose.length:Int):=bg _ (by lia)
  have b1:c / 8 % (loose.length:Int)<(loose.length:Int):=bb _ (by lia)
  split <;> lia
 have ll:loose.length<=qB:=by show _<=16777216;lia
 have g1:(loose.map λn=>AV.sh (.int n))[BH wild c loose]?=some (.sh (.int (loose.getD (BH wild c loose) 0))):=by
  rw[gMq,gEg hlt,gDq,gEg hlt];rfl
 have g2:(loose.map λn=>AV.sh (.int n)).eraseIdx (BH wild c loose)=(loose.eraseIdx (BH wild c loose)).map λn=>.sh (.int n):=K2 _ _ _
 have p2:=M4 (r':=r++[loose.getD (BH wild c loose) 0]) hr;have a1:=AX r (loose.getD (BH wild c loose) 0);have q:(0<=((BH wild c loose:Nat):Int)/\((BH wild c loose:Nat):Int)<(loose.length:Int)/\loose.length<=qB)=True:=by simp[ll,hlt]
 have tn:((BH wild c loose:Nat):Int).toNat=BH wild c loose:=cC _;have h21:¬ (2:Int)=1:=by decide
 cases wild with
 |true =>
  have ea:c / 8 % (loose.length:Int)=((BH true c loose:Nat):Int):=by
   have b0:0<=c / 8 % (loose.length:Int):=bg _ (by lia)
   show _=(((c / 8 % (loose.length:Int)).toNat:Nat):Int);lia
  simp_arith [Lz,st,m4,h2,h21,n1,sl,dI,k0,eq_self,d8,ml,ea,q,tn,g1,g2,l1,a1,p2,true_and]
 |false =>
  have ea:(loose.length:Int)-1=((BH false c loose:Nat):Int):=by
   show _=((loose.length-1:Nat):Int);lia
  simp_arith [Lz,st,m4,h2,h21,n1,sl,dI,k0,eq_self,ea,q,tn,g1,g2,l1,a1,p2,true_and]
theorem KM(hr:T[hd]?=some r) (h1:¬ (c % 4=1/\t0≠[])) (h2:¬ (c % 4=2/\loose≠[])):Lz [hd] (st v0 v1 wild ⟨T,t0,hd,loose,left⟩ (some (.sh (.int c))) v8 v9 v10)=JK [hd] (st v0 v1 wild ⟨T,t0,hd,loose,left⟩ (some (.sh (.int c))) v8 v9 v10):=by
 have m4:=rO (i:=c) (j:=4) (by decide)
 have n1:=zg hr;have sl:=og loose;have sw:=og (cN (t0++[hd]));have cl:=Ac (t0++[hd]);have q1:c % 4=1->decide ((1:Int)<((t0++[hd]).length:Int))=false:=λh=>by
  by_cases hn:t0=[]
  .subst hn;simp
  .exact absurd ⟨h,hn⟩ h1
 have q2:c % 4=2->decide ((0:Int)<(loose.length:Int))=false:=λh=>by
  by_cases hn:loose=[]
  .subst hn;simp
  .exact absurd ⟨h,hn⟩ h2
 have h21:¬ (2:Int)=1:=by decide
 have h12:¬ (1:Int)=2:=by decide
 by_cases e1:c % 4=1
 .have q1':=q1 e1
  simp_arith [Lz,JK,st,m4,e1,h12,n1,sl,sw,cl,dI,q1',eq_self]
 .by_cases e2:c % 4=2
  .have q2':=q2 e2
   simp_arith [Lz,JK,st,m4,e2,h21,n1,sl,sw,cl,dI,q2',eq_self]
  .simp_arith [Lz,JK,st,m4,e1,e2,n1,sl,sw,cl,dI,eq_self]
theorem Of(hr:T[hd]?=some r):JK [hd] (st v0 v1 wild ⟨T,t0,hd,loose,[]⟩ (some (.sh (.int c))) v8 v9 v10)=some (.nx (st v0 v1 wild ⟨T,t0,hd,loose,[]⟩ (some (.sh (.int c))) v8 v9 v10)):=by
 have n1:=zg hr;have k0:decide ((0:Int)<((0:Nat):Int))=false:=by decide
 have sl:=og []
 simp_arith [JK,st,n1,sl,dI,k0]
theorem Py{x:Int}(hr:T[hd]?=some r) (hrl:r.length<500000) (hTl:T.length<500000) (htl:t0.length<500000) (hll:left.length<500000) (h0:c % 4=0):JK [hd] (st v0 v1 wild ⟨T,t0,hd,loose,x::left⟩ (some (.sh (.int c))) v8 v9 v10)=some (.nx (st v0 v1 wild ⟨T.set hd (r++[sg c x])++[[-(sg c x)]],t0++[hd],T.length,loose,left⟩ (some (.sh (.int c))) v8 v9 (some (.sh (.int (sg c x)))))):=by
 have m4:=rO (i:=c) (j:=4) (by decide)
 have d4:=vH (i:=c) (j:=4) (by decide) (by decide)
 have m2:=rO (i:=c / 4) (j:=2) (by decide)
 have b0:0<=c / 4 % 2:=bg _ (by decide)
 have b1:c / 4 % 2<2:=bb _ (by decide)
 have c1:=Lx (i:=2) (j:=c / 4 % 2) (by lia) (by lia)
 have c2:=Ht (i:=x) (j:=1-2*(c / 4 % 2)) (by lia) (by lia)
 have n1:=zg hr;have sl:=og (x::left);have k0:(0:Int)<((x::left).length:Int):=by rw[lCq];lia
 have k00:(0:Int)<((left.length+1:Nat):Int):=by lia
 have l1:r.length<qB:=by show _<16777216;lia
 have q:(0:Int)<=0:=gg _;have lL:left.length+1<=qB:=by show _<=16777216;lia
 have t0':(0:Int).toNat=0:=rfl;have es:x*(1-2*(c / 4 % 2))=sg c x:=rfl;have a1:=AX r (sg c x);have p2:=M4 (r':=r++[sg c x]) hr;have lT:(T.set hd (r++[sg c x])).length=T.length:=lZq;have l2:T.length<qB:=by show _<16777216;lia
 have a3:=MN (T.set hd (r++[sg c x])) (-(sg c x));have lenT:((T.set hd (r++[sg c x])++[[-(sg c x)]]).length:Int)-1=(T.length:Int):=by rw[lAq,lT,lSq];lia
 have lw:(t0++[hd]).length<qB:=by rw[lAq,lSq];show t0.length+1<16777216;lia
 have a2:=Ox (t0++[hd]) T.length;have cl:=Ac (t0++[hd])
 simp_arith [JK,st,m4,h0,d4,m2,c1,c2,n1,sl,dI,k0,k00,q,lL,true_and,t0',es,eq_self,l1,a1,p2,lT,l2,a3,lenT,cl,lw,a2,dW]
theorem JP{x:Int}(hr:T[hd]?=some r) (hrl:r.length<500000) (hll:loose.length<500000) (hfl:left.length<500000) (h0:¬ c % 4=0):JK [hd] (st v0 v1 wild ⟨T,t0,hd,loose,x::left⟩ (some (.sh (.int c))) v8 v9 v10)=some (.nx (st v0 v1 wild ⟨T.set hd (r++[sg c x]),t0,hd,loose++[-(sg c x)],left⟩ (some (.sh (.int c))) v8 v9 (some (.sh (.int (sg c x)))))):=by
 have m4:=rO (i:=c) (j:=4) (by decide)
 have d4:=vH (i:=c) (j:=4) (by decide) (by decide)
 have m2:=rO (i:=c / 4) (j:=2) (by decide)
 have b0:0<=c / 4 % 2:=bg _ (by decide)
 have b1:c / 4 % 2<2:=bb _ (by decide)
 have c1:=Lx (i:=2) (j:=c / 4 % 2) (by lia) (by lia)
 have c2:=Ht (i:=x) (j:=1-2*(c / 4 % 2)) (by lia) (by lia)
 have n1:=zg hr;have sl:=og (x::left);have k0:(0:Int)<((x::left).length:Int):=by rw[lCq];lia
 have k00:(0:Int)<((left.length+1:Nat):Int):=by lia
 have l1:r.length<qB:=by show _<16777216;lia
 have q:(0:Int)<=0:=gg _;have lL:left.length+1<=qB:=by show _<=16777216;lia
 have t0':(0:Int).toNat=0:=rfl;have es:x*(1-2*(c / 4 % 2))=sg c x:=rfl;have a1:=AX r (sg c x);have p2:=M4 (r':=r++[sg c x]) hr;have l2:loose.length<qB:=by show _<16777216;lia
 have a2:=AX loose (-(sg c x))
 simp_arith [JK,st,m4,h0,d4,m2,c1,c2,n1,sl,dI,k0,k00,q,lL,true_and,t0',es,eq_self,l1,a1,p2,l2,a2,dW]
end
def yg(l:List Int):List Int:=l.flatMap λx=>[x, -x]
theorem Bb(x:Int) (l:List Int) (a:Int):(yg (x::l)).count a=[x, -x].count a+(yg l).count a:=by
 unfold yg;rw[cF,cAq]
theorem CO:∀l:List Int,(yg l).length=2*l.length
 | []=>rfl
 |x::l=>by
  unfold yg;have:=CO l;unfold yg at this;rw[cF,lAq,this];show 2+2*l.length=2*(l.length+1);lia
theorem JX(a c x:Int):[sg c x].count a+[-(sg c x)].count a=[x, -x].count a:=by
 have b0:0<=c / 4 % 2:=bg _ (by decide)
 have b1:c / 4 % 2<2:=bb _ (by decide)
 rw[show [x, -x]=[x]++[-x] from rfl,cAq]
 unfold sg;have h:c / 4 % 2=0∨c / 4 % 2=1:=by lia
 rcases h with h|h
 .rw [h,show (1:Int)-2*0=1 from rfl,gV]
 .rw [h,show (1:Int)-2*1 = -1 from rfl,Int.mul_neg,gV,hU]
  lia
structure Og (nm:List Int) (w:Wd) (n:Nat):Prop where
 hh:w.h<w.T.length
 ht:∀k∈w.t0,k<w.T.length
 lw:w.t0.length<=n
 lT:w.T.length<=n+1
 lf:w.left.length<=nm.length
 cnt:∀a,w.T.flatten.count a+w.loose.count a+(yg w.left).count a=(yg nm).count a
 tr:K11.AA w.T
theorem Og.len{nm:List Int}{w:Wd}{n:Nat}(h:Og nm w n):w.T.flatten.length+w.loose.length+(yg w.left).length=2*nm.length:=by
 have:(w.T.flatten++w.loose++yg w.left).Perm (yg nm):=by
  rw[fg];intro a;rw[cAq,cAq];exact h.cnt a
 have:=this.length_eq;rw[lAq,lAq,CO nm]at this;exact this
theorem Og.step{nm:List Int}{w:Wd}{n:Nat}{wild:Bool}(h:Og nm w n) (c:Int):Og nm (ze wild w c) (n+1):=by
 obtain⟨T,t0,hd,loose,left⟩:=w;obtain⟨hh,ht,lw,lT,lf,cnt,tr⟩:=h;simp only at hh ht lw lT lf cnt tr;have hr:T[hd]?=some (T.getD hd []):=by rw[gDq,gEg hh];rfl
 unfold ze;simp only;split
 .rename_i q;rcases dk t0 with z|⟨t,h',z⟩
  .exact absurd z q.2
  .subst z;rw[dm]at ht lw ⊢;rw[cH,gA];simp only[fV,ik,cO];rw[lAq,lSq]at lw;exact⟨ht _ (by simp),λk hk=>ht k (by simp[hk]),(by simp only;lia),(by simp only;lia),lf,cnt,tr⟩
 .split
  .rename_i q;have hpos:0<loose.length:=ff.mpr q.2;have hlt:BH wild c loose<loose.length:=by
    unfold BH;have b0:0<=c / 8 % (loose.length:Int):=bg _ (by lia)
    have b1:c / 8 % (loose.length:Int)<(loose.length:Int):=bb _ (by lia)
    split <;> lia
   refine⟨?_,?_,?_,?_,lf,λa=>?_,?_⟩
   .simp only [lZq];exact hh
   .simp only [lZq];exact ht
   .simp only;lia
   .simp only [lZq];lia
   .simp only;rw[yd a hr,←cnt a,←B4 a hlt];lia
   .exact tr.set hr
  .cases left with
   |nil=>exact⟨hh,ht,(by simp only;lia),(by simp only;lia),lf,cnt,tr⟩
   |cons x left =>
    simp only;rw[lCq]at lf;have cx:=λa=>Bb x left a
    split
    .refine ⟨?_,?_,?_,?_,(by simp only;lia),λa=>?_,?_⟩
     .simp only [lAq,lZq,lSq];lia
     .intro k hk;simp only[lAq,lZq,lSq]at hk ⊢;rcases mAq.mp hk with hk|hk
      .have:=ht k hk;lia
      .rw [mSq.mp hk];lia
     .simp only [lAq,lSq];lia
     .simp only [lAq,lZq,lSq];lia
     .simp only;rw[fAq,aY,cAq,yd a hr];have:=cnt a;rw[cx a,←JX a c x]at this;lia
     .exact (tr.set hr).add (by rw[lZq];exact hh) (K11.CW hr (by simp))
    .refine ⟨?_,?_,?_,?_,(by simp only;lia),λa=>?_,?_⟩
     .simp only [lZq];exact hh
     .simp only [lZq];exact ht
     .simp only;lia
     .simp only [lZq];lia
     .simp only;rw[yd a hr,cAq];have:=cnt a;rw[cx a,←JX a c x]at this;lia
     .exact tr.set hr
theorem Jh{nm:List Int}{w:Wd}{n:Nat}{wild:Bool}{c:Int}{v0 v1 v8 v9 v10:Option AV}(h:Og nm w n) (hn:n<1000) (hm:nm.length<=1000):∃v8' v9' v10',qt (st v0 v1 wild w (some (.sh (.int c))) v8 v9 v10)=some (.nx (st v0 v1 wild (ze wild w c) (some (.sh (.int c))) v8' v9' v10')):=by
 have hlen:=h.len;obtain⟨T,t0,hd,loose,left⟩:=w;obtain⟨hh,ht,lw,lT,lf,cnt,tr⟩:=h;simp only at hh ht lw lT lf cnt tr hlen;have hr:T[hd]?=some (T.getD hd []):=by rw[gDq,gEg hh];rfl
 have hrl:=G3 hr;rw[JD hr];unfold ze;simp only
 by_cases q1:c % 4=1/\t0≠[]
 .rw [nK q1];rcases dk t0 with z|⟨t,h',z⟩
  .exact absurd z q1.2
  .subst z;rw[dm,cH,gA];simp only[fV,ik,cO];exact⟨_,_,_,M6 hr q1.1⟩
 .rw [nS q1]
  by_cases q2:c % 4=2/\loose≠[]
  .rw [nK q2];exact⟨_,_,_,N6 hr (by lia) (by lia) (by have:=q2.1;lia) q2.1 q2.2⟩
  .rw [nS q2,KM hr q1 q2];cases left with
   |nil=>exact⟨_,_,_,Of hr⟩
   |cons x left =>
    simp only;rw[lCq]at lf
    by_cases q0:c % 4=0
    .rw [nK q0];exact⟨_,_,_,Py hr (by lia) (by lia) (by lia) (by lia) q0⟩
    .rw [nS q0];exact⟨_,_,_,JP hr (by lia) (by lia) (by lia) q0⟩
def w0(nm:List Int):Wd:=⟨[[]],[],0,[],nm⟩
theorem ON(nm:List Int):Og nm (w0 nm) 0:=⟨by simp[w0],(λk h=>by cases h),af _,af _,af _,(λa=>by simp[w0]),K11.Jz _⟩
theorem As{nm:List Int}{wild:Bool}:∀(cs:List Int) {w:Wd}{n:Nat},Og nm w n->Og nm (cs.foldl (ze wild) w) (n+cs.length)
 | [],w,n,h=>h
 |c::cs,w,n,h=>by
  have:=As (wild:=wild) cs (h.step (wild:=wild) c);rw[bK,lCq,show n+(cs.length+1)=n+1+cs.length by lia]
  exact this
theorem GL{nm cs:List Int}{wild:Bool}{v7 v8 v9 v10:Option AV}(hc:cs.length<=63) (hn:nm.length<=1000):∃v7' v8' v9' v10',tw 7 qt (cs.map D.int) (st (some (.sh (dI cs))) (some (.sh (dI nm))) wild (w0 nm) v7 v8 v9 v10)=some (.nx (st (some (.sh (dI cs))) (some (.sh (dI nm))) wild (cs.foldl (ze wild) (w0 nm)) v7' v8' v9' v10')):=by
 have key:=zr (x:=7) (body:=qt) (λi S=>∃v7 v8 v9 v10,S=st (some (.sh (dI cs))) (some (.sh (dI nm))) wild ((cs.take i).foldl (ze wild) (w0 nm)) v7 v8 v9 v10) (ds:=cs.map D.int) (S:=st (some (.sh (dI cs))) (some (.sh (dI nm))) wild (w0 nm) v7 v8 v9 v10) ⟨v7,v8,v9,v10,rfl⟩ (by
  rintro i d S hd ⟨v7,v8,v9,v10,rfl⟩;rw[gMq]at hd;obtain⟨c,hc',rfl⟩:=oMq.mp hd;have hi:i<cs.length:=(gSq.mp hc').1;have ok:=As (nm:=nm) (wild:=wild) (cs.take i) (ON nm);rw[lTq]at ok;obtain⟨v8',v9',v10',e⟩:=Jh (wild:=wild) (c:=c) (v0:=some (.sh (dI cs))) (v1:=some (.sh (dI nm))) (v8:=v8) (v9:=v9) (v10:=v10) ok (by lia) hn
  refine⟨_,e,some (.sh (.int c)),v8',v9',v10',?_⟩;rw[IJ hc'])
 obtain⟨S',e,v7',v8',v9',v10',rfl⟩:=key;rw[lMq,bH]at e;exact⟨v7',v8',v9',v10',e⟩
theorem IB{T:List (List Int)}{t0:List Nat}{hd:Nat}{loose left r:List Int}{wild:Bool}{v0 v1 v7 v8 v9 v10:Option AV}(hr:T[hd]?=some r) (hl:r.length+loose.length<=10000) :
  rQ (uw (oV FG (vQ qD (ni (mZ 5) nO)) (rC (.int 0)))) tP 100000 (st v0 v1 wild ⟨T,t0,hd,loose,left⟩ v7 v8 v9 v10)=some (.nx (st v0 v1 wild ⟨T.set hd (r++loose.reverse),t0,hd,[],left⟩ v7 v8 v9 v10)):=by
 have hh:hd<T.length:=(gSq.mp hr).1;obtain⟨S',e,l2,rfl,z⟩:=yi (c:=uw (oV FG (vQ qD (ni (mZ 5) nO)) (rC (.int 0)))) (body:=tP)
  (λS=>∃l1 l2,S=st v0 v1 wild ⟨T.set hd (r++l2),t0,hd,l1,left⟩ v7 v8 v9 v10/\loose=l1++l2.reverse)
  (λS=>match S with|[_,_,_,_,_,some (.ow l),_,_,_,_,_]=>l.length|_=>0)
  (λS'=>∃l2,S'=st v0 v1 wild ⟨T.set hd (r++l2),t0,hd,[],left⟩ v7 v8 v9 v10/\loose=l2.reverse) (by
   rintro S ⟨l1,l2,rfl,hz⟩;have hzl:=congrArg bF hz;rw[lAq,List.length_reverse]at hzl;rcases dk l1 with rfl|⟨l,x,rfl⟩
   .refine ⟨false,_,?_,λq=>(nomatch q),λ_=>⟨l2,rfl,by rw[hz];rfl⟩⟩
    have k0:decide ((0:Int)<((0:Nat):Int))=false:=by decide
    have sl:=og []
    simp_arith [st,sl,dI,k0]
   .rw [dm]at hz hzl ⊢;have hr2:(T.set hd (r++l2))[hd]?=some (r++l2):=aD hh;have n1:=zg hr2;have iL:Ed T.length (hd:Int)=some hd:=Ic hh;have lT:(T.set hd (r++l2)).length=T.length:=lZq;have sw:=og (cN (t0++[hd]));have at4:=KZ (t0:=t0) (hd:=hd);have cl:=Ac (t0++[hd]);have sl:=og (l++[x]);have k0:(0:Int)<((l++[x]).length:Int):=by rw[lAq,lSq];lia
    have ex:(l++[x]).map (λn=>AV.sh (.int n))=l.map (λn=>AV.sh (.int n))++[.sh (.int x)]:=by rw[mBq];rfl
    have p1:(l.map (λn=>AV.sh (.int n))++[AV.sh (.int x)])[(l.map (λn=>AV.sh (.int n))++[AV.sh (.int x)]).length-1]?=some (.sh (.int x)):=by
     rw[lAq,lSq,gYq (by lia)]
     simp
    have p2:(l.map (λn=>AV.sh (.int n))++[AV.sh (.int x)]).dropLast=l.map (λn=>AV.sh (.int n)):=cH
    have pp:=M4 (r':=r++l2++[x]) hr2;have a1:=AX (r++l2) x;have l1':(r++l2).length<qB:=by
     rw[lAq,lSq]at hzl;rw[lAq];show _<16777216;lia
    have ess:(T.set hd (r++l2)).set hd (r++l2++[x])=T.set hd (r++(l2++[x])):=by rw[eZ,aA]
    refine⟨true,st v0 v1 wild ⟨T.set hd (r++l2),t0,hd,l++[x],left⟩ v7 v8 v9 v10,?_,λ_=>⟨st v0 v1 wild ⟨T.set hd (r++(l2++[x])),t0,hd,l,left⟩ v7 v8 v9 v10,?_,⟨l,l2++[x],rfl,by rw[hz];simp⟩,?_⟩,λq=>(nomatch q)⟩
    .simp_arith [st,sl,dI,k0]
    .simp_arith [tP,st,n1,iL,lT,sw,dI,at4,cl,ex,p1,p2,l1',a1,pp,ess,eq_self,true_and]
    .show (l.map _).length<((l++[x]).map _).length;rw[lMq,lMq,lAq,lSq];lia) 100000 (st v0 v1 wild ⟨T,t0,hd,loose,left⟩ v7 v8 v9 v10) ⟨loose,[],by rw[aNq,Z.Cw hr],by simp⟩ (by
   show (loose.map _).length<100000;rw[lMq];lia)
 rw[e,z,eQ]
theorem A6{nm cs:List Int}{wild:Bool}(hc:cs.length<=63) (hn:nm.length<=100):∃(T:List (List Int)) (left:List Int),qz [dI cs,dI nm,.bl wild]=some (.ow (T.map aI))/\(∀a,T.flatten.count a+(yg left).count a=(yg nm).count a)/\K11.AA T/\0<T.length/\T.length<=64:=by
 obtain⟨v7,v8,v9,v10,e⟩:=GL (nm:=nm) (wild:=wild) (v7:=none) (v8:=none) (v9:=none) (v10:=none) hc (by lia)
 have ok:=As (nm:=nm) (wild:=wild) cs (ON nm);rw[bD]at ok;generalize cs.foldl (ze wild) (w0 nm)=w at e ok;have hlen:=ok.len;obtain⟨T,t0,hd,loose,left⟩:=w;obtain⟨hh,ht,lw,lT,lf,cnt,tr⟩:=ok;simp only at hh ht lw lT lf cnt tr hlen;have hr:T[hd]?=some (T.getD hd []):=by rw[gDq,gEg hh];rfl
 have hrl:=G3 hr;generalize T.getD hd []=r at hr hrl;have e2:=IB (t0:=t0) (loose:=loose) (left:=left) (wild:=wild) (v0:=some (.sh (dI cs))) (v1:=some (.sh (dI nm))) (v7:=v7) (v8:=v8) (v9:=v9) (v10:=v10) hr (by lia)
 have e':tw 7 qt (cs.map D.int) [some (.sh (dI cs)),some (.sh (dI nm)),some (.sh (.bl wild)),some (.ow [.ow []]),some (.ow [.sh (.int 0)]),some (.ow []),some (aI nm),none,none,none,none]=some (.nx (st (some (.sh (dI cs))) (some (.sh (dI nm))) wild ⟨T,t0,hd,loose,left⟩ v7 v8 v9 v10)):=e;refine⟨T.set hd (r++loose.reverse),left,?_,λa=>?_,tr.set hr,by rw[lZq];lia,by rw[lZq];lia⟩
 .have e3:((nm.map D.int).map AV.sh)=nm.map λn=>AV.sh (.int n):=by rw[mPq];rfl
  simp_arith [qz,zZ,dI,e3]
  simp -implicitDefEqProofs only [Z.Ti,fy,gG,fJ,fK,eU,↓reduceIte,reduceCtorEq,dI]at e';rw[e']
  simp_arith [e2]
  simp_arith [st]
 .rw [yd a hr,List.count_reverse,cnt a]
end K31
namespace K31
open PySem L2 Mr Z Xe Zl
def rot(r:List Int) (e:Int):List Int:=r.drop (r.idxOf e)++r.take (r.idxOf e)
theorem rot_perm(r:List Int) (e:Int):(rot r e).Perm r:=by
 unfold rot;exact bR.trans (by rw[aZ])
theorem NJ(r:List Int) (e:Int):(rot r e).length=r.length:=(rot_perm r e).length_eq
theorem yp{r:List Int}{e:Int}(he:e∈r) (hl:r.length<=500000):rV [dI r,.int e]=some (aI (rot r e)):=by
 have hle:r.idxOf e<=r.length:=bX (dF.mpr he);have hx:yT (dI r) [.int e]=some (.int (r.idxOf e:Nat)):=by
  show (qr (r.map D.int)).bind _=_;rw[rN];show (if _ then _ else _)=_
  rw[nK he]
 have hlen:(r.drop (r.idxOf e)).length+(r.take (r.idxOf e)).length<=qB:=by rw[aR,lTq];show _<=16777216;lia
 simp_arith [rV,xS,hx,yw,wX r _ hle,xh r _ hle,hlen,←mBq,zD]
 rfl
def En(rs:List (List Int)) (s:List (List Int)×List Nat) (o:Int):List (List Int)×List Nat:=if plc rs o∈s.2 then s else (s.1++[rot (rs.getD (plc rs o) []) o],s.2++[plc rs o])
def Nc(rs:List (List Int)):Nat->Nat->List (List Int)×List Nat->List (List Int)×List Nat
 |0,_,s=>s
 |f+1,i,s=>if i<s.1.flatten.length then Nc rs f (i+1) (En rs s (-(s.1.flatten.getD i 0))) else s
def Dy(rs:List (List Int)) (e:Int):List (List Int)×List Nat:=([rot (rs.getD (plc rs e) []) e],[plc rs e])
def Hq(rs:List (List Int)) (e:Int):List (List Int)×List Nat:=Nc rs 2000 0 (Dy rs e)
structure RI (rs:List (List Int)) (e:Int) (s:List (List Int)×List Nat) (i:Nat):Prop where
 pm:s.1.flatten.Perm (s.2.flatMap λp=>rs.getD p [])
 hd:∃Q,s.1=rot (rs.getD (plc rs e) []) e::Q
 nd:s.2.Nodup
 lt:∀p∈s.2,p<rs.length
 le:i<=s.1.flatten.length
 cl:∀j,j<i->plc rs (-(s.1.flatten.getD j 0))∈s.2
 ln:s.1.length=s.2.length
theorem Jo{a b:List Int}{j:Nat}(h:j<a.length):(a++b).getD j 0=a.getD j 0:=by
 rw[gDq,gDq,gZq h]
theorem Ff{g:Nat->List Int}:∀{ps l:List Nat},ps.Nodup->(∀p∈ps,p∈l)->(ps.flatMap g).length<=(l.flatMap g).length
 | [],l,_,_=>aW _
 |p::ps,l,hn,hs=>by
  have hn':=aH.mp hn;have pe:=List.perm_cons_erase (hs p (by simp))
  have h1:=Ff (g:=g) (l:=l.erase p) hn'.2 λq hq=>(List.mem_erase_of_ne (λz:q=p=>hn'.1 (z ▸ hq))).mpr (hs q (by simp[hq]))
  rw[(pe.flatMap_right g).length_eq,cF,cF,lAq,lAq];lia
theorem GN(rs:List (List Int)):(bP rs.length).flatMap (λp=>rs.getD p [])=rs.flatten:=by
 have e2:rs=(bP rs.length).map λp=>rs.getD p []:=by
  refine gY (by simp) λi a b=>?_
  simp[a]
 conv=>rhs;rw[e2]
 rfl
theorem flat_nd{ps:List Nat}{rs:List (List Int)}(hn:ps.Nodup) (hl:∀p∈ps,p<rs.length):(ps.flatMap λp=>rs.getD p []).length<=rs.flatten.length:=by
 rw[←GN];exact Ff hn λp hp=>dY.mpr (hl p hp)
theorem RI.few{rs:List (List Int)}{e:Int}{s:List (List Int)×List Nat}{i:Nat}(h:RI rs e s i):s.1.flatten.length<=rs.flatten.length:=by
 rw[h.pm.length_eq];exact flat_nd h.nd h.lt
theorem RI.mem{rs:List (List Int)}(hm:Mp rs) {e:Int}{s:List (List Int)×List Nat}{i:Nat}(h:RI rs e s i) {x:Int}(hx:x∈s.1.flatten):x∈rs.flatten/\plc rs x∈s.2:=by
 obtain⟨p,hp,hx⟩:=eK.mp (h.pm.mem_iff.mp hx);have hlt:=h.lt p hp;have hr:rs[p]?=some rs[p]:=gEg hlt;rw[gDq,hr,cO]at hx;rw[plc_eq hm.hn hr hx];exact⟨mFq.mpr ⟨_,mGq hr,hx⟩,hp⟩
theorem RI.step{rs:List (List Int)}(hm:Mp rs) {e:Int}{s:List (List Int)×List Nat}{i:Nat}(h:RI rs e s i) (hi:i<s.1.flatten.length):RI rs e (En rs s (-(s.1.flatten.getD i 0))) (i+1):=by
 have hx:s.1.flatten.getD i 0∈s.1.flatten:=by
  rw[gDq,gEg hi];exact gRq hi
 obtain⟨m1,m2⟩:=h.mem hm hx;have hlt:=hm.lt (hm.hneg _ m1);unfold En;split
 .rename_i q;refine⟨h.pm,h.hd,h.nd,h.lt,hi,λj hj=>?_,h.ln⟩
  by_cases hji:j<i
  .exact h.cl j hji
  .have:j=i:=by lia
   subst this;exact q
 .rename_i q;obtain⟨Q,hQ⟩:=h.hd;refine⟨?_,⟨Q++[_],by rw[hQ];rfl⟩,?_,?_,?_,λj hj=>?_,by simp[h.ln]⟩
  .simp only [fAq,aY,fh,gb];exact h.pm.append (rot_perm _ _)
  .exact nAq.mpr ⟨h.nd,by simp,λa ha b hb z=>q (by rw[mSq]at hb;rw[←hb,←z];exact ha)⟩
  .intro p hp;rcases mAq.mp hp with hp|hp
   .exact h.lt p hp
   .rw [mSq.mp hp];exact hlt
  .simp only [fAq,lAq];lia
  .simp only [fAq,aY];have hj':j<s.1.flatten.length:=by lia
   rw[Jo hj']
   by_cases hji:j<i
   .exact bE _ (h.cl j hji)
   .have:j=i:=by lia
    subst this;exact ar _ (by simp)
theorem Kh{rs:List (List Int)}(hm:Mp rs) {e:Int}(he:e∈rs.flatten):RI rs e (Dy rs e) 0:=by
 refine⟨?_,⟨[],rfl⟩,by simp[Dy],?_,aW _,λj hj=>absurd hj (bW _),rfl⟩
 .simp only [Dy,aY,gb];exact rot_perm _ _
 .intro p hp;simp only[Dy,mSq]at hp;rw[hp];exact hm.lt he
theorem J6{rs:List (List Int)}(hm:Mp rs) {e:Int}:∀(f:Nat) {i:Nat}{s:List (List Int)×List Nat},RI rs e s i->rs.flatten.length-i<f->RI rs e (Nc rs f i s) (Nc rs f i s).1.flatten.length
 |0,i,s,h,hf=>absurd hf (bW _)
 |f+1,i,s,h,hf=>by
  unfold Nc;split
  .rename_i q;have:=h.few;exact J6 hm f (h.step hm q) (by lia)
  .have:i=s.1.flatten.length:=by have:=h.le;lia
   subst this;exact h
theorem DD{rs:List (List Int)}(hm:Mp rs) {e:Int}(he:e∈rs.flatten):RI rs e (Hq rs e) (Hq rs e).1.flatten.length:=J6 hm 2000 (Kh hm he) (by have:=hm.hl;lia)
def Pr(Q:List (List Int)):AV:=.ow (Q.map λr=>.sh (dI r))
def Fy(rs:List (List Int)) (e:Int) (s:List (List Int)×List Nat) (i:Nat) (v7 v8:Option AV):AS:=[some (.sh (dM rs)),some (.sh (.int e)),some (.owd (oU 0 rs)),some (Pr s.1),some (aI s.1.flatten),some (.owd (kd s.2)),some (.sh (.int (i:Int))),v7,v8]
theorem BQ(Q:List (List Int)):(Q.map λr=>AV.sh (dI r)).map nj=Q.map dI:=by
 rw[mPq];rfl
theorem Qv{ks:List Nat}{t:Nat}(h:t∉ks):wA (kd ks) (aS (t:Int)) (.bl true)=kd (ks++[t]):=by
 rw[kd_put2];unfold addN;rw[nS h]
theorem FE{rs:List (List Int)}(hm:Mp rs) {e:Int}{s:List (List Int)×List Nat}{i:Nat}{v7 v8:Option AV}(h:RI rs e s i) (hi:i<s.1.flatten.length):∃v7' v8',pK (Fy rs e s i v7 v8)=some (.nx (Fy rs e (En rs s (-(s.1.flatten.getD i 0))) (i+1) v7' v8')):=by
 have hx:s.1.flatten.getD i 0∈s.1.flatten:=by
  rw[gDq,gEg hi];exact gRq hi
 obtain⟨m1,m2⟩:=h.mem hm hx;have hn:=hm.hneg _ m1;have hlt:=hm.lt hn;have few:=h.few;have hl:=hm.hl;have hrr:=hm.hr;have pl:=K51.NB _ _ h.nd h.lt;have ln:=h.ln;obtain⟨Q,ps⟩:=s;simp only at hi hx m1 m2 hn hlt few pl ln h ⊢;have at1:atI (Q.flatten.map D.int) (i:Int)=some (.int (Q.flatten.getD i 0)):=xX (by rw[gMq,gDq,gEg hi];rfl)
 have sE:=og Q.flatten;generalize hx0:Q.flatten.getD i 0=x at *;have kv:=hm.kv hn;have kg:=kd_get ps (plc rs (-x));refine⟨some (.sh (.int (-x))),some (.sh (.int (plc rs (-x):Int))),?_⟩;have ei:((i+1:Nat):Int)=(i:Int)+1:=by lia
 unfold En
 by_cases q:plc rs (-x)∈ps
 .have kg':(Z.getD (kd ps) (aS (plc rs (-x):Int))).isSome=true:=by rw[kg];simp[q]
  simp only[q,if_true]
  simp_arith [pK,Fy,Pr,sE,dI,at1,kv,kg',ei]
 .have kg':(Z.getD (kd ps) (aS (plc rs (-x):Int))).isSome=false:=by rw[kg];simp[q]
  simp only[q,if_false];obtain⟨r,hr,hxr⟩:=hm.at hn;have gr:rs.getD (plc rs (-x)) []=r:=by rw[gDq,hr];rfl
  have rl:=hm.row hr;have tf:=yp hxr (by lia)
  have at2:atI (rs.map dI) (plc rs (-x):Int)=some (dI r):=xX (by rw[gMq,hr];rfl)
  have kn:=Qv q;have kl:(kd ps).length<qB:=by unfold kd;rw[lMq];show _<16777216;lia
  have lQ:Q.length<qB:=by show _<16777216;lia
  have sQ:=BQ Q;have e1:(Q.map λr=>AV.sh (dI r))++[aI (rot r (-x))]=(Q.map λr=>AV.sh (dI r))++[.ow ((rot r (-x)).map λn=>.sh (.int n))]:=rfl
  have s1:((Q.map λr=>AV.sh (dI r))++[aI (rot r (-x))]).map nj=(Q++[rot r (-x)]).map dI:=by
   rw[mBq,sQ,mBq];show _++[nj (aI (rot r (-x)))]=_;rw[og];rfl
  have at3:atI ((Q++[rot r (-x)]).map dI) (-1)=some (dI (rot r (-x))):=by rw[mBq];exact KN _ _
  have rrl:=NJ r (-x);have lE:Q.flatten.length+(rot r (-x)).length<=qB:=by rw[rrl];show _<=16777216;lia
  have e4:(Q.flatten.map λn=>AV.sh (.int n))++((rot r (-x)).map D.int).map AV.sh=(Q.flatten++rot r (-x)).map λn=>.sh (.int n):=by rw[mBq,mPq];rfl
  have e4':(Q.flatten.map λn=>AV.sh (.int n))++((rot r (-x)).map λn=>AV.sh (.int n))=(Q.flatten++rot r (-x)).map λn=>.sh (.int n):=mBq.symm
  have e5:(Q++[rot r (-x)]).flatten=Q.flatten++rot r (-x):=by simp
  have e6:((Q++[rot r (-x)]).map dI).map AV.sh=(Q++[rot r (-x)]).map λr=>AV.sh (dI r):=by rw[mPq];rfl
  have t1:(dI (rot r (-x))) = .list ((rot r (-x)).map D.int):=rfl;rw[gr]
  simp_arith [pK,Fy,Pr,sE,at1,kv,kg',ei,kn,kl,lQ,dM,at2,tf,s1,at3,e6,t1,lE,e4,e4',e5]
theorem GF{rs:List (List Int)}(hm:Mp rs) {e:Int}(he:e∈rs.flatten):∃i v7 v8,rQ (uw (oV Q9 (mZ 6) (vQ qD (ni (mZ 4) nO)))) pK 100000 (Fy rs e (Dy rs e) 0 none none)=some (.nx (Fy rs e (Hq rs e) i v7 v8)):=by
 have hl:=hm.hl;obtain⟨S',ew,i,v7,v8,rfl⟩:=yi (c:=uw (oV Q9 (mZ 6) (vQ qD (ni (mZ 4) nO)))) (body:=pK)
  (λS=>∃s i v7 v8,S=Fy rs e s i v7 v8/\RI rs e s i/\Nc rs (2000-i) i s=Hq rs e)
  (λS=>match S with|[_,_,_,_,_,_,some (.sh (.int i)),_,_]=>2000-i.toNat|_=>0)
  (λS'=>∃i v7 v8,S'=Fy rs e (Hq rs e) i v7 v8) (by
   rintro S ⟨s,i,v7,v8,rfl,h,hg⟩;have few:=h.few;have sE:=og s.1.flatten
   by_cases hi:i<s.1.flatten.length
   .have c1:(i:Int)<(s.1.flatten.length:Int):=by lia
    obtain⟨v7',v8',e1⟩:=FE hm (v7:=v7) (v8:=v8) h hi;refine⟨true,Fy rs e s i v7 v8,?_,λ_=>⟨_,e1,⟨_,_,_,_,rfl,h.step hm hi,?_⟩,?_⟩,λq=>(nomatch q)⟩
    .simp_arith [Fy,sE,dI,c1]
    .rw [show 2000-i=(2000-(i+1))+1 by lia]at hg
     unfold Nc at hg;rw[nK hi]at hg;exact hg
    .show 2000-((i+1:Nat):Int).toNat<2000-(i:Int).toNat;lia
   .have c1:¬ (i:Int)<(s.1.flatten.length:Int):=by lia
    refine⟨false,Fy rs e s i v7 v8,?_,λq=>(nomatch q),λ_=>⟨i,v7,v8,?_⟩⟩
    .simp_arith [Fy,sE,dI,c1]
    .have:Nc rs (2000-i) i s=s:=by
      cases 2000-i with
      |zero=>rfl
      |succ f =>
       unfold Nc;rw[nS hi]
     rw[←hg,this]) 100000 (Fy rs e (Dy rs e) 0 none none) ⟨_,_,_,_,rfl,Kh hm he,rfl⟩ (by
   show 2000-(0:Int).toNat<100000;lia)
 exact⟨i,v7,v8,ew⟩
theorem Au{rs:List (List Int)}(hm:Mp rs) {e:Int}(he:e∈rs.flatten):rF [dM rs,.int e]=some (.ok (Pr (Hq rs e).1)):=by
 have hl:=hm.hl;obtain⟨i,v7,v8,ew⟩:=GF hm he;have pa:=yj hm.hn (by lia)
 have kv:=hm.kv he;obtain⟨r,hr,hxr⟩:=hm.at he;have gr:rs.getD (plc rs e) []=r:=by rw[gDq,hr];rfl
 have rl:=hm.row hr;have tf:=yp hxr (by lia)
 have at2:atI (rs.map dI) (plc rs e:Int)=some (dI r):=xX (by rw[gMq,hr];rfl)
 have s1:=og (rot r e);have at0:atI [dI (rot r e)] 0=some (dI (rot r e)):=rfl;have t1:(dI (rot r e)) = .list ((rot r e).map D.int):=rfl;have e3:((rot r e).map D.int).map AV.sh=(rot r e).map λn=>AV.sh (.int n):=by rw[mPq];rfl
 have e4:[((aS (plc rs e:Int):nX),D.bl true)]=kd [plc rs e]:=rfl;have l1:(1:Nat)<=qB:=by decide
 have e5:[some (.sh (dM rs)),some (.sh (.int e)),some (.owd (oU 0 rs)),some (.ow [.sh (dI (rot r e))]),some (.ow ((rot r e).map λn=>AV.sh (.int n))),some (.owd (kd [plc rs e])),some (.sh (.int 0)),none,none]=Fy rs e (Dy rs e) 0 none none:=by
  unfold Fy Dy Pr;rw[gr];simp
 simp_arith [rF,wL,pa,kv,gM,dM,at2,tf,s1,at0,e3,e4,l1]
 simp -implicitDefEqProofs only [Z.Ti,fy,gG,fJ,fK,eU,↓reduceIte,reduceCtorEq,dM]at e5;rw[e5,ew]
 simp_arith [Fy]
theorem J8(Q:List (List Int)):nj (Pr Q)=dM Q:=by
 unfold Pr;rw[qk,BQ]
structure Nm (nm:List Int):Prop where
 len:nm.length<=100
 nd:nm.Nodup
 lo:∀x∈nm,1<=x
structure Wm (nm:List Int) (T:List (List Int)):Prop where
 cnt:∃left,∀a,T.flatten.count a+(yg left).count a=(yg nm).count a
 tr:K11.AA T
 pos:0<T.length
 len:T.length<=64
theorem yP{nm:List Int}(h:Nm nm):(yg nm).Nodup:=K12.EL h.nd h.lo
theorem HH(l:List Int) (a:Int):(yg l).count (-a)=(yg l).count a:=by
 induction l with
 |nil=>rfl
 |cons x l ih =>
  rw[Bb,Bb,ih];congr 1;rw[show [x, -x]=[x]++[-x] from rfl,cAq,cAq]
  simp only[List.count_singleton];have e1:(x == -a)=(-x == a):=by rw[bV];simp <;> lia
  have e2:(-x == -a)=(x == a):=by rw[bV];simp <;> lia
  rw[e1,e2];lia
theorem Wm.nodup{nm:List Int}{T:List (List Int)}(hn:Nm nm) (h:Wm nm T):T.flatten.Nodup:=by
 obtain⟨left,hc⟩:=h.cnt;rw[cI];intro a;have h1:=cI.mp (yP hn) a;have:=hc a;lia
theorem Wm.neg{nm:List Int}{T:List (List Int)}(hn:Nm nm) (h:Wm nm T) {z:Int}(hz:z∈T.flatten):-z∈T.flatten:=by
 obtain⟨left,hc⟩:=h.cnt;have h1:=fo.mpr hz;have h2:=cI.mp (yP hn) z;have e1:=hc z;have e2:=hc (-z);rw[HH,HH]at e2;exact fo.mp (by lia)
theorem Wm.le{nm:List Int}{T:List (List Int)}(h:Wm nm T):T.flatten.length<=2*nm.length:=by
 obtain⟨left,hc⟩:=h.cnt;have:(T.flatten++yg left).Perm (yg nm):=by
  rw[fg];intro a;rw[cAq];exact hc a
 have:=this.length_eq;rw[lAq,CO nm]at this;lia
abbrev gm:=K12.gm
theorem G0(T:List (List Int)):(gm T).flatten.Perm T.flatten:=(vt (K12.oJ T)).trans (qe qg T)
theorem Bh(T:List (List Int)):(gm T).length=T.length:=by rw[(K12.oJ T).length_eq,lMq]
theorem Wm.mp{nm:List Int}{T:List (List Int)}(hn:Nm nm) (h:Wm nm T):Mp (gm T):=by
 have pf:=G0 T;have:=h.le;have:=hn.len;have:=h.len;refine⟨pf.nodup_iff.mpr (h.nodup hn),by rw[pf.length_eq];lia,by rw[Bh];lia,λe he=>pf.mem_iff.mpr (h.neg hn (pf.mem_iff.mp he))⟩
def QM(rs:List (List Int)):Prop:=∀P:Nat->Prop,(∃s,s<rs.length/\P s)->(∀(p:Nat) (r:List Int) (x:Int),rs[p]?=some r->x∈r->P p->P (plc rs (-x)))->∀q,q<rs.length->P q
theorem LO{T:List (List Int)}(hm:Mp (gm T)) {r:List Int}(hr:r∈T):∃p,(gm T)[p]?=some (tF r)/\∀x∈r,plc (gm T) x=p:=by
 have h1:tF r∈gm T:=(K12.oJ T).mem_iff.mpr (mMq.mpr ⟨r,hr,rfl⟩);obtain⟨p,hp⟩:=bf.mp h1;exact⟨p,hp,λx hx=>plc_eq hm.hn hp ((qg r).mem_iff.mpr hx)⟩
theorem Wm.conn{nm:List Int}{T:List (List Int)}(hn:Nm nm) (h:Wm nm T):QM (gm T):=by
 intro P ⟨s,hs,ps⟩ hc q hq;have hm:=h.mp hn
 by_cases h1:T.length=1
 .rw [Bh,h1]at hs hq;have:q=s:=by lia
  rw[this];exact ps
 have hpos:=h.pos;have rowne:∀k,k<T.length->∃z,z∈T.getD k []:=λk hk=>by
  by_cases hk0:k=0
  .subst hk0;obtain⟨j,e,hj,a,b⟩:=h.tr 1 (by lia) (by lia)
   have:j=0:=by lia
   subst this;exact⟨e,a⟩
  .obtain ⟨j,e,hj,a,b⟩:=h.tr k (by lia) hk
   exact⟨_,b⟩
 have rmem:∀k,k<T.length->T.getD k []∈T:=λk hk=>by
  rw[gDq,gEg hk];exact gRq hk
 have ends:∀k,k<T.length->∀z,z∈T.getD k []->z∈(gm T).flatten:=λk hk z hz=>(G0 T).mem_iff.mpr (mFq.mpr ⟨_,rmem k hk,hz⟩)
 have same:∀k,k<T.length->∀z w,z∈T.getD k []->w∈T.getD k []->P (plc (gm T) z)->P (plc (gm T) w):=λk hk z w hz hw hp=>by
  obtain⟨p,_,hp2⟩:=LO hm (rmem k hk);rw[hp2 w hw];rw[hp2 z hz]at hp;exact hp
 have cross:∀z,z∈(gm T).flatten->P (plc (gm T) z)->P (plc (gm T) (-z)):=λz hz hp=>by
  obtain⟨r,hr,hx⟩:=hm.at hz;exact hc _ r z hr hx hp
 have down:(∀z,z∈T.getD 0 []->P (plc (gm T) z))->∀k,k<T.length->∀z,z∈T.getD k []->P (plc (gm T) z):=λh0 k=>by
  induction k using gc with
  |ind k ih =>
   intro hk z hz
   by_cases hk0:k=0
   .subst hk0;exact h0 z hz
   .obtain ⟨j,e,hj,a,b⟩:=h.tr k (by lia) hk
    exact same k hk _ z b hz (cross e (ends j (by lia) e a) (ih j hj (by lia) e a))
 have up:∀k,k<T.length->(∀z,z∈T.getD k []->P (plc (gm T) z))->∀z,z∈T.getD 0 []->P (plc (gm T) z):=λk=>by
  induction k using gc with
  |ind k ih =>
   intro hk hz
   by_cases hk0:k=0
   .subst hk0;exact hz
   .obtain ⟨j,e,hj,a,b⟩:=h.tr k (by lia) hk
    have p1:=cross (-e) (ends k hk _ b) (hz _ b);rw[hU]at p1;exact ih j hj (by lia) λz hz'=>same j (by lia) e z a hz' p1
 have find:∀q,q<(gm T).length->∃k,k<T.length/\∃z,z∈T.getD k []/\plc (gm T) z=q:=λq hq=>by
  have hr:=gEg hq;obtain⟨r,hr2,e⟩:=mMq.mp ((K12.oJ T).mem_iff.mp (gRq hq));obtain⟨k,hk,e2⟩:=bB.mp hr2;have e3:T.getD k []=r:=by rw[gDq,gEg hk,e2];rfl
  obtain⟨z,hz⟩:=rowne k hk;refine⟨k,hk,z,hz,plc_eq hm.hn hr ?_⟩;rw[←e];exact(qg r).mem_iff.mpr (e3 ▸ hz)
 obtain⟨k,hk,z,hz,ez⟩:=find s hs;have z0:=up k hk λw hw=>same k hk z w hz hw (by rw[ez];exact ps)
 obtain⟨k',hk',z',hz',ez'⟩:=find q hq;have:=down z0 k' hk' z' hz';rw[ez']at this;exact this
end K31
namespace K31
open PySem L2 Mr Z Xe Zl
open K12 (Kt Hs)
def OQ(st sh a b:Int) (n:Nat):List Int:=(bP n).map λk:Nat=>Kt st sh a b k
theorem Oi{st sh a b:Int}(h1:1<=st) (h2:0<=sh) (k:Nat):1<=Kt st sh a b k:=by
 have b1:0<=(a*(k:Int)+b) % 67:=bg _ (by decide)
 have l1:1*1<=st*((a*(k:Int)+b) % 67+1):=Int.mul_le_mul h1 (by lia) (by decide) (by lia)
 show 1<=st*((a*(k:Int)+b) % 67+1)+sh;lia
theorem Pw{st sh a b:Int}{n:Nat}(hn:n<=67) (h1:1<=st) (h2:0<=sh) (h3:1<=a) (h4:a<=66):Nm (OQ st sh a b n):=by
 refine⟨by unfold OQ;rw[lMq,dh];lia,?_,λx h=>?_⟩
 .unfold OQ;rw[bQ,bA];refine bI.imp_of_mem (λ{x y} hx hy hne e=>hne (Hs h1 h3 h4 (by have:=dY.mp hx;lia) (by have:=dY.mp hy;lia) e)) (bQ.mp hV)
 .obtain ⟨k,_,rfl⟩:=mMq.mp h;exact Oi h1 h2 k
theorem GT{one two st sh a b:Int}{n:Nat}(h:∀k:Nat,rz [.int one,.int two,.int (k:Int)]=some (.sh (.int (Kt st sh a b k)))):qM qL (kSc (vR K31.rz (ni (mZ 1) (ni (mZ 2) (ni (mZ 0) nO))))) [some (.sh (.int one)),some (.sh (.int two))] (oY 0 n)=some ((OQ st sh a b n).map λz=>.sh (.int z)):=by
 have key:=rG (te:=kSc (vR K31.rz (ni (mZ 1) (ni (mZ 2) (ni (mZ 0) nO))))) (cap:=[some (.sh (.int one)),some (.sh (.int two))])
  (λd=>match d with|.int k=>.sh (.int (Kt st sh a b k))|_=>.sh .non) (ds:=oY 0 n) (by
  intro d hd;rw[yZ]at hd;obtain⟨k,_,rfl⟩:=mMq.mp hd;have hk:=h k;refine⟨[some (.sh (.int (k:Int))),some (.sh (.int one)),some (.sh (.int two))],?_⟩
  simp_arith [hk])
 rw[key,yZ,mPq];unfold OQ;rw[mPq];rfl
end K31
namespace K33
open PySem L2 Mr Z Xe Zl
section
variable {f:Int->Int}{R:List (List Int)}
theorem QP{R:List (List Int)}(hn:R.flatten.Nodup) {t:List Int}(ht:t∈R):t.Nodup:=hn.sublist (aQ ht)
def CN(Q:List (List Int)):List (List Int):=Q.map λr=>r.map λx=>(Q.flatten.idxOf (-x):Int)
end
abbrev cR(r:List Int):D:=.tup (r.map .int)
abbrev cD(c:List (List Int)):D:=.tup (c.map cR)
def Bn:Nat->List Int->List (nX×D)
 |_,[]=>[]
 |k,x::l=>((aS x:nX),D.int (k:Int))::Bn (k+1) l
theorem E8(x:Int):∀(l:List Int) (k:Nat),Bn k (l++[x])=Bn k l++[((aS x:nX),D.int ((k+l.length:Nat):Int))]
 | [],k=>by simp[Bn]
 |y::l,k=>by
  show _::Bn (k+1) (l++[x])=(_::Bn (k+1) l)++_;rw[E8 x l (k+1),lCq,show k+1+l.length=k+(l.length+1) by lia]
  rfl
theorem Al:∀(l:List Int) (k:Nat),(Bn k l).map (·.1)=l.map aS
 | [],k=>rfl
 |y::l,k=>by
  show _::(Bn (k+1) l).map (·.1)=_;rw[Al l (k+1)];rfl
theorem Ng(l:List Int) (k:Nat):(Bn k l).length=l.length:=by
 have:=congrArg bF (Al l k)
 rwa [lMq,lMq]at this
theorem Hx{x:Int}:∀{l:List Int}{k:Nat},x∈l->Z.getD (Bn k l) (.inl x)=some (.int ((k+l.idxOf x:Nat):Int))
 | [],k,h=>by cases h
 |y::l,k,h=>by
  unfold Z.getD;show ((((aS y:nX),D.int (k:Int))::Bn (k+1) l).find? _).map _=_
  by_cases c:y=x
  .subst c;rw[cY (by simp),List.idxOf_cons_self]
   rfl
  .rw [cu (by simp[c])]
   have:=Hx (l:=l) (k:=k+1) ((aj.mp h).resolve_left λz=>c z.symm)
   rw[List.idxOf_cons,show (y == x)=false by simp[c]]
   show Z.getD (Bn (k+1) l) (.inl x)=_;rw[this];show some (D.int ((k+1+l.idxOf x:Nat):Int))=some (D.int ((k+(l.idxOf x+1):Nat):Int));rw[show k+1+l.idxOf x=k+(l.idxOf x+1) by lia]
theorem yr{E r:List Int}(h:∀x∈r, -x∈E) (hl:r.length<=500000):qo [.dict (Bn 0 E),dI r]=some (.sh (cR (r.map λx=>(E.idxOf (-x):Int)))):=by
 have key:qM qL (kSc (zk (mZ 1) (Ju Bi (mZ 0)))) [some (.sh (.dict (Bn 0 E)))] (r.map D.int)=some (r.map λx=>.sh (.int (E.idxOf (-x):Int))):=by
  rw[Z.rG λd=>match d with|.int x=>.sh (.int (E.idxOf (-x):Int))|_=>.sh .non]
  .rw [mPq];rfl
  .intro d hd;obtain⟨x,hx,rfl⟩:=mMq.mp hd;have g:=Hx (k:=0) (h x hx);rw[bD]at g;refine⟨[some (.sh (.int x)),some (.sh (.dict (Bn 0 E)))],?_⟩
   simp_arith [g]
 have e:(r.map λx=>AV.sh (.int (E.idxOf (-x):Int))).map nj=(r.map λx=>(E.idxOf (-x):Int)).map D.int:=by
  rw[mPq,mPq];rfl
 have lk:r.length<=qB:=by show _<=16777216;lia
 simp_arith [qo,xQ,dI,key,lk,e]
theorem Bd{Q:List (List Int)}(hn:Q.flatten.Nodup) (hneg:∀x∈Q.flatten, -x∈Q.flatten) (hl:Q.flatten.length<=1000) (hQ:Q.length<=1000):rX [dM Q]=some (.sh (cD (CN Q))):=by
 have to:=G2 (rs:=Q) (by lia)
 have sE:=og Q.flatten;have cl:qM qL (oM K33.qo (nz (oS 1) (nz (oS 0) nY))) [some (.sh (.dict (Bn 0 Q.flatten)))] (Q.map dI)=some (Q.map λr=>.sh (cR (r.map λx=>(Q.flatten.idxOf (-x):Int)))):=by
  rw[Z.rG λd=>match d with|.list l=>(qo [.dict (Bn 0 Q.flatten),.list l]).getD (.sh .non)|_=>.sh .non]
  .rw [mPq];refine congrArg some (mCq λr hr=>?_)
   have tc:=yr (E:=Q.flatten) (r:=r) (λx hx=>hneg x (mFq.mpr ⟨r,hr,hx⟩)) (by have:=du.length_le (aQ hr);lia)
   show (qo [.dict (Bn 0 Q.flatten),dI r]).getD (.sh .non)=_;rw[tc];rfl
  .intro d hd;obtain⟨r,hr,rfl⟩:=mMq.mp hd;have tc:=yr (E:=Q.flatten) (r:=r) (λx hx=>hneg x (mFq.mpr ⟨r,hr,hx⟩)) (by have:=du.length_le (aQ hr);lia)
   refine⟨[some (.sh (dI r)),some (.sh (.dict (Bn 0 Q.flatten)))],?_⟩
   simp_arith [tc,cO]
 obtain⟨S',e,v2,v3,rfl⟩:=LH (x:=2) (y:=3) (k:=0) (body:=vw) (λi S=>∃v2 v3,S=[some (.sh (dM Q)),some (.owd (Bn 0 (Q.flatten.take i))),v2,v3]) (ds:=Q.flatten.map D.int) (S:=[some (.sh (dM Q)),some (.owd []),none,none]) ⟨none,none,rfl⟩ (by
  rintro i d S hd ⟨v2,v3,rfl⟩;rw[bD];rw[gMq]at hd;obtain⟨x,hx,rfl⟩:=oMq.mp hd;have hi:i<Q.flatten.length:=(gSq.mp hx).1;have h3:(Bn 0 (Q.flatten.take i)).length<qB:=by rw[Ng,lTq];show _<16777216;lia
  have hput:wA (Bn 0 (Q.flatten.take i)) (.inl x) (.int (i:Int))=Bn 0 (Q.flatten.take (i+1)):=by
   rw[EF]
   .rw [tS hx,E8,lTq,cB (by lia),bD]
   .rw [Al];intro m;obtain⟨y,hy,e2⟩:=mMq.mp m;cases e2;have:=hn.sublist (bh (i+1) Q.flatten);rw[tS hx]at this;exact(nAq.mp this).2.2 _ hy _ (by simp) rfl
  refine⟨_,?_,some (.sh (.int (i:Int))),some (.sh (.int x)),rfl⟩
  simp_arith [vw,h3,hput])
 rw[lMq,bD,bH]at e;have st:(Q.map λr=>AV.sh (cR (r.map λx=>(Q.flatten.idxOf (-x):Int)))).map nj=(CN Q).map cR:=by
  unfold CN;rw[mPq,mPq];rfl
 have lQ:Q.length<=qB:=by show _<=16777216;lia
 simp_arith [rX,Av,to,sE,dI,e,dM,cl,lQ,st]
theorem AW{rs:List (List Int)}(hn:rs.flatten.Nodup):∀{ps:List Nat},ps.Nodup->(∀p∈ps,p<rs.length)->(ps.flatMap λp=>rs.getD p []).Nodup
 | [],_,_=>aT
 |p::ps,hp,hl=>by
  have hp':=aH.mp hp;have row:∀q,q<rs.length->rs[q]?=some (rs.getD q []):=λq hq=>by rw[gDq,gEg hq];rfl
  rw[cF,nAq];refine⟨QP hn (mGq (row p (hl p (by simp)))),AW hn hp'.2 λq hq=>hl q (by simp[hq]),λa ha b hb e=>?_⟩
  subst e;obtain⟨q,hq,hb⟩:=eK.mp hb;have:=same_place hn (row p (hl p (by simp))) (row q (hl q (by simp[hq]))) ha hb
  exact hp'.1 (this ▸ hq)
section
variable {rs:List (List Int)}{e:Int}
theorem Qu(hm:Mp rs) (he:e∈rs.flatten):(K31.Hq rs e).1.flatten.Nodup:=by
 have h:=K31.DD hm he;exact h.pm.nodup_iff.mpr (AW hm.hn h.nd h.lt)
theorem NS(hm:Mp rs) (he:e∈rs.flatten):∀x∈(K31.Hq rs e).1.flatten, -x∈(K31.Hq rs e).1.flatten:=λx hx=>by
 have h:=K31.DD hm he;obtain⟨j,hj,ej⟩:=bB.mp hx;have hp:=h.cl j hj;rw[gDq,gEg hj,cO,ej]at hp;obtain⟨r,hr,hxr⟩:=hm.at (hm.hneg x (h.mem hm hx).1);refine h.pm.mem_iff.mpr (eK.mpr ⟨_,hp,?_⟩);rw[gDq,hr];exact hxr
theorem BF(hm:Mp rs) (he:e∈rs.flatten):qu [dM rs,.int e]=some (.ok (.sh (cD (CN (K31.Hq rs e).1)))):=by
 have h1:=K31.Au hm he;have h:=K31.DD hm he;have h2:=h.few;have h5:=K51.NB _ _ h.nd h.lt;have h6:=h.ln;have hl:=hm.hl;have hr:=hm.hr;have h3:=Bd (Qu hm he) (NS hm he) (by lia) (by lia)
 have h4:=K31.J8 (K31.Hq rs e).1
 simp_arith [qu,xw,h1,h4,h3]
end
end K33
namespace K51
open PySem L2 Mr Z Xe Zl
theorem Jp{rs:List (List Int)}(hm:Mp rs):∃kn PS,Ps rs rs.length kn PS/\nW [dM rs]=if PS.length=1 then some (.ok (.sh .non)) else some (.ex "NotOnePiece" []):=by
 obtain⟨kn,PS,hp,e⟩:=Ik hm;refine⟨kn,PS,hp,?_⟩
 by_cases h:PS.length=1
 .have h':((PS.length:Nat):Int)=1:=by lia
  rw[nK h]
  simp_arith [nW,qh,e,h']
 .have h':¬ ((PS.length:Nat):Int)=1:=by lia
  simp_arith [nW,qh,e,h',h]
end K51
namespace K34
open PySem L2 Mr Z Xe Zl
section
variable {rs:List (List Int)}
theorem Tq(h:Mp rs):K51.Mp rs:=⟨h.hn,h.hl,h.hr,h.hneg⟩
theorem BR(hm:Mp rs) (hc:K31.QM rs) (hp:0<rs.length):K51.nW [dM rs]=some (.ok (.sh .non)):=by
 obtain⟨kn,PS,h,e⟩:=K51.Jp (Tq hm);have h1:PS.length=1:=by
  obtain⟨ps,hps,_⟩:=h.mem 0 (h.all 0 hp);have pos:0<PS.length:=eB hps
  by_cases c:PS.length=1
  .exact c
  .obtain ⟨a,b,L,rfl⟩:∃a b L,PS=a::b::L:=by
    match PS,pos,c with
    | [a],_,c=>exact absurd rfl c
    |a::b::L,_,_=>exact⟨a,b,L,rfl⟩
   obtain⟨s1,l1,p1⟩:=h.pc a (by simp)
   obtain⟨s2,l2,p2⟩:=h.pc b (by simp)
   have r12:K51.DM rs s1 s2:=hc (λk=>K51.DM rs s1 k) ⟨s1,l1,.base⟩ (λp r x hr hx hp=>.step hp hr hx) s2 l2
   have dj:=(dO.mp h.dj).1 b (by simp)
   exact absurd ((p2.iff s2).mpr .base) (dj s2 ((p1.iff s2).mpr r12))
 rw[e,nK h1]
end
def Ke(G:List (List Int)) (E:List Int):List (List (List Int)):=E.map λe=>K33.CN (K31.Hq G e).1
theorem Ew{G:List (List Int)}(hm:Mp G):∀{E:List Int},(∀e∈E,e∈G.flatten)->qM qL (oM (Z.okX K33.qu) (nz (oS 1) (nz (oS 0) nY))) [some (.sh (dM G))] (E.map D.int)=some (((Ke G E).map dC).map AV.sh):=by
 intro E hE;rw[Z.rG λd=>match d with|.int e=>.sh (dC (K33.CN (K31.Hq G e).1))|_=>.sh .non]
 .unfold Ke;rw[mPq,mPq,mPq];rfl
 .intro d hd;obtain⟨e,he,rfl⟩:=mMq.mp hd;have rc:K33.qu [dM G,.int e]=some (.ok (.sh (dC (K33.CN (K31.Hq G e).1)))):=K33.BF hm (hE e he);refine⟨[some (.sh (.int e)),some (.sh (dM G))],?_⟩
  simp_arith [rc]
theorem B9(cs:List (List (List Int))):((cs.map dC).map AV.sh).map nj=cs.map dC:=by
 rw[mPq,mPq];exact mCq λ_ _=>rfl
theorem KP{G:List (List Int)}(hm:Mp G) (hc:K31.QM G) (hp:0<G.length) (hE:G.flatten≠[]):∃m,oa [dM G]=some (.ok (.sh (dC m)))/\m∈Ke G G.flatten/\∀c∈Ke G G.flatten,HT.pQ c m=false:=by
 have op:=BR hm hc hp;have hl:=hm.hl;have eo:=Hi (rs:=G) (by lia)
 have pm:=tR G.flatten;have pl:=pm.length_eq;have comp:=Ew hm (E:=qK G.flatten) λe he=>pm.mem_iff.mp he
 have hpos:0<G.flatten.length:=ff.mpr hE;obtain⟨m,hm1⟩:∃m,Dx (Ke G (qK G.flatten))=some m:=by
  cases hc:Ke G (qK G.flatten) with
  |nil =>
   have:=congrArg bF hc;unfold Ke at this;rw[lMq,pl,bC]at this;lia
  |cons c cs=>exact⟨_,rfl⟩
 obtain⟨l1,l2⟩:=Ar hm1;have mem:∀c,c∈Ke G (qK G.flatten)↔c∈Ke G G.flatten:=λc=>(pm.map _).mem_iff
 refine⟨m,?_,(mem m).mp l1,λc hc=>l2 c ((mem c).mpr hc)⟩
 have sS:=og (qK G.flatten);have hne:¬ ((qK G.flatten).length:Int)=0:=by lia
 have lS:(qK G.flatten).length<=qB:=by show _<=16777216;lia
 have sc:=B9 (Ke G (qK G.flatten));have cm:=ug (Ke G (qK G.flatten))
 simp_arith [oa,uL,op,eo,sS,dI,hne,comp,lS,sc,cm,hm1]
theorem zT:oa [dM [[]]]=some (.ok (.sh (dC [[]]))):=by
 have hm:Mp [[]]:=⟨aT,aW _,by simp,λe he=>by simp at he⟩
 have op:=BR hm (λP ⟨s,hs,ps⟩ _ q hq=>by
  simp only[lSq]at hs hq;have:q=s:=by lia
  rw[this];exact ps) (by simp)
 have eo:=Hi (rs:=[[]]) (by simp)
 have cd:K33.rX [dM [[]]]=some (.sh (dC [[]])):=K33.Bd (Q:=[[]]) aT (λx hx=>by simp at hx) (by simp) (by simp)
 have se:qK ([[]]:List (List Int)).flatten=[]:=aV.mp (by rw[(tR _).length_eq];rfl)
 rw[se]at eo;have z0:decide (((0:Nat):Int)=0)=true:=by decide
 have s0:=og []
 simp_arith [oa,uL,op,eo,s0,dI,z0,cd]
end K34
namespace K51
open PySem L2 Mr Z Xe Zl
structure Od (i:Nat) (PS:List (List Nat)):Prop where
 pw:PS.Pairwise λa b=>∃s∈a,∀y∈b,s<y
 lo:∀a∈PS,∃s∈a,s<i
theorem Od.mono{i j:Nat}{PS:List (List Nat)}(h:Od i PS) (hij:i<=j):Od j PS:=⟨h.pw,λa ha=>by
 obtain⟨s,h1,h2⟩:=h.lo a ha;exact⟨s,h1,by lia⟩⟩
theorem Od.add{i:Nat}{PS:List (List Nat)}(h:Od i PS) {ps:List Nat}(hi:i∈ps) (hy:∀y∈ps,i<=y):Od (i+1) (PS++[ps]):=by
 refine⟨aB.mpr ⟨h.pw,dX ..,λa ha b hb=>?_⟩,λa ha=>?_⟩
 .rw [mSq.mp hb];obtain⟨s,h1,h2⟩:=h.lo a ha;exact⟨s,h1,λy hy'=>by have:=hy y hy';lia⟩
 .rcases mAq.mp ha with q|q
  .obtain ⟨s,h1,h2⟩:=h.lo a q;exact⟨s,h1,by lia⟩
  .rw [mSq.mp q];exact⟨i,hi,by lia⟩
theorem Gj{rs:List (List Int)}(hm:Mp rs):∃kn PS,Ps rs rs.length kn PS/\Od rs.length PS/\rA [dM rs]=some (.ow (PS.map (pA rs))):=by
 have h1000:=hm.hr;have key:=zr (x:=3) (body:=qN) (λi S=>∃kn PS v3 v4 v5,S=[some (.sh (dM rs)),some (.owd (kd kn)),some (.ow (PS.map (pA rs))),v3,v4,v5]/\Ps rs i kn PS/\Od i PS) (ds:=oY 0 rs.length) (S:=[some (.sh (dM rs)),some (.owd []),some (.ow []),none,none,none])
  ⟨[],[],none,none,none,rfl,⟨by simp,by simp,by simp,by simp,by simp,by simp,by simp,by simp⟩,⟨bI.nil,λa ha=>(by cases ha)⟩⟩ (by
  rintro i d S hd ⟨kn,PS,v3,v4,v5,rfl,hp,ho⟩;have hi:i<rs.length:=by
   have:=(gSq.mp hd).1
   rwa [pZ]at this
  rw[xI hi,gP]at hd;cases hd;have hg:=kd_get kn i
  by_cases c:i∈kn
  .rw [decide_eq_true c]at hg;refine⟨[some (.sh (dM rs)),some (.owd (kd kn)),some (.ow (PS.map (pA rs))),some (.sh (.int (i:Int))),v4,v5],?_,kn,PS,_,_,_,rfl,⟨hp.sub,hp.dj,hp.pc,?_,hp.mem,hp.nd,hp.lt,?_⟩,ho.mono (bw _)⟩
   .simp_arith [qN,hg]
   .intro k hk;rcases cM.mp hk with q|rfl
    .exact hp.all k q
    .exact c
   .have:=hp.len;lia
  .rw [decide_eq_false c]at hg;obtain⟨ps,h1,e1⟩:=Bj hm hi;have p1:=NB _ _ hp.nd hp.lt;have p2:=NB _ _ h1.nd h1.lt;have p3:=hp.len;have l2:ps.length<=qB:=by show _<=16777216;lia
   have l3:PS.length<qB:=by show _<16777216;lia
   obtain⟨v5',e2⟩:=Cs (ps:=ps) (kn:=kn) (v0:=some (.sh (dM rs))) (v2:=some (.ow (PS.map (pA rs)))) (v3:=some (.sh (.int (i:Int)))) (v4:=some (.sh (dI (ps.map λk:Nat=>(k:Int))))) (v5:=v5) (by lia)
   have e3:=Bf h1.lt;refine⟨[some (.sh (dM rs)),some (.owd (kd (ps.foldl addN kn))),some (.ow ((PS++[ps]).map (pA rs))),some (.sh (.int (i:Int))),some (.sh (dI (ps.map λk:Nat=>(k:Int)))),v5'],?_,ps.foldl addN kn,PS++[ps],_,_,_,rfl,⟨?_,?_,?_,?_,?_,DG hp.nd,?_,?_⟩,ho.add ((h1.iff i).mpr .base) (λy hy=>?_)⟩
   .simp_arith [qN,hg,e1,e2,e3,l2,l3,mBq,pA]
   .intro qs hq k hk;rcases mAq.mp hq with q|q
    .exact qi.mpr (.inl (hp.sub qs q k hk))
    .rw [mSq.mp q]at hk;exact qi.mpr (.inr hk)
   .rw [aB];refine⟨hp.dj,dX ..,λqs hq b hb k hk hk2=>c ?_⟩
    rw[mSq.mp hb]at hk2;obtain⟨s,hs,hc⟩:=hp.pc qs hq;exact hp.sub qs hq i ((hc.iff i).mpr (((hc.iff k).mp hk).trans (((h1.iff k).mp hk2).symm hm)))
   .intro qs hq;rcases mAq.mp hq with q|q
    .exact hp.pc qs q
    .rw [mSq.mp q];exact⟨i,hi,h1⟩
   .intro k hk;rcases cM.mp hk with q|rfl
    .exact qi.mpr (.inl (hp.all k q))
    .exact qi.mpr (.inr ((h1.iff k).mpr .base))
   .intro k hk;rcases qi.mp hk with q|q
    .obtain ⟨qs,a,b⟩:=hp.mem k q;exact⟨qs,mAq.mpr (.inl a),b⟩
    .exact ⟨ps,mAq.mpr (.inr (mSq.mpr rfl)),q⟩
   .intro k hk;rcases qi.mp hk with q|q
    .exact hp.lt k q
    .exact h1.lt k q
   .rw [lAq,lSq];lia
   .refine eF λq=>c ?_
    obtain⟨qs,hq,hk2⟩:=hp.mem y (hp.all y q);obtain⟨s,hs,hc⟩:=hp.pc qs hq;exact hp.sub qs hq i ((hc.iff i).mpr (((hc.iff y).mp hk2).trans (((h1.iff y).mp hy).symm hm))))
 obtain⟨S',e,kn,PS,v3,v4,v5,rfl,hp,ho⟩:=key;rw[pZ]at hp ho;have r1:=zI (n:=rs.length) (by lia)
 refine⟨kn,PS,hp,ho,?_⟩
 simp_arith [rA,yM,dM,r1,e]
end K51
namespace K11
open PySem L2 Mr Z Xe Zl K12
structure Pm (P:List (List (List Int))):Prop where
 nd:P.flatten.flatten.Nodup
 mp:K51.Mp (gm P.flatten)
theorem ve{p:List (List Int)}(h:Cn p) (hb:[]∈p) (hn:p.flatten.Nodup):p=[[]]:=by
 obtain⟨k,hk⟩:=bf.mp hb;have hlt:=(gSq.mp hk).1;have hkD:p.getD k []=[]:=by rw[gDq,hk];rfl
 have h0:k=0:=by
  by_cases q:0<k
  .obtain ⟨j,e,_,_,h3⟩:=h.tr k q hlt;rw[hkD]at h3;cases h3
  .lia
 subst h0
 by_cases q:1<p.length
 .obtain ⟨j,e,h1,h2,_⟩:=h.tr 1 (by lia) q
  have:j=0:=by lia
  rw[this,hkD]at h2;cases h2
 .cases p with
  |nil=>cases hb
  |cons a p =>
   cases p with
   |nil =>
    have:a=[]:=bc.inj hk;rw[this]
   |cons b p=>exact absurd (show 1<(a::b::p).length by simp) q
theorem HD:∀{L:List (List Int)},L.flatten.Nodup->(∀l∈L,l≠[])->L.Nodup
 | [],_,_=>aT
 |a::L,h,hne=>by
  rw[fCq,nAq]at h;refine aH.mpr ⟨λm=>?_,HD h.2.1 λl hl=>hne l (mCo _ hl)⟩
  cases a with
  |nil=>exact hne [] (ay ..) rfl
  |cons x a=>exact h.2.2 x (ay ..) x (mFq.mpr ⟨_,m,ay ..⟩) rfl
section
variable {P:List (List (List Int))}
theorem DI(h:Pm P) {p:List (List Int)}(hp:p∈P):p.flatten.Nodup:=by
 have:=h.nd;rw[List.flatten_flatten]at this;exact bI.sublist (aQ (mMq.mpr ⟨p,hp,rfl⟩)) this
theorem Eg:∀{P:List (List (List Int))},P.flatten.flatten.Nodup->∀{p q:List (List Int)}{e:Int},p∈P->q∈P->e∈p.flatten->e∈q.flatten->p=q
 | [],_,p,q,e,hp,_,_,_=>by cases hp
 |a::P,h,p,q,e,hp,hq,h1,h2=>by
  rw[fCq,fAq,nAq]at h;have inP:∀{r:List (List Int)},r∈P->e∈r.flatten->e∈P.flatten.flatten:=λ{r} hr hr'=>by
   obtain⟨l,hl,hel⟩:=mFq.mp hr';exact mFq.mpr ⟨l,mFq.mpr ⟨r,hr,hl⟩,hel⟩
  rcases aj.mp hp with e1|e1
  .rcases aj.mp hq with e2|e2
   .rw [e1,e2]
   .rw [e1]at h1;exact absurd rfl (h.2.2 e h1 e (inP e2 h2))
  .rcases aj.mp hq with e2|e2
   .rw [e2]at h2;exact absurd rfl (h.2.2 e h2 e (inP e1 h1))
   .exact Eg h.2.1 e1 e2 h1 h2
theorem K8(h:Pm P) {p:List (List Int)}(hp:p∈P) {r:List Int}(hr:r∈p):tF r∈gm P.flatten:=(oJ _).mem_iff.mpr (mMq.mpr ⟨r,mFq.mpr ⟨p,hp,hr⟩,rfl⟩)
theorem uB(h:Pm P) {p:List (List Int)}(hp:p∈P) {r:List Int}(hr:r∈p) {e:Int}(he:e∈r):(gm P.flatten)[plc (gm P.flatten) e]?=some (tF r)/\∀k,(gm P.flatten)[k]?=some (tF r)->k=plc (gm P.flatten) e:=by
 have mp:=h.mp;have hg:e∈tF r:=(qg r).mem_iff.mpr he;obtain⟨k,hk⟩:=bf.mp (K8 h hp hr);have e1:=K51.plc_eq mp.hn hk hg;refine⟨by rw[show plc (gm P.flatten) e=k from e1];exact hk,λk' hk'=>?_⟩
 exact(K51.plc_eq mp.hn hk' hg).symm
theorem getD_mem{p:List (List Int)}{k:Nat}{e:Int}(h:e∈p.getD k []):p.getD k []∈p:=by
 rw[gDq]at h ⊢;cases q:p[k]? with
 |none=>rw[q]at h;cases h
 |some r=>exact mGq q
theorem DW(h:Pm P) {p:List (List Int)}(hp:p∈P) (hc:Cn p) {e0:Int}(h0:e0∈p.getD 0 []):∀k,k<p.length->∀e,e∈p.getD k []->K51.DM (gm P.flatten) (plc (gm P.flatten) e0) (plc (gm P.flatten) e):=by
 intro k
 induction k using gc with
 |_ k ih =>
  intro hk e he;have same:∀{e1 e2:Int}{k:Nat},e1∈p.getD k []->e2∈p.getD k []->plc (gm P.flatten) e1=plc (gm P.flatten) e2:=λ{e1 e2 k} q1 q2=>(uB h hp (getD_mem q2) q2).2 _ (uB h hp (getD_mem q1) q1).1
  by_cases q:0<k
  .obtain ⟨j,e',h1,h2,h3⟩:=hc.tr k q hk;have r:=ih j h1 (by lia) e' h2
   have hrow:=(uB h hp (getD_mem h2) h2).1;have st:=K51.DM.step r hrow ((qg _).mem_iff.mpr h2);have e1:K51.plc (gm P.flatten) (-e')=plc (gm P.flatten) (-e'):=rfl;rw[e1,same h3 he]at st;exact st
  .have:k=0:=by lia
   subst this;rw[same h0 he];exact .base
theorem GC(h:Pm P) (hc:∀p∈P,Cn p) {s:Nat}{ps:List Nat}(hs:s<(gm P.flatten).length) (pc:K51.Pc (gm P.flatten) s ps):∃p∈P,(ps.map λk=>(gm P.flatten).getD k [])=gm p:=by
 have mp:=h.mp;obtain⟨ρ,hρ⟩:∃ρ,(gm P.flatten)[s]?=some ρ:=⟨_,gEg hs⟩;obtain⟨r0,hr0,e0⟩:=mMq.mp ((oJ _).mem_iff.mp (mGq hρ));obtain⟨p,hp,hr0p⟩:=mFq.mp hr0;refine⟨p,hp,?_⟩;have cn:=hc p hp;have pn:=DI h hp
 by_cases hb:([]:List Int)∈p
 .have ep:=ve cn hb pn;rw[ep]at hr0p;rw[mSq.mp hr0p,A7]at e0;subst e0;have only:∀k,K51.DM (gm P.flatten) s k->k=s:=λk hk=>by
   induction hk with
   |base=>rfl
   |step _ a b ih =>
    rw[ih,hρ]at a;cases a;cases b
  have eps:ps=[s]:=by
   have m:s∈ps:=(pc.iff s).mpr .base;have all:∀k∈ps,k=s:=λk hk=>only k ((pc.iff k).mp hk)
   have nd:=pc.nd
   match ps,m,all,nd with
   | [a],m,all,_=>rw[all a (by simp)]
   |a::b::l,m,all,nd=>exact absurd ((all a (by simp)).trans (all b (by simp)).symm) (λz=>(aH.mp nd).1 (by rw[z];simp))
  have g1:gm [[]]=[[]]:=by
   have:(gm [[]]).Perm [[]]:=oJ [[]];exact dE.mp this
  rw[eps,ep,g1];show [(gm P.flatten).getD s []]=[[]];rw[gDq,hρ];rfl
 .have hne:∀r∈p,r≠[]:=λr hr z=>hb (z ▸ hr)
  have key:∀k,k∈ps↔∃r∈p,(gm P.flatten)[k]?=some (tF r):=λk=>by
   rw[pc.iff k];constructor
   .intro hk
    induction hk with
    |base=>exact⟨r0,hr0p,by rw[hρ,e0]⟩
    | @step k r e _ a b ih =>
     obtain⟨r',hr',er'⟩:=ih;rw[a]at er';cases er';have h1:e∈p.flatten:=mFq.mpr ⟨r',hr',(qg r').mem_iff.mp b⟩;obtain⟨r2,hr2,he2⟩:=mFq.mp (cn.clo e h1);exact⟨r2,hr2,(uB h hp hr2 he2).1⟩
   .rintro ⟨r,hr,er⟩;obtain⟨j0,hj0⟩:=bf.mp hr0p;obtain⟨j,hj⟩:=bf.mp hr;have hroot:p.getD 0 []∈p:=by
     cases hpp:p with
     |nil=>exact absurd hpp cn.ne
     |cons a l=>simp
    obtain⟨eR,hR⟩:=cG _ (hne _ hroot);obtain⟨x0,hx0⟩:=cG _ (hne _ hr0p);obtain⟨x,hx⟩:=cG _ (hne _ hr);have d0:p.getD j0 []=r0:=by rw[gDq,hj0];rfl
    have d1:p.getD j []=r:=by rw[gDq,hj];rfl
    have t0:=DW h hp cn hR j0 (gSq.mp hj0).1 x0 (by rw[d0];exact hx0)
    have t1:=DW h hp cn hR j (gSq.mp hj).1 x (by rw[d1];exact hx)
    have s0:s=plc (gm P.flatten) x0:=(uB h hp hr0p hx0).2 s (by rw[hρ,e0])
    have k0:k=plc (gm P.flatten) x:=(uB h hp hr hx).2 k er;rw[s0,k0];exact(t0.symm mp).trans t1
  refine K1 ?_ ?_
  .refine (ft ?_ ?_).mpr λy=>?_
   .rw [bQ,bA];refine bI.imp_of_mem (λ{a b} ha hb' hab q=>?_) (bQ.mp pc.nd)
    obtain⟨r,hr,er⟩:=(key a).mp ha;obtain⟨r',hr',er'⟩:=(key b).mp hb';rw[gDq,gDq,er,er']at q;have q':tF r=tF r':=q;obtain⟨x,hx⟩:=cG _ (hne r hr);exact hab (((uB h hp hr hx).2 a er).trans ((uB h hp hr hx).2 b (by rw[er',q'])).symm)
   .refine HD ?_ λl hl=>?_
    .exact (qe qg p).nodup_iff.mpr pn
    .obtain ⟨r,hr,rfl⟩:=mMq.mp hl;intro z;have:=congrArg bF z;rw[uG]at this;exact hne r hr (aV.mp this)
   .rw [mMq,mMq];constructor
    .rintro ⟨k,hk,rfl⟩;obtain⟨r,hr,er⟩:=(key k).mp hk;exact⟨r,hr,by rw[gDq,er];rfl⟩
    .rintro ⟨r,hr,rfl⟩;obtain⟨k,hk⟩:=bf.mp (K8 h hp hr);exact⟨k,(key k).mpr ⟨r,hr,hk⟩,by rw[gDq,hk];rfl⟩
  .rw [bA];have so:=bI.and pc.so (bQ.mp pc.nd);refine bI.imp_of_mem (λ{a b} ha hb' hab=>?_) so
   have hlt:a<b:=Nat.lt_of_le_of_ne hab.1 hab.2;have la:=pc.lt a ha;have lb:=pc.lt b hb';have:=bJ.mp (xE (P.flatten.map tF)) a b la lb hlt;rw[gDq,gDq,gEg la,gEg lb];exact this
end
theorem AF{ρ:List Int}{m:List (List Int)}:∀{f:List (List (List Int))},(∀m'∈f,ρ∈m'->m'=m)->f.flatten.count ρ=f.count m*m.count ρ
 | [],_=>by simp
 |a::f,h=>by
  have ih:=AF (f:=f) λm' hm=>h m' (mCo _ hm)
  rw[fCq,cAq,ih]
  by_cases q:a=m
  .rw [q,eV,Nat.add_mul,Nat.one_mul,iy]
  .rw [eM q];have:a.count ρ=0:=cU.mpr λz=>q (h a (ay ..) z)
   lia
theorem Rm{p:List (List Int)}(h:Cn p):∃ρ,ρ∈gm p:=by
 cases hp:p with
 |nil=>exact absurd hp h.ne
 |cons a l=>exact⟨tF a,(oJ _).mem_iff.mpr (mMq.mpr ⟨a,by simp,rfl⟩)⟩
theorem GW{P:List (List (List Int))}(h:Pm P) (hc:∀p∈P,Cn p) {p q:List (List Int)}(hp:p∈P) (hq:q∈P) {ρ:List Int}(h1:ρ∈gm p) (h2:ρ∈gm q):gm p=gm q:=by
 obtain⟨r,hr,er⟩:=mMq.mp ((oJ _).mem_iff.mp h1);obtain⟨t,ht,et⟩:=mMq.mp ((oJ _).mem_iff.mp h2);cases r with
 |nil =>
  rw[A7]at er;have:t=[]:=by
   have:=congrArg bF et;rw[uG,←er]at this;exact aV.mp this
  rw[ve (hc p hp) hr (DI h hp),ve (hc q hq) (this ▸ ht) (DI h hq)]
 |cons x r =>
  have hx:x∈tF (x::r):=(qg _).mem_iff.mpr (by simp)
  rw[er,←et]at hx;have hx2:x∈t:=(qg t).mem_iff.mp hx;rw[Eg h.nd hp hq (mFq.mpr ⟨_,hr,by simp⟩) (mFq.mpr ⟨t,ht,hx2⟩)]
theorem Ep{P:List (List (List Int))}(h:Pm P) (hc:∀p∈P,Cn p):∃PS:List (List Nat),K51.rA [dM (gm P.flatten)]=some (.ow (PS.map (K51.pA (gm P.flatten))))/\(PS.map λps=>ps.map λk=>(gm P.flatten).getD k [])=rB (P.map gm):=by
 obtain⟨kn,PS,hp,ho,e⟩:=K51.Gj (h.mp);refine⟨PS,e,?_⟩;have hA:∀ps∈PS,∃p∈P,(ps.map λk=>(gm P.flatten).getD k [])=gm p:=λps hps=>by
  obtain⟨s,hs,pc⟩:=hp.pc ps hps;exact GC h hc hs pc
 refine CU ?_ ?_
 .rw [fg];intro m;have hfl:(PS.map λps=>ps.map λk=>(gm P.flatten).getD k []).flatten.Perm (P.map gm).flatten:=((EK hp).trans (oJ _)).trans (QL (.refl _)).symm
  have all1:∀m'∈(PS.map λps=>ps.map λk=>(gm P.flatten).getD k []),∃p∈P,m'=gm p:=λm' hm=>by
   obtain⟨ps,hps,rfl⟩:=mMq.mp hm;exact hA ps hps
  have all2:∀m'∈P.map gm,∃p∈P,m'=gm p:=λm' hm=>by
   obtain⟨p,hp',rfl⟩:=mMq.mp hm;exact⟨p,hp',rfl⟩
  by_cases q:∃p∈P,m=gm p
  .obtain ⟨p,hpP,rfl⟩:=q;obtain⟨ρ,hρ⟩:=Rm (hc p hpP);have c1:=AF (ρ:=ρ) (m:=gm p) (f:=PS.map λps=>ps.map λk=>(gm P.flatten).getD k []) λm' hm hρ'=>by
    obtain⟨q,hq,rfl⟩:=all1 m' hm;exact GW h hc hq hpP hρ' hρ
   have c2:=AF (ρ:=ρ) (m:=gm p) (f:=P.map gm) λm' hm hρ'=>by
    obtain⟨q,hq,rfl⟩:=all2 m' hm;exact GW h hc hq hpP hρ' hρ
   rw[hfl.count_eq,c2]at c1;exact(Nat.eq_of_mul_eq_mul_right (fo.mpr hρ) c1).symm
  .rw [cU.mpr λz=>q (all1 m z),cU.mpr λz=>q (all2 m z)]
 .rw [bA];refine bI.imp_of_mem (λ{a b} ha hb hab=>?_) ho.pw
  obtain⟨s,hs,hlt⟩:=hab;obtain⟨s1,_,pa⟩:=hp.pc a ha;obtain⟨s2,_,pb⟩:=hp.pc b hb
  match a,b,ha,hb,hs,hlt,pa,pb with
  |a0::as,b0::bs,ha,hb,hs,hlt,pa,pb =>
   have h0:a0<=s:=by
    rcases aj.mp hs with z|z
    .lia
    .exact (dO.mp pa.so).1 s z
   have hab:a0<b0:=by have:=hlt b0 (by simp);lia
   have la:=pa.lt a0 (by simp)
   have lb:=pb.lt b0 (by simp)
   have hsr:=bJ.mp (xE (P.flatten.map tF)) a0 b0 la lb hab;have ea:(gm P.flatten).getD a0 []=(gm P.flatten)[a0]:=by rw[gDq,gEg la];rfl
   have eb:(gm P.flatten).getD b0 []=(gm P.flatten)[b0]:=by rw[gDq,gEg lb];rfl
   by_cases q:(gm P.flatten).getD b0 []=(gm P.flatten).getD a0 []
   .obtain ⟨p,hpP,e1⟩:=hA _ ha;obtain⟨p',hpP',e2⟩:=hA _ hb;have m1:(gm P.flatten).getD a0 []∈gm p:=by rw[←e1];simp
    have m2:(gm P.flatten).getD a0 []∈gm p':=by rw[←e2,←q];simp
    rw[e1,e2,GW h hc hpP hpP' m1 m2];exact HT.wQ _
   .rw [ak,ak,HT.pQ,nS q,ea,eb];exact hsr
  | [],b,ha,hb,hs,_,_,_=>cases hs
  |a0::as,[],ha,hb,hs,hlt,pa,pb =>
   have:=(pb.iff s2).mpr .base;cases this
end K11
namespace K35
open PySem PySem.Spec PyProof.Rows L2 Mr Z Xe Zl
open K12 (gm oJ)
theorem Ga:∀{ds:List D}{ps:List PyData},ds.length=ps.length->(∀(i:Nat) (d:D) (p:PyData),ds[i]?=some d->ps[i]?=some p->py d=some p)->Fx ds=some ps
 | [],[],_,_=>by simp[Fx]
 |d::ds,p::ps,l,h=>by
  have h0:=h 0 d p rfl rfl;have ih:=Ga (ds:=ds) (ps:=ps) (by simpa using l) λi d p a b=>h (i+1) d p a b
  simp[Fx,h0,ih]
theorem P7{n:Nat}{d:D}{p:PyData}(h:BI n d p):py d=some p:=by
 induction h with
 |non=>rfl
 |bl=>rfl
 |int=>rfl
 |str _=>rfl
 |list l _ ih=>rw[py,Ga l ih];rfl
 |tup l _ ih=>rw[py,Ga l ih];rfl
theorem N1{n:Nat}{d:D}{p:PyData}(h:BI n d p) (hn:n<=64):AN d d=some (.bl true):=by
 have hp:=P7 h;unfold AN;rw[hp];show (if _ then _ else _)=_
 rw[nK ⟨h.shaped hn,h.shaped hn,h.mix⟩,same_self]
theorem CP{α:Type}{f:α->D}{g:α->PyData}{n:Nat}(l:List α) (h:∀x,BI n (f x) (g x)):∀(i:Nat) (d:D) (p:PyData),(l.map f)[i]?=some d->(l.map g)[i]?=some p->BI n d p:=λi d p a b=>by
 rw[gMq]at a b;obtain⟨x,hx,rfl⟩:=oMq.mp a;rw[hx]at b;cases b;exact h x
theorem Pt(cs:List (List (List Int))):∃p,BI 3 (.list (cs.map dC)) p:=⟨_,.list (ps:=cs.map λc=>.tuple (c.map λr=>.tuple (r.map .int))) (by rw[lMq,lMq]) (CP cs λc=>.tup (by rw[lMq,lMq]) (CP c λr=>.tup (by rw[lMq,lMq]) (CP r λi=>.int)))⟩
theorem Oq(cs:List (List (List Int))):AN (.list (cs.map dC)) (.list (cs.map dC))=some (.bl true):=by
 obtain⟨p,h⟩:=Pt cs;exact N1 h (by decide)
theorem OR(cs:List (List (List Int))):yE (.list (cs.map dC)) (.list (cs.map dC))=some (.bl false):=by unfold yE;rw[Oq];rfl
def xJ(G:List (List Int)):List (List Int):=match K34.oa [dM G] with
 |some (.ok (.sh d))=>(yX d).getD []
 |_=>[]
theorem LS{G c:List (List Int)}(h:K34.oa [dM G]=some (.ok (.sh (dC c)))):xJ G=c:=by
 unfold xJ;rw[h];show (yX (dC c)).getD []=c;rw[Du];rfl
theorem QF{M:List (List Int)}{x:Int}(hm:Mp M) (hx:x∈M.flatten):x∈M.getD (plc M x) []:=by
 obtain⟨r,h1,h2⟩:=hm.at hx;rw[gDq,h1];exact h2
structure Cg (G:List (List Int)):Prop where
 ok:K34.oa [dM G]=some (.ok (.sh (dC (xJ G))))
 ne:xJ G≠[]
 bare:[xJ G].count [[]]=G.count []
theorem HY:Cg [[]]:=by
 have e:=LS K34.zT;exact⟨by rw[e];exact K34.zT,by rw[e];simp,by rw[e];rfl⟩
theorem RJ{nm:List Int}{T:List (List Int)}(hn:K31.Nm nm) (w:K31.Wm nm T):Cg (gm T):=by
 have mp:=w.mp hn;have cn:=w.conn hn;have lG:=K31.Bh T;have pos:=w.pos;have cnT:K11.Cn T:=⟨λq=>(by rw[q]at pos;cases pos),λz hz=>w.neg hn hz,w.tr⟩
 have nd:=w.nodup hn
 by_cases hE:(gm T).flatten=[]
 .have fT:T.flatten=[]:=by
   have:=((vt (oJ T)).trans (qe qg T)).length_eq;rw[hE]at this;exact aV.mp this.symm
  have eT:T=[[]]:=by
   cases T with
   |nil=>cases pos
   |cons r T =>
    have r0:r=[]:=(List.append_eq_nil_iff.mp fT).1;exact K11.ve cnT (by rw[r0];simp) nd
  rw[eT,show gm [[]]=[[]] from dE.mp (oJ [[]])]
  exact HY
 .obtain ⟨m,lo,mem,_⟩:=K34.KP mp cn (by lia) hE
  have e:=LS lo;obtain⟨x,hx,em⟩:=mMq.mp mem;obtain⟨Q,hQ⟩:=(K31.DD mp hx).hd;have hrow:=QF mp hx;have hr0:K31.rot ((gm T).getD (plc (gm T) x) []) x≠[]:=λq=>by
   have:=(K31.rot_perm _ x).mem_iff.mpr hrow;rw[q]at this;cases this
  have ne1:xJ (gm T)≠[]/\xJ (gm T)≠[[]]:=by
   rw[e,←em];unfold K33.CN;rw[hQ];cases hr:K31.rot ((gm T).getD (plc (gm T) x) []) x with
   |nil=>exact absurd hr hr0
   |cons y r=>exact⟨λq=>(by cases q),λq=>(by cases q)⟩
  refine⟨by rw[e];exact lo,ne1.1,?_⟩
  have h0:([]:List Int)∉gm T:=λq=>by
   obtain⟨r,hr,er⟩:=mMq.mp ((oJ T).mem_iff.mp q);have r0:r=[]:=by
    have:=congrArg bF er;rw[uG]at this;exact aV.mp this
   rw[K11.ve cnT (by rw[←r0];exact hr) nd]at hE
   exact hE (by rw[show gm [[]]=[[]] from dE.mp (oJ [[]])];rfl)
  rw[cU.mpr h0,cU.mpr λq=>ne1.2 (mSq.mp q).symm]
end K35
namespace K35
open PySem L2 Mr Z Xe Zl
open K12 (gm oJ)
open K31 (yg Nm Wm)
theorem FU{a b:List (List (List Int))}(hp:a.Perm b):rB a=rB b:=CU ((rW a).trans hp) (zf a)
def oC(cs:List (List (List Int))):AV:=.ow (cs.map λc=>.sh (dC c))
theorem EO(cs:List (List (List Int))):nj (oC cs) = .list (cs.map dC):=by
 unfold oC;rw[qk,mPq];exact congrArg D.list (mCq λr _=>pT _)
theorem IX{L:List (List (List Int))}(h:∀G∈L,Cg G):qM qL (oM (okX K34.oa) (nz (oS 0) nY)) [] (L.map dM)=some ((L.map xJ).map λc=>.sh (dC c)):=by
 have key:∀{L:List (List (List Int))},(∀G∈L,Cg G)->qM qL (oM (okX K34.oa) (nz (oS 0) nY)) [] (L.map dM)=some (L.map λG=>.sh (dC (xJ G))):=λ{L} h=>by
  rw[Z.rG (λd=>match d with|.list ds=>.sh (dC (xJ ((uf ds).getD [])))|_=>.sh .non)]
  .rw [mPq];refine congrArg some (mCq λG _=>?_)
   show AV.sh (dC (xJ ((uf (G.map dI)).getD [])))=_;rw[xD];rfl
  .intro d hd;obtain⟨G,hG,rfl⟩:=mMq.mp hd;have ok:=(h G hG).ok;refine⟨[some (.sh (dM G))],?_⟩;show _=some (AV.sh (dC (xJ ((uf (G.map dI)).getD []))),_);rw[xD,cO]
   simp_arith [QW,ok,SE]
 rw[key h,mPq];rfl
theorem D1{P:List (List (List Int))}(hm:K11.Pm P) (cn:∀T∈P,K11.Cn T) (cg:∀T∈P,Cg (gm T)) (hl:P.length<=1000):sA [dM (gm P.flatten)]=some (oC (rB (P.map λT=>xJ (gm T)))):=by
 obtain⟨PS,e,eP⟩:=K11.Ep hm cn;have cL:∀G∈rB (P.map gm),Cg G:=λG hG=>by
  obtain⟨T,hT,rfl⟩:=mMq.mp ((rW _).mem_iff.mp hG);exact cg T hT
 have cc:=IX cL;have hx:nj (.ow (PS.map (K51.pA (gm P.flatten)))) = .list ((rB (P.map gm)).map dM):=by
  rw[←eP,qk,mPq,mPq];refine congrArg D.list (mCq λps _=>?_)
  show nj (.ow (ps.map λk=>aI ((gm P.flatten).getD k [])))=dM _
  rw[qk,mPq];show _=D.list ((ps.map λk=>(gm P.flatten).getD k []).map dI)
  rw[mPq];exact congrArg D.list (mCq λk _=>og _)
 have ll:(rB (P.map gm)).length<=qB:=CV (by rw[(rW _).length_eq,lMq];lia)
 have pe:((rB (P.map gm)).map xJ).Perm (P.map λT=>xJ (gm T)):=by
  have:=(rW (P.map gm)).map xJ;rw[mPq]at this;exact this
 have sc:=FU pe;have ne:(∀c∈(rB (P.map gm)).map xJ,c≠[])=True:=eq_true λc hc=>by
  obtain⟨G,hG,rfl⟩:=mMq.mp hc;exact(cL G hG).ne
 have cd:=ug ((rB (P.map gm)).map xJ);rw[←sc];generalize (rB (P.map gm))=L at cc hx ll ne cd;generalize L.map xJ=C at cc ne cd;have sC:(C.map λc=>AV.sh (dC c)).map nj=C.map dC:=by rw[mPq];exact mCq λr _=>pT _
 unfold oC
 simp_arith [sA,DR,e,hx,cc,ll,HJ,sC,cd,ne]
theorem Dw:∀rs:List (List Int),(rs.map tF).count []=rs.count []
 | []=>rfl
 | []::rs=>by rw[ak,A7,eV,eV,Dw rs]
 | (x::r)::rs=>by
  have hg:tF (x::r)≠[]:=λq=>by
   have:=congrArg bF q;rw[uG]at this;cases this
  rw[ak,eM hg,eM (by simp),Dw rs]
theorem Kc:∀{P:List (List (List Int))},(∀T∈P,Cg (gm T))->(P.map λT=>xJ (gm T)).count [[]]=(gm P.flatten).count []
 |P,h=>by
  have e1:(gm P.flatten).count []=P.flatten.count []:=by rw[(oJ _).count_eq,Dw]
  rw[e1]
  clear e1
  induction P with
  |nil=>rfl
  |cons T P ih =>
   have b:=(h T (ay ..)).bare;rw[(oJ T).count_eq,Dw]at b;have:=ih λT hT=>h T (mCo _ hT)
   rw[ak,fCq,cAq,←this,←b,←cAq];rfl
def oR(rs:List (List Int)):AV:=.ow (rs.map λr=>.sh (dI r))
theorem JY(rs:List (List Int)):nj (oR rs)=dM rs:=by
 unfold oR;rw[qk,mPq];exact congrArg D.list (mCq λr _=>pT _)
theorem L7{P:List (List (List Int))}(hg:∀T∈P,Cg (gm T)) (hr:∀T∈P,oj [dM T]=some (.ow ((gm T).map aI))) (hl:P.flatten.length<=1000) (hP:P.length<=1000) {v0 v1 v2 v3 v4 v5 v6 v7 v8:Option AV}:∃v11,tw 11 wK (P.map dM) [v0,v1,v2,v3,v4,v5,v6,v7,v8,some (.ow []),some (.ow []),none,none,none,none]=some (.nx [v0,v1,v2,v3,v4,v5,v6,v7,v8,some (oR P.flatten),some (oC (P.map λT=>xJ (gm T))),v11,none,none,none]):=by
 have key:=zr (x:=11) (body:=wK) (λi S=>∃v11,S=[v0,v1,v2,v3,v4,v5,v6,v7,v8,some (oR (P.take i).flatten),some (oC ((P.take i).map λT=>xJ (gm T))),v11,none,none,none]) (ds:=P.map dM) (S:=[v0,v1,v2,v3,v4,v5,v6,v7,v8,some (.ow []),some (.ow []),none,none,none,none]) ⟨none,rfl⟩ (by
  rintro i d S hd ⟨v11,rfl⟩;rw[gMq]at hd;obtain⟨T,hT,rfl⟩:=oMq.mp hd;have hi:=(gSq.mp hT).1;have hTP:=mGq hT;have ls:(P.take (i+1)).flatten.length<=P.flatten.length:=by
   have:=congrArg (λz=>z.flatten.length) (aZ (i+1) P)
   simp only[fAq,lAq]at this;lia
  have et:P.take (i+1)=P.take i++[T]:=tS hT;have ef:(P.take (i+1)).flatten=(P.take i).flatten++T:=by rw[et,fAq,aY]
  rw[ef,lAq]at ls;have l1:(P.take i).flatten.length+T.length<=qB:=CV (by lia)
  have l2:(P.take i).length<qB:=by rw[lTq];show _<16777216;lia
  have ea:(P.take i).flatten.map (λr=>AV.sh (dI r))++T.map (λr=>.sh (dI r))=((P.take i).flatten++T).map λr=>.sh (dI r):=by rw[mBq]
  have eb:((P.take i).map λT=>xJ (gm T)).map (λc=>AV.sh (dC c))++[.sh (dC (xJ (gm T)))]=((P.take (i+1)).map λT=>xJ (gm T)).map λc=>.sh (dC c):=by rw[et,mBq,mBq];rfl
  have ig:=hr T hTP;have ok:=(hg T hTP).ok;have sG:((gm T).map aI).map nj=(gm T).map dI:=by rw[mPq];exact mCq λr _=>og r
  refine⟨[v0,v1,v2,v3,v4,v5,v6,v7,v8,some (oR ((P.take i).flatten++T)),some (oC ((P.take (i+1)).map λT=>xJ (gm T))),some (.sh (dM T)),none,none,none],?_,some (.sh (dM T)),by rw[ef]⟩
  unfold oR oC;generalize xJ (gm T)=c at ok eb;unfold dM at ig ok
  simp_arith [wK,dM,l1,ea,ig,sG,QW,ok,SE,l2,eb])
 obtain⟨S',e,v11,rfl⟩:=key;rw[lMq,bH]at e;exact⟨v11,e⟩
theorem Ja(k:Nat):qM qL (sq (nz (sq nY) nY)) [] (oY 0 k)=some (aE k (.ow [.ow []])):=by
 rw[Z.rG (λ_=>.ow [.ow []])]
 .rw [List.map_const',pZ]
 .intro d hd;refine⟨[some (.sh d)],?_⟩
  simp_arith []
structure Bu (P:List (List (List Int))):Prop where
 pm:K11.Pm P
 cn:∀T∈P,K11.Cn T
 cg:∀T∈P,Cg (gm T)
 gd:∀T∈P,oj [dM T]=some (.ow ((gm T).map aI))
 fl:P.flatten.flatten.length<=400
 lt:P.flatten.length<=400
 lp:P.length<=400
theorem Nn:K11.Cn [[]]:=⟨by simp,by simp,λk h1 h2=>by simp at h2;lia⟩
theorem SG{P:List (List (List Int))}{nm:List Int}(hn:Nm nm) (cn:∀T∈P,K11.Cn T/\Cg (gm T)/\T.flatten.length<=200/\T.length<=64) (cnt:∀a,P.flatten.flatten.count a<=(yg nm).count a) (lt:P.flatten.length<=400) (lp:P.length<=400) (fl:P.flatten.flatten.length<=400):Bu P:=by
 have bn:=K31.yP hn;have nd:P.flatten.flatten.Nodup:=cI.mpr λa=>br (cnt a) (cI.mp bn a)
 have pG:(gm P.flatten).flatten.Perm P.flatten.flatten:=(vt (oJ _)).trans (qe qg _);have lG:(gm P.flatten).length=P.flatten.length:=K31.Bh _;have ng:∀z∈P.flatten.flatten, -z∈P.flatten.flatten:=λe he=>by
  obtain⟨r,hr,her⟩:=mFq.mp he;obtain⟨T,hT,hrT⟩:=mFq.mp hr;obtain⟨r',hr',he'⟩:=mFq.mp ((cn T hT).1.clo e (mFq.mpr ⟨r,hrT,her⟩));exact mFq.mpr ⟨r',mFq.mpr ⟨T,hT,hr'⟩,he'⟩
 refine⟨⟨nd,⟨pG.nodup_iff.mpr nd,by rw[pG.length_eq];lia,by lia,λe he=>pG.mem_iff.mpr (ng e (pG.mem_iff.mp he))⟩⟩,λT hT=>(cn T hT).1,λT hT=>(cn T hT).2.1,λT hT=>?_,fl,lt,lp⟩
 obtain⟨_,_,f1,f2⟩:=cn T hT;exact uZ (rs:=T) (λr hr=>by
  have:=du.length_le (aQ hr);lia) (by show _<=16777216;lia)
def tl:MS:=(nQ (oH 9 (sq nY))
 (nQ (oH 10 (sq nY))
 (nQ (Df 11 (oS 8) wK)
 (nQ (oH 12 (oM Zl.oj (nz (oS 9) nY)))
 (nQ (oH 13 (oM K51.vc (nz (oS 12) nY)))
 (nQ (oH 14 (oM K35.sA (nz (oS 13) nY)))
 (nQ (DL (Fe (Hh (uw (vQ Kd (ni (mZ 14) (ni (rC (.ty "list")) nO))))) (Fe (uw (oV yE (mZ 13) (mZ 12))) (uw (oV yE (rOf (oM K35.sA (nz (sq nY) nY))) (rOf (sq nY)))))) (sH (kSc (rC (.bl false)))) rY)
 (nQ (DL (Fe (uw (oV yE (mZ 14) (rOf (xy (qq 10))))) (uw (oV Q6 (Rb "list" Cb (mZ 14) (ni (rOf (BE (nz (BE nY) nY))) nO)) (Ib (mZ 12))))) (sH (kSc (rC (.bl false)))) rY)
 (nQ (vY 14 (BE (nz (BE nY) nY)))
 (sH (kSc (oV AN (rOf (oM K35.sA (nz (oS 13) nY))) (rOf (xy (qq 10)))))))))))))))
theorem Oe{P:List (List (List Int))}(h:Bu P) {x:AV}(hx:nj x = .list (P.map dM)) {v0 v1 v2 v3 v4 v5 v6 v7:Option AV}:tl [v0,v1,v2,v3,v4,v5,v6,v7,some x,none,none,none,none,none,none]=some (.rt (.sh (.bl true))):=by
 have h1:=h.fl;have h2:=h.lt;have h3:=h.lp;obtain⟨v11,lo⟩:=L7 h.cg h.gd (by lia) (by lia) (v0:=v0) (v1:=v1) (v2:=v2) (v3:=v3) (v4:=v4) (v5:=v5) (v6:=v6) (v7:=v7) (v8:=some (.sh (.list (P.map dM))))
 have ig:oj [dM P.flatten]=some (.ow ((gm P.flatten).map aI)):=uZ (rs:=P.flatten) (λr hr=>by
  have:=du.length_le (aQ hr);lia) (by show _<=16777216;lia)
 have lG:(gm P.flatten).length=P.flatten.length:=K31.Bh _;have co:=D1 h.pm h.cn h.cg (by lia)
 have cb:=Kc h.cg;have g0:gm ([]:List (List (List Int))).flatten=[]:=iu.mp (oJ []);have c0:sA [.list []]=some (.ow []):=by
  have:=D1 (P:=[]) ⟨aT,by rw[g0];exact⟨aT,aW _,aW _,λe he=>by cases he⟩⟩ (λT hT=>by cases hT) (λT hT=>by cases hT) (by simp)
  rw[g0,eX,show rB []=[] from iu.mp (rW [])]at this
  exact this
 have n0:yE (.list []) (.list [])=some (.bl false):=OR [];have cp:=K51.NP (rs:=gm P.flatten) (by lia)
 have sO:=JY P.flatten;have ne:(∀c∈P.map λT=>xJ (gm T),c≠[])=True:=eq_true λc hc=>by
  obtain⟨T,hT,rfl⟩:=mMq.mp hc;exact(h.cg T hT).ne
 have lC:(P.map λT=>xJ (gm T)).length<=400:=by rw[lMq];exact h3
 generalize gm P.flatten=M at ig co cb cp;generalize (P.map λT=>xJ (gm T))=C at lo co cb ne lC
 have sM:(M.map aI).map nj=M.map dI:=by rw[mPq];exact mCq λr _=>og r
 have cd:=ug C;have sC:=EO C;have sS:=EO (rB C);have nM:yE (.list (M.map dI)) (.list (M.map dI))=some (.bl false):=by
  have:=Qq M M;rw[decide_eq_true rfl]at this;exact this
 have nc:=OR (rB C);have ec:=Oq (rB C);have ct:Cb (.list ((rB C).map dC)) [.tup [.tup []]]=some (.int ((rB C).count [[]]:Nat)):=P6 (rB C) [[]];have s10:=K34.B9 C;have eb:M.count []=M.countP (·=([]:List Int)):=gT λr _=>by rw[beq_iff_eq,decide_eq_true_iff]
 rw[(rW C).count_eq,cb,eb]at ct;have ro:=xD M;have dn:Q6 (.int (M.countP (·=([]:List Int)):Nat)) (.int (M.countP (·=([]:List Int)):Nat))=some (.bl false):=by rw[Ia,decide_eq_true rfl];rfl
 have is:∀ds:List D,Kd [.list ds,.ty "list"]=some (.bl true):=λ_=>rfl
 have lS:(rB C).length<qB:=by rw[(rW C).length_eq];show _<16777216;lia
 have sS':((rB C).map λc=>AV.sh (dC c)).map nj=(rB C).map dC:=by rw[mPq];exact mCq λr _=>pT _
 have sC':(C.map λc=>AV.sh (dC c)).map nj=C.map dC:=by rw[mPq];exact mCq λr _=>pT _
 unfold oC at lo co sC sS;unfold oR at lo sO;unfold dM at lo ig co cp sO
 simp_arith [tl,hx,dM,lo,ig,sO,sM,cp,co,is,nM,c0,n0,HJ,sC',cd,ne,sS',nc,ct,ro,dn,lS,ec,s10]
theorem Qm{ns:List Int}(hns:ns.length<=63):LL [.scr ns]=some (.sh (.bl true)):=by
 obtain⟨st,sh,a,b,h1,_,h2,_,h3,h4,en⟩:=K31.NH (cell ns 0) (cell ns 1);have hnm:=K31.Pw (b:=b) (n:=18) (by decide) h1 h2 h3 h4
 have nc:=K31.GT (n:=18) en;have l18:(K31.OQ st sh a b 18).length=18:=by unfold K31.OQ;rw[lMq,dh]
 generalize K31.OQ st sh a b 18=nm at hnm nc l18;have n1:vZ nm none (some 6)=nm.take 6:=wX nm 6 (by lia)
 have n2:vZ nm (some 6) (some 12)=(nm.drop 6).take 6:=D5 nm 6 12;have n3:vZ nm (some 12) none=nm.drop 12:=xh nm 12 (by lia)
 have ns':nm=nm.take 6++((nm.drop 6).take 6++nm.drop 12):=by
  have:=aZ 6 (nm.drop 6);rw[ij]at this;rw[this,aZ]
 have hcs:vZ ns (some 3) (some 66)=(ns.drop 3).take 63:=D5 ns 3 66;have hl:((ns.drop 3).take 63).length<=63:=by rw[lTq];exact Nat.min_le_left ..
 generalize (ns.drop 3).take 63=cs at hcs hl;have em:∀i:Int,∃j:Nat,j<=cs.length/\rP (.int i) (.int ((cs.length:Int)+1))=some (.int (j:Int)):=λi=>by
  have p0:0<=i % ((cs.length:Int)+1):=bg _ (by lia)
  have p1:i % ((cs.length:Int)+1)<(cs.length:Int)+1:=bb _ (by lia)
  refine⟨(i % ((cs.length:Int)+1)).toNat,by lia,?_⟩
  rw[gH p0];exact rO (by lia)
 obtain⟨j1,hj1,e1⟩:=em (cell ns 2 / 2);obtain⟨j2,hj2,e2⟩:=em (cell ns 2 / 128);have em3:∀i:Int,∃k:Nat,k<=2/\rP (.int i) (.int 3)=some (.int (k:Int)):=λi=>by
  have p0:0<=i % 3:=bg _ (by lia)
  have p1:i % 3<3:=bb _ (by lia)
  refine⟨(i % 3).toNat,by lia,?_⟩
  rw[gH p0];exact rO (by decide)
 obtain⟨m,hm,e3⟩:=em3 (cell ns 2 / 8192);obtain⟨k,hk,e4⟩:=em3 (cell ns 2 / 24576);have d2:=vH (i:=cell ns 2) (j:=2) (by decide) (by decide)
 have d128:=vH (i:=cell ns 2) (j:=128) (by decide) (by decide)
 have d8192:=vH (i:=cell ns 2) (j:=8192) (by decide) (by decide)
 have d24576:=vH (i:=cell ns 2) (j:=24576) (by decide) (by decide)
 have m2:=rO (i:=cell ns 2) (j:=2) (by decide)
 have q1:=wX cs j1 hj1;have q2:=xh cs j1 hj1;have q3:=wX cs j2 hj2;have b1:(cs.take j1).length<=63:=by rw[lTq];lia
 have b2:(cs.drop j1).length<=63:=by rw[aR];lia
 have b3:(cs.take j2).length<=63:=by rw[lTq];lia
 generalize cs.take j1=A1 at q1 b1;generalize cs.drop j1=A2 at q2 b2;generalize cs.take j2=A3 at q3 b3;have nA:Nm (nm.take 6):=⟨by have:=hnm.len;rw[lTq];lia,hnm.nd.sublist (bh _ _),λx hx=>hnm.lo x (bp hx)⟩
 have nB:Nm ((nm.drop 6).take 6):=⟨by have:=hnm.len;rw[lTq,aR];lia,hnm.nd.sublist ((bh _ _).trans (bz _ _)),λx hx=>hnm.lo x (ba (bp hx))⟩
 have nC:Nm (nm.drop 12):=⟨by have:=hnm.len;rw[aR];lia,hnm.nd.sublist (bz _ _),λx hx=>hnm.lo x (ba hx)⟩
 obtain⟨T1,l1,t1,c1,r1,p1,s1⟩:=K31.A6 (nm:=nm.take 6) (cs:=A1) (wild:=decide (cell ns 2 % 2=1)) b1 nA.len;obtain⟨T2,l2,t2,c2,r2,p2,s2⟩:=K31.A6 (nm:=(nm.drop 6).take 6) (cs:=A2) (wild:=decide (cell ns 2 % 2=1)) b2 nB.len;obtain⟨T3,l3,t3,c3,r3,p3,s3⟩:=K31.A6 (nm:=nm.drop 12) (cs:=A3) (wild:=false) b3 nC.len;have w1:Wm (nm.take 6) T1:=⟨⟨l1,c1⟩,r1,p1,s1⟩;have w2:Wm ((nm.drop 6).take 6) T2:=⟨⟨l2,c2⟩,r2,p2,s2⟩;have w3:Wm (nm.drop 12) T3:=⟨⟨l3,c3⟩,r3,p3,s3⟩;have lA:(nm.take 6).length<=6:=by rw[lTq];lia
 have lB:((nm.drop 6).take 6).length<=6:=by rw[lTq];lia
 have lC:(nm.drop 12).length<=6:=by rw[aR];lia
 have cnt:∀a,T1.flatten.count a+T2.flatten.count a+T3.flatten.count a<=(yg nm).count a:=λa=>by
  have e:(yg nm).count a=(yg (nm.take 6)).count a+((yg ((nm.drop 6).take 6)).count a+(yg (nm.drop 12)).count a):=by
   conv=>lhs;rw[ns']
   unfold K31.yg;rw[fh,fh,cAq,cAq]
  have:=c1 a;have:=c2 a;have:=c3 a;lia
 have each:∀{nn:List Int}{T:List (List Int)},Nm nn->nn.length<=6->Wm nn T->K11.Cn T/\Cg (gm T)/\T.flatten.length<=12/\T.length<=64:=λ{nn T} hn hl w=>⟨⟨λq=>(by have:=w.pos;rw[q]at this;cases this),λz hz=>w.neg hn hz,w.tr⟩,RJ hn w,by have:=w.le;lia,w.len⟩
 have E1:=each nA lA w1;have E2:=each nB lB w2;have E3:=each nC lC w3;have E0:K11.Cn [[]]/\Cg (gm [[]])/\([[]]:List (List Int)).flatten.length<=12/\([[]]:List (List Int)).length<=64:=⟨Nn,by rw[show gm [[]]=[[]] from dE.mp (oJ [[]])];exact HY,by simp,by simp⟩
 have bu:Bu (([T1,T2,T3]:List (List (List Int))).take (1+m)++aE k [[]]):=by
  have mem:∀T∈([T1,T2,T3]:List (List (List Int))).take (1+m)++aE k [[]],K11.Cn T/\Cg (gm T)/\T.flatten.length<=12/\T.length<=64:=λT hT=>by
   rcases mAq.mp hT with z|z
   .have z:=bp z;simp only[aj,fF,or_false]at z;rcases z with z|z|z
    .rw [z];exact E1
    .rw [z];exact E2
    .rw [z];exact E3
   .rw [(List.mem_replicate.mp z).2];exact E0
  have rf:∀k:Nat,(aE k ([[]]:List (List Int))).flatten.flatten=[]/\(aE k ([[]]:List (List Int))).flatten.length=k:=λk=>by
   induction k with
   |zero=>exact⟨rfl,rfl⟩
   |succ k ih =>
    rw[gE,fCq,fAq,ih.1,lAq,ih.2];exact⟨rfl,by simp;lia⟩
  have e12:=E1.2.2;have e22:=E2.2.2;have e32:=E3.2.2;have tk:(([T1,T2,T3]:List (List (List Int))).take (1+m)).flatten.length<=192/\(([T1,T2,T3]:List (List (List Int))).take (1+m)).flatten.flatten.length<=36/\∀a,(([T1,T2,T3]:List (List (List Int))).take (1+m)).flatten.flatten.count a<=T1.flatten.count a+T2.flatten.count a+T3.flatten.count a:=by
   have hmm:m=0∨m=1∨m=2:=by lia
   rcases hmm with rfl|rfl|rfl
   all_goals
    refine⟨?_,?_,λa=>?_⟩
    all_goals
     simp only[fP,fy,List.take_succ_cons,gq,fCq,List.flatten_nil,fAq,lAq,cAq,bC,List.count_nil];lia
  refine SG hnm (λT hT=>⟨(mem T hT).1,(mem T hT).2.1,by have:=(mem T hT).2.2.1;lia,(mem T hT).2.2.2⟩) (λa=>?_) ?_ ?_ ?_
  .rw [fAq,fAq,(rf k).1,aNq];exact br (tk.2.2 a) (cnt a)
  .rw [fAq,lAq,(rf k).2];lia
  .rw [lAq,lTq,dc];simp only[lCq,bC];lia
  .rw [fAq,fAq,(rf k).1,aNq];lia
 have lw:LG=(nQ (oH 1 (kSc (vR Zl.oy (ni (mZ 0) (ni (rC (.int 0)) nO)))))
   (nQ (oH 2 (kSc (vR Zl.oy (ni (mZ 0) (ni (rC (.int 1)) nO)))))
   (nQ (oH 3 (kSc (vR Zl.oy (ni (mZ 0) (ni (rC (.int 2)) nO)))))
   (nQ (oH 4 (Br (qq 0) (qm (rC (.int 3))) (qm (rC (.int 66)))))
   (nQ (oH 5 (uD (Q8 (ni (rC (.int 18)) nO)) [1,2] qL (kSc (vR K31.rz (ni (mZ 1) (ni (mZ 2) (ni (mZ 0) nO)))))))
   (nQ (oH 6 (kSc (oV rP (oV xl (mZ 3) (rC (.int 2))) (oV yW (vQ qD (ni (mZ 4) nO)) (rC (.int 1))))))
   (nQ (oH 7 (kSc (oV rP (oV xl (mZ 3) (rC (.int 128))) (oV yW (vQ qD (ni (mZ 4) nO)) (rC (.int 1))))))
   (nQ (oH 8 (sq (nz (oM K31.qz (nz (Br (qq 4) sJ (qm (mZ 6))) (nz (Br (qq 5) sJ (qm (rC (.int 6)))) (nz (kSc (oV Fw (oV rP (mZ 3) (rC (.int 2))) (rC (.int 1)))) nY)))) nY)))
   (nQ (vY 8 (oM K31.qz (nz (Br (qq 4) (qm (mZ 6)) sJ) (nz (Br (qq 5) (qm (rC (.int 6))) (qm (rC (.int 12)))) (nz (kSc (oV Fw (oV rP (mZ 3) (rC (.int 2))) (rC (.int 1)))) nY)))))
   (nQ (vY 8 (oM K31.qz (nz (Br (qq 4) sJ (qm (mZ 7))) (nz (Br (qq 5) (qm (rC (.int 12))) sJ) (nz (kSc (rC (.bl false))) nY)))))
   (nQ (oH 8 (IL (lOf (Br (qq 8) sJ (qm (oV yW (rC (.int 1)) (oV rP (oV xl (mZ 3) (rC (.int 8192))) (rC (.int 3))))))) (lOf (uD (Q8 (ni (oV rP (oV xl (mZ 3) (rC (.int 24576))) (rC (.int 3))) nO)) [] qL (sq (nz (sq nY) nY))))))
   tl))))))))))):=rfl
 have ec:vZ [dM T1,dM T2,dM T3] none (some ((1+m:Nat):Int))=(([T1,T2,T3]:List (List (List Int))).take (1+m)).map dM:=by
  rw[show [dM T1,dM T2,dM T3]=[T1,T2,T3].map dM from rfl,yw,wX _ (1+m) (by simp;lia)]
 have i1:(1:Int)+(m:Int)=((1+m:Nat):Int):=by lia
 have bk:=Ja k;have rk:=zI (n:=k) (by lia)
 have lk:(oY 0 k).length<=qB:=by rw[pZ];exact CV (by lia)
 have r18:Cz [.int 18]=some (oY 0 18):=zI (n:=18) (by decide)
 have l18':(oY 0 18).length<=qB:=by rw[pZ];show 18<=16777216;decide
 have sn:=og nm;have sc:=og cs;have sT:∀T:List (List Int),nj (.ow (T.map aI))=dM T:=λT=>by rw[qk,mPq];exact congrArg D.list (mCq λr _=>og r)
 have sK:(aE k (AV.ow [.ow []])).map nj=(aE k ([[]]:List (List Int))).map dM:=by rw[gO,gO];rfl
 have cat:(([T1,T2,T3]:List (List (List Int))).take (1+m)).map dM++(aE k ([[]]:List (List Int))).map dM=(([T1,T2,T3]:List (List (List Int))).take (1+m)++aE k [[]]).map dM:=by rw[mBq]
 have lcat:(([T1,T2,T3]:List (List (List Int))).take (1+m)).length+k<=qB:=by rw[lTq];simp only[lCq,bC];exact CV (by lia)
 generalize ([T1,T2,T3]:List (List (List Int))).take (1+m)=P1 at bu ec cat lcat;have fin:=λv4 v5=>Oe bu (x:=.ow (((P1++aE k [[]]).map dM).map AV.sh)) (by rw[qk,mPq];exact congrArg D.list ((mCq λr _=>pT _).trans (dg _))) (v0:=some (.sh (.scr ns))) (v1:=some (.sh (.int (cell ns 0)))) (v2:=some (.sh (.int (cell ns 1)))) (v3:=some (.sh (.int (cell ns 2)))) (v4:=v4) (v5:=v5) (v6:=some (.sh (.int (j1:Int)))) (v7:=some (.sh (.int (j2:Int))))
 have g1:(1<qB)=True:=eq_true (by show 1<16777216;decide)
 have g2:(2<qB)=True:=eq_true (by show 2<16777216;decide)
 unfold dI at t1 t2 t3
 simp_arith [LL,lw,Re,Ru,Rj,hcs,r18,l18',nc,d2,d128,d8192,d24576,e1,e2,e3,e4,m2,sn,sc,dI,q1,q2,q3,n1,n2,n3,yw,t1,t2,t3,g1,g2,sT,i1,ec,rk,bk,lk,sK,cat,dc,lcat,fin]
end K35
namespace K35
open PySem L2 Mr Z Xe
theorem Qw{l:W.OpenLaw}{w:iP}{K:W.Frag}{h:Heap}{mg:Str->Option Value}{fa:Addr}(X:K.In h) (G:h.Ns iM mg) (hfa:mg "law" = some (.ref fa))
  {M:Addr}
  {sP:Addr}
  {rq:Addr}
  (a0:At K "told_ends" rZ f0 fd0)
  (a1:At K "ends_of" uS f1 fd1)
  (a2:At K "places_at" sj f2 fd2)
  (a3:At K "reached" uT f3 fd3)
  (a4:At K "pieces" vb f4 fd4)
  (a5:At K "refuse_not_one_piece" oP f5 fd5)
  (a6:At K "turn_from" tu f6 fd6)
  (a7:At K "round_turns" rn f7 fd7)
  (a8:At K "turn_code" tG f8 fd8)
  (a9:At K "code_of" tQ f9 fd9)
  (a10:At K "round_code" sm f10 fd10)
  (a11:At K "least_code" qU f11 fd11)
  (a12:At K "codes" ym f12 fd12)
  (a13:At K "_law_cell" wI f13 fd13)
  (a14:At K "_law_name" wJ f14 fd14)
  (a15:At K "_law_turns" vf f15 fd15)
  (a16:At K "_law_turned" uh f16 fd16)
  (a17:At K "_law_good" wk f17 fd17)
  (a18:At K "_law_copy" wy f18 fd18)
  (a19:W.nsIn K iM "law" = some (some (.ref f19))) (l19:K.lookup f19=some ⟨oc19,od19,.func (W.fnOf "law" "law" (tj xr) (rJ xr) (nD xr) .none kV19 dc19 pm19 an19 cd19 ct19),sl19⟩) (c19:W.codeIn K cd19 "law" = true) (k19:W.keepIn K (.ref f19)=true)
  (aM:W.nsIn K iM "MapError" = some (some (.ref M))) (xM:yo K "MapError" M xG=true)
  (rM:W.readsIn K M (.type "type")=true) (sM:W.specialIn K (.ref M) "__getattribute__" = some (some (.builtin "type.__getattribute__"))) (fM:W.findCls K (.ref M) (.type "type") "__init__" = some (.val (.builtin "ValueError.__init__")))
  (Aw:W.nsIn K iM "NotThere" = some (some (.ref sP))) (FN:yo K "NotThere" sP (.ref M::xG)=true) (Gx:RY K sP=true)
  (FF:W.findIn K (.ref sP) "__init__" = some (some (.ref xA))) (Bg:K.lookup xA=some ⟨OU,OH,.func (W.fnOf "__init__" "NotThere.__init__" (tj tD) (rJ tD) (nD tD) .none On Om OO OS D0 Ov),OF⟩) (An:W.codeIn K D0 "NotThere.__init__" = true) (Ay:W.keepIn K (.ref xA)=true) (Eb:W.isFn K (.ref xA)=true) (EZ:W.keepIn K (.ref sP)=true) (EC:W.findIn K (.ref sP) "end" = some none)
  (BG:W.nsIn K iM "NotOnePiece" = some (some (.ref rq))) (BB:yo K "NotOnePiece" rq (.ref M::xG)=true) (BL:RY K rq=true)
  (BD:W.findIn K (.ref rq) "__init__" = some (some (.builtin "ValueError.__init__"))) (Bc:W.keepIn K (.ref rq)=true)
  (btu:W.nsIn K iM "tuple" = some none)
  (z0:W.nsIn K iM "len" = some none) (z1:W.nsIn K iM "min" = some none) (z2:W.nsIn K iM "max" = some none) (z3:W.nsIn K iM "abs" = some none) (z4:W.nsIn K iM "all" = some none) (z5:W.nsIn K iM "sorted" = some none) (z6:W.nsIn K iM "isinstance" = some none) (z7:W.nsIn K iM "list" = some none) (z8:W.nsIn K iM "int" = some none) (z9:W.nsIn K iM "bool" = some none) (z10:W.nsIn K iM "str" = some none) (z11:W.nsIn K iM "dict" = some none) (z12:W.nsIn K iM "zip" = some none) (z13:W.nsIn K iM "enumerate" = some none) (z14:W.nsIn K iM "range" = some none) (z15:W.nsIn K iM "reversed" = some none) :
  ∃fd:iT,(∀(s:iD) (v:Value),kY s fd ⟨[v],[]⟩ [("_law_script", v)])/\∀base:Heap,K.In base->base.Ns iM mg->xC l.prog w K mg base Os 7 fa fd ["_law_script"] (Hw K):=by
 have e:=hfa.symm.trans (W.mg_of X G a19);cases e;have B:Bt mg:=⟨W.mg_none_of X G z0,W.mg_none_of X G z1,W.mg_none_of X G z2,W.mg_none_of X G z3,W.mg_none_of X G z4,W.mg_none_of X G z5,W.mg_none_of X G z6,W.mg_none_of X G z7,W.mg_none_of X G z8,W.mg_none_of X G z9,W.mg_none_of X G z10,W.mg_none_of X G z11,W.mg_none_of X G z12,W.mg_none_of X G z13,W.mg_none_of X G z14,W.mg_none_of X G z15⟩;have D19:zG K mg "law" xr ["_law_script"] _ _:=⟨Bp l19 c19 k19,W.mg_of X G a19,b1 (Bp l19 c19 k19) λ_ _ _ _ _ _ _=>rfl⟩
 refine⟨W.fnOf "law" "law" (tj xr) (rJ xr) (nD xr) .none kV19 dc19 pm19 an19 cd19 ct19,λs v=>.of_eq rfl,λbase kb nb=>?_⟩
 have bTU:=W.mg_none_of X G btu;have QD:=MW X G aM xM;have Gk:=Lh Aw aM FN xM Gx;have sV:=Cu (P:=l.prog) (w:=w) (base:=base) (Bp Bg An Ay) (b2 (Bp Bg An Ay) λ_ _ _ _ _ _ _ _=>rfl) Gk (W.mg_of X G aM) rM sM fM FF Eb EZ EC (W.mg_of X G Aw)
 have BK:=Lh BG aM BB xM BL;have rD:=Nv X G BK BD Bc;have F0:=CG (P:=l.prog) (w:=w) (base:=base) (CA X G a0 (b1 a0.F λ_ _ _ _ _ _ _=>rfl)) B
 have F1:=Gb (CA X G a1 (b1 a1.F λ_ _ _ _ _ _ _=>rfl)) B F0
 have F2:=Dk (P:=l.prog) (w:=w) (base:=base) (CA X G a2 (b1 a2.F λ_ _ _ _ _ _ _=>rfl)) B
 have F3:=Gm (CA X G a3 (b2 a3.F λ_ _ _ _ _ _ _ _=>rfl)) B F2
 have F4:=Jg (CA X G a4 (b1 a4.F λ_ _ _ _ _ _ _=>rfl)) B F3
 have F5:=uY (CA X G a5 (b1 a5.F λ_ _ _ _ _ _ _=>rfl)) B rD F4
 have F6:=C9 (P:=l.prog) (w:=w) (base:=base) (CA X G a6 (b2 a6.F λ_ _ _ _ _ _ _ _=>rfl)) B
 have F7:=AQ (CA X G a7 (b2 a7.F λ_ _ _ _ _ _ _ _=>rfl)) B sV F2 F6
 have F8:=DF (P:=l.prog) (w:=w) (base:=base) (CA X G a8 (b2 a8.F λ_ _ _ _ _ _ _ _=>rfl)) B bTU
 have F9:=FB (CA X G a9 (b1 a9.F λ_ _ _ _ _ _ _=>rfl)) B bTU F0 F8
 have F10:=BN (CA X G a10 (b2 a10.F λ_ _ _ _ _ _ _ _=>rfl)) B F9 F7
 have F11:=Bz (CA X G a11 (b1 a11.F λ_ _ _ _ _ _ _=>rfl)) B F5 F1 F9 F10
 have F12:=Lq (CA X G a12 (b1 a12.F λ_ _ _ _ _ _ _=>rfl)) B F11 F4
 have F13:=Jr (P:=l.prog) (w:=w) (base:=base) (CA X G a13 (b2 a13.F λ_ _ _ _ _ _ _ _=>rfl)) B
 have F14:=IM (P:=l.prog) (w:=w) (base:=base) (CA X G a14 (b3 a14.F λ_ _ _ _ _ _ _ _ _=>rfl)) B
 have F15:=GD (P:=l.prog) (w:=w) (base:=base) (CA X G a15 (b3 a15.F λ_ _ _ _ _ _ _ _ _=>rfl)) B
 have F16:=DQ (P:=l.prog) (w:=w) (base:=base) (CA X G a16 (b1 a16.F λ_ _ _ _ _ _ _=>rfl)) B
 have F17:=IH (CA X G a17 (b1 a17.F λ_ _ _ _ _ _ _=>rfl)) B F16
 have F18:=Jq (P:=l.prog) (w:=w) (base:=base) (CA X G a18 (b1 a18.F λ_ _ _ _ _ _ _=>rfl)) B
 have F19:=Px D19 B F13 F17 F18 F12 F14 F15 F11;exact F19.ok.imp (NF λns h=>Qm h)
theorem Uk{l:W.OpenLaw}{q:iK}{loose:List Str}{XP:(Str->Option Value)->Heap->Prop}{YP:iP->Heap->Prop}{d:DefRec}{K:Params->W.Frag}(hn:l.most=some 63) (hdf:d.params.defaults=[])
  (hY:∀(w:iP) (h:Heap),YP w h->(K w.params).In h)
  (F:∀(w:iP) (mg:Str->Option Value) (fa:Addr) (h:Heap),(K w.params).In h->h.Ns iM mg->mg d.name=some (.ref fa) ->
   ∃fd:iT,(∀(s:iD) (u:Value),kY s fd ⟨[u],[]⟩ [("_law_script", u)])/\∀base:Heap,(K w.params).In base->base.Ns iM mg->xC l.prog w (K w.params) mg base Os 7 fa fd ["_law_script"] (Hw (K w.params))) :
  W.WalkO q loose XP YP l.row.toRowW d [] (λf vs=>PySem.call f vs) :=
 L2.Np (n:=63) (k:=7) (x := "_law_script") (CX:=λ_=>Os) (sp:=λw=>Hw (K w.params)) hn (by decide) hdf ⟨rfl,by decide,by decide⟩ hY F (λ_ _ a ns hl _ hS=>⟨a,ns,rfl,hS,hl,λ_=>rfl⟩) λ_ _ _ _ _ z=>z
end K35
structure PySem.W.Fast:Prop where(tw9276416531569691 tw9509535976181711776 tw3575032115265204153 tw16275050661538947934 tw8983944875540894686 tw9600235305415082415 tw9367082245438892431 tw14202652444527862988 tw18274702848012955066 tw4901399014908698335 tw4245332495685447303 tw1414299595189743029 tw3022393260392322288 tw17282262833484890435 tw11474237112652615335 tw990369698036965532 tw3384922911544633013 tw14998394911294296110 tw16046134535670460245 tw16704472752392066190 tw17678114653249123728 tw4066063955994845843 tw918770579131192478 tw8239827940561894952 tw6122553492282621656 tw4010269305820468360 tw12127823849680502678 tw4987308636053048686 tw10915199431914138174 tw7681737633122903387 tw9608189353611085943 tw3761850782337043281 tw9804279511226893528 tw57359004981196675 tw10594359495216718134 tw18223870614617086387 tw9881109192183106852 tw8295913080593951191 tw15724169189252804127 tw3392573482167142292 tw2728805466768777968 tw11149346993211358403 tw16524803720561076439 tw7369728584151321142 tw12831130959386072052 tw4100113294495743361 tw1582381473605922287 tw3885695656580457247 tw17077122136529164487 tw1292219233280468021 tw13207009369730990007 tw9155062000782821237 tw17391768262822265482 tw12394945334275987805 tw2929575521182508178 tw6664775842919819948 tw3411395400784425805 tw4666186792299403356 tw11082495687607442690 tw203987138094229767 tw16161934440758996827 tw8480167727065496800 tw5032782235215103513 tw4410462617717541784 tw6776927150138427839 tw12889759990079230470 tw5202881523693448130 tw5227999099022094544 tw12002483739241905717 tw7799478643458967620 tw13680547301437302729 tw12268036774282240292 tw15450281825562512984 tw16531488026344541883 tw8629861400020609812 tw10898761646754662490 tw14549125112733196488 tw515165338557921438 tw12208046847749778750 tw5580520418428146606 tw3585199958301496766 tw6546657593898024882 tw8608605475430951704 tw3343590076126354889 tw4455637003148637659 tw12018925534852650923 tw13430859871120136907 tw214367361313451616 tw3523500216747278490 tw14503326307912106027 tw17372028223627167912 tw710421014097577033 tw7449090436887273254 tw13830449817006223145 tw11187790334533747909 tw1129546486786764722 tw10162727484717178604 tw8286228735671427524 tw12701448619411705539 tw17371104058435783080 tw12754705945545387894 tw14335942399808560590 tw5816854370592255971 tw14173151160444882161 tw16343696006550099083 tw5557827779617490466 tw8329656012017030258 tw11875767043714728586 tw8137550207864080956 tw4057806499399368991 tw18081920774704534155 tw10931595780636924327 tw12383342589287345137 tw6587867965129269279 tw1678688833547108002 tw18365633119630766177 tw12969393381933547908 tw13250175072498659005 tw16001008196761162465 tw17923660217432818966 tw5845169058979771794 tw7315245867692530558:True)
open PySem PySem.W PyProof.Rows
set_option maxRecDepth 100000 in
set_option maxHeartbeats 0 in
theorem PySem.Challenge.cw_mapround_k35_codes_of_pieces_holds : PySem.Challenge.rw_mapround_k35_codes_of_pieces.Holds := by
 w_on;o_law;k_head;(case hw=>w_witness2)
 k_fill
 refine K35.Uk (l:=PySem.Challenge.rw_mapround_k35_codes_of_pieces) rfl rfl (λw h Y=>W.kIn_of Y) ?F
 case F =>
  intro w mg fa h KX G hmg;apply K35.Qw KX G hmg
  all_goals first|exact Mr.Ri (by k_is) (by k_is) (by k_is) (by k_is)|exact Mr.atM_mk (by k_is) (by k_is) (by k_is) (by k_is) (by k_is)|k_is|kernel_rfl

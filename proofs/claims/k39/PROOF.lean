import PyProof.Rows.All
import Wide.All
import OpenK.AllK
import Wide.FinOn
import Lean
import PyProof.EqAt
import PyProof.EqKinds
import PyProof.TupleCall
import KE.KIntText
import PyProof.ConsumeWalk
import PySem.Challenge.RW_mapround_k39_own_turns
set_option Elab.async false
set_option linter.all false
set_option maxRecDepth 100000
set_option maxHeartbeats 4000000
open Option renaming bind_eq_some_iff->oBq,map_eq_some_iff->oMq
open List renaming getElem?_eq_some_iff->gSq,getElem?_eq_getElem->gEg,getD_eq_getElem?_getD->gDq,length_append->lAq,length_map->lMq,mem_append->mAq,mem_flatten->mFq,mem_map->mMq,getElem?_map->gMq,mem_of_getElem?->mGq,map_congr_left->mCq,getElem_mem->gRq,length_singleton->lSq,mem_singleton->mSq,length_take->lTq,nodup_append->nAq,append_nil->aNq,flatten_append->fAq,getElem?_append_right->gYq,getElem?_append_left->gZq,length_cons->lCq,map_map->mPq,map_append->mBq,mem_cons_of_mem->mCo,length_set->lZq,flatten_cons->fCq,count_append->cAq,mem_cons->ao,getElem?_set_ne->ar,replicate->ay,nodup_cons->aA,map_cons->aB,size_toArray->aC,mem_cons_self->aD,mem_append_right->aE,append_assoc->aF,getElem?_set_self->aG,drop_eq_getElem_cons->aL,pairwise_append->aQ,length_drop->aR,nodup_nil->aT,mem_append_left->aU,mem_iff_getElem?->aV,flatten_singleton->aZ,length->bb,sublist_flatten_of_mem->bf,pairwise_map->bg,getElem?_set->bh,take_append_drop->bo,contains_cons->br,getElem?_eq_none->bu,nodup_iff_pairwise_ne->bw,take_length->bx,length_range->bz,length_nil->bB,take_sublist->bD,mem_of_mem_drop->bE,mem_iff_getElem->bF,pairwise_iff_getElem->bJ,mem_reverse->bN,drop_eq_nil_of_le->bP,length_pos_of_mem->bQ,replicate_succ->bR,drop_sublist->bT,Perm->bU,foldl_cons->bV,perm_append_comm->bW,mem_of_mem_take->bX,getElem?_replicate->cc,find?_cons_of_neg->cg,mem_range->cB,eraseIdx_cons_succ->cH,length_eq_zero_iff->cI,zipWith->cJ,range->cL,drop_length->cM,find?_cons_of_pos->cP,getElem?_drop->cS,set_cons_zero->cT,eq_nil_or_concat->cV,concat_eq_append->cW,Pairwise->cZ,take_add_one->de,flatMap_cons->dg,dropLast_concat->dh,nodup_iff_count->dk,take_succ_eq_append_getElem->dm,getElem?_take_of_lt->dq,idxOf_lt_length_iff->dr,eq_of_mem_replicate->du,map_id->dB,mem_flatMap->dE,perm_iff_count->dF,find?_cons->dN,take_of_length_le->dO,ext_getElem?->dW,getElem?_zipWith->dX,set_getElem_self->dY,drop_zero->dZ,length_eraseIdx->ee,mem_erase_of_ne->eg,any_eq_true->eB,extract_eq_take_drop->eC,nil_append->eE,set_cons_succ->eJ,count_pos_iff->eK,pairwise_mergeSort->eP,set_set->eQ,eraseIdx_cons_zero->eS,Sublist->eT,getElem_drop->eU,isEmpty_cons->eW,drop_of_length_le->eY,findIdx_lt_length_of_exists->eZ,length_replicate->fb,eraseIdxIfInBounds_toArray->fc,any_cons->fe,map_take->fg,all_eq_true->fh,reverse_reverse->fk,reduceReplicate->fo,idxOf_cons_self->fq,count_eq_zero_of_not_mem->ft,idxOf_cons->fu,filterMap_cons->fv,mergeSort_perm->fx,zip_cons_cons->fE,getElem_idxOf->fF,pairwise_cons->fG,getElem_range->fK,getElem_take->fP,getElem?_zip_eq_some->fU,find?_isSome->fV,foldl_append->fW,length_erase_of_mem->fZ,not_mem_nil->gd,flatten_nil->gi,map_nil->gj,filter_cons_of_pos->gn,filter_cons_of_neg->gq,getLast?_singleton->gw,of_mem_zip->gA,flatMap_singleton->gC,set_append_right->gD,take_zero->gI,findIdx_getElem->gL,getLast?_append->gM,reverse_append->gO,getElem?_range->gQ,length_pos_iff->gT,flatMap_append->gU,length_flatten->gW,mem_filterMap->gZ,forIn_toArray->hV,ext_getElem->ip,nodup_range->iu,map_flatten->iw,mem_filter->iy,forIn_cons->iz,foldl->iC,mapM_cons->iE,forIn_nil->iF,take_left->iH,any_map->iO,lookup->iU
open And renaming intro->aa
open PySem.Heap renaming get?_push_of_some->ae,lt_size->ag,get?_push_size->aS,get?_update_ne->bp,get?_update_other->bI,size_update->bO,get?_none_of_le->cE,get?_update_self->cU,get?_push_ne->df,SameBut->eM,size_push->fA,MadeExcOf->fD,update_setField_same->fR,get?_push_at->fS,ExtBut->gF
open Nat renaming le_refl->ai,ne_of_lt->aw,lt_of_lt_of_le->aK,zero_le->aY,ne_of_gt->bj,le_trans->bC,zero_add->bL,le_succ->bM,lt_succ_of_lt->bS,lt_irrefl->bY,le_of_lt->bZ,sub_self->cf,not_lt_zero->cG,min_eq_left->cX,add_sub_cancel_left->dG,lt_succ_self->eh,add_one_sub_one->eD,lt_or_eq_of_le->eG,le_of_eq->eN,add_assoc->ff,mod_eq_of_lt->fi,pos_of_ne_zero->fJ,lt_trichotomy->fQ,lt_succ_iff_lt_or_eq->fY,succ_le_succ->gb,le_of_not_lt->gc,reduceEqDiff->gf,reduceLeDiff->gg,lt_add_right->gh,add_zero->gk,reduceAdd->gR,reduceSub->gS,mod_lt->gV,lt_of_le_of_lt->hU,add_comm->hW,le_of_lt_succ->hZ,max_eq_right->ik,min_eq_right->iq,strongRecOn->iA,mod_add_mod->iB,succ_mul->iN,sub_zero->iP,mod_self->iQ
open Array renaming getElem?_eq_getElem->aj,length_toList->ax,getElem?_toList->aH,getElem?_eq_some_iff->aJ,toList_append->aN,getElem_mem->bc,toList_reverse->cF,toList_push->dU,size_extract->eI,toList_extract->fj,toArray_toList->fm,size_map->fB,toList_setIfInBounds->fL,getElem?_extract->gB,mem_toList_iff->gJ,getD->gN,Perm->gP,append_assoc->gY
open PySem.Value renaming ref->ak,none->cA,type->dR,bool->eX,int->fN,builtin->fT,isStrOf->iK,str->iM,isInt->iS
open PySem.F renaming plainAttrs_list->aq,slot_list_append->aW,type_list_append->aX,slot_list_pop->cw,type_list_pop->cz,slot_list_extend->dw,type_list_extend->dz,typeOf_object_class->ed,excBase_ValueError->eA,slot_list_index->eO,slot_gs_get->fy,slot_dict_items->gu,type_list_index->gv,store_object->gK
open Sum renaming inl->az,inr->fO
open Bool renaming false_ne_true->aO,eq_iff_iff->bA,false_eq_true->bG,not_eq_true->cO,and_eq_true->dC,or_true->dJ,not_eq_true'->eV,eq_false_iff->ic,false_and->iD
open Option renaming some->ba,getD_some->cu,bind_some->dD,map_some->dQ,isSome_map->dS,isSome_some->eF,getD_none->ij,some_or->iG,none->iT
open PyProof.Rows renaming boot_isinstance->bq,boot_list->cj,callWith_builtin1->cC,callWith_type1->cQ,boot_sorted->dA,boot_tuple->eR,boot_min->gG,eq_dataH_same->iI,ne_dataH_same->iJ,boot_bool->iR,boot_int->iV,boot_all->iW,lt_int->iX
open Int renaming emod_lt_of_pos->bH,emod_nonneg->bK,toNat_natCast->cY,le_refl->gE,toNat->gH,zero_add->hX,mul_one->ie,neg_neg->ir
open Classical renaming propDecidable->cK,byContradiction->fX
open Prod renaming ext->gX
open PySem renaming wpAny_bind->iY,model->ja,wpAny->jb,wpAny_pure->je,sizeLine->jf,Program->jg,mainGlobals->jh,World->ji,starEach->jj,wpAny_loadPart_at->jk,typeLookup->jn,wpAny_mono->jo,sizeLine_eq->jq,FuncData->jr,wpAny_isSubtype_exc->jt,excClassObj->jv,codeAny_builtin->jw,wpAny_Call_Name_kw->jz,wpAny_holding->jA,cLine->jB,wpAny_truthy_bool->jC,call_isinstance->jF,compareOp->jI,wpAny_field->jK,wpAny_passesOwn->jM,isinstance_true->jN,OwnTail->jP,backTo->jR,codeAny_call_builtin->jS,sysModules->jT,wpAny_newList->jU,wpAny_execs_nil->jV,call_meets->jW,Model->jZ,bootBuiltins->ke,rawInt->kf,wpAny_call_entry->ki,plainId_quiet->ko,unsupported->kq,sliceBounds->kr,Scope->ky,wpAny_typeOf->kz,binaryOp->kA,wpAny_call->kB,behindInMarks->kH,checkBuiltinCall->kI,codeAny->kK,wpAny_callSpecialIfBound?_slot->kL,letOwnedTupleGo->kM,codeAny_mono->kN,IsPair->kO,ZipApart->kR,GenState->kS,relabel->kT,tupleKind_room_in1->kW,swapsWith->kX,setFlight->kY,pyNext->kZ,wpAny_standAt->lg,foldedSetIterable->lp,wpAny_check_type_call_sub->lu,codeAny_call_builtin_code->ly,assignEach->lB,valueAt->lC,callerA->lD,wpAny_comprehension_free->lF,wpAny_execs_cons->lH,handleBy->lI,wpAny_callSpecial?_slot->lJ,wpAny_Call_method0_late->lK,codeAny_call_builtin_at->lN,tupleKind->lP,noteFrame->lR,atKey->lS,wpAny_nextOf_list_item->lU,subscripted->lW,wpAny_isTrue_Compare1->lX,wpAny_check_init_subT->lY,codeAny_handlers_test->lZ,builtinLookup_eq_fast->mh,wpAny_setField->mi,wpAny_newTuple->mj,isSubtype_type->mq,getItem->mw,collect->mz,BindsTo->mB,wpAny_loadName_local->mC,wpAny_check_new_subT->mD,unbindBehindTheSuite->mE,lookup_relabel_local->mF,codeAny_exc_new_subT->mH,isInstance->mI,wpAny_attempt->mJ,attributeBase->mL,wpAny_loadName_cell->mN,wpAny_handleBy_cons->mO,storeName->mS,seqIndex?->mT,OsState->mU,richCompare->aaa
open PyProof.Rows renaming Keyed->iZ,wpS_bind->jc,wpS_pure->jd,arrOf->jl,seqObj->jm,IntsAre->ju,SortKind->jx,pairsOf->jy,wpS_forRange->jD,setArr->jE,wpS_mono->jG,listUpdate_at->jH,elem'->jJ,pairsOf_size->jL,get?_update_seq->jO,envOfC->jQ,pendingOf->jX,oneType'->jY,wpS_modify->kj,sortedHeap->km,wpS_get->ku,getElem?_mirror_all->kx,size_push'->kC,AllBare->kE,seqEpoch_at->kF,reverseSlice'->kG,gallopOf->kJ,keyLt'_oneType->kP,keyKind'->kQ,entry_list_sort->lO,subscriptTail_builtinR->lV,slot_list_sort->mn,args_list_sort->mv,entry_proto_collect'->mG,subscriptTail->mK,plain_sorted->mP,entry_sorted->mQ,args_sorted1->mR,kind_sorted->aab
open PySem.W renaming looks_findIn->ka
noncomputable section
open Array renaming mem_of_getElem?->aQq
local macro_rules|`(tactic|trivial)=>`(tactic|first|exact Or.inl rfl|exact Or.inr rfl|exact Or.inr (Or.inl rfl)|exact Or.inr (Or.inr rfl)|exact⟨rfl,rfl,rfl,by decide +kernel,rfl,by decide +kernel,by decide +kernel⟩|fail)
theorem nP{c:Prop}{_:Decidable c}(h:c){α}{t e:α}:ite c t e=t:=if_pos h
theorem nQ{c:Prop}{_:Decidable c}(h:¬c){α}{t e:α}:ite c t e=e:=if_neg h
namespace L2
open PySem PySem.Spec PyProof.Rows
abbrev nO:=Sum Int Str
def D1:nO->Value->Bool
 | .inl k,v=>iS k v
 | .inr x,v=>iK x v
def YZ(w:ji):nO->Int
 | .inl k=>hashInt k
 | .inr x=>hashStr w x
theorem oH:∀{k:nO}{v:Value},D1 k v=true->(∃i t,k=az i/\v=fN i t)∨(∃x t,k=fO x/\v=iM x t)
 | .inl i,v,h=>by
  obtain⟨t,e⟩:=Value.isInt_shape (k:=i) (v:=v) h;exact .inl ⟨i,t,rfl,e⟩
 | .inr x,v,h=>by
  obtain⟨t,e⟩:=Value.isStrOf_shape (x:=x) (v:=v) h;exact .inr ⟨x,t,rfl,e⟩
theorem LK(i:Int) (t:Tok):D1 (.inl i) (.int i t)=true:=by simp[D1,iS]
theorem M4(x:Str) (t:Tok):D1 (.inr x) (.str x t)=true:=by simp[D1,iK]
theorem Ue(a b:Int):decide ((az a:nO)=az b)=(a == b):=by
 by_cases e:a=b
 .subst e;simp
 .have h:¬ (az a:nO)=az b:=λq=>e (az.inj q)
  rw[decide_eq_false h];exact(beq_eq_false_iff_ne.mpr e).symm
theorem VL(a b:Str):decide ((fO a:nO)=fO b)=decide (a=b):=by
 by_cases e:a=b
 .subst e;simp
 .have h:¬ (fO a:nO)=fO b:=λq=>e (fO.inj q)
  rw[decide_eq_false h,decide_eq_false e]
theorem Vu(a:Int) (b:Str):decide ((az a:nO)=fO b)=false:=decide_eq_false (λq=>nomatch q)
theorem Vn(a:Str) (b:Int):decide ((fO a:nO)=az b)=false:=decide_eq_false (λq=>nomatch q)
def oX(prog:jg) (w:ji):PySem.KeyKind prog w nO where
 is:=D1
 hash:=YZ w
 inj:=λv a b ha hb=>by
  rcases oH ha with ⟨i,t,rfl,rfl⟩|⟨x,t,rfl,rfl⟩
  .rcases oH hb with ⟨j,u,rfl,e⟩|⟨y,u,rfl,e⟩
   .injection e with e1 _;rw[e1]
   .exact nomatch e
  .rcases oH hb with ⟨j,u,rfl,e⟩|⟨y,u,rfl,e⟩
   .exact nomatch e
   .injection e with e1 _;rw[e1]
 byValue:=λk v h=>by
  rcases oH h with ⟨i,t,rfl,rfl⟩|⟨x,t,rfl,rfl⟩ <;> rfl
 pyHash:=λhv h=>by
  rcases oH hv with ⟨i,t,rfl,rfl⟩|⟨x,t,rfl,rfl⟩
  .exact wpAny_pyHash_int h
  .exact wpAny_pyHash_str h
 eqBool:=λhu hv h=>by
  rcases oH hu with ⟨i,t,rfl,rfl⟩|⟨x,t,rfl,rfl⟩
  .rcases oH hv with ⟨j,u,rfl,rfl⟩|⟨y,u,rfl,rfl⟩
   .rw [Ue]at h;exact wpAny_eqBool_int h
   .rw [Vu]at h;exact SeqAt.EqAt.int_str i t y u _ _ _ _ h
  .rcases oH hv with ⟨j,u,rfl,rfl⟩|⟨y,u,rfl,rfl⟩
   .rw [Vn]at h;exact SeqAt.EqAt.str_int x t j u _ _ _ _ h
   .rw [VL]at h;exact wpAny_eqBool_str h
 «strs»:=λk x t v h=>by
  rcases oH h with ⟨i,u,rfl,e⟩|⟨y,u,rfl,e⟩
  .exact nomatch e
  .injection e with e1 _
   subst e1;cases v <;> rfl
theorem Gv(prog:jg) (w:ji) (i:Int) (t:Tok):(oX prog w).is (.inl i) (.int i t)=true:=LK i t
theorem Gi(prog:jg) (w:ji) (x:Str) (t:Tok):(oX prog w).is (.inr x) (.str x t)=true:=M4 x t
inductive V where
 |non|bl (b:Bool)|int (i:Int)|str (x:Str)|byt (b:Array UInt8)|flt (b:UInt64)|ref (a:Addr)|ty (n:String)
 deriving DecidableEq
def oK:V->Value->Prop
 | .non,u=>u=cA
 | .bl b,u=>u=eX b
 | .int i,u=>∃t,u=fN i t
 | .str x,u=>∃t,u=iM x t
 | .byt b,u=>∃t,u=Value.bytes b t
 | .flt b,u=>∃t,u=Value.float b t
 | .ref a,u=>u=ak a
 | .ty n,u=>u=dR n
abbrev nX:List V->List Value->Prop:=Paired oK
theorem nX.length{xs:List V}{us:List Value}(r:nX xs us):xs.length=us.length:=Paired.length r
theorem nX.get:∀{xs:List V}{us:List Value}{i:Nat}{x:V},nX xs us->xs[i]?=some x->∃u,us[i]?=some u/\oK x u
 |_,_,_,_,.nil,e=>by simp at e
 |_,_,0,_,.cons r _,e=>by simp at e;subst e;exact⟨_,rfl,r⟩
 |_,_,i+1,x,.cons _ t,e=>by
  obtain⟨u,h1,h2⟩:=nX.get (i:=i) (x:=x) t (by simpa using e)
  exact⟨u,by simpa using h1,h2⟩
theorem nX.set{x:V}{u:Value}(r:oK x u):∀{xs:List V}{us:List Value}(i:Nat),nX xs us->nX (xs.set i x) (us.set i u)
 |_,_,_,.nil=>.nil
 |_,_,0,.cons _ t=>.cons r t
 |_,_,i+1,.cons q t=>.cons q (nX.set r i t)
theorem nX.append:∀{xs ys:List V}{us ws:List Value},nX xs us->nX ys ws->nX (xs++ys) (us++ws)
 |_,_,_,_,.nil,s=>s
 |_,_,_,_,.cons r t,s=>.cons r (nX.append t s)
theorem nX.take:∀{xs:List V}{us:List Value}(n:Nat),nX xs us->nX (xs.take n) (us.take n)
 |_,_,0,_=>.nil
 |_,_,_+1,.nil=>.nil
 |_,_,n+1,.cons r t=>.cons r (nX.take n t)
theorem nX.drop:∀{xs:List V}{us:List Value}(n:Nat),nX xs us->nX (xs.drop n) (us.drop n)
 |_,_,0,r=>r
 |_,_,_+1,.nil=>.nil
 |_,_,n+1,.cons _ t=>nX.drop n t
def Bg:Option V->Option Value->Prop
 |some v,some u=>oK v u
 |none,none=>True
 |_,_=>False
def KV{κ:Type}:List (κ×V)->List (κ×Value)->Prop:=Paired λ(p:κ×V) (q:κ×Value)=>p.1=q.1/\oK p.2 q.2
def kV:nO->V
 | .inl i=>.int i
 | .inr x=>.str x
inductive HO where
 /-- a list -/
 |lst (xs:List V)
 /-- a tuple (never changes) -/
 |tup (xs:List V)
 /-- a dict whose keys are ints and texts;one whose keys are tuples of ints and texts (the empty one is both) -/
 |dK (kvs:List (nO×V))|dT (kvs:List (List nO×V))
 /-- a set of ints: its members,its size -/
 |set (S:Int->Bool) (n:Nat)
 /-- an instance of the class at C,its dict at dx,its attributes -/
 |ins (C dx:Addr) (fs:List (Str×V))
 /-- the dict of the instance at x -/
 |own (x:Addr)
 /-- the dict of an exception -/
 |xd (fs:List (Str×V))
 /-- a bound method,f of x -/
 |met (f x:Addr)
 /-- a range object lo,lo+1,.. below hi -/
 |rng (lo hi:Int)
 /-- a thing that is known to the object (the script;a dict while a loop walks it): read,never written while it is so -/
 |frz (o:Obj) (u:HO)
 /-- a code object's table -/
 |tbl (ps:Array Value)
 /-- any other thing,by what is true of its one object (a def of one's own: SetO a S n:=HO.ext λh=>..) -/
 |ext (φ:Heap->Prop)
abbrev Hp:=Addr->Option HO
def oB(H:Hp) (a:Addr) (o:HO):Hp:=λb=>if b=a then some o else H b
theorem nB{H:Hp}{a:Addr}{o:HO}:oB H a o a=some o:=by unfold oB;rw[nP rfl]
theorem ni{H:Hp}{a b:Addr}{o:HO}(h:b≠a):oB H a o b=H b:=by unfold oB;rw[nQ h]
theorem Ky{H:Hp}{a:Addr}{o u:HO}:oB (oB H a o) a u=oB H a u:=by
 funext b;unfold oB;split <;> rfl
theorem WX{H:Hp}{a b:Addr}{o u:HO}(h:H a=some o) (h':H b=some u) (d:o≠u):a≠b:=by
 intro e;subst e;rw[h]at h';exact d (ba.inj h')
theorem pX{H:Hp}{a b:Addr}{o:HO}(h:H a=some o) (h':H b=none):a≠b:=by
 intro e;subst e;rw[h]at h';cases h'
section
variable (P:jg) (w:ji)
def oY(H:Hp) (h:Heap) (a:Addr):HO->Prop
 | .lst xs=>xs.length<=jf/\∃(its:List Value) (n:Nat),nX xs its/\h.get? a=some { cls:=.type "list", data:=.seq its.toArray n }
 | .tup xs=>xs.length<=jf/\∃its:List Value,nX xs its/\IsTup h a its.toArray
 | .dK kvs=>kvs.length<=jf/\(a == jT)=false/\∃vs,KV kvs vs/\h.DictOf (oX P w) a vs
 | .dT kvs=>kvs.length<=jf/\(a == jT)=false/\∃xs:List (List nO×Addr×Value),
   Paired (λ(p:List nO×V) (q:List nO×Addr×Value)=>p.1=q.1/\H q.2.1=some (.tup (p.1.map kV))/\oK p.2 q.2.2) kvs xs /\
   ∃o es ep,h.get? a=some o/\o.ExactDict/\o.data = .dict es ep/\es.toList=xs.map (entryOfKey (lP (oX P w)))/\(xs.map (·.1)).Nodup
 | .set S n=>h.SetOf (intKind P w) a S n
 | .ins C dx fs=>H dx=some (.own a)/\fs.length<=1000/\dx≠a/\h.get? a=some (W.instObj C dx) /\
   ∃mA,h.Ns1 dx mA/\(∀f,Bg (fs.lookup f) (mA f))/\PySem.Within mA (fs.map (·.1))
 | .own _=>∃o,h.get? a=some o
 | .xd fs=>∃mA,h.Ns1 a mA/\∀f,Bg (fs.lookup f) (mA f)
 | .rng lo hi=>∃t u v,h.get? a=some { cls:=.type "range", data:=.fields #[.int lo t,.int hi u,.int 1 v] }
 | .frz o u=>h.get? a=some o/\oY H h a u
 | .tbl ps=>h.get? a=some { cls:=.none,data:=.fields ps }
 | .met f x=>h.get? a=some (W.methodObj (.ref f) (.ref x))
 | .ext φ=>φ h/\(∃o,h.get? a=some o)/\∀h1 h2:Heap,φ h1->(∀o,h1.get? a=some o->h2.get? a=some o)->φ h2
def wX(H:Hp) (h:Heap):Prop:=∀a o,H a=some o->oY P w H h a o
end
section
variable {P:jg}{w:ji}{H H':Hp}{h h':Heap}{a:Addr}{o:HO}
theorem oY.lt(x:oY P w H h a o):a<h.objs.size:=by
 cases o with
 |lst xs=>obtain⟨_,_,_,_,e⟩:=x;exact ag e
 |tup xs=>obtain⟨_,_,_,p⟩:=x;exact p.lt
 |dK kvs=>obtain⟨_,_,_,_,o,_,_,e,_⟩:=x;exact ag e
 |dT kvs=>obtain⟨_,_,_,_,o,_,_,e,_⟩:=x;exact ag e
 |set S n=>obtain⟨o,_,_,_,e,_⟩:=x;exact ag e
 |ins C dx fs=>obtain⟨_,_,_,e,_⟩:=x;exact ag e
 |own y=>obtain⟨_,e⟩:=x;exact ag e
 |xd fs=>obtain⟨_,⟨_,_,_,e,_⟩,_⟩:=x;exact ag e
 |rng lo hi=>obtain⟨_,_,_,e⟩:=x;exact ag e
 |frz ob u=>obtain⟨e,_⟩:=x;exact ag e
 |tbl ps=>exact ag (show h.get? a=some _ from x)
 |met f y=>exact ag (show h.get? a=some _ from x)
 |ext φ=>obtain⟨_,⟨_,e⟩,_⟩:=x;exact ag e
theorem Paired.mapP{α β:Type}{F G:α->β->Prop}:∀{l₁:List α}{l₂:List β},Paired F l₁ l₂->(∀a b,F a b->G a b)->Paired G l₁ l₂
 |_,_,.nil,_=>.nil
 |_,_,.cons r t,f=>.cons (f _ _ r) (Paired.mapP t f)
theorem oY.stay(x:oY P w H h a o) (k:∀b u,(b=a∨H b=some (.own a))->h.get? b=some u->h'.get? b=some u)
  (ho:∀b,H b=some (.own a)->H' b=some (.own a)) (ht:∀b xs,H b=some (.tup xs)->H' b=some (.tup xs)):oY P w H' h' a o:=by
 induction o with
 |lst xs=>obtain⟨z,its,n,r,e⟩:=x;exact⟨z,its,n,r,k _ _ (.inl rfl) e⟩
 |tup xs=>obtain⟨z,its,r,ob,e,c⟩:=x;exact⟨z,its,r,ob,k _ _ (.inl rfl) e,c⟩
 |dK kvs=>obtain⟨z,y,vs,r,ob,es,ep,e,c⟩:=x;exact⟨z,y,vs,r,ob,es,ep,k _ _ (.inl rfl) e,c⟩
 |dT kvs =>
  obtain⟨z,y,xs,r,ob,es,ep,e,c⟩:=x;exact⟨z,y,xs,Paired.mapP r λp q z=>⟨z.1,ht _ _ z.2.1,z.2.2⟩,ob,es,ep,k _ _ (.inl rfl) e,c⟩
 |set S n=>obtain⟨ob,es,ep,t,e,c⟩:=x;exact⟨ob,es,ep,t,k _ _ (.inl rfl) e,c⟩
 |ins C dx fs =>
  obtain⟨d,z,ne,e,mA,⟨od,es,ep,e2,c⟩,r⟩:=x;exact⟨ho _ d,z,ne,k _ _ (.inl rfl) e,mA,⟨od,es,ep,k _ _ (.inr d) e2,c⟩,r⟩
 |own y=>obtain⟨ob,e⟩:=x;exact⟨ob,k _ _ (.inl rfl) e⟩
 |xd fs=>obtain⟨mA,⟨od,es,ep,e,c⟩,r⟩:=x;exact⟨mA,⟨od,es,ep,k _ _ (.inl rfl) e,c⟩,r⟩
 |rng lo hi=>obtain⟨t,u,v,e⟩:=x;exact⟨t,u,v,k _ _ (.inl rfl) e⟩
 |frz ob u ih=>obtain⟨e,q⟩:=x;exact⟨k _ _ (.inl rfl) e,ih q⟩
 |tbl ps =>
  have e:h.get? a=some { cls:=.none,data:=.fields ps }:=x;show h'.get? a=some { cls:=.none,data:=.fields ps };exact k a _ (.inl rfl) e
 |met f y =>
  have e:h.get? a=some (W.methodObj (.ref f) (.ref y)):=x;show h'.get? a=some (W.methodObj (.ref f) (.ref y));exact k a _ (.inl rfl) e
 |ext φ=>obtain⟨p,⟨o,e⟩,st⟩:=x;exact⟨st _ _ p λo q=>k _ _ (.inl rfl) q,⟨o,k _ _ (.inl rfl) e⟩,st⟩
theorem wX.lt(x:wX P w H h) (e:H a=some o):a<h.objs.size:=(x a o e).lt
theorem wX.fresh(x:wX P w H h) (e:h.objs.size<=a):H a=none:=by
 cases q:H a with
 |none=>rfl
 |some u=>exact absurd (aK (x.lt q) e) (bY _)
theorem wX.kept(x:wX P w H h) (k:∀b u,h.get? b=some u->h'.get? b=some u):wX P w H h':=λa o e =>
 (x a o e).stay (λb u _ q=>k b u q) (λ_ q=>q) λ_ _ q=>q
theorem wX.laid(x:wX P w H h) (k:∀b u,h.get? b=some u->h'.get? b=some u) (hp:h.objs.size<=a) (new:oY P w (oB H a o) h' a o):wX P w (oB H a o) h':=λb u e=>by
 have hn:=x.fresh hp
 by_cases hb:b=a
 .subst hb;rw[nB]at e;cases e;exact new
 .rw [ni hb]at e;exact(x b u e).stay (λc v _ q=>k c v q) (λc q=>by rw[ni (pX q hn)];exact q) λc xs q=>by rw[ni (pX q hn)];exact q
end
def Rd(H:Hp) (a:Addr) (u:HO):Prop:=H a=some u∨∃o,H a=some (.frz o u)
theorem Rd.ok{P:jg}{w:ji}{H:Hp}{h:Heap}{a:Addr}{u:HO}(r:Rd H a u) (x:wX P w H h):oY P w H h a u:=by
 rcases r with r|⟨o,r⟩
 .exact x a u r
 .obtain ⟨_,q⟩:=x a _ r;exact q
def Xr:Option HO->Prop
 |some (.lst _)=>True
 |some (.dK _)=>True
 |some (.dT _)=>True
 |some (.set _ _)=>True
 |some (.ins _ _ _)=>True
 |some (.ext _)=>True
 |_=>False
section
variable {P:jg}{w:ji}{H:Hp}{h h':Heap}{x e:Addr}{o':HO}
theorem wX.write(ok:wX P w H h) (mu:Xr (H x)) (he:e=x∨H e=some (.own x)) (k:∀b u,b≠e->h.get? b=some u->h'.get? b=some u) (heo:∃u,h'.get? e=some u)
  (new:oY P w (oB H x o') h' x o'):wX P w (oB H x o') h':=λb u q=>by
 have nown:∀c y,H c=some (.own y)->c≠x:=λc y r z=>by subst z;rw[r]at mu;exact mu
 have ntup:∀c xs,H c=some (.tup xs)->c≠x:=λc xs r z=>by subst z;rw[r]at mu;exact mu
 by_cases hb:b=x
 .subst hb;rw[nB]at q;cases q;exact new
 .rw [ni hb]at q
  by_cases hbe:b=e
  .have q':H b=some (.own x):=by
    rcases he with z|z
    .exact absurd (hbe.trans z) hb
    .rw [hbe];exact z
   rw[q]at q';cases q';obtain⟨v,hv⟩:=heo;exact⟨v,by rw[hbe];exact hv⟩
  .refine (ok b u q).stay (λc v hc r=>k c v ?_ r) (λc r=>by rw[ni (nown c b r)];exact r) λc xs r=>by rw[ni (ntup c xs r)];exact r
   rcases hc with rfl|hc
   .exact hbe
   .rintro rfl;rcases he with z|z
    .exact nown c b hc z
    .rw [hc]at z;cases z;exact hb rfl
end
structure Un (fs ex:List Addr) (H H':Hp) (h h':Heap):Prop where
 keep:∀b o,h.get? b=some o->H b=none->b∉fs->b∉ex->h'.get? b=some o
 slot:∀b o,h.get? b=some o->H b=none->b∈fs->b∉ex->∃sl,h'.get? b=some { o with slots:=sl }
 free:∀b o,h.get? b=some o->H b=none->b∉ex->H' b=none
 there:∀b o,h.get? b=some o->b∉ex->∃o',h'.get? b=some o'
 tups:∀b xs,H b=some (.tup xs)->H' b=some (.tup xs)
 frzs:∀b o u,H b=some (.frz o u)->H' b=some (.frz o u)
 tbls:∀b ps,H b=some (.tbl ps)->∃more,H' b=some (.tbl (ps++more))
section
variable {fs fs' ex ex':List Addr}{H H1 H2:Hp}{h h1 h2 h':Heap}{a x e:Addr}{o:HO}
theorem Un.any(u:Un fs ex H H1 h h1) {b:Addr}{ob:Obj}(q:h.get? b=some ob) (n:H b=none) (hx:b∉ex):∃sl,h1.get? b=some { ob with slots:=sl }:=by
 by_cases hb:b∈fs
 .exact u.slot b ob q n hb hx
 .exact ⟨ob.slots,u.keep b ob q n hb hx⟩
theorem Un.kept(k:∀b u,h.get? b=some u->h'.get? b=some u):Un fs ex H H h h' :=
 ⟨λb ob q _ _ _=>k b ob q,λb ob q _ _ _=>⟨ob.slots,k b ob q⟩,λ_ _ _ n _=>n,λb ob q _=>⟨ob,k b ob q⟩,λ_ _ q=>q,λ_ _ _ q=>q,λ_ ps q=>⟨#[],by rw[q];simp⟩⟩
theorem Un.refl:Un fs ex H H h h:=Un.kept λ_ _ q=>q
theorem Un.laid(k:∀b u,h.get? b=some u->h'.get? b=some u) (hp:h.objs.size<=a) (hn:H a=none):Un fs ex H (oB H a o) h h' where
 keep:=λb u q _ _ _=>k b u q
 slot:=λb u q _ _ _=>⟨u.slots,k b u q⟩
 free:=λb u q n _=>by rw[ni (aw (aK (ag q) hp))];exact n
 there:=λb u q _=>⟨u,k b u q⟩
 tups:=λb xs q=>by rw[ni (pX q hn)];exact q
 frzs:=λb u xs q=>by rw[ni (pX q hn)];exact q
 tbls:=λb ps q=>⟨#[],by rw[ni (pX q hn),q];simp⟩
theorem Un.write(mu:Xr (H x)) (he:e=x∨H e=some (.own x)) (k:∀b u,b≠e->h.get? b=some u->h'.get? b=some u) (heo:∃u,h'.get? e=some u):Un fs ex H (oB H x o) h h':=by
 have hx:∀b,H b=none->b≠x:=λb n z=>by subst z;rw[n]at mu;exact mu
 have hb:∀b,H b=none->b≠e:=λb n z=>by
  subst z;rcases he with r|r
  .exact hx b n r
  .rw [n]at r;cases r
 have hm:∀b u,H b=some u->¬ Xr (some u)->b≠x:=λb u q nm z=>by subst z;rw[q]at mu;exact nm mu
 refine⟨λb u q n _ _=>k b u (hb b n) q,λb u q n _ _=>⟨u.slots,k b u (hb b n) q⟩,λb u q n _=>by rw[ni (hx b n)];exact n,λb u q _=>?_,
  λb xs q=>by rw[ni (hm b _ q λz=>z)];exact q,λb u xs q=>by rw[ni (hm b _ q λz=>z)];exact q,λb ps q=>⟨#[],by rw[ni (hm b _ q λz=>z),q];simp⟩⟩
 by_cases hbe:b=e
 .subst hbe;exact heo
 .exact ⟨u,k b u hbe q⟩
end
def Yd(h:Heap) (H:Hp):List Addr:=(cL h.objs.size).filter λa=>(H a).isSome
def EN(h:Heap) (H:Hp):Heap:=W.hideAll h (Yd h H)
theorem Mk(h:Heap) (H:Hp):(EN h H).objs.size=h.objs.size:=W.hideAll_size _ _
theorem OQ{h:Heap}{H:Hp}{b:Addr}{o:Obj}(e:h.get? b=some o) (n:H b=none):(EN h H).get? b=some o :=
 W.hideAll_get _ e λhm=>by
  have q:(H b).isSome=true:=(iy.mp hm).2;rw[n]at q;simp at q
theorem QV{h:Heap}{H:Hp}{b:Addr}{o:Obj}(e:(EN h H).get? b=some o):h.get? b=some o/\H b=none:=by
 have e':h.get? b=some o:=W.of_hideAll (Yd h H) e;refine⟨e',?_⟩;cases q:H b with
 |none=>rfl
 |some x =>
  have hm:b∈Yd h H:=iy.mpr ⟨cB.mpr (ag e'),by simp[q]⟩
  have z:(EN h H).get? b=none:=W.hideAll_none (Yd h H) hm;rw[z]at e;cases e
def QN(g h:Heap) (L:Addr):List (Addr×Obj):=(cL h.objs.size).filterMap λa=>if a=L∨(g.get? a).isSome=true then none else (h.get? a).map λo=>(a,o)
def rest(g h:Heap) (L d:Addr):List (Addr×Obj):=(QN g h L).filter λp=>decide (p.1≠d)
structure Mod (K:W.Frag) (mg:Str->Option Value) (base:Heap):Prop where
 kin:K.In base
 glob:base.Ns jh mg
 blt:∃mb,base.Ns builtinsNs mb/\∀x:Str,x ≠ "__name__" -> mb x=ke x
 nolimit:base.NoLimit
structure Cx where
 prog:jg
 w:ji
 K:W.Frag
 mg:Str->Option Value
 base:Heap
 A:Around
 N:List Str
 s₀:Shared
 H₀:Hp
 env:Env
 outer:List Env
 stack:List Env
 ex:List Addr
 fn:Str->Bool
 calm:Bool
 pn:List (Addr×Obj)
 xe:Value->Shared->Prop
def JE(l:List Env):List Addr:=l.filterMap (·.frame)
abbrev Cx.fs(X:Cx):List Addr:=JE X.outer
def XG(sc:ky) (x:Str):Prop:=sc.names.lookup x=some .local∨sc.names.lookup x=some .cell∨sc.names.lookup x=some .free
def V1(sc:ky) (x:Str):Prop:=sc.names.lookup x=some .local∨sc.names.lookup x=some .cell
def W5(env:Env) (h:Heap) (m:Str->Option Value) (x:Str) (u:Value):Prop :=
 (env.kindOf x=some .local/\m x=some u)∨((env.kindOf x=some .cell∨env.kindOf x=some .free)/\∃c,env.cells.lookup x=some c/\h.IsCell c (some u))
structure Cx.Ok (X:Cx):Prop where
 mod:Mod X.K X.mg X.base
 kind:X.env.scope.kind = .function
 glob:X.env.globals=jh
 blt:X.env.builtins=builtinsNs
 above:X.s₀.heap.objs.size<=X.env.locals
 inj:∀x y c,X.env.cells.lookup x=some c->X.env.cells.lookup y=some c->x=y
 has:∀x,(X.env.kindOf x=some .cell∨X.env.kindOf x=some .free)->∃c,X.env.cells.lookup x=some c
 cab:∀x c,X.fn x=true->X.env.cells.lookup x=some c->X.s₀.heap.objs.size<=c
 hd:X.calm=true->X.A.handled=none
 frames:X.A.frames=some X.stack
 stk:X.stack=X.outer∨(X.stack=X.env::X.outer/\X.env.frame=some X.env.locals)
 exf:∀b∈X.ex,b≠X.env.locals/\∀x c,X.env.cells.lookup x=some c->c≠b
 bs:∀b o,X.base.get? b=some o->X.s₀.heap.get? b=some o/\X.H₀ b=none
 bsz:X.base.objs.size<=X.s₀.heap.objs.size
 noex:∀b o,X.base.get? b=some o->b∉X.ex
 exfs:∀b∈X.ex,b∉X.fs
 funs:X.s₀.heap.FunFrames X.base X.outer
 frf:∀b∈X.fs,X.H₀ b=none
structure Inv (X:Cx) (mV:List (Addr×Obj)) (σ:List (Option V)) (H:Hp) (s:Shared):Prop where
 ok:X.Ok
 os:s.os=X.s₀.os
 bare:kE s.gens
 base:Un X.fs X.ex X.H₀ H X.s₀.heap s.heap
 loc:∃m,s.heap.Ns X.env.locals m/\∀(i:Nat) (x:Str) (v:V),X.N[i]?=some x->σ[i]?=some (some v)->XG X.env.scope x->∃u,oK v u/\W5 X.env s.heap m x u
 cell:∀x c,X.env.cells.lookup x=some c->∃v,s.heap.IsCell c v
 free:H X.env.locals=none
 freeC:∀x c,X.env.cells.lookup x=some c->H c=none
 pin:∀p∈X.pn++mV,s.heap.get? p.1=some p.2/\H p.1=none/\p.1≠X.env.locals/\p.1∉X.fs/\∀v,p.2.data ≠ .cell v
 hok:wX X.prog X.w H s.heap
 len:σ.length=X.N.length
section
variable {X:Cx}{mV:List (Addr×Obj)}{σ:List (Option V)}{H H':Hp}{s:Shared}{h':Heap}
theorem Cx.Ok.nofr(ok:X.Ok) {b:Addr}{o:Obj}(e:X.base.get? b=some o):b∉X.fs:=λhb=>by
 have:=(ok.funs.mem hb).1;rw[e]at this;cases this
theorem Inv.bs(I:Inv X mV σ H s):∀b o,X.base.get? b=some o->s.heap.get? b=some o/\H b=none:=λb o e =>
 ⟨I.base.keep b o (I.ok.bs b o e).1 (I.ok.bs b o e).2 (I.ok.nofr e) (I.ok.noex b o e),I.base.free b o (I.ok.bs b o e).1 (I.ok.bs b o e).2 (I.ok.noex b o e)⟩
theorem Inv.bk(I:Inv X mV σ H s):∀b o,X.base.get? b=some o->s.heap.get? b=some o:=λb o e=>(I.bs b o e).1
theorem Inv.mod(I:Inv X mV σ H s):Mod X.K X.mg X.base:=I.ok.mod
theorem Inv.kIn(I:Inv X mV σ H s):X.K.In s.heap:=I.ok.mod.kin.keeps I.bk
theorem Inv.lt(I:Inv X mV σ H s):X.env.locals<s.heap.objs.size:=let ⟨_,hn,_⟩:=I.loc;hn.lt
theorem Inv.sz(I:Inv X mV σ H s):X.s₀.heap.objs.size<=s.heap.objs.size:=bC I.ok.above (bZ I.lt)
theorem Inv.nofs(I:Inv X mV σ H s) {a:Addr}(h:s.heap.objs.size<=a):a∉X.fs:=λhb=>by
 obtain⟨_,o,ho,_⟩:=I.ok.funs.mem hb;exact absurd (aK (ag ho) (bC I.sz h)) (bY _)
theorem Inv.cne(I:Inv X mV σ H s):∀x c,X.env.cells.lookup x=some c->c≠X.env.locals:=λx c e z=>by
 obtain⟨v,o,ho,hd⟩:=I.cell x c e;obtain⟨m,⟨o',es,ep,ho',hd',_⟩,_⟩:=I.loc;rw[z,ho']at ho;cases ho;rw[hd']at hd;cases hd
theorem Inv.funs(I:Inv X mV σ H s):s.heap.FunFrames X.base X.outer:=by
 have all:∀(l:List Env),(∀b∈JE l,b∈X.fs)->X.s₀.heap.FunFrames X.base l->s.heap.FunFrames X.base l:=by
  intro l
  induction l with
  |nil=>intro _ _;trivial
  |cons env r ih =>
   intro hs hl;obtain⟨hk,⟨L,o,hf,hn,ho,hd⟩,hr⟩:=hl;have hL:L∈X.fs:=hs L (by unfold JE;rw[fv,hf];exact aD)
   obtain⟨sl,e⟩:=I.base.slot L o ho (I.ok.frf L hL) hL λz=>I.ok.exfs L z hL
   exact⟨hk,⟨L,_,hf,hn,e,hd⟩,ih (λb hb=>hs b (by unfold JE;rw[fv,hf];exact mCo _ hb)) hr⟩
 exact all X.outer (λ_ hb=>hb) I.ok.funs
theorem Inv.stack(I:Inv X mV σ H s):s.heap.FunFrames X.base X.stack:=by
 rcases I.ok.stk with e|⟨e,hf⟩
 .rw [e];exact I.funs
 .rw [e];obtain⟨m,hn,_⟩:=I.loc;refine .cons (by rw[I.ok.kind];decide) hf hn ?_ I.funs
  exact cE (bC I.ok.bsz I.ok.above)
theorem Inv.stkSub(I:Inv X mV σ H s):∀b∈JE X.stack,b∈X.env.locals::X.fs:=λb hb=>by
 rcases I.ok.stk with e|⟨e,hf⟩
 .rw [e]at hb;exact mCo _ hb
 .rw [e]at hb;unfold JE at hb;rw[fv,hf]at hb;exact hb
theorem Inv.stkFree(I:Inv X mV σ H s):∀b∈JE X.stack,H b=none:=λb hb=>by
 rcases ao.mp (I.stkSub b hb) with e|hb
 .rw [e];exact I.free
 .obtain ⟨_,o,ho,_⟩:=I.ok.funs.mem hb;exact I.base.free b o ho (I.ok.frf b hb) λz=>I.ok.exfs b z hb
theorem Inv.step{g':Array kS}{t':Nat}{d':Drawn}{ch:List Addr}(I:Inv X mV σ H s)
  (hch:∀b∈ch,(b∈X.ex∨X.s₀.heap.objs.size<=b)/\b≠X.env.locals/\(∀x c,X.env.cells.lookup x=some c->c≠b)/\∀p∈X.pn++mV,p.1≠b)
  (keep:∀b o,b≠X.env.locals->b∉X.fs->b∉ch->s.heap.get? b=some o->H b=none->h'.get? b=some o)
  (slot:∀b o,b≠X.env.locals->b∈X.fs->b∉ch->s.heap.get? b=some o->H b=none->∃sl,h'.get? b=some { o with slots:=sl }) (free:∀b o,b∉ch->s.heap.get? b=some o->H b=none->H' b=none)
  (there:∀b o,b∉ch->s.heap.get? b=some o->∃o',h'.get? b=some o')
  (tups:∀b xs,H b=some (.tup xs)->H' b=some (.tup xs)) (frzs:∀b o u,H b=some (.frz o u)->H' b=some (.frz o u)) (tbls:∀b ps,H b=some (.tbl ps)->∃more,H' b=some (.tbl (ps++more)))
  (ns:∀m,s.heap.Ns X.env.locals m->h'.Ns X.env.locals m) (hok:wX X.prog X.w H' h') (hg:kE g') :
  Inv X mV σ H' { s with heap:=h',gens:=g',drawn:=d',toks:=t' }:=by
 have neL:∀b o,X.s₀.heap.get? b=some o->b≠X.env.locals:=λb o e=>aw (aK (ag e) I.ok.above)
 have neC:∀b o,X.s₀.heap.get? b=some o->b∉X.ex->b∉ch:=λb o e hx hb=>by
  rcases (hch b hb).1 with z|z
  .exact hx z
  .exact absurd (aK (ag e) z) (bY _)
 have cellK:∀x c,X.env.cells.lookup x=some c->∀v,s.heap.IsCell c v->h'.IsCell c v:=λx c e v ⟨o,ho,hd⟩=>by
  have nch:c∉ch:=λz=>(hch c z).2.2.1 x c e rfl
  by_cases hc:c∈X.fs
  .obtain ⟨sl,q⟩:=slot c o (I.cne x c e) hc nch ho (I.freeC x c e);exact⟨_,q,hd⟩
  .exact ⟨o,keep c o (I.cne x c e) hc nch ho (I.freeC x c e),hd⟩
 refine⟨I.ok,I.os,hg,⟨λb o e n hb hx=>?_,λb o e n hb hx=>?_,λb o e n hx=>?_,λb o e hx=>?_,λb xs e=>tups b xs (I.base.tups b xs e),λb o xs e=>frzs b o xs (I.base.frzs b o xs e),λb ps e=>?_⟩,?_,λx c e=>?_,?_,λx c e=>?_,λp hp=>?_,hok,I.len⟩
 .exact keep b o (neL b o e) hb (neC b o e hx) (I.base.keep b o e n hb hx) (I.base.free b o e n hx)
 .obtain ⟨sl,e1⟩:=I.base.slot b o e n hb hx;obtain⟨sl',e2⟩:=slot b _ (neL b o e) hb (neC b o e hx) e1 (I.base.free b o e n hx);exact⟨sl',e2⟩
 .obtain ⟨o',e1⟩:=I.base.there b o e hx;exact free b o' (neC b o e hx) e1 (I.base.free b o e n hx)
 .obtain ⟨o',e1⟩:=I.base.there b o e hx;exact there b o' (neC b o e hx) e1
 .obtain ⟨m1,e1⟩:=I.base.tbls b ps e;obtain⟨m2,e2⟩:=tbls b _ e1;exact⟨m1++m2,by rw[e2,gY]⟩
 .obtain ⟨m,hn,hl⟩:=I.loc;refine⟨m,ns m hn,λi x v e1 e2 e3=>?_⟩
  obtain⟨u,r,l⟩:=hl i x v e1 e2 e3;refine⟨u,r,?_⟩;rcases l with l|⟨k,c,e,z⟩
  .exact .inl l
  .exact .inr ⟨k,c,e,cellK x c e _ z⟩
 .obtain ⟨v,z⟩:=I.cell x c e;exact⟨v,cellK x c e v z⟩
 .obtain ⟨m,⟨o,_,_,ho,_⟩,_⟩:=I.loc;exact free _ o (λz=>(hch _ z).2.1 rfl) ho I.free
 .obtain ⟨v,o,ho,hd⟩:=I.cell x c e;exact free c o (λz=>(hch c z).2.2.1 x c e rfl) ho (I.freeC x c e)
 .obtain ⟨e,n,ne,nf,d⟩:=I.pin p hp;have nch:p.1∉ch:=λz=>(hch p.1 z).2.2.2 p hp rfl
  exact⟨keep p.1 p.2 ne nf nch e n,free p.1 p.2 nch e n,ne,nf,d⟩
theorem Inv.un{t':Nat}(I:Inv X mV σ H s) (u:Un X.fs [] H H' s.heap h') (hok:wX X.prog X.w H' h'):Inv X mV σ H' { s with heap:=h',toks:=t' }:=by
 obtain⟨m,⟨o,es,ep,ho,r⟩,_⟩:=id I.loc;obtain⟨sl,hL⟩:=u.any ho I.free (by simp)
 exact I.step (g':=s.gens) (d':=s.drawn) (ch:=[]) (λ_ z=>nomatch z) (λb o _ hb _ e n=>u.keep b o e n hb (by simp)) (λb o _ hb _ e n=>u.slot b o e n hb (by simp)) (λb o _ e n=>u.free b o e n (by simp)) (λb o _ e=>u.there b o e (by simp)) u.tups u.frzs u.tbls (λm' hm=>by
  obtain⟨o',es',ep',ho',r'⟩:=hm;rw[ho]at ho';cases ho';exact⟨_,es',ep',hL,r'⟩) hok I.bare
theorem Inv.call{g':Array kS}{t':Nat}{d':Drawn}{ch:List Addr}(I:Inv X mV σ H s) (u:Un (JE X.stack) ch H H' s.heap h') (hok:wX X.prog X.w H' h') (hg:kE g')
  (hch:∀b∈ch,(b∈X.ex∨X.s₀.heap.objs.size<=b)/\b≠X.env.locals/\(∀x c,X.env.cells.lookup x=some c->c≠b)/\∀p∈X.pn++mV,p.1≠b) :
  Inv X mV σ H' { s with heap:=h',gens:=g',drawn:=d',toks:=t' }:=by
 obtain⟨m,⟨o,es,ep,ho,r⟩,_⟩:=id I.loc;obtain⟨sl,hL⟩:=u.any ho I.free λz=>(hch _ z).2.1 rfl
 exact I.step (ch:=ch) hch (λb o hL hb hc e n=>u.keep b o e n (λz=>(ao.mp (I.stkSub b z)).elim hL hb) hc) (λb o _ _ hc e n=>u.any e n hc) (λb o hc e n=>u.free b o e n hc) (λb o hc e=>u.there b o e hc) u.tups u.frzs u.tbls (λm' hm=>by
  obtain⟨o',es',ep',ho',r'⟩:=hm;rw[ho]at ho';cases ho';exact⟨_,es',ep',hL,r'⟩) hok hg
theorem Inv.turned{t':Nat}{it:Addr}(I:Inv X mV σ H s) (k:∀b o,b≠it->s.heap.get? b=some o->h'.get? b=some o) (hn:H it=none) (hL:it≠X.env.locals)
  (h1:it∈X.ex∨X.s₀.heap.objs.size<=it) (h2:∀x c,X.env.cells.lookup x=some c->c≠it) (h3:∀p∈X.pn++mV,p.1≠it):Inv X mV σ H { s with heap:=h',toks:=t' }:=by
 have nit:∀b u,H b=some u->b≠it:=λb u e z=>by rw[z,hn]at e;cases e
 refine I.step (g':=s.gens) (d':=s.drawn) (ch:=[it]) (λb hb=>?_) (λb o _ _ hc e _=>k b o (λz=>hc (by simp[z])) e) (λb o _ _ hc e _=>⟨o.slots,k b o (λz=>hc (by simp[z])) e⟩) (λ_ _ _ _ n=>n)
  (λb o hc e=>⟨o,k b o (λz=>hc (by simp[z])) e⟩) (λ_ _ e=>e) (λ_ _ _ e=>e) (λb ps e=>⟨#[],by rw[e];simp⟩) (λm hm=>?_) (λb u e=>?_) I.bare
 .have e:b=it:=by simpa using hb
  subst e;exact⟨h1,hL,h2,h3⟩
 .obtain ⟨o,es,ep,ho,r⟩:=hm;exact⟨o,es,ep,k _ o (Ne.symm hL) ho,r⟩
 .refine (I.hok b u e).stay (λc v hc q=>k c v ?_ q) (λ_ q=>q) λ_ _ q=>q
  rcases hc with z|z
  .rw [z];exact nit b u e
  .exact nit c _ z
theorem Inv.tok(I:Inv X mV σ H s) (t:Nat):Inv X mV σ H { s with toks:=t }:=I.un (h':=s.heap) (t':=t) Un.refl I.hok
theorem Inv.kept{t':Nat}(I:Inv X mV σ H s) (k:∀b u,s.heap.get? b=some u->h'.get? b=some u):Inv X mV σ H { s with heap:=h',toks:=t' }:=I.un (Un.kept k) (I.hok.kept k)
theorem Inv.laid{a:Addr}{o:HO}{t':Nat}(I:Inv X mV σ H s) (k:∀b u,s.heap.get? b=some u->h'.get? b=some u) (hp:s.heap.objs.size<=a) (new:oY X.prog X.w (oB H a o) h' a o) :
  Inv X mV σ (oB H a o) { s with heap:=h',toks:=t' }:=I.un (Un.laid k hp (I.hok.fresh hp)) (I.hok.laid k hp new)
theorem Inv.write{x e:Addr}{o:HO}{t':Nat}(I:Inv X mV σ H s) (mu:Xr (H x)) (he:e=x∨H e=some (.own x)) (k:∀b u,b≠e->s.heap.get? b=some u->h'.get? b=some u) (heo:∃u,h'.get? e=some u)
  (new:oY X.prog X.w (oB H x o) h' x o):Inv X mV σ (oB H x o) { s with heap:=h',toks:=t' }:=I.un (Un.write mu he k heo) (I.hok.write mu he k heo new)
theorem Inv.pins_of{pins':List (Addr×Obj)}(I:Inv X mV σ H s) (h:∀p∈pins',s.heap.get? p.1=some p.2/\H p.1=none/\p.1≠X.env.locals/\p.1∉X.fs/\∀v,p.2.data ≠ .cell v):Inv X pins' σ H s :=
 ⟨I.ok,I.os,I.bare,I.base,I.loc,I.cell,I.free,I.freeC,λp hp=>(mAq.mp hp).elim (λz=>I.pin p (aU _ z)) (h p),I.hok,I.len⟩
theorem Cc{N:List Str}(hN:N.Nodup) {i j:Nat}{x:Str}(a:N[i]?=some x) (b:N[j]?=some x):i=j:=by
 obtain⟨h1,e1⟩:=gSq.mp a;obtain⟨h2,e2⟩:=gSq.mp b;exact(List.getElem_inj hN).mp (e1.trans e2.symm)
theorem Mz{M:jZ}{A:Around}{E:Value->Shared->Prop}{i:Nat}{x:Str}{v:V}{u:Value}{Q:Unit->Shared->Prop}(I:Inv X mV σ H s) (hN:X.N.Nodup) (hi:X.N[i]?=some x) (hx:V1 X.env.scope x) (r:oK v u)
  (h:∀s',Inv X mV (σ.set i (some v)) H s'->(∃a,eM a s.heap s'.heap/\(a=X.env.locals∨X.env.cells.lookup x=some a))->Q () s') (hf:X.fn x=true∨X.env.scope.names.lookup x=some .local:=by trivial):jb M A (mS X.env x u) Q E s:=by
 obtain⟨m,hn,hl⟩:=id I.loc;have hcls:(X.env.scope.kind == .class || (X.env.scope.kind == .module && X.env.locals != X.env.globals))=false:=by rw[I.ok.kind];rfl
 have hiσ:i<σ.length:=by rw[I.len];exact(gSq.mp hi).1
 have cne:=I.cne;have tracked:∀{a:Addr}{h':Heap},(∃o,s.heap.get? a=some o/\H a=none)->eM a s.heap h'->wX X.prog X.w H h':=λ{a h'} ha hs b ob e=>by
  obtain⟨_,_,hfree⟩:=ha;refine(I.hok b ob e).stay (λc w' hc q=>(hs.2 c ?_).trans q) (λ_ q=>q) λ_ _ q=>q
  rintro rfl;rcases hc with rfl|hc
  .rw [hfree]at e;cases e
  .rw [hfree]at hc;cases hc
 rcases hx with hk|hk
 .refine wpAny_storeName_local hk hn (λh' hn' hs=>?_) hcls
  obtain⟨oL,_,_,hoL,_⟩:=id hn;refine h _ ⟨I.ok,I.os,I.bare,⟨λb o e n hb hx=>?_,λb o e n hb hx=>?_,I.base.free,λb o e hx=>?_,I.base.tups,I.base.frzs,I.base.tbls⟩,⟨_,hn',λj y v' e1 e2 e3=>?_⟩,λy c e=>?_,I.free,I.freeC,λp hp=>?_,tracked ⟨oL,hoL,I.free⟩ hs,by simpa using I.len⟩ ⟨_,hs,.inl rfl⟩
  .exact (hs.2 b (aw (aK (ag e) I.ok.above))).trans (I.base.keep b o e n hb hx)
  .obtain ⟨sl,e1⟩:=I.base.slot b o e n hb hx;exact⟨sl,(hs.2 b (aw (aK (ag e) I.ok.above))).trans e1⟩
  .obtain ⟨o',e1⟩:=I.base.there b o e hx;exact⟨o',(hs.2 b (aw (aK (ag e) I.ok.above))).trans e1⟩
  .by_cases hj:j=i
   .subst hj;rw[hi]at e1;cases e1;rw[aG hiσ]at e2;cases e2;exact⟨u,r,.inl ⟨hk,by simp⟩⟩
   .rw [ar (Ne.symm hj)]at e2;obtain⟨u',r',q⟩:=hl j y v' e1 e2 e3;refine⟨u',r',?_⟩;rcases q with ⟨k,e⟩|⟨k,c,e,z⟩
    .refine .inl ⟨k,?_⟩;have:y≠x:=λe=>hj (Cc hN e1 (e ▸ hi))
     simp[this,e]
    .exact .inr ⟨k,c,e,z.sameBut hs (cne y c e)⟩
  .obtain ⟨w',z⟩:=I.cell y c e;exact⟨w',z.sameBut hs (cne y c e)⟩
  .obtain ⟨e,n,ne,nf,d⟩:=I.pin p hp;exact⟨(hs.2 p.1 ne).trans e,n,ne,nf,d⟩
 .have hfn:X.fn x=true:=by
   rcases hf with z|z
   .exact z
   .rw [z]at hk;cases hk
  obtain⟨c,hc⟩:=I.ok.has x (.inl hk);obtain⟨w',z⟩:=I.cell x c hc;refine wpAny_storeName_cell I.ok.kind hk hc z (λh' hc' hs=>?_)
  obtain⟨oc,hoc,hocd⟩:=id z;refine h { s with heap:=h' } ⟨I.ok,I.os,I.bare,⟨λb o e n hb hx=>?_,λb o e n hb hx=>?_,I.base.free,λb o e hx=>?_,I.base.tups,I.base.frzs,I.base.tbls⟩,⟨m,hn.sameBut hs (Ne.symm (cne x c hc)),λj y v' e1 e2 e3=>?_⟩,λy c' e=>?_,I.free,I.freeC,λp hp=>?_,tracked ⟨oc,hoc,I.freeC x c hc⟩ hs,by simpa using I.len⟩ ⟨c,hs,.inr hc⟩
  .exact (hs.2 b (aw (aK (ag e) (I.ok.cab x c hfn hc)))).trans (I.base.keep b o e n hb hx)
  .obtain ⟨sl,e1⟩:=I.base.slot b o e n hb hx;exact⟨sl,(hs.2 b (aw (aK (ag e) (I.ok.cab x c hfn hc)))).trans e1⟩
  .obtain ⟨o',e1⟩:=I.base.there b o e hx;exact⟨o',(hs.2 b (aw (aK (ag e) (I.ok.cab x c hfn hc)))).trans e1⟩
  .by_cases hj:j=i
   .subst hj;rw[hi]at e1;cases e1;rw[aG hiσ]at e2;cases e2;exact⟨u,r,.inr ⟨.inl hk,c,hc,hc'⟩⟩
   .rw [ar (Ne.symm hj)]at e2;obtain⟨u',r',q⟩:=hl j y v' e1 e2 e3;refine⟨u',r',?_⟩;rcases q with q|⟨k,c',e,z'⟩
    .exact .inl q
    .refine .inr ⟨k,c',e,z'.sameBut hs ?_⟩;rintro rfl;exact hj (Cc hN e1 (I.ok.inj _ _ _ e hc ▸ hi))
  .by_cases hcc:c'=c
   .subst hcc;exact⟨_,hc'⟩
   .obtain ⟨w2,z2⟩:=I.cell y c' e;exact⟨w2,z2.sameBut hs hcc⟩
  .obtain ⟨e,n,ne,nf,d⟩:=I.pin p hp;refine⟨(hs.2 p.1 ?_).trans e,n,ne,nf,d⟩;intro q;rw[q,hoc]at e;have q':oc=p.2:=ba.inj e;exact d w' (by rw[←q'];exact hocd)
theorem zu{M:jZ}{A:Around}{E:Value->Shared->Prop}{i:Nat}{x:Str}{v:V}{u:Value}{Q:Unit->Shared->Prop}(I:Inv X mV σ H s) (hN:X.N.Nodup) (hi:X.N[i]?=some x) (hx:V1 X.env.scope x) (r:oK v u)
  (h:∀s',Inv X mV (σ.set i (some v)) H s'->Q () s') (hf:X.fn x=true∨X.env.scope.names.lookup x=some .local:=by trivial):jb M A (mS X.env x u) Q E s :=
 Mz I hN hi hx r (λs' I' _=>h s' I') hf
theorem Inv.call'{s':Shared}{ch:List Addr}(I:Inv X mV σ H s) (ho:s'.os=s.os) (u:Un (JE X.stack) ch H H' s.heap s'.heap) (hok:wX X.prog X.w H' s'.heap) (hg:kE s'.gens)
  (hch:∀b∈ch,(b∈X.ex∨X.s₀.heap.objs.size<=b)/\b≠X.env.locals/\(∀x c,X.env.cells.lookup x=some c->c≠b)/\∀p∈X.pn++mV,p.1≠b):Inv X mV σ H' s':=by
 obtain⟨h',g',d',t',o'⟩:=s';have e:o'=s.os:=ho;subst e;exact I.call (g':=g') (t':=t') (d':=d') u hok hg hch
end
abbrev XK:=Value->Option Addr->Hp->Prop
abbrev St:=List (Option V)
abbrev VK:=V->Hp->Prop
abbrev TE:=St->Hp->VK->Prop
abbrev TT:=St->Hp->(Bool->Hp->Prop)->Prop
abbrev TA:=St->Hp->(List V->Hp->Prop)->Prop
structure tV where
 nx:St->Hp->Prop
 rt:VK
 bk:St->Hp->Prop:=λ_ _=>False
 ct:St->Hp->Prop:=λ_ _=>False
abbrev TS:=tV->St->Hp->Prop
def EP(X:Cx) (mV:List (Addr×Obj)) (σ:St) (Q:VK) (u:Value) (s':Shared):Prop:=∃v H',Inv X mV σ H' s'/\oK v u/\Q v H'
def TP(X:Cx) (mV:List (Addr×Obj)) (σ:St) (Q:Bool->Hp->Prop) (b:Bool) (s':Shared):Prop:=∃H',Inv X mV σ H' s'/\Q b H'
def AP(X:Cx) (mV:List (Addr×Obj)) (σ:St) (Q:List V->Hp->Prop) (us:List Value) (s':Shared):Prop:=∃vs H',Inv X mV σ H' s'/\nX vs us/\Q vs H'
def SP(X:Cx) (mV:List (Addr×Obj)) (D:tV) (f:Flow) (s':Shared):Prop :=
 match f with
 | .next=>∃σ' H',Inv X mV σ' H' s'/\D.nx σ' H'
 | .brk=>∃σ' H',Inv X mV σ' H' s'/\D.bk σ' H'
 | .cont=>∃σ' H',Inv X mV σ' H' s'/\D.ct σ' H'
 | .ret u=>∃v σ' H',Inv X mV σ' H' s'/\oK v u/\D.rt v H'
def PE(X:Cx) (e:Expr) (t:TE):Prop :=
 ∀(mV:List (Addr×Obj)) (s:Shared) (σ:St) (H:Hp) (Q:VK),Inv X mV σ H s->t σ H Q->jb (ja X.prog X.w) X.A (eval e X.env) (EP X mV σ Q) X.xe s
def PT(X:Cx) (e:Expr) (t:TT):Prop :=
 ∀(mV:List (Addr×Obj)) (s:Shared) (σ:St) (H:Hp) (Q:Bool->Hp->Prop),Inv X mV σ H s->t σ H Q->jb (ja X.prog X.w) X.A (isTrue e X.env (eval e X.env)) (TP X mV σ Q) X.xe s
def PW(X:Cx) (e:Expr) (t:TT):Prop :=
 ∀(whole:Sem Value) (mV:List (Addr×Obj)) (s:Shared) (σ:St) (H:Hp) (Q:Bool->Hp->Prop),Inv X mV σ H s->t σ H Q->jb (ja X.prog X.w) X.A (isTrue e X.env whole) (TP X mV σ Q) X.xe s
theorem PW.pt{X:Cx}{e:Expr}{t:TT}(h:PW X e t):PT X e t:=h _
def PA(X:Cx) (es:List Expr) (t:TA):Prop :=
 ∀(pos:Pos) (mV:List (Addr×Obj)) (s:Shared) (σ:St) (H:Hp) (Q:List V->Hp->Prop),Inv X mV σ H s->t σ H Q->jb (ja X.prog X.w) X.A (spliced (jR pos (jj es X.env))) (AP X mV σ Q) X.xe s
def PS(X:Cx) (st:Stmt) (t:TS):Prop :=
 ∀(mV:List (Addr×Obj)) (s:Shared) (σ:St) (H:Hp) (D:tV),Inv X mV σ H s->t D σ H->jb (ja X.prog X.w) X.A (exec st X.env) (SP X mV D) X.xe s
def HR(X:Cx) (st:List Stmt) (t:TS):Prop :=
 ∀(mV:List (Addr×Obj)) (s:Shared) (σ:St) (H:Hp) (D:tV),Inv X mV σ H s->t D σ H->jb (ja X.prog X.w) X.A (execs st X.env) (SP X mV D) X.xe s
theorem qA{α:Type}{t:Sem α}{Q Q':α->Shared->Prop}{M:jZ}{A:Around}{E:Value->Shared->Prop}{s:Shared}(h:jb M A t Q E s) (hQ:∀a s,Q a s->Q' a s):jb M A t Q' E s:=jo h hQ λ_ _ x=>x
section
variable {X:Cx}
def uI(i:Nat):TE:=λσ H Q=>∃v,σ[i]?=some (some v)/\Q v H
def tC(v:V):TE:=λ_ H Q=>Q v H
theorem UE{i:Nat}{x:Str}{pos:Pos}(hN:X.N[i]?=some x) (hv:XG X.env.scope x) (hd:(x == ("__debug__" : Str))=false:=by decide) (hcd:(x == ("__classdict__" : Str))=false:=by decide):PE X (.Name x pos) (uI i):=by
 intro mV s σ H Q I h;obtain⟨v,e,h⟩:=h;obtain⟨m,hn,hl⟩:=I.loc;obtain⟨u,r,l⟩:=hl i x v hN e hv;have fin:EP X mV σ Q u s:=⟨v,H,I,r,h⟩;rcases l with ⟨hk,hm⟩|⟨hk,c,hc,hcell⟩
 .exact wpAny_Name (mC I.ok.kind hk hn hm fin) hd
 .rcases hk with hk|hk
  .exact wpAny_Name (mN I.ok.kind hk hc hcell fin) hd
  .exact wpAny_Name (wpAny_loadName_free I.ok.kind hk hc hcell fin hcd) hd
theorem nq{i j pos}:PE X (.Constant (.int i) j pos) (tC (.int i)):=λ_ _ _ H _ I h=>wpAny_Constant_int ⟨.int i,H,I.tok _,⟨_,rfl⟩,h⟩
theorem vE{b j pos}:PE X (.Constant (.bool b) j pos) (tC (.bl b)):=λ_ _ _ H _ I h=>Constant_bool ⟨.bl b,H,I,rfl,h⟩
theorem IR{j pos}:PE X (.Constant .none j pos) (tC .non):=λ_ _ _ H _ I h=>Constant_none ⟨.non,H,I,rfl,h⟩
theorem VG{x j pos}:PE X (.Constant (.str x) j pos) (tC (.str x)):=λ_ _ _ H _ I h=>Calls.Constant_str ⟨.str x,H,I.tok _,⟨_,rfl⟩,h⟩
def Gl(X:Cx) (x:Str):Prop:=X.env.kindOf x=some .globalImplicit
theorem vW{E:Value->Shared->Prop}{mV:List (Addr×Obj)}{s:Shared}{σ:St}{H:Hp}{x:Str}{u:Value}{pos:Pos}{Q:Value->Shared->Prop}(I:Inv X mV σ H s) (hg:Gl X x) (hm:X.mg x=some u) (h:Q u s)
  (hd:(x == ("__debug__" : Str))=false:=by decide):jb (ja X.prog X.w) X.A (eval (.Name x pos) X.env) Q E s :=
 Calls.Name_function_global I.ok.kind hg (Calls.loadGlobal_global (by rw[I.ok.glob];exact I.mod.glob.keeps I.bk) hm h) hd
theorem xF{E:Value->Shared->Prop}{mV:List (Addr×Obj)}{s:Shared}{σ:St}{H:Hp}{x:Str}{u:Value}{pos:Pos}{Q:Value->Shared->Prop}(I:Inv X mV σ H s) (hg:Gl X x) (hm:X.mg x=none) (hv:ke x=some u) (h:Q u s)
  (hn:x ≠ "__name__" := by decide) (hd:(x == ("__debug__" : Str))=false:=by decide):jb (ja X.prog X.w) X.A (eval (.Name x pos) X.env) Q E s:=by
 obtain⟨mb,h1,h2⟩:=I.mod.blt;exact Calls.Name_function_global I.ok.kind hg (Calls.loadGlobal_builtin (by rw[I.ok.glob];exact I.mod.glob.keeps I.bk) hm (by rw[I.ok.blt];exact h1.keeps I.bk) ((h2 x hn).trans hv) h) hd
theorem KA{x:Str}{v:V}{u:Value}{pos:Pos}(hg:Gl X x) (hm:X.mg x=some u) (r:oK v u) (hd:(x == ("__debug__" : Str))=false:=by decide):PE X (.Name x pos) (tC v) :=
 λ_ _ _ H _ I h=>vW I hg hm ⟨v,H,I,r,h⟩ hd
theorem yp{x:Str}{v:V}{u:Value}{pos:Pos}(hg:Gl X x) (hm:X.mg x=none) (hv:ke x=some u) (r:oK v u) (hn:x ≠ "__name__" := by decide) (hd:(x == ("__debug__" : Str))=false:=by decide):PE X (.Name x pos) (tC v) :=
 λ_ _ _ H _ I h=>xF I hg hm hv ⟨v,H,I,r,h⟩ hn hd
variable {a b:Expr}{ta tb:TE}{pos:Pos}
def PC(X:Cx) (op:CmpOp) (a b:Expr) (t:TE):Prop :=
 ∀(mV:List (Addr×Obj)) (s:Shared) (σ:St) (H:Hp) (Q:VK),Inv X mV σ H s->t σ H Q ->
  jb (ja X.prog X.w) X.A (eval a X.env) (λv s₁=>jb (ja X.prog X.w) X.A (eval b X.env) (λu s₂=>jb (ja X.prog X.w) X.A (jI op v u) (EP X mV σ Q) X.xe s₂) X.xe s₁) X.xe s
def tB(t:TE):TT:=λσ H Q=>t σ H λx H1=>∃c,x = .bl c/\Q c H1
theorem B7{op:CmpOp}{t:TE}(h:PC X op a b t) (h1:kH op b=false:=by first|exact nobehind _ (by decide) (by decide)|rfl):PT X (.Compare a [op] [b] pos) (tB t):=by
 intro mV s σ H Q I hw;refine lX (qA (h mV s σ H _ I hw) λv s1 h1=>qA h1 λu s2 h2=>qA h2 λc s3 ⟨x,H1,I1,r1,q1⟩=>?_) h1
 obtain⟨d,rfl,q⟩:=q1;cases r1;exact jC ⟨H1,I1,q⟩
theorem wI{e:Expr}{t:TE}(h:PE X e t) (he:∀whole,isTrue e X.env whole=(do let v ←whole;standAt e.pos;holding [v] (truthy v)):=by intro _;rfl):PT X e (tB t):=by
 intro mV s σ H Q I hw;refine isTrue_plain (qA (h mV s σ H _ I hw) λv s1 ⟨x,H1,I1,r1,q1⟩=>?_) (he _)
 obtain⟨d,rfl,q⟩:=q1;cases r1;exact jC ⟨H1,I1,q⟩
variable {tA tB':TT}{rest:List Expr}
def XO(t u:TT):TT:=λσ H Q=>t σ H λc H1=>if c=true then u σ H1 Q else Q false H1
def ZK(t u:TT):TT:=λσ H Q=>t σ H λc H1=>if c=true then Q true H1 else u σ H1 Q
def XX(t:TT):TT:=λσ H Q=>t σ H λc H1=>Q (!c) H1
theorem Fq(ha:PT X a tA):PW X (.BoolOp .And [a] pos) tA:=by
 intro wh mV s σ H Q I h;refine isTrue_and (qA (ha mV s σ H Q I h) λc s1 e=>?_)
 cases c with
 |true=>exact isTrue_and_nil e
 |false=>exact e
theorem EB(ha:PT X a tA):PW X (.BoolOp .Or [a] pos) tA:=by
 intro wh mV s σ H Q I h;refine isTrue_or (qA (ha mV s σ H Q I h) λc s1 e=>?_)
 cases c with
 |false=>exact isTrue_or_nil e
 |true=>exact e
theorem Iw(ha:PT X a tA) (hb:PW X (.BoolOp .And (b::rest) pos) tB'):PW X (.BoolOp .And (a::b::rest) pos) (XO tA tB'):=by
 intro wh mV s σ H Q I h;refine isTrue_and (qA (ha mV s σ H _ I h) λc s1 ⟨H1,I1,q1⟩=>?_)
 cases c with
 |true=>exact hb wh mV s1 σ H1 Q I1 q1
 |false=>exact⟨H1,I1,q1⟩
theorem J7(ha:PT X a tA) (hb:PW X (.BoolOp .Or (b::rest) pos) tB'):PW X (.BoolOp .Or (a::b::rest) pos) (ZK tA tB'):=by
 intro wh mV s σ H Q I h;refine isTrue_or (qA (ha mV s σ H _ I h) λc s1 ⟨H1,I1,q1⟩=>?_)
 cases c with
 |true=>exact⟨H1,I1,q1⟩
 |false=>exact hb wh mV s1 σ H1 Q I1 q1
theorem xV(ha:PT X a tA):PT X (.UnaryOp .Not a pos) (XX tA):=by
 intro mV s σ H Q I h;exact isTrue_not (ha mV s σ H (λc H1=>Q (!c) H1) I h)
def TV(ta tb:TE):TE:=λσ H Q=>ta σ H λx H1=>∃c,x = .bl c/\if c=true then tb σ H1 Q else Q (.bl false) H1
def Tu(ta:TE):TE:=λσ H Q=>ta σ H λx H1=>∃c,x = .bl c/\Q (.bl (!c)) H1
theorem Ju{op} {t:TE}(h:PE X a t):PE X (.BoolOp op [a] pos) t:=λmV s σ H Q I hw=>BoolOp_one (h mV s σ H Q I hw)
theorem Fm(ha:PE X a ta) (hb:PE X (.BoolOp .And (b::rest) pos) tb):PE X (.BoolOp .And (a::b::rest) pos) (TV ta tb):=by
 intro mV s σ H Q I h;refine BoolOp_and (qA (ha mV s σ H _ I h) λv s1 ⟨x,H1,I1,r1,q1⟩=>?_)
 obtain⟨c,rfl,q1⟩:=q1;cases r1;refine jC ?_;cases c with
 |true=>exact hb mV s1 σ H1 Q I1 q1
 |false=>exact⟨.bl false,H1,I1,rfl,q1⟩
theorem NW(ha:PE X a ta):PE X (.UnaryOp .Not a pos) (Tu ta):=by
 intro mV s σ H Q I h;refine UnaryOp_ (qA (ha mV s σ H _ I h) λv s1 ⟨x,H1,I1,r1,q1⟩=>?_)
 obtain⟨c,rfl,q1⟩:=q1;cases r1;exact not_of (jC ⟨.bl (!c),H1,I1,rfl,q1⟩)
end
def qO(K:W.Frag) (H:Hp) (a:Addr) (xs:List V):Prop :=
 Rd H a (.lst xs) ∨
  ∃(o:Obj) (its:Array Value) (n:Nat),K.lookup a=some o/\o.cls = .type "list" /\ o.dict=none/\o.data = .seq its n/\its.size<=jf/\nX xs its.toList
def FS(K:W.Frag) (H:Hp) (a:Addr) (xs:List V):Prop :=
 Rd H a (.tup xs) ∨
  ∃(o:Obj) (its:Array Value) (n:Nat),K.lookup a=some o/\o.cls = .type "tuple" /\ o.data = .seq its n/\its.size<=jf/\nX xs its.toList
def YF:Value->Option V
 | .none=>some .non
 | .bool b=>some (.bl b)
 | .int i _=>some (.int i)
 | .str x _=>some (.str x)
 | .bytes b _=>some (.byt b)
 | .float b _=>some (.flt b)
 | .ref a=>some (.ref a)
 | .type n=>some (.ty n)
 |_=>none
theorem oK.abs{x:V}{u:Value}(r:oK x u):YF u=some x:=by
 cases x with
 |non=>cases r;rfl
 |bl _=>cases r;rfl
 |int _=>obtain⟨t,rfl⟩:=r;rfl
 |str _=>obtain⟨t,rfl⟩:=r;rfl
 |byt _=>obtain⟨t,rfl⟩:=r;rfl
 |flt _=>obtain⟨t,rfl⟩:=r;rfl
 |ref _=>cases r;rfl
 |ty _=>cases r;rfl
theorem oK.inj{x y:V}{u:Value}(r:oK x u) (q:oK y u):x=y:=ba.inj (r.abs.symm.trans q.abs)
theorem nX.inj:∀{xs ys:List V}{us:List Value},nX xs us->nX ys us->xs=ys
 |_,_,_,.nil,.nil=>rfl
 |_,_,_,.cons r t,.cons r' t'=>by rw[r.inj r',nX.inj t t']
section
variable {X:Cx}{mV:List (Addr×Obj)}{σ:St}{H:Hp}{s:Shared}{a:Addr}{xs ys:List V}
theorem qO.of{K:W.Frag}(h:H a=some (.lst xs)):qO K H a xs:=.inl (.inl h)
theorem FS.of{K:W.Frag}(h:H a=some (.tup xs)):FS K H a xs:=.inl (.inl h)
theorem Inv.list(I:Inv X mV σ H s) (h:qO X.K H a xs):∃its:List Value,nX xs its/\PlainL s.heap a its.toArray/\xs.length<=jf:=by
 rcases h with h|⟨o,its,n,hk,hc,hd,hs,hz,r⟩
 .obtain ⟨z,its,n,r,e⟩:=h.ok I.hok;exact⟨its,r,⟨_,n,e,rfl,rfl,rfl⟩,z⟩
 .refine ⟨its.toList,r,⟨o,n,I.kIn a o hk,hc,hd,by simpa using hs⟩,?_⟩
  have e:=r.length;simp only[ax]at e;lia
theorem Inv.tuple(I:Inv X mV σ H s) (h:FS X.K H a xs):∃its:List Value,nX xs its/\IsTup s.heap a its.toArray/\xs.length<=jf:=by
 rcases h with h|⟨o,its,n,hk,hc,hs,hz,r⟩
 .obtain ⟨z,its,r,p⟩:=h.ok I.hok;exact⟨its,r,p,z⟩
 .refine ⟨its.toList,r,⟨o,I.kIn a o hk,hc,n,by simpa using hs⟩,?_⟩
  have e:=r.length;simp only[ax]at e;lia
theorem Inv.list_inj(I:Inv X mV σ H s) (h:qO X.K H a xs) (h':qO X.K H a ys):xs=ys:=by
 obtain⟨its,r,⟨o,n,e,_,_,d⟩,_⟩:=I.list h;obtain⟨its',r',⟨o',n',e',_,_,d'⟩,_⟩:=I.list h';rw[e]at e';cases e';rw[d]at d';injection d' with d1 _
 have:its=its':=by simpa using congrArg Array.toList d1
 subst this;exact r.inj r'
end
abbrev Cx.wish(X:Cx) (E:Value->Shared->Prop):Cx:={ X with xe:=E }
abbrev Cx.nox(X:Cx):Cx:=X.wish λ_ _=>False
theorem Cx.Ok.wish{X:Cx}(ok:X.Ok) (E:Value->Shared->Prop):(X.wish E).Ok :=
 ⟨ok.mod,ok.kind,ok.glob,ok.blt,ok.above,ok.inj,ok.has,ok.cab,ok.hd,ok.frames,ok.stk,ok.exf,ok.bs,ok.bsz,ok.noex,ok.exfs,ok.funs,ok.frf⟩
theorem Cx.Ok.unwish{X:Cx}{E:Value->Shared->Prop}(ok:(X.wish E).Ok):X.Ok :=
 ⟨ok.mod,ok.kind,ok.glob,ok.blt,ok.above,ok.inj,ok.has,ok.cab,ok.hd,ok.frames,ok.stk,ok.exf,ok.bs,ok.bsz,ok.noex,ok.exfs,ok.funs,ok.frf⟩
section
variable {X:Cx}{mV:List (Addr×Obj)}{σ:St}{H:Hp}{s:Shared}{E:Value->Shared->Prop}
theorem Inv.wish(I:Inv X mV σ H s) (E:Value->Shared->Prop):Inv (X.wish E) mV σ H s:=⟨I.ok.wish E,I.os,I.bare,I.base,I.loc,I.cell,I.free,I.freeC,I.pin,I.hok,I.len⟩
theorem Inv.unwish(I:Inv (X.wish E) mV σ H s):Inv X mV σ H s:=⟨I.ok.unwish,I.os,I.bare,I.base,I.loc,I.cell,I.free,I.freeC,I.pin,I.hok,I.len⟩
theorem SP.unwish{D:tV}{f:Flow}{s':Shared}(h:SP (X.wish E) mV D f s'):SP X mV D f s':=by
 cases f with
 |next=>obtain⟨σ',H',I,q⟩:=h;exact⟨σ',H',I.unwish,q⟩
 |brk=>obtain⟨σ',H',I,q⟩:=h;exact⟨σ',H',I.unwish,q⟩
 |cont=>obtain⟨σ',H',I,q⟩:=h;exact⟨σ',H',I.unwish,q⟩
 |ret u=>obtain⟨v,σ',H',I,r,q⟩:=h;exact⟨v,σ',H',I.unwish,r,q⟩
theorem HR.nox{st:List Stmt}{t:TS}(h:HR X.nox st t):HR X st t:=λmV s σ H D I hw =>
 jo (h mV s σ H D (I.wish _) hw) (λ_ _ q=>q.unwish) λ_ _ z=>False.elim z
end
section
variable {X:Cx}{st:Stmt}{rest:List Stmt}{t u:TS}{e:Expr}{te:TE}{pos:Pos}
def TX:TS:=λD σ H=>D.nx σ H
def Js(t u:TS):TS:=λD σ H=>t { D with nx:=u D } σ H
theorem pB:HR X [] TX:=λ_ _ σ H _ I h=>jV ⟨σ,H,I,h⟩
theorem mZ(h1:PS X st t) (h2:HR X rest u):HR X (st::rest) (Js t u):=by
 intro mV s σ H D I h;refine lH (qA (h1 mV s σ H { D with nx:=u D } I h) λf s1 q=>?_)
 cases f with
 |next =>
  obtain⟨σ',H',I',q⟩:=q;exact h2 mV s1 σ' H' D I' q
 |ret v=>exact q
 |brk=>exact q
 |cont=>exact q
theorem ng(h1:PS X st t):HR X [st] t:=by
 intro mV s σ H D I h;refine lH (qA (h1 mV s σ H D I h) λf s1 q=>?_)
 cases f with
 |next=>exact jV q
 |ret v=>exact q
 |brk=>exact q
 |cont=>exact q
theorem Inv.quiet{mV:List (Addr×Obj)}{σ:St}{H:Hp}{s:Shared}(I:Inv X mV σ H s):interactive X.env=false:=by simp[interactive,I.ok.kind]
def xH(te:TE):TS:=λD σ H=>te σ H λ_ H1=>D.nx σ H1
theorem pO(he:PE X e te) (hs:kX e none pos.line X.env=pure false:=by rfl):PS X (.Expr e pos) (xH te):=by
 intro mV s σ H D I h;exact wpAny_Expr_any (qA (he mV s σ H _ I h) λv s1 ⟨x,H1,I1,r1,q1⟩=>⟨σ,H1,I1,q1⟩) I.quiet hs
def VR(te:TE):TS:=λD σ H=>te σ H D.rt
theorem oa(he:PE X e te):PS X (.Return (some e) pos) (VR te):=by
 intro mV s σ H D I h;exact wpAny_Return_some (qA (he mV s σ H _ I h) λv s1 ⟨x,H1,I1,r1,q1⟩=>⟨x,σ,H1,I1,r1,q1⟩)
def P1(c:TT) (t u:TS):TS:=λD σ H=>c σ H λb H1=>if b=true then t D σ H1 else u D σ H1
theorem qK{c:Expr}{a b:List Stmt}{tc:TT}(hc:PT X c tc) (ha:HR X a t) (hb:HR X b u):PS X (.If c a b pos) (P1 tc t u):=by
 intro mV s σ H D I h;refine wpAny_If (qA (hc mV s σ H _ I h) λd s1 ⟨H1,I1,q1⟩=>?_)
 cases d with
 |true=>exact ha mV s1 σ H1 D I1 q1
 |false=>exact hb mV s1 σ H1 D I1 q1
end
abbrev TG:=V->St->Hp->(St->Hp->Prop)->Prop
abbrev VS:=List V->St->Hp->(St->Hp->Prop)->Prop
def PG(X:Cx) (target:Expr) (t:TG):Prop :=
 ∀(mV:List (Addr×Obj)) (s:Shared) (σ:St) (H:Hp) (v:V) (u:Value) (Q:St->Hp->Prop),Inv X mV σ H s->oK v u->t v σ H Q ->
  jb (ja X.prog X.w) X.A (assign target X.env u) (λ_ s'=>∃σ' H',Inv X mV σ' H' s'/\Q σ' H') X.xe s
def X9(X:Cx) (ts:List Expr) (t:VS):Prop :=
 ∀(mV:List (Addr×Obj)) (s:Shared) (σ:St) (H:Hp) (vs:List V) (us:List Value) (Q:St->Hp->Prop),Inv X mV σ H s->nX vs us->t vs σ H Q ->
  jb (ja X.prog X.w) X.A (assignInOrder ((lB ts X.env).map (·.2)) us) (λ_ s'=>∃σ' H',Inv X mV σ' H' s'/\Q σ' H') X.xe s
abbrev Yh:=V->V->Hp->VK->Prop
def ZI(X:Cx) (op:Operator) (t:Yh):Prop :=
 ∀(mV:List (Addr×Obj)) (s:Shared) (σ:St) (H:Hp) (x y:V) (v u:Value) (Q:VK),Inv X mV σ H s->oK x v->oK y u->t x y H Q ->
  jb (ja X.prog X.w) X.A (inplaceOp op v u) (EP X mV σ Q) X.xe s
section
variable {X:Cx}{pos:Pos}
def rh(i:Nat):TG:=λv σ H Q=>Q (σ.set i (some v)) H
theorem pN{i:Nat}{x:Str}(hN:X.N.Nodup) (hi:X.N[i]?=some x) (hx:V1 X.env.scope x) (hf:X.fn x=true∨X.env.scope.names.lookup x=some .local:=by trivial):PG X (.Name x pos) (rh i):=by
 intro mV s σ H v u Q I r h;exact wpAny_assign_Name (zu I hN hi hx r (λs' I'=>⟨_,H,I',h⟩) hf)
def Rl:VS:=λvs σ H Q=>vs=[]/\Q σ H
def B5(t:TG) (u:VS):VS:=λvs σ H Q=>∃v r,vs=v::r/\t v σ H λσ' H'=>u r σ' H' Q
theorem JW:X9 X [] Rl:=by
 intro mV s σ H vs us Q I r h;obtain⟨e,h⟩:=h;subst e;cases r;exact assignInOrder_nil ⟨σ,H,I,h⟩
theorem zg{e:Expr}{es:List Expr}{t:TG}{u:VS}(h1:PG X e t) (h2:X9 X es u)
  (hs:(lB (e::es) X.env).map (·.2)=assign e X.env::(lB es X.env).map (·.2):=by rfl):X9 X (e::es) (B5 t u):=by
 intro mV s σ H vs us Q I r h;obtain⟨v,vr,e1,h⟩:=h;subst e1;cases r with
 |cons r rr =>
  rw[hs];refine assignInOrder_cons (qA (h1 mV s σ H _ _ _ I r h) λ_ s1 ⟨σ1,H1,I1,q1⟩=>?_)
  exact h2 mV s1 σ1 H1 _ _ Q I1 rr q1
def RB(K:W.Frag) (n:Nat) (t:VS):TG:=λv σ H Q=>∃a xs,v = .ref a/\FS K H a xs/\xs.length=n/\t xs σ H Q
theorem Pj{es:List Expr}{k:Nat}{t:VS}{n:Nat}(hc:X.calm=true) (h:X9 X es t)
  (hn:(lB es X.env).length=n:=by rfl) (hst:(lB es X.env).findIdx? (·.1)=none:=by rfl):PG X (.Tuple es k pos) (RB X.K n t):=by
 intro mV s σ H v u Q I r hw;obtain⟨a,xs,e1,hq,hl,hw⟩:=hw;subst e1;cases r;obtain⟨its,rv,ht,hz⟩:=I.tuple hq;refine assign_Tuple_tuple (I.ok.hd hc) ht (by simp[hn,←hl,rv.length]) hst λh' hx=>?_
 have I1:Inv X mV σ H { s with heap:=h' }:=I.kept (t':=s.toks) λb o e=>hx b o (aw (ag e)) e
 exact h mV _ σ H xs _ Q I1 (by simpa using rv) hw
def Gn(te:TE) (g:TG):TS:=λD σ H=>te σ H λx H1=>g x σ H1 D.nx
theorem nM{i:Nat}{x:Str}{e:Expr}{te:TE}{pos':Pos}(hN:X.N.Nodup) (hi:X.N[i]?=some x) (hx:V1 X.env.scope x) (he:PE X e te) (hs:kX e (some (.Name x pos')) pos.line X.env=pure false:=by rfl) (hf:X.fn x=true∨X.env.scope.names.lookup x=some .local:=by trivial) :
  PS X (.Assign [.Name x pos'] e pos) (Gn te (rh i)):=by
 intro mV s σ H D I h;refine wpAny_Assign_Name (qA (he mV s σ H _ I h) λv s1 ⟨y,H1,I1,r1,q1⟩=>?_) hs
 exact zu I1 hN hi hx r1 (λs2 I2=>⟨_,H1,I2,q1⟩) hf
def WO(i:Nat) (te:TE) (ti:Yh):TS:=λD σ H=>∃x,σ[i]?=some (some x)/\te σ H λy H1=>ti x y H1 λz H2=>D.nx (σ.set i (some z)) H2
theorem Vs{i:Nat}{x:Str}{e:Expr}{te:TE}{op:Operator}{ti:Yh}{pos':Pos}(hN:X.N.Nodup) (hi:X.N[i]?=some x) (hx:V1 X.env.scope x) (he:PE X e te) (ho:ZI X op ti) (hf:X.fn x=true∨X.env.scope.names.lookup x=some .local:=by trivial) :
  PS X (.AugAssign (.Name x pos') op e pos) (WO i te ti):=by
 intro mV s σ H D I h;obtain⟨v,e1,h⟩:=h;obtain⟨m,hn,hl⟩:=I.loc;have vis:XG X.env.scope x:=by rcases hx with k|k;exact .inl k;exact .inr (.inl k)
 obtain⟨u,r,l⟩:=hl i x v hi e1 vis;refine wpAny_AugAssign_Name ?_;have go:jb (ja X.prog X.w) X.A (eval e X.env) (λw s₂=>jb (ja X.prog X.w) X.A (inplaceOp op u w) (λr s₃=>jb (ja X.prog X.w) X.A (mS X.env x r) (λ_=>SP X mV D .next) X.xe s₃) X.xe s₂) X.xe s:=by
  refine qA (he mV s σ H _ I h) λw s1 ⟨y,H1,I1,r1,q1⟩=>?_
  refine qA (ho mV s1 σ H1 v y u w _ I1 r r1 q1) λz s2 ⟨zv,H2,I2,r2,q2⟩=>?_
  exact zu I2 hN hi hx r2 (λs3 I3=>⟨_,H2,I3,q2⟩) hf
 rcases l with ⟨hk,hm⟩|⟨hk,c,hc,hcell⟩
 .exact mC I.ok.kind hk hn hm go
 .rcases hk with hk|hk
  .exact mN I.ok.kind hk hc hcell go
  .rcases hx with k|k
   .have:X.env.scope.names.lookup x=some .free:=hk;rw[k]at this;cases this
   .have:X.env.scope.names.lookup x=some .free:=hk;rw[k]at this;cases this
def YL(f:Int->Int->Int):Yh:=λx y H Q=>∃i j,x = .int i/\y = .int j/\Q (.int (f i j)) H
theorem UV:ZI X .Add (YL λi j=>i+j):=by
 intro mV s σ H x y v u Q I r1 r2 h;obtain⟨i,j,e1,e2,q⟩:=h;subst e1;subst e2;obtain⟨t,rfl⟩:=r1;obtain⟨t',rfl⟩:=r2;exact iadd_int ⟨.int _,H,I.tok _,⟨_,rfl⟩,q⟩
end
section
variable {X:Cx}{pos:Pos}
def Np(c:TT) (tb:TS):TS:=λD σ H=>∃W:Nat->St->Hp->Prop,(∃m,W m σ H)/\∀m σ H,W m σ H ->
 c σ H λb H1=>if b=true then ∃N:St->Hp->Prop,(∀σ' H',N σ' H'->∃m',m'<m/\W m' σ' H')/\tb { D with nx:=N,ct:=N,bk:=D.nx } σ H1 else D.nx σ H1
theorem zN{c:Expr}{body:List Stmt}{tc:TT}{tb:TS}(hp:PassesOwn (ja X.prog X.w) X.A X.env X.xe) (hc:PT X c tc) (hb:HR X body tb):PS X (.While c body [] pos) (Np tc tb):=by
 intro mV s σ H D I h;obtain⟨W,⟨m0,w0⟩,turn⟩:=h;refine wpAny_While (codeAny_whileLoop (λn s'=>∃σ' H',Inv X mV σ' H' s'/\W n σ' H') ?_ m0 ⟨σ,H,I,w0⟩)
 rintro n s1 ⟨σ1,H1,I1,w1⟩;refine jM hp (qA (hc mV s1 σ1 H1 _ I1 (turn n σ1 H1 w1)) λb s2 ⟨H2,I2,q2⟩=>?_)
 cases b with
 |true =>
  obtain⟨N,hN,q2⟩:=q2;rw[nP rfl];refine jM hp (qA (hb mV s2 σ1 H2 _ I2 q2) λf s3 q3=>?_)
  cases f with
  |next =>
   obtain⟨σ3,H3,I3,n3⟩:=q3;obtain⟨m',hm,w3⟩:=hN σ3 H3 n3;exact⟨m',hm,σ3,H3,I3,w3⟩
  |cont =>
   obtain⟨σ3,H3,I3,n3⟩:=q3;obtain⟨m',hm,w3⟩:=hN σ3 H3 n3;exact⟨m',hm,σ3,H3,I3,w3⟩
  |brk=>exact q3
  |ret v=>exact q3
 |false =>
  rw[nQ aO];exact jV ⟨σ1,H2,I2,q2⟩
end
structure It where
 go:Nat->Hp->Prop
 yld:Nat->Hp->V->Hp->Prop
 stop:Nat->Hp->Prop
def B8(X:Cx) (mV:List (Addr×Obj)) (H:Hp) (b:Addr):Prop :=
 H b=none/\b≠X.env.locals/\b∉X.fs/\(b∈X.ex∨X.s₀.heap.objs.size<=b)/\(∀x c,X.env.cells.lookup x=some c->c≠b)/\∀p∈X.pn++mV,p.1≠b
theorem Inv.fpOk{X:Cx}{mV:List (Addr×Obj)}{σ:St}{H H':Hp}{s:Shared}{b:Addr}(I:Inv X mV σ H s) (hb:s.heap.objs.size<=b) (hn:H' b=none):B8 X mV H' b:=by
 refine⟨hn,bj (aK I.lt hb),I.nofs hb,.inr (bC I.sz hb),λx c e z=>?_,λp hp z=>?_⟩
 .obtain ⟨v,q⟩:=I.cell x c e;exact absurd (aK q.lt (by rw[z];exact hb)) (bY _)
 .exact absurd (aK (ag (I.pin p hp).1) (by rw[z];exact hb)) (bY _)
structure LG (P:jg) (w:ji) (K:W.Frag) (tg:Expr) (J:It) (fp:List Addr) (it:Addr) (tn:Nat->Heap->Prop):Prop where
 mem:it∈fp
 obj:∀i h,tn i h->∀b∈fp,∃o,h.get? b=some o/\∀v,o.data ≠ .cell v
 keep:∀i h h',tn i h->(∀b∈fp,∀o,h.get? b=some o->h'.get? b=some o)->tn i h'
 item:∀(X:Cx),X.prog=P->X.w=w->X.K=K->X.calm=true->∀(i:Nat) (mV:List (Addr×Obj)) (s:Shared) (σ:St) (H:Hp) (E:Value->Shared->Prop),Inv X mV σ H s->(∀b∈fp,B8 X mV H b)->tn i s.heap->J.go i H ->
  jb (ja P w) X.A (kZ (.ref it)) (λr s1=>∃u,r=some u /\
   jb (ja P w) X.A (kM tg (.ref it) u) (λ_ s2=>∃x H',Inv X mV σ H' s2/\oK x u/\J.yld i H x H'/\tn (i+1) s2.heap/\∀b∈fp,H' b=none) E s1) E s
 done:∀(X:Cx),X.prog=P->X.w=w->X.K=K->X.calm=true->∀(i:Nat) (mV:List (Addr×Obj)) (s:Shared) (σ:St) (H:Hp) (E:Value->Shared->Prop),Inv X mV σ H s->(∀b∈fp,B8 X mV H b)->tn i s.heap->J.stop i H ->
  jb (ja P w) X.A (kZ (.ref it)) (λr s1=>r=none/\Inv X mV σ H s1) E s
 self:∀(A:Around) (i:Nat) (s:Shared) (Q:Value->Shared->Prop) (E:Value->Shared->Prop),tn i s.heap->Q (.ref it) s->jb (ja P w) A (pyIter (.ref it)) Q E s
abbrev TI:=St->Hp->(It->Hp->Prop)->Prop
def Z0(X:Cx) (mV:List (Addr×Obj)) (σ:St) (tg:Expr) (R:It->Hp->Prop) (itv:Value) (s2:Shared):Prop :=
 ∃(it:Addr) (fp:List Addr) (tn:Nat->Heap->Prop) (J:It) (H':Hp),itv = .ref it/\Inv X mV σ H' s2/\LG X.prog X.w X.K tg J fp it tn/\tn 0 s2.heap/\(∀b∈fp,B8 X mV H' b)/\R J H'
def PI(X:Cx) (tg iter:Expr) (wi:TI):Prop :=
 ∀(mV:List (Addr×Obj)) (s:Shared) (σ:St) (H:Hp) (R:It->Hp->Prop),Inv X mV σ H s->wi σ H R ->
  jb (ja X.prog X.w) X.A (eval iter X.env) (λv s1=>jb (ja X.prog X.w) X.A (pyIter v) (Z0 X mV σ tg R) X.xe s1) X.xe s
theorem Qn{M:jZ}{A:Around}{E:Value->Shared->Prop}{s:Shared}{tg:Expr}{it:Addr}{u:Value}{o:Obj}{n:String}{vs:Array Value}{Q:Unit->Shared->Prop}(ho:s.heap.get? it=some o) (hc:o.cls = .type n) (hd:o.data = .fields vs)
    (hn:["enumerate", "zip", "dict_itemiterator", "dict_reverseitemiterator", "odict_iterator", "itertools.zip_longest", "itertools.pairwise"].contains n=false) (hQ:Q () s):jb M A (kM tg (.ref it) u) Q E s:=by
  unfold kM;cases tg <;> first
    |exact je hQ
    | (cases u <;> first
        |exact je hQ
        | (refine iY (wpAny_load ho ?_)
           rw[hc,hd];show jb M A (if (["enumerate", "zip", "dict_itemiterator", "dict_reverseitemiterator", "odict_iterator", "itertools.zip_longest", "itertools.pairwise"].contains n && vs[0]? == some (kf _))=true then _ else _) Q E s
           rw[nQ (by intro h;rw[hn,iD]at h;cases h)]
           exact je hQ))
def WC(K:W.Frag) (a:Addr):It :=
 ⟨λi H=>∃xs x,qO K H a xs/\xs[i]?=some x,λi H x H'=>H'=H/\∀xs,qO K H a xs->xs[i]?=some x,λi H=>∃xs,qO K H a xs/\xs.length<=i⟩
def S7(lo:Int) (n:Nat):It:=⟨λi _=>i<n,λi H x H'=>H'=H/\x = .int (lo+i),λi _=>n<=i⟩
theorem LO{P:jg}{w:ji}{K:W.Frag}{tg:Expr}(a it:Addr):LG P w K tg (WC K a) [it] it (λi h=>h.IsListIter it a i) where
 mem:=by simp
 obj:=λi h st b hb=>by
  have e:b=it:=by simpa using hb
  subst e;obtain⟨o,e,c,d⟩:=st;exact⟨o,e,λv z=>by rw[d]at z;cases z⟩
 keep:=λi h h' st k=>st.at λo e=>k it (by simp) o e
 item:=by
  intro X hP hw hK hc i mV s σ H E I hf st hg;subst hP hw hK;obtain⟨xs,x,hq,hx⟩:=hg;obtain⟨its,rv,p,hz⟩:=I.list hq;obtain⟨u,hu,ru⟩:=rv.get hx;obtain⟨f0,f1,f2,f3,f4,f5⟩:=hf it (by simp)
  refine wpAny_pyNext_list_item st p.isList (x:=u) (by simpa using hu) λh' st' sb=>?_
  have I1:Inv X mV σ H { s with heap:=h' }:=I.turned (t':=s.toks) (λb o hb e=>(sb.2 b hb).trans e) f0 f1 f3 f4 f5
  obtain⟨o,e,c,d⟩:=id st';exact⟨u,rfl,Qn (s:={ s with heap:=h' }) e c d (by decide) ⟨x,H,I1,ru,⟨rfl,λys hy=>by rw[I.list_inj hy hq];exact hx⟩,st',λb hb=>(hf b hb).1⟩⟩
 done:=by
  intro X hP hw hK hc i mV s σ H E I hf st hg;subst hP hw hK;obtain⟨xs,hq,hx⟩:=hg;obtain⟨its,rv,p,hz⟩:=I.list hq;obtain⟨f0,f1,f2,f3,f4,f5⟩:=hf it (by simp)
  have hl:=rv.length;exact wpAny_pyNext_list_end (I.ok.hd hc) st p.isList (by simp;lia) λh' eb=>⟨rfl,I.turned (t':=s.toks) (λb o hb e=>eb b o hb e) f0 f1 f3 f4 f5⟩
 self:=λ_ _ _ _ _ st h=>wpAny_pyIter_listiter st h
theorem HU{P:jg}{w:ji}{K:W.Frag}{tg:Expr}(it:Addr) (lo:Int) (n:Nat):LG P w K tg (S7 lo n) [it] it (λi h=>IsRangeIter h it (lo+(i:Nat)*1) ((n:Int)-(i:Nat)) 1) where
 mem:=by simp
 obj:=λi h st b hb=>by
  have e:b=it:=by simpa using hb
  subst e;exact⟨_,st,λv z=>by
   have z':Data.fields _=Data.cell v:=z;cases z'⟩
 keep:=λi h h' st k=>k it (by simp) _ st
 item:=by
  intro X hP hw hK hc i mV s σ H E I hf st hg;subst hP hw hK;obtain⟨f0,f1,f2,f3,f4,f5⟩:=hf it (by simp)
  have W:=Walks.range (prog:=X.prog) (w:=X.w) (I.ok.hd hc) it lo 1 n;refine W.item i s _ _ hg st λv h' tk hv st' kk=>?_
  obtain⟨t,rfl⟩:=hv;have I1:Inv X mV σ H { s with heap:=h',toks:=tk }:=I.turned (λb o hb e=>kk b o (by simpa using hb) e) f0 f1 f3 f4 f5
  refine⟨_,rfl,Qn (s:={ s with heap:=h',toks:=tk }) (n := "range_iterator") st' rfl rfl (by decide) ⟨.int (lo+i),H,I1,⟨t,?_⟩,⟨rfl,rfl⟩,st',λb hb=>(hf b hb).1⟩⟩
  rw[ie]
 done:=by
  intro X hP hw hK hc i mV s σ H E I hf st hg;subst hP hw hK;obtain⟨f0,f1,f2,f3,f4,f5⟩:=hf it (by simp)
  exact wpAny_pyNext_range_end (I.ok.hd hc) st (by have:n<=i:=hg;lia) λh' eb=>⟨rfl,I.turned (t':=s.toks) (λb o hb e=>eb b o hb e) f0 f1 f3 f4 f5⟩
 self:=λ_ _ _ _ _ st h=>wpAny_pyIter_rangeiter st h
section
variable {X:Cx}{tg:Expr}
def JJ(K:W.Frag) (tl:TE):TI:=λσ H R=>tl σ H λx H1=>∃a,x = .ref a/\(∃xs,qO K H1 a xs)/\R (WC K a) H1
theorem qq{l:Expr}{tl:TE}(hl:PE X l tl):PI X tg l (JJ X.K tl):=by
 intro mV s σ H R I h;refine qA (hl mV s σ H _ I h) λv s1 ⟨x,H1,I1,r1,q1⟩=>?_
 obtain⟨a,e,⟨xs,hq⟩,q⟩:=q1;subst e;cases r1;obtain⟨its,rv,p,hz⟩:=I1.list hq;refine wpAny_pyIter_list p.isList ?_;refine⟨s1.heap.objs.size,[s1.heap.objs.size],_,_,H1,rfl,I1.kept (t':=s1.toks) λb o e=>ae _ e,LO a _,⟨_,aS _ rfl,rfl,rfl⟩,λb hb=>?_,q⟩
 have e:b=s1.heap.objs.size:=by simpa using hb
 subst e;exact I1.fpOk (ai _) (I1.hok.fresh (ai _))
theorem P9{mV:List (Addr×Obj)}{σ:St}{H:Hp}{s:Shared}{R:It->Hp->Prop}{E:Value->Shared->Prop}{lo hi:Int}{t u v:Tok}{tk:Nat}(I:Inv X mV σ H s) (h1:-(2 ^ 62)<=lo) (h2:lo<2 ^ 62) (h3:-(2 ^ 62)<=hi) (h4:hi<2 ^ 62)
  (q:R (S7 lo (hi-lo).toNat) H):jb (ja X.prog X.w) X.A (pyIter (.ref s.heap.objs.size)) (Z0 X mV σ tg R) E { s with heap:=s.heap.push { cls:=.type "range", data:=.fields #[.int lo t,.int hi u,.int 1 v] },toks:=tk }:=by
 refine wpAny_pyIter_range (IsRange.new ..) (small_one h1 h2 h3 h4) ?_;have I1:Inv X mV σ H { s with heap:=s.heap.push { cls:=.type "range", data:=.fields #[.int lo t,.int hi u,.int 1 v] },toks:=tk }:=I.kept λb o e=>ae _ e
 refine⟨(s.heap.push { cls:=.type "range", data:=.fields #[.int lo t,.int hi u,.int 1 v] }).objs.size,[(s.heap.push { cls:=.type "range", data:=.fields #[.int lo t,.int hi u,.int 1 v] }).objs.size],_,_,H,rfl,
  I1.kept (t':=tk) λb o e=>ae _ e,HU _ lo (hi-lo).toNat,?_,λb hb=>?_,q⟩
 .have e1:lo+((0:Nat):Int)*1=lo:=by simp
  have e2:(((hi-lo).toNat:Nat):Int)-((0:Nat):Int)=Builtin.Range.rangeSize lo hi 1:=by rw[rangeSize_one];split <;> lia
  show IsRangeIter _ _ (lo+((0:Nat):Int)*1) ((((hi-lo).toNat:Nat):Int)-((0:Nat):Int)) 1;rw[e1,e2];exact aS _ rfl
 .have e:b=(s.heap.push { cls:=.type "range", data:=.fields #[.int lo t,.int hi u,.int 1 v] }).objs.size:=by simpa using hb
  subst e;exact I1.fpOk (ai _) (I1.hok.fresh (ai _))
def OY(ta:TA):TI:=λσ H R=>ta σ H λvs H1=>∃j:Int,vs=[.int j]/\-(2 ^ 62)<=j/\j<2 ^ 62/\R (S7 0 j.toNat) H1
theorem yj{a:Expr}{ta:TA}{p pos:Pos}(hg:Gl X "range") (hm:X.mg "range" = none) (ha:PA X [a] ta) (hs:jj [a] X.env=[(false,eval a X.env)]:=by rfl):PI X tg (.Call (.Name "range" p) [a] [] pos) (OY ta):=by
 intro mV s σ H R I h;refine Call_ (xF I hg hm boot_range (cQ (qA (ha pos mV s σ H _ I h) λus s1 ⟨vs,H1,I1,r1,q1⟩=>?_) hs rfl))
 obtain⟨j,e,q1,q2,q⟩:=q1;subst e;cases r1 with
 |cons r rr =>
  cases rr;obtain⟨t,rfl⟩:=r;exact call_range_1 (P9 I1 (by lia) (by lia) q1 q2 (by simpa using q))
def LC(wi:TI) (g:TG) (tb:TS):TS:=λD σ H=>wi σ H λJ H1=>∃W:Nat->Nat->St->Hp->Prop,(∃m,W 0 m σ H1)/\∀i m σ H,W i m σ H ->
 (J.stop i H/\D.nx σ H)∨(J.go i H/\∃N:St->Hp->Prop,(∀σ' H',N σ' H'->∃m',m'<m/\W (i+1) m' σ' H')/\∀x H',J.yld i H x H'->g x σ H' λσ2 H2=>tb { D with nx:=N,ct:=N,bk:=D.nx } σ2 H2)
def CU(fp:List Addr) (h:Heap):List (Addr×Obj):=fp.filterMap λb=>(h.get? b).map λo=>(b,o)
theorem wg{fp:List Addr}{h:Heap}{b:Addr}{o:Obj}(hb:b∈fp) (e:h.get? b=some o):(b,o)∈CU fp h:=gZ.mpr ⟨b,hb,by rw[e];rfl⟩
theorem Md{fp:List Addr}{h:Heap}{p:Addr×Obj}(hp:p∈CU fp h):p.1∈fp/\h.get? p.1=some p.2:=by
 obtain⟨b,hb,e⟩:=gZ.mp hp;cases q:h.get? b with
 |none=>rw[q]at e;cases e
 |some o =>
  rw[q]at e;have e':(b,o)=p:=ba.inj e;subst e';exact⟨hb,q⟩
theorem Inv.pinned{mV:List (Addr×Obj)}{σ:St}{H:Hp}{s:Shared}{fp:List Addr}(I:Inv X mV σ H s) (hf:∀b∈fp,B8 X mV H b) (ho:∀b∈fp,∃o,s.heap.get? b=some o/\∀v,o.data ≠ .cell v):Inv X (mV++CU fp s.heap) σ H s :=
 I.pins_of λp hp=>(mAq.mp hp).elim (λz=>I.pin p (aE _ z)) λz=>by
  obtain⟨hb,e⟩:=Md z;obtain⟨f0,f1,f2,_⟩:=hf p.1 hb;obtain⟨o,e',d⟩:=ho p.1 hb;rw[e]at e';cases e';exact⟨e,f0,f1,f2,d⟩
theorem Inv.unpinned{mV pl:List (Addr×Obj)}{σ:St}{H:Hp}{s:Shared}(I:Inv X (mV++pl) σ H s):Inv X mV σ H s:=I.pins_of λp hp=>I.pin p (aE _ (aU _ hp))
theorem rJ{iter:Expr}{body:List Stmt}{wi:TI}{g:TG}{tb:TS}{pos:Pos}(hp:PassesOwn (ja X.prog X.w) X.A X.env X.xe) (hc:X.calm=true) (hi:PI X tg iter wi) (hg:PG X tg g) (hb:HR X body tb)
  (hs:∀x,lp iter X.env x=pure x:=by intro _;rfl):PS X (.For tg iter body [] pos) (LC wi g tb):=by
 intro mV s σ H D I h;refine wpAny_For (qA (hi mV s σ H _ I h) λv s1 h1=>qA h1 λitv s2 h2=>?_) hs
 obtain⟨it,fp,tn,J,H2,e,I2,T,FR,f2,W,⟨m0,w0⟩,turn⟩:=h2;subst e;have stat:∀{H':Hp},(∀b∈fp,H' b=none)->∀b∈fp,B8 X mV H' b:=λhn b hb=>⟨hn b hb,(f2 b hb).2⟩
 refine codeAny_forLoop_any (λn s'=>∃i σ' H',Inv X mV σ' H' s'/\tn i s'.heap/\(∀b∈fp,H' b=none)/\W i n σ' H') ?_ m0 ⟨0,σ,H2,I2,FR,λb hb=>(f2 b hb).1,w0⟩
 rintro n s3 ⟨i,σ3,H3,I3,X8,fr3,w3⟩;rcases turn i n σ3 H3 w3 with ⟨stop,qn⟩|⟨go,N,hN,step⟩
 .refine jM hp (qA (T.done X rfl rfl rfl hc i mV s3 σ3 H3 X.xe I3 (stat fr3) X8 stop) λr s4 ⟨hr,I4⟩=>?_)
  subst hr;exact jV ⟨σ3,H3,I4,qn⟩
 .refine jM hp (qA (T.item X rfl rfl rfl hc i mV s3 σ3 H3 X.xe I3 (stat fr3) X8 go) λr s4 ⟨u,hr,h4⟩=>?_)
  subst hr;refine jM hp (qA h4 λ_ s5 ⟨x,H5,I5,r5,y5,st5,fr5⟩=>?_)
  have I5':=I5.pinned (stat fr5) (T.obj _ _ st5);refine jM hp (qA (hg _ s5 σ3 H5 x u _ I5' r5 (step x H5 y5)) λ_ s6 ⟨σ6,H6,I6,q6⟩=>?_)
  refine jM hp (qA (hb _ s6 σ6 H6 _ I6 q6) λf s7 q7=>?_)
  have again:∀{σ7:St}{H7:Hp},Inv X (mV++CU fp s5.heap) σ7 H7 s7->N σ7 H7->∃m,m<n/\∃i σ' H',Inv X mV σ' H' s7/\tn i s7.heap/\(∀b∈fp,H' b=none)/\W i m σ' H':=λ{σ7 H7} I7 n7=>by
   obtain⟨m',hm,w7⟩:=hN σ7 H7 n7;refine⟨m',hm,i+1,σ7,H7,I7.unpinned,T.keep _ _ _ st5 λb hb o e=>(I7.pin (b,o) (aE _ (aE _ (wg hb e)))).1,λb hb=>?_,w7⟩
   obtain⟨o,e,d⟩:=T.obj _ _ st5 b hb;exact(I7.pin (b,o) (aE _ (aE _ (wg hb e)))).2.1
  cases f with
  |next=>obtain⟨σ7,H7,I7,n7⟩:=q7;exact again I7 n7
  |cont=>obtain⟨σ7,H7,I7,n7⟩:=q7;exact again I7 n7
  |brk=>obtain⟨σ7,H7,I7,q7⟩:=q7;exact⟨σ7,H7,I7.unpinned,q7⟩
  |ret v=>obtain⟨x7,σ7,H7,I7,r7,q7⟩:=q7;exact⟨x7,σ7,H7,I7.unpinned,r7,q7⟩
end
theorem HB{K:W.Frag}{a:Addr}{xs:List V}{g:TG}{tb:TS}{D:tV}{σ:St}{H:Hp}(Pv:Nat->St->Hp->Prop) (h0:Pv 0 σ H) (hl:∀i σ H,i<=xs.length->Pv i σ H->qO K H a xs)
  (hs:∀i x σ H,xs[i]?=some x->Pv i σ H->g x σ H λσ2 H2=>tb { D with nx:=Pv (i+1),ct:=Pv (i+1),bk:=D.nx } σ2 H2) (hd:∀σ H,Pv xs.length σ H->D.nx σ H) :
  ∃W:Nat->Nat->St->Hp->Prop,(∃m,W 0 m σ H)/\∀i m σ H,W i m σ H ->
   ((WC K a).stop i H/\D.nx σ H)∨((WC K a).go i H/\∃N:St->Hp->Prop,(∀σ' H',N σ' H'->∃m',m'<m/\W (i+1) m' σ' H')/\∀x H',(WC K a).yld i H x H'->g x σ H' λσ2 H2=>tb { D with nx:=N,ct:=N,bk:=D.nx } σ2 H2):=by
 refine⟨λi m σ H=>m=xs.length-i/\i<=xs.length/\Pv i σ H,⟨xs.length,by simp,aY _,h0⟩,?_⟩
 rintro i m σ H ⟨rfl,hi,p⟩;have q:=hl i σ H hi p
 by_cases hlt:i<xs.length
 .refine .inr ⟨⟨xs,xs[i],q,by simp[hlt]⟩,Pv (i+1),λσ' H' p'=>⟨xs.length-(i+1),by lia,rfl,hlt,p'⟩,λx H' y=>?_⟩
  obtain⟨e,y⟩:=y;subst e;exact hs i x σ _ (y xs q) p
 .have e:i=xs.length:=by lia
  subst e;exact .inl ⟨⟨xs,q,ai _⟩,hd σ H p⟩
theorem MU{lo:Int}{n:Nat}{g:TG}{tb:TS}{D:tV}{σ:St}{H:Hp}(Pv:Nat->St->Hp->Prop) (h0:Pv 0 σ H)
  (hs:∀i σ H,i<n->Pv i σ H->g (.int (lo+i)) σ H λσ2 H2=>tb { D with nx:=Pv (i+1),ct:=Pv (i+1),bk:=D.nx } σ2 H2) (hd:∀σ H,Pv n σ H->D.nx σ H) :
  ∃W:Nat->Nat->St->Hp->Prop,(∃m,W 0 m σ H)/\∀i m σ H,W i m σ H ->
   ((S7 lo n).stop i H/\D.nx σ H)∨((S7 lo n).go i H/\∃N:St->Hp->Prop,(∀σ' H',N σ' H'->∃m',m'<m/\W (i+1) m' σ' H')/\∀x H',(S7 lo n).yld i H x H'->g x σ H' λσ2 H2=>tb { D with nx:=N,ct:=N,bk:=D.nx } σ2 H2):=by
 refine⟨λi m σ H=>m=n-i/\i<=n/\Pv i σ H,⟨n,by simp,aY _,h0⟩,?_⟩
 rintro i m σ H ⟨rfl,hi,p⟩
 by_cases hlt:i<n
 .refine .inr ⟨hlt,Pv (i+1),λσ' H' p'=>⟨n-(i+1),by lia,rfl,hlt,p'⟩,λx H' y=>?_⟩
  obtain⟨e,y⟩:=y;subst e y;exact hs i σ _ hlt p
 .have e:i=n:=by lia
  subst e;exact .inl ⟨ai _,hd σ H p⟩
abbrev R2:=V->V->Hp->VK->Prop
def Ds(X:Cx) (f:Value->Value->Sem Value) (r:R2):Prop :=
 ∀(mV:List (Addr×Obj)) (s:Shared) (σ:St) (H:Hp) (x y:V) (v u:Value) (Q:VK),Inv X mV σ H s->oK x v->oK y u->r x y H Q ->
  jb (ja X.prog X.w) X.A (f v u) (EP X mV σ Q) X.xe s
def Yx(X:Cx) (f:Value->Sem Value) (r:V->Hp->VK->Prop):Prop :=
 ∀(mV:List (Addr×Obj)) (s:Shared) (σ:St) (H:Hp) (x:V) (v:Value) (Q:VK),Inv X mV σ H s->oK x v->r x H Q ->
  jb (ja X.prog X.w) X.A (f v) (EP X mV σ Q) X.xe s
def uB(X:Cx) (f:Value) (r:List V->Hp->VK->Prop):Prop :=
 ∀(mV:List (Addr×Obj)) (s:Shared) (σ:St) (H:Hp) (xs:List V) (us:List Value) (Q:VK),Inv X mV σ H s->nX xs us->r xs H Q ->
  jb (ja X.prog X.w) X.A (call f us) (EP X mV σ Q) X.xe s
def QF(r:R2) (ta tb:TE):TE:=λσ H Q=>ta σ H λx H1=>tb σ H1 λy H2=>r x y H2 Q
def ZM(r:V->Hp->VK->Prop) (ta:TE):TE:=λσ H Q=>ta σ H λx H1=>r x H1 Q
def rI(C:Int->Int->Prop) (g:Int->Int->V):R2:=λx y H Q=>∃i j,x = .int i/\y = .int j/\C i j/\Q (g i j) H
def Qd(g:Int->Int->V):R2:=λx y H Q=>∃i j,x = .int i/\y = .int j/\Q (g i j) H
def rU(g:Int->V):V->Hp->VK->Prop:=λx H Q=>∃i,x = .int i/\Q (g i) H
section
variable {X:Cx}{a b c:Expr}{ta tb tc:TE}{pos:Pos}
theorem UQ(ha:PE X a ta) (hb:PE X b tb) {mV:List (Addr×Obj)}{s:Shared}{σ:St}{H:Hp}{R:V->V->Hp->Prop}(I:Inv X mV σ H s)
  (h:ta σ H λx H1=>tb σ H1 λy H2=>R x y H2) {Q:Value->Shared->Prop}{f:Value->Value->Sem Value}
  (hf:∀v u s2 x y H2,Inv X mV σ H2 s2->oK x v->oK y u->R x y H2->jb (ja X.prog X.w) X.A (f v u) Q X.xe s2) :
  jb (ja X.prog X.w) X.A (eval a X.env) (λv s₁=>jb (ja X.prog X.w) X.A (eval b X.env) (λu s₂=>jb (ja X.prog X.w) X.A (f v u) Q X.xe s₂) X.xe s₁) X.xe s:=by
 refine qA (ha mV s σ H _ I h) λv s1 ⟨x,H1,I1,r1,q1⟩=>?_
 refine qA (hb mV s1 σ H1 _ I1 q1) λu s2 ⟨y,H2,I2,r2,q2⟩=>?_
 exact hf v u s2 x y H2 I2 r1 r2 q2
theorem ox{op:Operator}{r:R2}(ho:Ds X (kA op) r) (ha:PE X a ta) (hb:PE X b tb):PE X (.BinOp a op b pos) (QF r ta tb):=by
 intro mV s σ H Q I h;exact wpAny_BinOp (UQ ha hb I h λv u s2 x y H2 I2 rx ry q=>ho mV s2 σ H2 x y v u Q I2 rx ry q)
theorem AL{op:UnaryOp}{r:V->Hp->VK->Prop}(ho:Yx X (unaryOp op) r) (ha:PE X a ta):PE X (.UnaryOp op a pos) (ZM r ta):=by
 intro mV s σ H Q I h;exact UnaryOp_ (qA (ha mV s σ H _ I h) λv s1 ⟨x,H1,I1,r1,q1⟩=>ho mV s1 σ H1 x v Q I1 r1 q1)
theorem Yb{f:Value->Value->Sem Value}{C:Int->Int->Prop}{g:Int->Int->Int}
  (rule:∀(i j:Int) (t u:Tok) (s:Shared) (Q:Value->Shared->Prop) (E:Value->Shared->Prop),C i j->Q (.int (g i j) s.toks) { s with toks:=s.toks+1 }->jb (ja X.prog X.w) X.A (f (.int i t) (.int j u)) Q E s) :
  Ds X f (rI C λi j=>.int (g i j)):=by
 intro mV s σ H x y v u Q I rx ry h;obtain⟨i,j,rfl,rfl,hc,q⟩:=h;obtain⟨t,rfl⟩:=rx;obtain⟨t',rfl⟩:=ry;exact rule i j t t' s _ _ hc ⟨.int (g i j),H,I.tok _,⟨_,rfl⟩,q⟩
theorem WW{f:Value->Value->Sem Value}{g:Int->Int->Int}
  (rule:∀(i j:Int) (t u:Tok) (s:Shared) (Q:Value->Shared->Prop) (E:Value->Shared->Prop),Q (.int (g i j) s.toks) { s with toks:=s.toks+1 }->jb (ja X.prog X.w) X.A (f (.int i t) (.int j u)) Q E s) :
  Ds X f (Qd λi j=>.int (g i j)):=by
 intro mV s σ H x y v u Q I rx ry h;obtain⟨i,j,rfl,rfl,q⟩:=h;obtain⟨t,rfl⟩:=rx;obtain⟨t',rfl⟩:=ry;exact rule i j t t' s _ _ ⟨.int (g i j),H,I.tok _,⟨_,rfl⟩,q⟩
theorem WQ{f:Value->Value->Sem Value}{g:Int->Int->Bool}
  (rule:∀(i j:Int) (t u:Tok) (s:Shared) (Q:Value->Shared->Prop) (E:Value->Shared->Prop),Q (.bool (g i j)) s->jb (ja X.prog X.w) X.A (f (.int i t) (.int j u)) Q E s) :
  Ds X f (Qd λi j=>.bl (g i j)):=by
 intro mV s σ H x y v u Q I rx ry h;obtain⟨i,j,rfl,rfl,q⟩:=h;obtain⟨t,rfl⟩:=rx;obtain⟨t',rfl⟩:=ry;exact rule i j t t' s _ _ ⟨.bl (g i j),H,I,rfl,q⟩
def Ud(i j:Int):Prop:=0<j/\j<1073741824
def Vz(i j:Int):Prop:=0<=j/\j<=1000000/\i.natAbs<2 ^ 64
def N5(i j:Int):Prop:=(-(2 ^ 64)<i/\i<2 ^ 64)∨(-(2 ^ 64)<j/\j<2 ^ 64)
theorem N5.ok{i j:Int}(h:N5 i j):IntMulOk i j:=by
 rcases h with ⟨h1,h2⟩|⟨h1,h2⟩
 .exact .of_left (intBits_le_64 h1 h2)
 .exact .of_right (intBits_le_64 h1 h2)
theorem xi:Ds X (kA .Add) (Qd λi j=>.int (i+j)):=WW λ_ _ _ _ _ _ _ q=>add_int q
theorem C8:Ds X (kA .Sub) (Qd λi j=>.int (i-j)):=WW λ_ _ _ _ _ _ _ q=>sub_int q
theorem BY:Ds X (kA .Mult) (rI N5 λi j=>.int (i*j)):=Yb λ_ _ _ _ _ _ _ hc q=>mul_int q hc.ok
theorem wo:Ds X (kA .FloorDiv) (rI Ud λi j=>.int (i / j)):=Yb λi j _ _ _ _ _ hc q=>by
 have h1:(0:Int)<j:=hc.1;have h2:j<1073741824:=hc.2;exact floordiv_int (by lia) (by rw[Int.fdiv_eq_ediv_of_nonneg i (by lia)];exact q) (.inl (PyProof.noPylong_small (by lia)))
theorem sq:Ds X (kA .Mod) (rI (λ_ j=>0<j) λi j=>.int (i % j)):=Yb λi j _ _ _ _ _ hc q=>by
 have h1:(0:Int)<j:=hc;exact mod_int' (by lia) (by rw[Int.fmod_eq_emod_of_nonneg i (by lia)];exact q)
theorem Oa:Ds X (kA .Pow) (rI Vz λi j=>.int (i ^ j.toNat)):=Yb λ_ _ _ _ _ _ _ hc q=>pow_int_small hc.1 hc.2.1 hc.2.2 q
theorem unI{f:Value->Sem Value}{g:Int->Int}
  (rule:∀(i:Int) (t:Tok) (s:Shared) (Q:Value->Shared->Prop) (E:Value->Shared->Prop),Q (.int (g i) s.toks) { s with toks:=s.toks+1 }->jb (ja X.prog X.w) X.A (f (.int i t)) Q E s) :
  Yx X f (rU λi=>.int (g i)):=by
 intro mV s σ H x v Q I rx h;obtain⟨i,rfl,q⟩:=h;obtain⟨t,rfl⟩:=rx;exact rule i t s _ _ ⟨.int (g i),H,I.tok _,⟨_,rfl⟩,q⟩
theorem xn:Yx X (unaryOp .USub) (rU λi=>.int (-i)):=unI λ_ _ _ _ _ q=>neg_int q
end
def scal:V->V->Bool
 | .non,.non=>true|.non,.int _=>true|.int _,.non=>true|.non,.bl _=>true|.bl _,.non=>true|.non,.str _=>true|.str _,.non=>true
 | .int _,.int _=>true|.bl _,.bl _=>true|.str _,.str _=>true|.byt _,.byt _=>true
 | .int _,.str _=>true|.str _,.int _=>true|.bl _,.str _=>true|.str _,.bl _=>true
 |_,_=>false
def ZR:R2:=λx y H Q=>scal x y=true/\Q (.bl (decide (x=y))) H
def Zu:R2:=λx y H Q=>scal x y=true/\Q (.bl (!decide (x=y))) H
theorem JS{i j:Int}:decide (V.int i=V.int j)=(i == j):=by
 rw[bA];simp
theorem Nk{i j:Bool}:decide (V.bl i=V.bl j)=(i == j):=by
 rw[bA];simp
theorem KD{i j:Str}:decide (V.str i=V.str j)=(i == j):=by
 rw[bA];simp
theorem J2{i j:Array UInt8}:decide (V.byt i=V.byt j)=(i.toList == j.toList):=by
 rw[bA];cases i;cases j;simp
section
variable {X:Cx}{a b c:Expr}{ta tb tc:TE}{pos:Pos}
theorem oz{mV:List (Addr×Obj)}{σ:St}{H:Hp}{s:Shared}{Q:VK}{k k':Bool}(I:Inv X mV σ H s) (q:Q (.bl k) H) (e:k=k'):EP X mV σ Q (.bool k') s:=by
 subst e;exact⟨.bl k,H,I,rfl,q⟩
theorem AR:Ds X (jI .Eq) ZR:=by
 intro mV s σ H x y v u Q I rx ry h;obtain⟨hs,q⟩:=h;cases x with
 |non =>
  cases rx;cases y with
  |non=>cases ry;exact PySem.EqNone.eq_none_none (oz I q (by simp))
  |bl j=>cases ry;exact PySem.EqNone.eq_none_bool (oz I q (by simp))
  |int j=>obtain⟨t',rfl⟩:=ry;exact PySem.EqNone.eq_none_int (oz I q (by simp))
  |str j=>obtain⟨t',rfl⟩:=ry;exact PySem.EqNone.eq_none_str (oz I q (by simp))
  |_=>exact absurd (show false=true from hs) aO
 |bl i =>
  cases rx;cases y with
  |non=>cases ry;exact PySem.EqNone.eq_bool_none (oz I q (by simp))
  |bl j=>cases ry;exact eq_bool (oz I q Nk)
  |str j=>obtain⟨t',rfl⟩:=ry;exact PySem.EqMixed.eq_bool_str (oz I q (by simp))
  |_=>exact absurd (show false=true from hs) aO
 |int i =>
  obtain⟨t,rfl⟩:=rx;cases y with
  |non=>cases ry;exact PySem.EqNone.eq_int_none (oz I q (by simp))
  |int j=>obtain⟨t',rfl⟩:=ry;exact eq_int (oz I q JS)
  |str j=>obtain⟨t',rfl⟩:=ry;exact PySem.EqMixed.eq_int_str (oz I q (by simp))
  |_=>exact absurd (show false=true from hs) aO
 |str i =>
  obtain⟨t,rfl⟩:=rx;cases y with
  |non=>cases ry;exact PySem.EqNone.eq_str_none (oz I q (by simp))
  |bl j=>cases ry;exact PySem.EqMixed.eq_str_bool (oz I q (by simp))
  |int j=>obtain⟨t',rfl⟩:=ry;exact PySem.EqMixed.eq_str_int (oz I q (by simp))
  |str j=>obtain⟨t',rfl⟩:=ry;exact eq_str (oz I q KD)
  |_=>exact absurd (show false=true from hs) aO
 |byt i =>
  obtain⟨t,rfl⟩:=rx;cases y with
  |byt j=>obtain⟨t',rfl⟩:=ry;exact W.eq_bytes (oz I q J2)
  |_=>exact absurd (show false=true from hs) aO
 |_=>cases y <;> exact absurd (show false=true from hs) aO
theorem Ot:Ds X (jI .NotEq) Zu:=by
 intro mV s σ H x y v u Q I rx ry h;obtain⟨hs,q⟩:=h;cases x with
 |non =>
  cases rx;cases y with
  |non=>cases ry;exact PySem.EqNone.ne_none_none (oz I q (by simp))
  |bl j=>cases ry;exact PySem.EqNone.ne_none_bool (oz I q (by simp))
  |int j=>obtain⟨t',rfl⟩:=ry;exact PySem.EqNone.ne_none_int (oz I q (by simp))
  |str j=>obtain⟨t',rfl⟩:=ry;exact PySem.EqNone.ne_none_str (oz I q (by simp))
  |_=>exact absurd (show false=true from hs) aO
 |bl i =>
  cases rx;cases y with
  |non=>cases ry;exact PySem.EqNone.ne_bool_none (oz I q (by simp))
  |bl j=>cases ry;exact ne_bool (oz I q (congrArg not Nk))
  |str j=>obtain⟨t',rfl⟩:=ry;exact PySem.EqMixed.ne_bool_str (oz I q (by simp))
  |_=>exact absurd (show false=true from hs) aO
 |int i =>
  obtain⟨t,rfl⟩:=rx;cases y with
  |non=>cases ry;exact PySem.EqNone.ne_int_none (oz I q (by simp))
  |int j=>obtain⟨t',rfl⟩:=ry;exact ne_int (oz I q (congrArg not JS))
  |str j=>obtain⟨t',rfl⟩:=ry;exact PySem.EqMixed.ne_int_str (oz I q (by simp))
  |_=>exact absurd (show false=true from hs) aO
 |str i =>
  obtain⟨t,rfl⟩:=rx;cases y with
  |non=>cases ry;exact PySem.EqNone.ne_str_none (oz I q (by simp))
  |bl j=>cases ry;exact PySem.EqMixed.ne_str_bool (oz I q (by simp))
  |int j=>obtain⟨t',rfl⟩:=ry;exact PySem.EqMixed.ne_str_int (oz I q (by simp))
  |str j=>obtain⟨t',rfl⟩:=ry;exact ne_str (oz I q (congrArg not KD))
  |_=>exact absurd (show false=true from hs) aO
 |byt i =>
  obtain⟨t,rfl⟩:=rx;cases y with
  |byt j=>obtain⟨t',rfl⟩:=ry;exact W.ne_bytes (oz I q (congrArg not J2))
  |_=>exact absurd (show false=true from hs) aO
 |_=>cases y <;> exact absurd (show false=true from hs) aO
theorem Th:Ds X (jI .Lt) (Qd λi j=>.bl (decide (i<j))):=WQ λ_ _ _ _ _ _ _ q=>lt_int q
theorem CC:Ds X (jI .Gt) (Qd λi j=>.bl (decide (j<i))):=WQ λ_ _ _ _ _ _ _ q=>gt_int q
theorem QO:Ds X (jI .IsNot) (λx y H Q=>y = .non/\Q (.bl (!decide (x = .non))) H):=by
 intro mV s σ H x y v u Q I rx ry h;obtain⟨rfl,q⟩:=h;cases ry;refine isnot_none_gen (oz I q ?_);cases x <;> first
  | (cases rx;rfl)
  | (obtain⟨t,rfl⟩:=rx;rfl)
theorem pH(b:Expr) {op:CmpOp}(h:op ≠ .In:=by decide) (h2:op ≠ .NotIn:=by decide):kH op b=false:=by
 have e1:(op == CmpOp.In)=false:=by cases op <;> first|rfl|exact absurd rfl h
 have e2:(op == CmpOp.NotIn)=false:=by cases op <;> first|rfl|exact absurd rfl h2
 cases b <;> simp[kH,e1,e2]
theorem FI{op:CmpOp}{r:R2}(ho:Ds X (jI op) r) (ha:PE X a ta) (hb:PE X b tb) (hm:kH op b=false):PE X (.Compare a [op] [b] pos) (QF r ta tb):=by
 intro mV s σ H Q I h;exact wpAny_Compare1 (UQ ha hb I h λv u s2 x y H2 I2 rx ry q=>ho mV s2 σ H2 x y v u Q I2 rx ry q) hm
def Tf(t:TE):TT:=λσ H Q=>t σ H λx H'=>∃k,x = .bl k/\Q k H'
theorem oO{op:CmpOp}{r:R2}(ho:Ds X (jI op) r) (ha:PE X a ta) (hb:PE X b tb) (hm:kH op b=false):PT X (.Compare a [op] [b] pos) (Tf (QF r ta tb)):=by
 intro mV s σ H Q I h;refine lX (qA (ha mV s σ H _ I h) λv s1 ⟨x,H1,I1,r1,q1⟩=>qA (hb mV s1 σ H1 _ I1 q1) λu s2 ⟨y,H2,I2,r2,q2⟩ =>
  qA (ho mV s2 σ H2 x y v u _ I2 r1 r2 q2) λc s3 ⟨z,H3,I3,r3,k,e,q3⟩=>?_) hm
 subst e;cases r3;exact jC ⟨H3,I3,q3⟩
theorem JA:(jf:Nat)<2 ^ 63:=by rw[jq];decide
theorem vK{x:V}{us:List Value}(r:nX [x] us):∃u,us=[u]/\oK x u:=by
 cases r with
 |cons r1 r2=>cases r2;exact⟨_,rfl,r1⟩
theorem TK{x y:V}{us:List Value}(r:nX [x,y] us):∃u w',us=[u,w']/\oK x u/\oK y w':=by
 cases r with
 |cons r1 r2 =>
  cases r2 with
  |cons r3 r4=>cases r4;exact⟨_,_,rfl,r1,r3⟩
def Wf(K:W.Frag) (x:V) (H:Hp) (n:Nat):Prop :=
 match x with
 | .str y=>y.length<=jf/\n=y.length
 | .byt y=>y.size<=jf/\n=y.size
 | .ref p=>(∃xs,qO K H p xs/\n=xs.length)∨∃xs,FS K H p xs/\n=xs.length
 |_=>False
theorem oJ:uB X (.builtin "len") (λxs H Q=>∃x n,xs=[x]/\Wf X.K x H n/\Q (.int n) H):=by
 intro mV s σ H xs us Q I r h;obtain⟨x,n,rfl,e,q⟩:=h;obtain⟨u,rfl,rx⟩:=vK r;have hl:=JA;have hs:jf=16777216:=jq;cases x with
 |str y =>
  obtain⟨t,rfl⟩:=rx;obtain⟨hy,e'⟩:y.length<=jf/\n=y.length:=e;subst e';exact len_str (by lia) ⟨.int _,H,I.tok _,⟨_,rfl⟩,q⟩
 |byt y =>
  obtain⟨t,rfl⟩:=rx;obtain⟨hy,e'⟩:y.size<=jf/\n=y.size:=e;subst e';exact W.len_bytes (by lia) ⟨.int _,H,I.tok _,⟨_,rfl⟩,q⟩
 |ref p =>
  cases rx;have e':(∃xs,qO X.K H p xs/\n=xs.length)∨∃xs,FS X.K H p xs/\n=xs.length:=e;rcases e' with ⟨xs,hx,e'⟩|⟨xs,hx,e'⟩
  .subst e';obtain⟨its,r',pl,hz⟩:=I.list hx;have hlen:=r'.length;exact Calls.call_len_list pl.isList (by simp only[aC];lia) ⟨.int xs.length,H,I.tok _,⟨_,by simp only[aC];rw[hlen]⟩,q⟩
  .subst e';obtain⟨its,r',pl,hz⟩:=I.tuple hx;have hlen:=r'.length;exact len_tuple pl (by simp only[aC];lia) ⟨.int xs.length,H,I.tok _,⟨_,by simp only[aC];rw[hlen]⟩,q⟩
 |_=>exact(show False from e).elim
end
theorem Bg.some_of{v:V}{o:Option Value}(r:Bg (some v) o):∃u,o=some u/\oK v u:=by
 cases o with
 |none=>exact(show False from r).elim
 |some u=>exact⟨u,rfl,r⟩
structure rz (k:Nat) (A:Around):Prop where
 hd:A.handled=none
 dp:A.depth+3*k+5<recursionLimit
 un:A.units+16*k+200<jB
theorem rz.mono{j k:Nat}{A:Around}(r:rz k A) (h:j<=k):rz j A:=⟨r.hd,by have:=r.dp;lia,by have:=r.un;lia⟩
theorem rz.deeper{k:Nat}{A:Around}(r:rz (k+1) A) (env:Env):rz k (A.deeper env) :=
 ⟨r.hd,by have:=r.dp;show A.depth+1+3*k+5<_;lia,by have:=r.un;show A.units+3+16*k+200<_;lia⟩
theorem IH{A:Around}{C:Addr}{us:List Value}{kw:List (Str×Value)}:(A.under (.builtin "type.__call__" ⟨.ref C::us,kw⟩)).depth=A.depth+1:=by
 first|rfl|simp[Around.under,Code.weight,Code.isCreation,Code.isGuard,Code.isCaller,Code.frames,Code.isFrame,guardIds]
theorem Jr{A:Around}{C:Addr}{us:List Value}{kw:List (Str×Value)}:(A.under (.builtin "type.__call__" ⟨.ref C::us,kw⟩)).units=A.units+1:=by
 first|rfl|simp[Around.under,Code.cUnits,Code.frames,Code.isFrame]
theorem rz.make{k:Nat}{A:Around}(r:rz (k+1) A) (C:Addr) (us:List Value) (kw:List (Str×Value)):rz k (A.under (.builtin "type.__call__" ⟨.ref C::us,kw⟩)) :=
 ⟨r.hd,by have:=r.dp;rw[IH];lia,by have:=r.un;rw[Jr];lia⟩
theorem rz.depth{k:Nat}{A:Around}(r:rz k A):A.depth<recursionLimit:=by have:=r.dp;lia
theorem rz.units{k:Nat}{A:Around}(r:rz k A):A.units+64<jB:=by have:=r.un;lia
def uZ:TA:=λ_ H Q=>Q [] H
def ri(ta:TE) (tr:TA):TA:=λσ H Q=>ta σ H λx H1=>tr σ H1 λxs H2=>Q (x::xs) H2
section
variable {X:Cx}{e:Expr}{es:List Expr}{te:TE}{t:TA}{pos:Pos}
theorem mY:PA X [] uZ:=λ_ _ _ _ H Q I h=>Calls.spliced_nil ⟨[],H,I,.nil,h⟩
theorem mW(ha:PE X e te) (hr:PA X es t) (hs:jj (e::es) X.env=(false,eval e X.env)::jj es X.env:=by rfl):PA X (e::es) (ri te t):=by
 intro pos mV s σ H Q I h;rw[hs];show jb _ _ (spliced ((false,eval e X.env)::jR pos (jj es X.env))) _ _ s;refine Calls.spliced_cons (qA (ha mV s σ H _ I h) λu s1 ⟨x,H1,I1,r1,q1⟩=>?_)
 exact qA (hr pos mV s1 σ H1 _ I1 q1) λus s2 ⟨xs,H2,I2,r2,q2⟩=>⟨x::xs,H2,I2,.cons r1 r2,q2⟩
def VP(t:TA):TE:=λσ H Q=>t σ H λxs H1=>xs.length<=jf/\∀p,H1 p=none->Q (.ref p) (oB H1 p (.tup xs))
def Ww(t:TA):TE:=λσ H Q=>t σ H λxs H1=>xs.length<=jf/\∀p,H1 p=none->Q (.ref p) (oB H1 p (.lst xs))
theorem JD{x1} (h:PA X es t):PE X (.Tuple es x1 pos) (VP t):=by
 intro mV s σ H Q I hq;refine wpAny_Tuple_spliced (qA (h pos mV s σ H _ I hq) λus s1 ⟨xs,H1,I1,r,z,q⟩=>⟨by rw[←r.length];exact z,?_⟩)
 have hf:H1 s1.heap.objs.size=none:=I1.hok.fresh (ai _);refine⟨.ref s1.heap.objs.size,oB H1 s1.heap.objs.size (.tup xs),I1.laid (t':=s1.toks) (λb u e=>ae _ e) (ai _) ?_,rfl,q _ hf⟩
 exact⟨z,us,r,⟨_,aS _ rfl,rfl,_,rfl⟩⟩
theorem pW(h:PA X es t):PE X (.List es pos) (Ww t):=by
 intro mV s σ H Q I hq;refine wpAny_List_spliced (qA (h pos mV s σ H _ I hq) λus s1 ⟨xs,H1,I1,r,z,q⟩=>⟨by rw[←r.length];exact z,?_⟩)
 have hf:H1 s1.heap.objs.size=none:=I1.hok.fresh (ai _);refine⟨.ref s1.heap.objs.size,oB H1 s1.heap.objs.size (.lst xs),I1.laid (t':=s1.toks) (λb u e=>ae _ e) (ai _) ?_,rfl,q _ hf⟩
 exact⟨z,us,0,r,aS _ rfl⟩
end
abbrev Sp:=List V->Hp->VK->XK->Prop
abbrev M7:=List Env->Hp->Shared->XK->Value->Shared->Prop
structure Ib (P:jg) (w:ji) (K:W.Frag) (mg:Str->Option Value) (base:Heap) (A:Around) (outer:List Env) (s:Shared) (H:Hp):Prop where
 frames:A.frames=some outer
 mod:Mod K mg base
 bs:∀b o,base.get? b=some o->s.heap.get? b=some o/\H b=none
 bsz:base.objs.size<=s.heap.objs.size
 funs:s.heap.FunFrames base outer
 frf:∀b∈JE outer,H b=none
 hok:wX P w H s.heap
 bare:kE s.gens
def CE(outer:List Env) (P:jg) (w:ji) (H:Hp) (s:Shared) (Q:VK) (u:Value) (s':Shared):Prop :=
 ∃v H',s'.os=s.os/\kE s'.gens/\Un (JE outer) [] H H' s.heap s'.heap/\wX P w H' s'.heap/\oK v u/\Q v H'
def CR(CX:M7) (outer:List Env) (P:jg) (w:ji) (H:Hp) (s:Shared) (Q:VK) (E:XK) (r:Result) (s':Shared):Prop :=
 match r with
 | .ok (.ret u)=>CE outer P w H s Q u s'
 | .ok _=>False
 | .error e=>CX outer H s E e s'
structure yt (P:jg) (w:ji) (K:W.Frag) (mg:Str->Option Value) (base:Heap) (CX:M7) (k:Nat) (f:Addr) (fd:jr) (ps:List Str) (sp:Sp):Prop where
 len:∀vs H Q E,sp vs H Q E->vs.length=ps.length
 run:∀(A:Around) (outer:List Env) (s:Shared) (H:Hp) (args:Args) (us:List Value) (vs:List V) (Q:VK) (E:XK),rz k A->Ib P w K mg base A outer s H->mB s fd args (ps.zip us)->nX vs us->sp vs H Q E ->
  kK (ja P w) A (.call (.ref f) args) (CR CX outer P w H s Q E) s
theorem yt.imp{P:jg}{w:ji}{K:W.Frag}{mg:Str->Option Value}{base:Heap}{CX:M7}{k:Nat}{f:Addr}{fd:jr}{ps:List Str}{sp sp':Sp}(F:yt P w K mg base CX k f fd ps sp)
  (h:∀vs H Q E,sp' vs H Q E->sp vs H Q E):yt P w K mg base CX k f fd ps sp' :=
 ⟨λvs H Q E q=>F.len vs H Q E (h _ _ _ _ q),λA outer s H args us vs Q E hr he hb hv hs=>F.run A outer s H args us vs Q E hr he hb hv (h _ _ _ _ hs)⟩
theorem Ib.make{P:jg}{w:ji}{K:W.Frag}{mg:Str->Option Value}{base:Heap}{A:Around}{outer:List Env}{s:Shared}{H:Hp}(e:Ib P w K mg base A outer s H) (C:Addr) (us:List Value) (kw:List (Str×Value)) :
  Ib P w K mg base (A.under (.builtin "type.__call__" ⟨.ref C::us,kw⟩)) outer s H:=⟨by first|exact e.frames|(simpa [Around.under,Code.envs,Code.isFrame,pushEnvs] using e.frames),e.mod,e.bs,e.bsz,e.funs,e.frf,e.hok,e.bare⟩
section
variable {X:Cx}{mV:List (Addr×Obj)}{σ:St}{H:Hp}{s s':Shared}
theorem Inv.env0(I:Inv X mV σ H s):Ib X.prog X.w X.K X.mg X.base X.A X.stack s H :=
 ⟨I.ok.frames,I.ok.mod,I.bs,bC I.ok.bsz I.sz,I.stack,I.stkFree,I.hok,I.bare⟩
theorem Inv.after{Q:VK}{u:Value}(I:Inv X mV σ H s) (h:CE X.stack X.prog X.w H s Q u s'):EP X mV σ Q u s':=by
 obtain⟨v,H',os,bare,un,hok,r,q⟩:=h;obtain⟨hh,g,d,t,os'⟩:=s';obtain rfl:os'=s.os:=os;exact⟨v,H',I.call (h':=hh) (g':=g) (d':=d) (t':=t) (ch:=[]) un hok bare (λb z=>absurd z (by simp)),r,q⟩
end
def yy(sp:Sp) (dvs:List V) (E:XK) (t:TA):TE:=λσ H Q=>t σ H λvs H1=>sp (vs++dvs) H1 Q E
def uQ(K:W.Frag) (fd:jr) (ps:List Str) (ds:List Value):Prop :=
 ∀(s:Shared) (us:List Value),K.In s.heap->(us++ds).length=ps.length->mB s fd ⟨us,[]⟩ (ps.zip (us++ds))
theorem uQ.all{K:W.Frag}{fd:jr}{ps:List Str}(h:∀us:List Value,us.length=ps.length->bindArgs fd ⟨us,[]⟩=pure (ps.zip us)):uQ K fd ps []:=λs us _ hl=>by
 rw[aNq]at hl ⊢;exact .of_eq (h us hl)
def Aj(CX:M7) (X:Cx) (E:XK):Prop:=∀(mV:List (Addr×Obj)) (σ:St) (H:Hp) (s:Shared) (e:Value) (s':Shared),Inv X mV σ H s->CX X.stack H s E e s'->X.xe e s'
section
variable {X:Cx}{CX:M7}{k:Nat}{f C:Addr}{fd:jr}{ps:List Str}{sp:Sp}{dvs:List V}{ds:List Value}{E:XK}{x m:Str}{p pos apos:Pos}{e o:Expr}{es:List Expr}{ta:TE}{t:TA}
theorem VI{mV:List (Addr×Obj)}{σ:St}{H:Hp}{s:Shared}{Q:VK}{us:List Value}{vs:List V}(F:yt X.prog X.w X.K X.mg X.base CX k f fd ps sp) (hr:rz k X.A) (hb:uQ X.K fd ps ds) (hd:nX dvs ds) (hx:Aj CX X E)
  (I:Inv X mV σ H s) (r:nX vs us) (h:sp (vs++dvs) H Q E):jb (ja X.prog X.w) X.A (call (.ref f) us) (EP X mV σ Q) X.xe s:=by
 have r2:nX (vs++dvs) (us++ds):=r.append hd;have hl:(us++ds).length=ps.length:=by rw[←r2.length];exact F.len _ _ _ _ h
 refine kB (kN (F.run X.A X.stack s H ⟨us,[]⟩ (us++ds) (vs++dvs) Q E hr I.env0 (hb s us I.kIn hl) r2 h) λr s' hq=>?_)
 cases r with
 |error e=>exact hx mV σ H s e s' I hq
 |ok fl =>
  cases fl with
  |ret u=>exact I.after hq
  |next=>exact False.elim hq
  |brk=>exact False.elim hq
  |cont=>exact False.elim hq
theorem FE(F:yt X.prog X.w X.K X.mg X.base CX k f fd ps sp) (hr:rz k X.A) (hg:Gl X x) (hm:X.mg x=some (.ref f)) (hk:W.keepIn X.K (.ref f)=true) (hb:uQ X.K fd ps ds) (hd:nX dvs ds) (hx:Aj CX X E)
  (ha:PA X (e::es) t) (hdb:(x == ("__debug__" : Str))=false:=by decide) (he:jj (e::es) X.env=(false,eval e X.env)::jj es X.env:=by rfl) (hpl:(jR pos (jj es X.env)).any (·.1)=false:=by rfl) :
  PE X (.Call (.Name x p) (e::es) [] pos) (yy sp dvs E t):=by
 intro mV s σ H Q I h;refine jz (vW I hg hm ?_ hdb);refine W.callWith_K (h₀:=X.base) I.ok.mod.kin hk (qA (ha pos mV s σ H _ I h) λus s1 ⟨vs,H1,I1,r,q⟩=>⟨I1.kIn,?_⟩) he hpl
 exact VI F hr hb hd hx I1 r q
end
structure nW (N P:List Str) (sc:ky):Prop where
 kind:sc.kind = .function
 co:sc.isCoroutine=false
 gen:sc.isGenerator=false
 nd:N.Nodup
 pre:N.take P.length=P
 par:∀x∈P,sc.names.lookup x=some .local∨sc.names.lookup x=some .cell
 nofree:∀y∈sc.names,y.2 ≠ .free
theorem DP{kindOf:Str->Option NameKind}{x:Str}:∀{binds:List (Str×Value)}{m:Str->Option Value},(∀v,(x,v)∉binds)->bindL kindOf binds m x=m x
 | [],_,_=>rfl
 | (n,v)::r,m,h=>by
  unfold bindL;rw[DP λw hw=>h w (mCo _ hw)]
  split
  .have:x≠n:=by rintro rfl;exact h v aD
   simp[this]
  .rfl
theorem D4{kindOf:Str->Option NameKind}{x:Str}:∀{binds:List (Str×Value)}{m:Str->Option Value},(∀v,(x,v)∉binds)->bindC kindOf binds m x=m x
 | [],_,_=>rfl
 | (n,v)::r,m,h=>by
  unfold bindC;rw[D4 λw hw=>h w (mCo _ hw)]
  split
  .rfl
  .have:x≠n:=by rintro rfl;exact h v aD
   simp[this]
theorem DN{kindOf:Str->Option NameKind}{x:Str}{v:Value}:∀{P:List Str}{vs:List Value}{i:Nat}{m:Str->Option Value},P.Nodup->P[i]?=some x->vs[i]?=some v->kindOf x=some .local ->
  bindL kindOf (P.zip vs) m x=some v
 | [],_,_,_,_,h,_,_=>by simp at h
 |_::_,[],_,_,_,_,h,_=>by simp at h
 |p::P,w::vs,0,m,nd,h1,h2,hk=>by
  simp at h1 h2;subst h1;subst h2;show bindL kindOf ((p,w)::P.zip vs) m p=_;unfold bindL;rw[DP λv hv=>(aA.mp nd).1 (gA hv).1,nP hk]
  simp
 |p::P,w::vs,i+1,m,nd,h1,h2,hk=>by
  show bindL kindOf ((p,w)::P.zip vs) m x=_;unfold bindL;exact DN (i:=i) (aA.mp nd).2 (by simpa using h1) (by simpa using h2) hk
theorem Eh{kindOf:Str->Option NameKind}{x:Str}{v:Value}:∀{P:List Str}{vs:List Value}{i:Nat}{m:Str->Option Value},P.Nodup->P[i]?=some x->vs[i]?=some v->kindOf x≠some .local ->
  bindC kindOf (P.zip vs) m x=some v
 | [],_,_,_,_,h,_,_=>by simp at h
 |_::_,[],_,_,_,_,h,_=>by simp at h
 |p::P,w::vs,0,m,nd,h1,h2,hk=>by
  simp at h1 h2;subst h1;subst h2;show bindC kindOf ((p,w)::P.zip vs) m p=_;unfold bindC;rw[D4 λv hv=>(aA.mp nd).1 (gA hv).1,nQ hk]
  simp
 |p::P,w::vs,i+1,m,nd,h1,h2,hk=>by
  show bindC kindOf ((p,w)::P.zip vs) m x=_;unfold bindC;exact Eh (i:=i) (aA.mp nd).2 (by simpa using h1) (by simpa using h2) hk
def uF(N:List Str) (vs:List V):St:=vs.map some++ay (N.length-vs.length) none
def Ey(CX:M7) (P:jg) (w:ji) (K:W.Frag) (mg:Str->Option Value) (base:Heap) (N:List Str) (qual:Str) (scope:ky) (f:Addr) (cd:Value) (A:Around) (outer:List Env) (s:Shared) (H:Hp) (E:XK):Cx where
 prog:=P
 w:=w
 K:=K
 mg:=mg
 base:=base
 A:=A.deeper (jQ qual scope s.heap.objs.size f cd)
 N:=N
 s₀:=s
 H₀:=H
 env:=jQ qual scope s.heap.objs.size f cd
 outer:=outer
 stack:=jQ qual scope s.heap.objs.size f cd::outer
 ex:=[]
 calm:=true
 fn:=λ_=>true
 pn:=[]
 xe:=λe s'=>jb (ja P w) (A.deeper (jQ qual scope s.heap.objs.size f cd)) (leaving (jQ qual scope s.heap.objs.size f cd) e) (λ_ s''=>CX outer H s E e s'') (λe' s''=>CX outer H s E e' s'') s'
theorem Gb{sc:ky}{n:Nat}{x:Str}(h:sc.names.lookup x=some .cell):∃c,(cellsFrom n sc.names []).lookup x=some c:=by
 have q:=W.cellsFrom_some sc.names n [] (.inl h);exact Option.isSome_iff_exists.mp q
theorem Ll{CX:M7}{P:jg}{w:ji}{K:W.Frag}{mg:Str->Option Value}{base:Heap}{N ps:List Str}{qual:Str}{scope:ky}{f:Addr}{cd:Value}{A:Around}{outer:List Env}{s s1:Shared}{H:Hp}{E:XK}{us:List Value}{vs:List V}
  (S:nW N ps scope) (hd:A.handled=none) (e0:Ib P w K mg base A outer s H) (hl:vs.length=ps.length) (r:nX vs us)
  (x:InCallC s s.heap.objs.size (bindL (jQ qual scope s.heap.objs.size f cd).kindOf (ps.zip us) λ_=>none) (cellsFrom (s.heap.objs.size+1) scope.names []) (bindC (jQ qual scope s.heap.objs.size f cd).kindOf (ps.zip us) λ_=>none) s1) :
  Inv (Ey CX P w K mg base N qual scope f cd A outer s H E) [] (uF N vs) H s1:=by
 have hpl:ps.length<=N.length:=by have:=congrArg bb S.pre;rw[lTq]at this;lia
 obtain⟨h1,tk,rfl,hk⟩:=x.done;have noA:∀b:Addr,b∉(Ey CX P w K mg base N qual scope f cd A outer s H E).ex:=λb z=>absurd (show b∈([]:List Addr) from z) (by simp)
 refine⟨⟨e0.mod,S.kind,rfl,rfl,ai _,λy z c h1 h2=>?_,λy hy=>?_,λy c _ h=>?_,λ_=>hd,Around.frames_deeper e0.frames,.inr ⟨rfl,rfl⟩,λb z=>absurd z (noA b),e0.bs,e0.bsz,λb _ _=>noA b,λb z=>absurd z (noA b),e0.funs,e0.frf⟩,
  rfl,e0.bare,Un.kept hk,⟨_,x.toInCall.ns,λi y v h1 h2 h3=>?_⟩,λy c h=>⟨_,x.cell y c h⟩,e0.hok.fresh (ai _),λy c h=>?_,λp hp=>absurd (show p∈([]:List (Addr×Obj)) from hp) (by simp),e0.hok.kept hk,?_⟩
 .exact name_of_addr x.apart (PySem.mem_of_lookup h1) (PySem.mem_of_lookup h2)
 .have hy:scope.names.lookup y=some .cell∨scope.names.lookup y=some .free:=hy;rcases hy with hy|hy
  .exact Gb hy
  .exact absurd rfl (S.nofree _ (PySem.mem_of_lookup hy))
 .exact bZ (x.above y c (PySem.mem_of_lookup h))
 .have hi:i<vs.length:=by
   unfold uF at h2
   by_cases hi:i<vs.length
   .exact hi
   .rw [gYq (by simpa using hi)]at h2
    rw[cc]at h2;split at h2 <;> cases h2
  have ha:vs[i]?=some v:=by
   unfold uF at h2;rw[gZq (by simpa using hi),gMq]at h2
   cases e:vs[i]? with
   |none=>rw[e]at h2;cases h2
   |some a=>rw[e]at h2;cases h2;rfl
  obtain⟨u,hu,rv⟩:=r.get ha;have hp:ps[i]?=some y:=by
   rw[←S.pre,dq (by lia)];exact h1
  have ndP:ps.Nodup:=by rw[←S.pre];exact S.nd.sublist (bD _ _)
  refine⟨u,rv,?_⟩;rcases S.par y (mGq hp) with k|k
  .exact .inl ⟨k,DN ndP hp hu k⟩
  .obtain ⟨c,e⟩:=Gb (n:=s.heap.objs.size+1) k;refine .inr ⟨.inl k,c,e,?_⟩;have q:=x.cell y c e;rw[Eh ndP hp hu (by show scope.names.lookup y≠_;rw[k];decide)]at q
   exact q
 .exact e0.hok.fresh (bZ (x.above y c (PySem.mem_of_lookup h)))
 .unfold uF;show _=N.length;rw[lAq,lMq,fb];lia
theorem fn_of{CX:M7}{P:jg}{w:ji}{K:W.Frag}{mg:Str->Option Value}{base:Heap}{k:Nat}{f:Addr}{name qual:Str}{params:Arguments}{body:List Stmt}{scope:ky}{dV kV doc pm rS ct oc:Value}{an od:Option Addr}
  {osl:Array (Option Value)}{N ps:List Str}{sp:Sp}(lk:K.lookup f=some ⟨oc,od,.func (W.fnOf name qual params body scope dV kV doc pm an rS ct),osl⟩) (hcd:W.codeIn K rS qual=true) (S:nW N ps scope)
  (len:∀vs H Q E,sp vs H Q E->vs.length=ps.length)
  (hbody:∀(A:Around) (outer:List Env) (s:Shared) (H:Hp) (vs:List V) (Q:VK) (E:XK),rz k (A.deeper (jQ qual scope s.heap.objs.size f rS))->sp vs H Q E ->
   ∃t,HR (Ey CX P w K mg base N qual scope f rS A outer s H E) body t/\t { nx:=λ_ H'=>Q .non H',rt:=Q } (uF N vs) H) :
  yt P w K mg base CX (k+1) f (W.fnOf name qual params body scope dV kV doc pm an rS ct) ps sp:=by
 refine⟨len,λA outer s H args us vs Q E hr e0 hb r hsp=>?_⟩
 have hl:=len _ _ _ _ hsp;have KX:K.In s.heap:=e0.mod.kin.keeps λb o e=>(e0.bs b o e).1
 have lim:s.heap.NoLimit:=e0.mod.nolimit.keeps λb o e=>(e0.bs b o e).1
 have hkind:∀y∈ps.zip us,scope.names.lookup y.1=some .local∨(scope.names.lookup y.1=some .cell/\((cellsFrom (s.heap.objs.size+1) scope.names []).lookup y.1).isSome=true):=λ⟨n,v⟩ hy=>by
  rcases S.par n (gA hy).1 with q|q
  .exact .inl q
  .exact .inr ⟨q,W.cellsFrom_some _ _ _ (.inl q)⟩
 refine codeAny_call_function hr.depth (KX _ _ lk) rfl S.co S.gen rfl (W.codeRec_of KX hcd) (hb _ _ _ _ ?_);refine wpAny_newFunctionEnv_cells S.kind hkind λenv he s1 x=>?_
 subst he;refine⟨lim.keeps x.toInCall.keep,codeAny_func ?_⟩;obtain⟨t,ht,hq⟩:=hbody A outer s H vs Q E (hr.deeper _) hsp;have I:Inv (Ey CX P w K mg base N qual scope f rS A outer s H E) [] (uF N vs) H s1:=Ll S hr.hd e0 hl r x;refine jo (ht [] s1 (uF N vs) H _ I hq) (λfl s' hs=>?_) λe s' hs=>hs
 have fin:∀{σ':St}{H':Hp}{v:V}{u:Value},Inv (Ey CX P w K mg base N qual scope f rS A outer s H E) [] σ' H' s'->oK v u->Q v H'->CE outer P w H s Q u s' :=
  λ{σ' H' v u} J rv q=>⟨v,H',J.os,J.bare,J.base,J.hok,rv,q⟩
 cases fl with
 |ret u =>
  obtain⟨v,σ',H',J,rv,q⟩:=hs;exact fin J rv q
 |next =>
  obtain⟨σ',H',J,q⟩:=hs;exact fin (v:=V.non) (u:=cA) J rfl q
 |brk =>
  obtain⟨_,_,_,q⟩:=hs;exact False.elim q
 |cont =>
  obtain⟨_,_,_,q⟩:=hs;exact False.elim q
section
variable {X:Cx}{x:Str}{p pos:Pos}{e:Expr}{es:List Expr}{t:TA}{id T:String}{r:List V->Hp->VK->Prop}
def QC(r:List V->Hp->VK->Prop) (t:TA):TE:=λσ H Q=>t σ H λvs H1=>r vs H1 Q
theorem nF(hc:uB X (.builtin id) r) (hg:Gl X x) (hm:X.mg x=none) (hv:ke x=some (.builtin id)) (ha:PA X (e::es) t) (hn:x ≠ "__name__" := by decide) (hdb:(x == ("__debug__" : Str))=false:=by decide)
  (he:jj (e::es) X.env=(false,eval e X.env)::jj es X.env:=by rfl) (hpl:(jR pos (jj es X.env)).any (·.1)=false:=by rfl):PE X (.Call (.Name x p) (e::es) [] pos) (QC r t):=by
 intro mV s σ H Q I h;refine jz (xF I hg hm hv ?_ hn hdb);exact cC (qA (ha pos mV s σ H _ I h) λus s1 ⟨vs,H1,I1,r1,q1⟩=>hc mV s1 σ H1 vs us Q I1 r1 q1) he hpl
theorem ug(hc:uB X (.type T) r) (hg:Gl X x) (hm:X.mg x=none) (hv:ke x=some (.type T)) (ha:PA X (e::es) t) (hn:x ≠ "__name__" := by decide) (hdb:(x == ("__debug__" : Str))=false:=by decide)
  (he:jj (e::es) X.env=(false,eval e X.env)::jj es X.env:=by rfl) (hpl:(jR pos (jj es X.env)).any (·.1)=false:=by rfl):PE X (.Call (.Name x p) (e::es) [] pos) (QC r t):=by
 intro mV s σ H Q I h;refine jz (xF I hg hm hv ?_ hn hdb);exact cQ (qA (ha pos mV s σ H _ I h) λus s1 ⟨vs,H1,I1,r1,q1⟩=>hc mV s1 σ H1 vs us Q I1 r1 q1) he hpl
end
end L2
namespace HT
open PySem PyProof.Rows
def oR:List Int->List Int->Bool
 | [],[]=>false
 | [],_::_=>true
 |_::_,[]=>false
 |x::xs,y::ys=>if x=y then oR xs ys else decide (x<y)
theorem sL(x y:Int) (xs ys:List Int):oR (x::xs) (y::ys)=if x=y then oR xs ys else decide (x<y):=rfl
theorem yw:oR [] []=false:=rfl
theorem xC(y:Int) (ys:List Int):oR [] (y::ys)=true:=rfl
theorem xw(x:Int) (xs:List Int):oR (x::xs) []=false:=rfl
theorem GG(A:Around) (s:Shared) (a:Int) (t:Tok) (c:Int) (u:Tok):∃e,SeqAt.EqAt A s (.int a t) (.int c u) e/\(e=true↔a=c) :=
 ⟨(a == c),SeqAt.EqAt.int_int a t c u,by simp⟩
theorem Hw(A:Around) (s:Shared) (a:Int) (t:Tok) (c:Int) (u:Tok) (prog:jg) (w:ji) (E:Value->Shared->Prop) (Q:Value->Shared->Prop) (h:Q (.bool (decide (a<c))) s) :
  jb (ja prog w) A (aaa .Lt (.int a t) (.int c u)) Q E s :=
 (iX h:jb (ja prog w) A (jI .Lt (.int a t) (.int c u)) Q E s)
section
open PySem.SeqAt
open PySem.AutoSeq1 (wpAny_loadPart')
open PySem.MeetsSeq PySem.MeetsSeq2 PySem.MeetsSeq3
theorem DA(l b:Addr) (items items2:Array Value) (n n2:Nat) (dd dd2:Option Addr) (sl sl2:Array (Option Value)) (ns ms:List Int) (hi:ju items.toList ns) (hj:ju items2.toList ms) :
  Meets (Builtin.«tuple.__lt__» ⟨[.ref l,.ref b],[]⟩)
   (λ_ R s=>s.heap.get? l=some { cls:=.type "tuple", dict:=dd,data:=.seq items n,slots:=sl }/\s.heap.get? b=some { cls:=.type "tuple", dict:=dd2,data:=.seq items2 n2,slots:=sl2 } /\
    R (.ok (.ret (.bool (oR ns ms)))) s) :=
 .of_wp λprog w A R s h=>by
  obtain⟨hp,g,d,tk,os⟩:=s;obtain⟨hl,hb,h⟩:=h;have f2:=AutoSeq1.sub_tuple_tuple;have z1:items.size=ns.length:=by rw[←hi.length];simp
  have z2:items2.size=ms.length:=by rw[←hj.length];simp
  wp_walk using wpAny_loadPart' hl,wpAny_loadPart' hb,wpAny_forIn_list _ (λrest b s'=>b.1=none/\s'=⟨hp,g,d,tk,os⟩/\∃(vs ws:List Value) (ns' ms':List Int),rest=vs.zip ws /\
   ju vs ns'/\ju ws ms'/\ns'.length+items2.size=ms'.length+items.size/\R (.ok (.ret (.bool (oR ns' ms')))) ⟨hp,g,d,tk,os⟩) _
  case turn =>
   rintro⟨y,x⟩ rest b s' ⟨hb',rfl,vs,ws,ns',ms',hz,hvi,hwi,hlen,hR⟩;cases hvi with
   |nil=>rw[List.zip_nil_left]at hz;cases hz
   |cons a t hvi' =>
    cases hwi with
    |nil=>rw[List.zip_nil_right]at hz;cases hz
    |cons c u hwi' =>
     rw[fE]at hz;injection hz with hyx hrest
     injection hyx with hy hx
     subst hy hx;rw[sL]at hR;simp only[lCq]at hlen;obtain⟨e,he,hiff⟩:=GG A.in1 ⟨hp,g,d,tk,os⟩ a t c u;refine iY (he prog w _ _ ?_);cases e with
     |true =>
      rw[nP (hiff.mp rfl)]at hR
      wp_walk
      exact⟨rfl,rfl,_,_,_,_,hrest,hvi',hwi',by lia,hR⟩
     |false =>
      rw[nQ (λq=>absurd (hiff.mpr q) aO)]at hR
      have hri:=Hw A.in1 ⟨hp,g,d,tk,os⟩ a t c u prog w
      wp_walk using hri
      exact⟨_,rfl,by simpa using hR⟩
  case fin =>
   rintro⟨b1,b2⟩ s' ⟨hb',rfl,vs,ws,ns',ms',hz,hvi,hwi,hlen,hR⟩;simp only at hb';subst hb';have hv:oR ns' ms'=decide (items.size<items2.size):=by
    cases hvi with
    |nil =>
     cases hwi with
     |nil =>
      simp only[bB]at hlen;rw[yw];exact(decide_eq_false (by lia)).symm
     |cons c u hw =>
      simp only[bB,lCq]at hlen;rw[xC];exact(decide_eq_true (by lia)).symm
    |cons a t hv =>
     cases hwi with
     |nil =>
      simp only[bB,lCq]at hlen;rw[xw];exact(decide_eq_false (by lia)).symm
     |cons c u hw =>
      rw[fE]at hz;cases hz
   rw[hv]at hR
   wp_walk
   exact⟨_,rfl,by simpa [Builtin.Tuple.tupleCompareSizes] using hR⟩
  case h =>
   exact⟨rfl,rfl,items.toList,items2.toList,ns,ms,rfl,hi,hj,by lia,h⟩
end
section
variable {prog:jg}{w:ji}{A:Around}{E:Value->Shared->Prop}{s:Shared}
theorem Jf{l b:Addr}{items items2:Array Value}{ns ms:List Int}{Q:Value->Shared->Prop}(hl:IsTup s.heap l items) (hb:IsTup s.heap b items2) (hi:ju items.toList ns) (hj:ju items2.toList ms)
  (hu:A.units<jB) (h:Q (.bool (oR ns ms)) s):jb (ja prog w) A (jI .Lt (.ref l) (.ref b)) Q E s:=by
 obtain⟨⟨cls,dd,data,sl⟩,ho,hc,n,hd⟩:=id hl;obtain⟨⟨cls2,dd2,data2,sl2⟩,ho2,hc2,n2,hd2⟩:=id hb;simp only at hc hd hc2 hd2;subst hc hd hc2 hd2;exact richCompare_meets_room (op:=.Lt) ⟨_,ho,rfl⟩ ⟨_,ho2,rfl⟩ PySem.F.slot_tuple_lt PySem.F.entry_tuple_lt (PySem.F.args_tuple_lt_2 _ _) (DA l b items items2 n n2 dd dd2 sl sl2 ns ms hi hj)
  ⟨ho,ho2,show eX (oR ns ms)≠Value.notImplemented/\Q (.bool (oR ns ms)) s from ⟨(λx=>nomatch x),h⟩⟩ hu
def DV(n d:Nat):Option Int->Nat
 |none=>d
 |some v=>if v<0 then (v+(n:Int)).toNat else min v.toNat n
theorem GJ(n d:Nat):DV n d none=d:=rfl
theorem Bu(n d k:Nat):DV n d (some (k:Int))=min k n:=by
 show (if (k:Int)<0 then ((k:Int)+(n:Int)).toNat else min (k:Int).toNat n)=min k n
 rw[nQ (by lia),cY]
end
end HT
namespace L2
open PySem PySem.Spec PyProof.Rows
abbrev TO:=St->Hp->(Option Int->Hp->Prop)->Prop
def PO(X:Cx) (e:Option Expr) (t:TO):Prop :=
 ∀(mV:List (Addr×Obj)) (s:Shared) (σ:St) (H:Hp) (Q:Option Int->Hp->Prop),Inv X mV σ H s->t σ H Q ->
  jb (ja X.prog X.w) X.A (evalPart e X.env) (λu s'=>∃o H',Inv X mV σ H' s'/\IsPart u o/\Q o H') X.xe s
def Kv:TO:=λ_ H Q=>Q none H
def Tw(t:TE):TO:=λσ H Q=>t σ H λx H1=>∃i,x = .int i/\Q (some i) H1
theorem uu{ns:List Int}:∀{us:List Value},nX (ns.map V.int) us->ju us ns:=by
 induction ns with
 |nil=>intro us r;rw[gj]at r;cases r;exact .nil
 |cons n ns ih =>
  intro us r;rw[aB]at r;cases r with
  |cons r1 r2 =>
   obtain⟨t,e⟩:=r1;subst e;exact .cons n t (ih r2)
section
variable {X:Cx}{e:Expr}{te:TE}{lo hi:Option Expr}{tl th:TO}{pos p2:Pos}
theorem zd:PO X none Kv:=by
 intro mV s σ H Q I h;rw[evalPart_none];exact je ⟨none,H,I,.none,h⟩
theorem wm(h:PE X e te):PO X (some e) (Tw te):=by
 intro mV s σ H Q I hw;rw[evalPart_some];refine qA (h mV s σ H _ I hw) λu s1 ⟨x,H1,I1,r1,q1⟩=>?_
 obtain⟨i,rfl,q⟩:=q1;obtain⟨t,rfl⟩:=r1;exact⟨some i,H1,I1,.int i t,q⟩
def Zt(X:Cx) (r:V->Option Int->Option Int->Hp->VK->Prop):Prop :=
 ∀(mV:List (Addr×Obj)) (s:Shared) (σ:St) (H:Hp) (x:V) (v vl vu:Value) (lo hi:Option Int) (sl:Addr) (Q:VK),Inv X mV σ H s->oK x v->s.heap.IsSliceOf sl vl vu .none->IsPart vl lo->IsPart vu hi->r x lo hi H Q ->
  ∃T id,jn (.type T) "__getitem__" = pure (some (.builtin id))/\s.TypeIs v T/\jb (ja X.prog X.w) X.A (mw v (.ref sl)) (EP X mV σ Q) X.xe s
def ZO(r:V->Option Int->Option Int->Hp->VK->Prop) (te:TE) (tl th:TO):TE:=λσ H Q=>te σ H λx H1=>tl σ H1 λl H2=>th σ H2 λu H3=>r x l u H3 Q
theorem vQ{r:V->Option Int->Option Int->Hp->VK->Prop}(hr:Zt X r) (he:PE X e te) (hl:PO X lo tl) (hu:PO X hi th):PE X (.Subscript e (.Slice lo hi none p2) pos) (ZO r te tl th):=by
 intro mV s σ H Q I h;refine Subscript_ (qA (he mV s σ H _ I h) λv s1 ⟨x,H1,I1,r1,q1⟩=>?_)
 refine wpAny_Slice (qA (hl mV s1 σ H1 _ I1 q1) λvl s2 ⟨l,H2,I2,pl,q2⟩=>qA (hu mV s2 σ H2 _ I2 q2) λvu s3 ⟨u,H3,I3,pu,q3⟩=>?_)
 rw[evalPart_none];refine je ?_;have I4:Inv X mV σ H3 { s3 with heap:=s3.heap.push { cls:=.type "slice", data:=.fields #[vl,vu,.none] } }:=I3.kept (t':=s3.toks) λb ob q=>ae _ q
 obtain⟨T,id,hT,ht,hg⟩:=hr mV { s3 with heap:=s3.heap.push { cls:=.type "slice", data:=.fields #[vl,vu,.none] } } σ H3 x v vl vu l u s3.heap.objs.size Q I4 r1 (Heap.IsSliceOf.new ..) pl pu q3
 show jb (ja X.prog X.w) X.A (mK e (.Slice lo hi none p2) v (.ref s3.heap.objs.size)) (EP X mV σ Q) X.xe { s3 with heap:=s3.heap.push { cls:=.type "slice", data:=.fields #[vl,vu,.none] } }
 exact tail_any (ops:=[.ref s3.heap.objs.size,v]) ht hT hg (by with_unfolding_all rfl)
def Jo(xs:List V) (lo hi:Option Int):List V:=(xs.drop (HT.DV xs.length 0 lo)).take (HT.DV xs.length xs.length hi-HT.DV xs.length 0 lo)
theorem Hr(xs:List V) (lo hi:Option Int):(Jo xs lo hi).length<=xs.length:=by
 unfold Jo;rw[lTq,aR];lia
end
def FQ(n:Nat) (i:Int):Option Nat:=if 0<=i then (if i<n then some i.toNat else none) else if -(n:Int)<=i then some (i+n).toNat else none
def atI{α:Type}(xs:List α) (i:Int):Option α:=(FQ xs.length i).bind λj=>xs[j]?
theorem KM{n:Nat}{i:Int}{j:Nat}(h:FQ n i=some j):mT i n=some j/\j<n/\-(n:Int)<=i/\i<n:=by
 unfold FQ at h
 by_cases h0:0<=i
 .rw [nP h0]at h
  by_cases h1:i<n
  .rw [nP h1]at h;have e:i.toNat=j:=ba.inj h;exact⟨by rw[seqIndex_of h0 h1,e],by lia,by lia,h1⟩
  .rw [nQ h1]at h;cases h
 .rw [nQ h0]at h
  by_cases h1:-(n:Int)<=i
  .rw [nP h1]at h;have e:(i+n).toNat=j:=ba.inj h;exact⟨by rw[seqIndex_neg (by lia) h1,e],by lia,h1,by lia⟩
  .rw [nQ h1]at h;cases h
theorem Ke{α:Type}{xs:List α}{i:Int}{v:α}(h:atI xs i=some v):∃j,mT i xs.length=some j/\xs[j]?=some v/\j<xs.length/\-(xs.length:Int)<=i/\i<xs.length:=by
 unfold atI at h;cases e:FQ xs.length i with
 |none=>rw[e]at h;cases h
 |some j =>
  rw[e]at h;obtain⟨h1,h2,h3,h4⟩:=KM e;exact⟨j,h1,h,h2,h3,h4⟩
theorem qd{α:Type}{xs:List α}{j:Nat}{v:α}(h:xs[j]?=some v):atI xs (j:Int)=some v:=by
 have hj:j<xs.length:=(gSq.mp h).1;have e:FQ xs.length (j:Int)=some j:=by
  unfold FQ;rw[nP (by lia),nP (by lia)];simp
 unfold atI;rw[e];exact h
theorem PJ{α:Type}(xs:List α) (v:α):atI (xs++[v]) (-1)=some v:=by
 have hl:(xs++[v]).length=xs.length+1:=by simp
 have e:FQ (xs++[v]).length (-1)=some xs.length:=by
  unfold FQ;rw[hl,nQ (by decide),nP (by lia)]
  congr 1;lia
 unfold atI;rw[e];show (xs++[v])[xs.length]?=some v;simp
def Sg(b:Expr):Prop:=∀o i,lW b false o i=operate [o,i] (mw o i)
def Yv(X:Cx) (r:R2):Prop :=
 ∀(value slice:Expr) (mV:List (Addr×Obj)) (s:Shared) (σ:St) (H:Hp) (x y:V) (v u:Value) (Q:VK),Inv X mV σ H s->oK x v->oK y u->r x y H Q ->
  lW slice false v u=operate [v,u] (mw v u)->jb (ja X.prog X.w) X.A (mK value slice v u) (EP X mV σ Q) X.xe s
def Yn(X:Cx) (id:String) (r:V->List V->Hp->VK->Prop):Prop :=
 ∀(mV:List (Addr×Obj)) (s:Shared) (σ:St) (H:Hp) (x:V) (xs:List V) (v:Value) (us:List Value) (Q:VK),Inv X mV σ H s->oK x v->nX xs us->r x xs H Q ->
  jb (ja X.prog X.w) X.A (call (.builtin id) (v::us)) (EP X mV σ Q) X.xe s
section
variable {X:Cx}{a b:Expr}{ta tb:TE}{pos:Pos}
theorem qm{r:R2}(hr:Yv X r) (ha:PE X a ta) (hb:PE X b tb) (hs:Sg b):PE X (.Subscript a b pos) (QF r ta tb):=by
 intro mV s σ H Q I h;exact Subscript_ (UQ ha hb I h λv u s2 x y H2 I2 rx ry q=>hr a b mV s2 σ H2 x y v u Q I2 rx ry q (hs _ _))
def RZ(K:W.Frag):R2:=λx y H Q=>∃p xs i v,x = .ref p/\y = .int i/\qO K H p xs/\atI xs i=some v/\Q v H
def WS(K:W.Frag):R2:=λx y H Q=>∃p xs i v,x = .ref p/\y = .int i/\FS K H p xs/\atI xs i=some v/\Q v H
theorem pK:Yv X (RZ X.K):=by
 intro value slice mV s σ H x y v u Q I rx ry h hs;obtain⟨p,xs,i,z,rfl,rfl,hq,he,q⟩:=h;cases rx;obtain⟨t,rfl⟩:=ry;obtain⟨its,r,pl,hz⟩:=I.list hq;obtain⟨j,h1,h2,h3,h4,h5⟩:=Ke he;obtain⟨w,ew,rw'⟩:=r.get h2;have hl:=r.length;have hn:=JA;have fin:EP X mV σ Q w s:=⟨z,H,I,rw',q⟩
 by_cases h0:0<=i
 .have hj:i.toNat=j:=by
   rw[seqIndex_of h0 h5]at h1;exact ba.inj h1
  exact item_listR pl.isList h0 (by lia) (by rw[hj];simpa using ew) fin hs
 .have hj:(i+(its.toArray.size:Int)).toNat=j:=by
   rw[seqIndex_neg (by lia) h4]at h1
   rw[aC,←hl];exact ba.inj h1
  exact lV (x:=w) pl.isList.typeIs slot_list_getitem.lookup
   (wpAny_getItem_list_neg (Q:=λr s'=>r=w/\EP X mV σ Q r s') pl.isList (by lia) (by rw[aC] <;> lia) (by lia) (by rw[hj];simpa using ew) ⟨rfl,fin⟩) hs
theorem xf:Yv X (WS X.K):=by
 intro value slice mV s σ H x y v u Q I rx ry h hs;obtain⟨p,xs,i,z,rfl,rfl,hq,he,q⟩:=h;cases rx;obtain⟨t,rfl⟩:=ry;obtain⟨its,r,pl,hz⟩:=I.tuple hq;obtain⟨j,h1,h2,h3,h4,h5⟩:=Ke he;obtain⟨w,ew,rw'⟩:=r.get h2;have hl:=r.length;have hn:=JA;have fin:EP X mV σ Q w s:=⟨z,H,I,rw',q⟩;exact lV (x:=w) pl.typeIs slot_tuple_getitem.lookup
  (getItem_tuple (j:=j) (Q:=λr s'=>r=w/\EP X mV σ Q r s') pl (by lia) (by lia) (by rw[aC,←hl];exact h1) (by simpa using ew) ⟨rfl,fin⟩) hs
theorem Ew(lo hi:Option Int) (n:Nat):(kr lo hi none n).1=((HT.DV n 0 lo:Nat):Int)/\(kr lo hi none n).2.1=((HT.DV n n hi:Nat):Int)/\(kr lo hi none n).2.2=1:=by
 refine⟨?_,?_,rfl⟩
 .cases lo with
  |none=>simp[kr,HT.DV]
  |some i =>
   simp only[kr,HT.DV,ij,show (1:Int)>0 by decide,if_true]
   by_cases h:i<0
   .simp only [h,if_true] <;> lia
   .simp only [h,if_false] <;> lia
 .cases hi with
  |none=>simp[kr,HT.DV]
  |some i =>
   simp only[kr,HT.DV,ij,show (1:Int)>0 by decide,if_true]
   by_cases h:i<0
   .simp only [h,if_true] <;> lia
   .simp only [h,if_false] <;> lia
theorem DD(its:List Value) (lo hi:Option Int):slicePick its.toArray lo hi none=((its.drop (HT.DV its.length 0 lo)).take (HT.DV its.length its.length hi-HT.DV its.length 0 lo)).toArray:=by
 obtain⟨h1,h2,h3⟩:=Ew lo hi its.toArray.size;unfold slicePick;rw[h1,h2,h3];simp only[sliceRange_one,pick_run,aC] <;> rfl
def Xi(K:W.Frag):V->Option Int->Option Int->Hp->VK->Prop:=λx lo hi H Q=>∃a xs,x = .ref a/\qO K H a xs/\∀p,H p=none->Q (.ref p) (oB H p (.lst (Jo xs lo hi)))
theorem yi:Zt X (Xi X.K):=by
 intro mV s σ H x v vl vu lo hi sl Q I rx hs pl pu h;obtain⟨a,xs,rfl,hx,q⟩:=h;cases rx;obtain⟨its,r,ht,hz⟩:=I.list hx;have hlen:=r.length;refine⟨"list", _,slot_list_getitem.lookup,ht.isList.typeIs,?_⟩;refine wpAny_getItem_list_slice ht.isList hs pl pu .none (by simp) ?_ (by rw[aC] <;> lia)
 rw[DD,←hlen];refine⟨.ref s.heap.objs.size,_,I.laid (t':=s.toks) (o:=.lst (Jo xs lo hi)) (λb ob q=>ae _ q) (ai _) ?_,rfl,q _ (I.hok.fresh (ai _))⟩
 exact⟨bC (Hr xs lo hi) hz,_,0,(r.drop (HT.DV xs.length 0 lo)).take (HT.DV xs.length xs.length hi-HT.DV xs.length 0 lo),aS _ rfl⟩
theorem tR:uB X (.type "list") (λxs H Q=>∃p ys,xs=[.ref p]/\(qO X.K H p ys∨FS X.K H p ys)/\∀l,H l=none->Q (.ref l) (oB H l (.lst ys))):=by
 intro mV s σ H xs us Q I r h;obtain⟨p,ys,rfl,hq,q⟩:=h;obtain⟨u,rfl,rx⟩:=vK r;cases rx;have fin:∀(its:List Value),nX ys its->ys.length<=jf->∀(h':Heap) (c':Nat),(∀b o',s.heap.get? b=some o'->h'.get? b=some o') ->
   h'.get? s.heap.objs.size=some { cls:=.type "list", dict:=none,data:=.seq its.toArray c',slots:=#[] }->EP X mV σ Q (.ref s.heap.objs.size) { s with heap:=h' }:=λits r' hz h' c' kp e =>
  ⟨.ref s.heap.objs.size,_,I.laid (t':=s.toks) kp (ai _) (show oY X.prog X.w _ h' _ (.lst ys) from ⟨hz,its,c',r',e⟩),rfl,q _ (I.hok.fresh (ai _))⟩
 rcases hq with hq|hq
 .obtain ⟨its,r',pl,hz⟩:=I.list hq;have hlen:=r'.length;obtain⟨o,ho,hc,n,hd⟩:=pl.isList;exact call_list_seq p (.inl rfl) ho hc hd (λh' c' kp e=>fin its r' hz h' c' kp e) (by simp only[aC] <;> lia)
 .obtain ⟨its,r',pl,hz⟩:=I.tuple hq;have hlen:=r'.length;obtain⟨o,ho,hc,n,hd⟩:=pl;exact call_list_seq p (.inr rfl) ho hc hd (λh' c' kp e=>fin its r' hz h' c' kp e) (by simp only[aC] <;> lia)
theorem yC:uB X (.type "tuple") (λxs H Q=>∃p ys,xs=[.ref p]/\((qO X.K H p ys/\∀l,H l=none->Q (.ref l) (oB H l (.tup ys)))∨(FS X.K H p ys/\Q (.ref p) H))):=by
 intro mV s σ H xs us Q I r h;obtain⟨p,ys,rfl,h⟩:=h;obtain⟨u,rfl,rx⟩:=vK r;cases rx;rcases h with ⟨hq,q⟩|⟨hq,q⟩
 .obtain ⟨its,r',pl,hz⟩:=I.list hq;have hlen:=r'.length;refine call_tuple_list pl.isList (λh' kp=>?_) (by simp only[aC] <;> lia)
  have I1:Inv X mV σ H { s with heap:=h' }:=I.kept (t':=s.toks) kp
  have I2:Inv X mV σ (oB H h'.objs.size (.tup ys)) { s with heap:=h'.push { cls:=.type "tuple", data:=.seq its.toArray } } :=
   I1.laid (t':=s.toks) (λb o e=>ae _ e) (ai _) (show oY X.prog X.w _ _ _ (.tup ys) from ⟨hz,its,r',IsTup.new _ _⟩)
  exact⟨.ref h'.objs.size,_,I2,rfl,q _ (I1.hok.fresh (ai _))⟩
 .obtain ⟨its,r',pl,hz⟩:=I.tuple hq;exact call_tuple_same pl ⟨.ref p,H,I,rfl,q⟩
def X6(K:W.Frag) (T:String) (x:V) (H:Hp):Prop:=match x with
 | .str _=>T = "str"
 | .int _=>T = "int"
 | .ref p=>(T = "list" /\ ∃xs,qO K H p xs)∨(T = "tuple" /\ ∃o,K.lookup p=some o/\o.cls = .type "tuple" /\ o.dict=none) ∨
   (T = "dict" /\ ((∃kvs,H p=some (.dK kvs))∨∃kvs,H p=some (.dT kvs)))∨(T = "set" /\ ∃S n,H p=some (.set S n))
 |_=>False
theorem OC{mV:List (Addr×Obj)}{σ:St}{H:Hp}{s:Shared}{T:String}{x:V}{v:Value}(I:Inv X mV σ H s) (r:oK x v) (ty:X6 X.K T x H) :
  s.TypeIs v T/\∀a,v = .ref a->∃ob,s.heap.get? a=some ob/\ob.dict=none:=by
 cases x with
 |str z =>
  obtain⟨t,rfl⟩:=r;cases (show T = "str" from ty)
  exact⟨typeIs_str s z t,λ_ e=>nomatch e⟩
 |int i =>
  obtain⟨t,rfl⟩:=r;cases (show T = "int" from ty)
  exact⟨typeIs_int s i t,λ_ e=>nomatch e⟩
 |ref p =>
  cases r;rcases ty with ⟨rfl,xs,hq⟩|⟨rfl,o,hk,hc,hd⟩|⟨rfl,hk⟩|⟨rfl,S,n,hk⟩
  .obtain ⟨its,_,pl,_⟩:=I.list hq;refine⟨pl.isList.typeIs,λa e=>?_⟩
   cases e;obtain⟨o,n,e,c,hd,_⟩:=pl;exact⟨o,e,hd⟩
  .refine ⟨⟨o,I.kIn p o hk,hc⟩,λa e=>?_⟩
   cases e;exact⟨o,I.kIn _ o hk,hd⟩
  .have z:∃o,s.heap.get? p=some o/\o.ExactDict:=by
    rcases hk with ⟨kvs,hk⟩|⟨kvs,hk⟩
    .obtain ⟨_,_,_,_,o,_,_,e,ex,_⟩:=I.hok p _ hk;exact⟨o,e,ex⟩
    .obtain ⟨_,_,_,_,o,_,_,e,ex,_⟩:=I.hok p _ hk;exact⟨o,e,ex⟩
   obtain⟨o,e,ex⟩:=z;refine⟨⟨o,e,ex.1⟩,λa e2=>?_⟩
   cases e2;exact⟨o,e,ex.2.1⟩
  .obtain ⟨o,_,_,_,e,ex,_⟩:=I.hok p _ hk;refine⟨⟨o,e,ex.1⟩,λa e2=>?_⟩
   cases e2;exact⟨o,e,ex.2.1⟩
 |_=>exact False.elim ty
def W2(K:W.Frag) (T:String) (r:V->List V->Hp->VK->Prop) (to:TE):TE:=λσ H Q=>to σ H λx H1=>X6 K T x H1/\r x [] H1 Q
def NU(K:W.Frag) (T:String) (r:V->List V->Hp->VK->Prop) (to:TE) (t:TA):TE:=λσ H Q=>to σ H λx H1=>X6 K T x H1/\t σ H1 λxs H2=>r x xs H2 Q
variable {o e:Expr}{es:List Expr}{to:TE}{t:TA}{name:Str}{apos cpos:Pos}{T id:String}{r:V->List V->Hp->VK->Prop}
theorem Ft(pa:PlainAttrs T) (slot:Slot T name id) (hty:typeOf (.builtin id)=pure (.type "method_descriptor")) (hm:Yn X id r) (ho:PE X o to)
  (hbase:mL o name X.env (eval o X.env)=eval o X.env:=by rfl) (hline:(apos.endLine == cpos.line)=true:=by rfl):PE X (.Call (.Attribute o name apos) [] [] cpos) (W2 X.K T r to):=by
 intro mV s σ H Q I h;refine lK hbase hline (qA (ho mV s σ H _ I h) λv s1 ⟨x,H1,I1,r1,ty,q1⟩=>?_)
 obtain⟨h1,h2⟩:=OC I1 r1 ty;exact⟨T,id,pa,slot,hty,h1,h2,Calls.callWith_builtin rfl (PySem.evalArgs_none (hm mV s1 σ H1 x [] v [] Q I1 r1 .nil q1))⟩
theorem rP(pa:PlainAttrs T) (slot:Slot T name id) (hty:typeOf (.builtin id)=pure (.type "method_descriptor")) (hm:Yn X id r) (ho:PE X o to) (ha:PA X (e::es) t)
  (hbase:mL o name X.env (eval o X.env)=eval o X.env:=by rfl)
  (hfew:((jR cpos (jj (e::es) X.env)).all (λx=>!x.1) && (backToKw cpos (keywordEach [] X.env)).all (λx=>x.1.isSome)
   && decide ((e::es).length+([]:List Keyword).length+(if ([]:List Keyword).isEmpty then 0 else 1)<30))=true:=by rfl)
  (hline:(apos.endLine == cpos.line)=true:=by rfl) (hs:jj (e::es) X.env=(false,eval e X.env)::jj es X.env:=by rfl) (hplain:(jR cpos (jj es X.env)).any (·.1)=false:=by rfl) :
  PE X (.Call (.Attribute o name apos) (e::es) [] cpos) (NU X.K T r to t):=by
 intro mV s σ H Q I h;refine wpAny_Call_method_late hbase hfew hline rfl (qA (ho mV s σ H _ I h) λv s1 ⟨x,H1,I1,r1,ty,q1⟩=>?_)
 obtain⟨h1,h2⟩:=OC I1 r1 ty;refine⟨T,id,pa,slot,hty,h1,h2,?_⟩;have hA:=ha cpos mV s1 σ H1 _ I1 q1;rw[hs]at hA ⊢;refine Calls.callWith_builtin (by show (false || (jR cpos (jj es X.env)).any (·.1))=false;rw[hplain] <;> rfl) (Calls.evalArgs_plain ?_)
 exact qA hA λus s2 ⟨vs,H2,I2,r2,q2⟩=>hm mV s2 σ H2 x vs v us Q I2 r1 r2 q2
/- xs.append(e),list.index on a module's tuple .. are Yn facts of 06m -/
end
def Yf(X:Cx) (id:String) (r:V->List V->Hp->VK->Prop):Prop :=
 ∀(mV:List (Addr×Obj)) (s:Shared) (σ:St) (H:Hp) (x:V) (xs:List V) (v:Value) (us:List Value) (Q:VK),Inv X mV σ H s->oK x v->nX xs us->r x xs H Q ->
  jb (ja X.prog X.w) X.A (call (.builtin id) (v::us)) (EP X mV σ Q) X.xe s
theorem nX.one:∀{x:V}{us:List Value},nX [x] us->∃u,us=[u]/\oK x u
 |_,_,.cons r .nil=>⟨_,rfl,r⟩
theorem nX.zero:∀{us:List Value},nX [] us->us=[]
 |_,.nil=>rfl
theorem nX.dropLast{xs:List V}{us:List Value}(h:nX xs us):nX xs.dropLast us.dropLast:=by
 induction h with
 |nil=>exact .nil
 |cons r t ih =>
  cases t with
  |nil=>exact .nil
  |cons q t'=>exact .cons r ih
theorem nX.eraseIdx:∀{xs:List V}{us:List Value}(i:Nat),nX xs us->nX (xs.eraseIdx i) (us.eraseIdx i)
 |_,_,_,.nil=>.nil
 |_,_,0,.cons _ t=>t
 |_,_,i+1,.cons r t=>.cons r (nX.eraseIdx i t)
theorem nX.rep{xs:List V}{us:List Value}(h:nX xs us):∀k:Nat,nX (ay k xs).flatten (ay k us).flatten
 |0=>.nil
 |k+1=>by
  rw[bR,bR,fCq,fCq];exact nX.append h (nX.rep h k)
theorem yT{α:Type}(l:List α):l.eraseIdx (l.length-1)=l.dropLast:=by
 induction l with
 |nil=>rfl
 |cons a r ih =>
  cases r with
  |nil=>rfl
  |cons b r =>
   have e:(a::b::r).length-1=((b::r).length-1)+1:=by
    have h1:(a::b::r).length=r.length+2:=rfl;have h2:(b::r).length=r.length+1:=rfl;lia
   rw[e,cH,ih]
   all_goals rfl
theorem DX{α:Type}:∀(l:List α) (i:Nat),(l.eraseIdx i).length<=l.length
 | [],_=>ai _
 |_::_,0=>bM _
 |_::r,i+1=>gb (DX r i)
theorem Ed(its:List Value):∀(k:Nat) (acc:List Value),
  iC (λx1 x2=>x1++x2) acc.toArray (ay k its.toArray)=(acc++(ay k its).flatten).toArray
 |0,acc=>by simp
 |k+1,acc=>by
  have e:acc.toArray++its.toArray=(acc++its).toArray:=by simp
  have e2:(acc++its)++(ay k its).flatten=acc++(ay (k+1) its).flatten:=by
   rw[bR,fCq,aF]
  rw[←e2,←Ed its k (acc++its),←e,bR,bV]
section
variable {X:Cx}{mV:List (Addr×Obj)}{σ:St}{H:Hp}{s:Shared}{l b:Addr}{xs ys zs:List V}
theorem Inv.lset{its its':List Value}{n:Nat}{f:Array Value->Array Value}{t':Nat}(I:Inv X mV σ H s) (hH:H l=some (.lst xs))
  (e:s.heap.get? l=some { cls:=.type "list", data:=.seq its.toArray n }) (hf:f its.toArray=its'.toArray) (hv:nX ys its') (hz:ys.length<=jf) :
  Inv X mV σ (oB H l (.lst ys)) { s with heap:=s.heap.update l (Obj.mapSeq f),toks:=t' }:=by
 have q:=PySem.IsL.update e f;rw[hf]at q;refine I.write (x:=l) (e:=l) (by rw[hH];exact trivial) (.inl rfl) (λb' u hb hu=>(bI s.heap (Obj.mapSeq f) (Ne.symm hb)).trans hu) ⟨_,q⟩ ?_
 exact⟨hz,its',_,hv,q⟩
theorem Inv.lnew{its:List Value}{t':Nat}(I:Inv X mV σ H s) (hv:nX ys its) (hz:ys.length<=jf) :
  Inv X mV σ (oB H s.heap.objs.size (.lst ys)) { s with heap:=s.heap.push { cls:=.type "list", data:=.seq its.toArray },toks:=t' } :=
 I.laid (λ_ _ q=>ae _ q) (ai _) ⟨hz,its,0,hv,aS _ rfl⟩
theorem Inv.fresh(I:Inv X mV σ H s):H s.heap.objs.size=none:=I.hok.fresh (ai _)
theorem Inv.lstM(I:Inv X mV σ H s) (hH:H l=some (.lst xs)):xs.length<=jf/\∃(its:List Value) (n:Nat),nX xs its/\xs.length=its.length/\s.heap.get? l=some { cls:=.type "list", data:=.seq its.toArray n }:=by
 obtain⟨z,its,n,r,e⟩:=I.hok l _ hH;exact⟨z,its,n,r,r.length,e⟩
theorem Hm{n:Nat}(h:n<=jf):Builtin.List.listTooLong n=false:=by
 unfold Builtin.List.listTooLong;exact decide_eq_false (by lia)
end
section
variable {X:Cx}
def yd:V->List V->Hp->VK->Prop:=λx vs H Q=>∃l xs y,x = .ref l/\vs=[y]/\H l=some (.lst xs)/\xs.length<jf/\Q .non (oB H l (.lst (xs++[y])))
theorem pR:Yf X "list.append" yd:=by
 intro mV s σ H x vs v us Q I rx rv h;obtain⟨l,xs,y,rfl,rfl,hH,hz,q⟩:=h;cases rx;obtain⟨u,rfl,ru⟩:=rv.one;obtain⟨z,its,n,r,hl,e⟩:=I.lstM hH;refine jW F.slot_list_append ⟨_,e,rfl⟩ F.entry_list_append (F.args_list_append_2 _ _) (PySem.list_append l its.toArray n u (by rw[aC];lia)) ⟨e,?_⟩
 refine⟨.non,_,I.lset (its':=its++[u]) hH e (by simp) (r.append (.cons ru .nil)) ?_,rfl,q⟩
 rw[lAq,lSq];lia
def FM:V->List V->Hp->VK->Prop:=λx vs H Q=>∃l b xs zs,x = .ref l/\vs=[.ref b]/\H l=some (.lst xs)/\H b=some (.lst zs)/\xs.length+zs.length<=jf/\Q .non (oB H l (.lst (xs++zs)))
theorem yl:Yf X "list.extend" FM:=by
 intro mV s σ H x vs v us Q I rx rv h;obtain⟨l,b,xs,zs,rfl,rfl,hH,hB,hz,q⟩:=h;cases rx;obtain⟨u,rfl,ru⟩:=rv.one;cases ru;obtain⟨z,its,n,r,hl,e⟩:=I.lstM hH;obtain⟨z2,its2,n2,r2,hl2,e2⟩:=I.lstM hB;have hsz:its.toArray.size+its2.toArray.size<=jf:=by rw[aC,aC];lia
 have hlong:¬ (!its.toArray.isEmpty && Builtin.List.listTooLong (its.toArray.size+its2.toArray.size))=true:=by
  rw[Hm hsz,Bool.and_false];exact aO
 refine jW F.slot_list_extend ⟨_,e,rfl⟩ F.entry_list_extend (F.args_list_extend_2 _ _)
  (AutoSeq1.list_extend_list_list_0 l its.toArray n b its2.toArray n2 hlong (by rw[aC];lia) (by lia)) ⟨e,e2,?_⟩
 refine⟨.non,_,I.lset (its':=its++its2) hH e (by simp) (r.append r2) ?_,rfl,q⟩
 rw[lAq];lia
def Uw:V->List V->Hp->VK->Prop:=λx vs H Q=>∃l xs y,x = .ref l/\vs=[]/\H l=some (.lst xs)/\xs[xs.length-1]?=some y/\Q y (oB H l (.lst xs.dropLast))
theorem Fd:Yf X "list.pop" Uw:=by
 intro mV s σ H x vs v us Q I rx rv h;obtain⟨l,xs,y,rfl,rfl,hH,hy,q⟩:=h;cases rx;have hus:=rv.zero;subst hus;obtain⟨z,its,n,r,hl,e⟩:=I.lstM hH;obtain⟨u,hu,ru⟩:=r.get hy;have hy':its.toArray[its.toArray.size-1]?=some u:=by
  show its.toArray[its.length-1]?=some u;rw[←aH,←hl];exact hu
 refine jW F.slot_list_pop ⟨_,e,rfl⟩ F.entry_list_pop (F.args_list_pop_1 _) (MeetsSeq.list_pop_last l its.toArray n u hy' (by rw[aC];lia)) ⟨e,?_⟩
 refine⟨y,_,I.lset (its':=its.dropLast) hH e ?_ r.dropLast ?_,ru,q⟩
 .show its.toArray.eraseIdxIfInBounds (its.toArray.size-1)=its.dropLast.toArray;rw[aC,fc,yT]
 .rw [List.length_dropLast];lia
def OP:V->List V->Hp->VK->Prop:=λx vs H Q=>∃l xs i k y,x = .ref l/\vs=[.int i]/\H l=some (.lst xs)/\-(2 ^ 63)<=i/\i<2 ^ 63/\mT i xs.length=some k/\xs[k]?=some y/\Q y (oB H l (.lst (xs.eraseIdx k)))
theorem GF:Yf X "list.pop" OP:=by
 intro mV s σ H x vs v us Q I rx rv h;obtain⟨l,xs,i,k,y,rfl,rfl,hH,h1,h2,hk,hy,q⟩:=h;cases rx;obtain⟨u,rfl,ru⟩:=rv.one;obtain⟨t,rfl⟩:=ru;obtain⟨z,its,n,r,hl,e⟩:=I.lstM hH;obtain⟨w,hw,rw'⟩:=r.get hy;refine jW F.slot_list_pop ⟨_,e,rfl⟩ F.entry_list_pop (F.args_list_pop_2 _ _)
  (MeetsSeq.list_pop_at l its.toArray n i t k w (fitsIndex_both h1 h2) (by rw[aC,←hl];exact hk) (by rw[←aH];exact hw) (by rw[aC];lia)) ⟨e,?_⟩
 refine⟨y,_,I.lset (its':=its.eraseIdx k) hH e ?_ (r.eraseIdx k) ?_,rw',q⟩
 .show its.toArray.eraseIdxIfInBounds k=(its.eraseIdx k).toArray;rw[fc]
 .have:=DX xs k;lia
def W0:R2:=λx y H Q=>∃l b xs zs,x = .ref l/\y = .ref b/\H l=some (.lst xs)/\H b=some (.lst zs)/\xs.length+zs.length<=jf/\∀p,H p=none->Q (.ref p) (oB H p (.lst (xs++zs)))
theorem Ie:Ds X (kA .Add) W0:=by
 intro mV s σ H x y v u Q I rx ry h;obtain⟨l,b,xs,zs,rfl,rfl,hH,hB,hz,q⟩:=h;cases rx;cases ry;obtain⟨z,its,n,r,hl,e⟩:=I.lstM hH;obtain⟨z2,its2,n2,r2,hl2,e2⟩:=I.lstM hB;refine PySem.P.add_list e e2 ?_ (by rw[aC,aC];lia)
 have ea:its.toArray++its2.toArray=(its++its2).toArray:=by simp
 rw[ea];exact⟨.ref _,_,I.lnew (t':=s.toks) (r.append r2) (by rw[lAq];lia),rfl,q _ I.fresh⟩
def W7:R2:=λx y H Q=>∃l k xs,x = .ref l/\y = .int k/\H l=some (.lst xs)/\-(2 ^ 63)<=k/\k<2 ^ 63/\xs.length*k.toNat<=jf /\
 ∀p,H p=none->Q (.ref p) (oB H p (.lst (ay k.toNat xs).flatten))
theorem SU{α:Type}(xs:List α) (k:Nat):(ay k xs).flatten.length=k*xs.length:=by
 induction k with
 |zero=>simp
 |succ k ih=>rw[bR,fCq,lAq,ih,iN,hW]
theorem Vy:Ds X (kA .Mult) W7:=by
 intro mV s σ H x y v u Q I rx ry h;obtain⟨l,k,xs,rfl,rfl,hH,h1,h2,hz,q⟩:=h;cases rx;obtain⟨t,rfl⟩:=ry;obtain⟨z,its,n,r,hl,e⟩:=I.lstM hH;have hlen:its.toArray.size*k.toNat<=jf:=by rw[aC,←hl];exact hz
 have hcap:¬ its.toArray.size*k.toNat>(2 ^ 63-1) / 8:=by
  have:(jf:Nat)<=(2 ^ 63-1) / 8:=by decide
  lia
 have hfit:¬ (!Builtin.List.listFitsIndex k)=true:=by
  rw[fitsIndex_both h1 h2];exact aO
 have hlong:¬ Builtin.List.listTooLong (its.toArray.size*k.toNat)=true:=by
  rw[Hm hlen];exact aO
 have hnew:iC (λx1 x2=>x1++x2) #[] (ay (if its.toArray.isEmpty=true then 0 else k.toNat) its.toArray)=(ay k.toNat its).flatten.toArray:=by
  have f0:∀m:Nat,iC (λx1 x2=>x1++x2) #[] (ay m its.toArray)=(ay m its).flatten.toArray:=λm=>by
   have:=Ed its m [];rw[eE]at this;exact this
  rw[f0];cases its with
  |nil=>simp
  |cons a r'=>rw[nQ (by simp)]
 refine wpAny_binaryOp_repeat_ref (T := "list") (U := "int") (by decide) ⟨_,e,rfl⟩ (λs'=>typeIs_int s' k t) noFill_list_mul F.fills_int_mul F.slot_int_rmul repeat_list F.slot_int_index.lookup
  (jW F.slot_int_rmul (typeIs_int s k t) F.entry_int_rmul (F.args_int_rmul_2 _ _) (int___rmul___int_list k t l its.toArray n)
   ⟨e,rfl,⟨_,e,rfl⟩,jW F.slot_list_mul ⟨_,e,rfl⟩ F.entry_list_mul (F.args_list_mul_2 _ _) (AutoListH.list___mul___list_int_3 l its.toArray n k t hfit hcap hlong) ⟨e,?_⟩⟩)
 rw[hnew];exact⟨.ref _,_,I.lnew (t':=s.toks) (r.rep k.toNat) (by rw[SU,Nat.mul_comm];exact hz),rfl,q _ I.fresh⟩
end
section
variable {κ:Type} [DecidableEq κ]
def zO(kvs:List (κ×V)) (k:κ):Option V:=(kvs.find? λkv=>decide (kv.1=k)).map (·.2)
def xI(kvs:List (κ×V)) (k:κ) (v:V):List (κ×V) :=
 if (kvs.any λkv=>decide (kv.1=k))=true then kvs.map (λkv=>if kv.1=k then (kv.1,v) else kv) else kvs++[(k,v)]
theorem BU{p:κ×V}{r:List (κ×V)}{k:κ}(e:p.1=k):zO (p::r) k=some p.2:=by simp[zO,dN,e]
theorem Dd{p:κ×V}{r:List (κ×V)}{k:κ}(e:¬ p.1=k):zO (p::r) k=zO r k:=by simp[zO,dN,e]
theorem GT(k:κ):∀kvs:List (κ×V),(kvs.any λkv=>decide (kv.1=k))=(zO kvs k).isSome
 | []=>rfl
 |p::r=>by
  rw[fe]
  by_cases e:p.1=k
  .simp only [BU e,decide_eq_true e,Bool.true_or,eF]
  .rw [Dd e,decide_eq_false e,Bool.false_or];exact GT k r
theorem xA(kvs:List (κ×V)) (k:κ) (v:V):(xI kvs k v).length<=kvs.length+1:=by
 unfold xI;split
 .rw [lMq];lia
 .rw [lAq,lCq,bB];lia
theorem Bg.isSome_eq{o:Option V}{u:Option Value}(r:Bg o u):o.isSome=u.isSome:=by
 cases o with
 |none=>cases u with
  |none=>rfl
  |some _=>exact(show False from r).elim
 |some _=>cases u with
  |none=>exact(show False from r).elim
  |some _=>rfl
theorem KV.val{kvs:List (κ×V)}{vs:List (κ×Value)}(r:KV kvs vs) (k:κ):Bg (zO kvs k) (lC vs k):=by
 unfold KV at r
 induction r with
 |nil=>exact True.intro
 | @cons p q ps qs h t ih =>
  obtain⟨h1,h2⟩:=h
  by_cases e:p.1=k
  .have e':q.1=k:=h1.symm.trans e;have b:lC (q::qs) k=some q.2:=by simp[lC,dN,e']
   rw[BU e,b];exact h2
  .have e':¬ q.1=k:=λz=>e (h1.trans z)
   have b:lC (q::qs) k=lC qs k:=by simp[lC,dN,e']
   rw[Dd e,b];exact ih
theorem KV.any{kvs:List (κ×V)}{vs:List (κ×Value)}(r:KV kvs vs) (k:κ):(kvs.any λkv=>decide (kv.1=k))=vs.any λkv=>decide (kv.1=k):=by
 unfold KV at r
 induction r with
 |nil=>rfl
 |cons h t ih=>rw[fe,fe,ih,h.1]
theorem KV.repl{kvs:List (κ×V)}{vs:List (κ×Value)}(r:KV kvs vs) (k:κ) {y:V}{u:Value}(ry:oK y u) :
  KV (kvs.map λkv=>if kv.1=k then (kv.1,y) else kv) (vs.map λkv=>if kv.1=k then (kv.1,u) else kv):=by
 unfold KV at r ⊢
 induction r with
 |nil=>exact .nil
 | @cons p q ps qs h t ih =>
  rw[aB,aB];refine .cons ?_ ih;obtain⟨h1,h2⟩:=h
  by_cases e:p.1=k
  .rw [nP e,nP (h1.symm.trans e)];exact⟨h1,ry⟩
  .rw [nQ e,nQ (λz=>e (h1.trans z))];exact⟨h1,h2⟩
theorem KV.put{kvs:List (κ×V)}{vs:List (κ×Value)}(r:KV kvs vs) (k:κ) {y:V}{u:Value}(ry:oK y u):KV (xI kvs k y) (stored vs k u):=by
 unfold xI stored;rw[r.any k]
 by_cases e:(vs.any λkv=>decide (kv.1=k))=true
 .rw [nP e,nP e];exact r.repl k ry
 .rw [nQ e,nQ e];exact Paired.snoc r ⟨rfl,ry⟩
theorem KV.length{kvs:List (κ×V)}{vs:List (κ×Value)}(r:KV kvs vs):kvs.length=vs.length:=Paired.length r
end
theorem GW{P:jg}{w:ji}{k:nO}{u:Value}(r:oK (kV k) u):(oX P w).is k u=true:=by
 cases k with
 |inl i=>obtain⟨t,e⟩:=(show ∃t,u=fN i t from r);subst e;exact Gv P w i t
 |inr x=>obtain⟨t,e⟩:=(show ∃t,u=iM x t from r);subst e;exact Gi P w x t
theorem DY{P:jg}{w:ji}:∀{ks:List nO}{us:List Value},nX (ks.map kV) us->ItemsAre (oX P w) ks us
 | [],_,r=>by rw[gj]at r;cases r;exact .nil
 |k::ks,_,r=>by
  rw[aB]at r;cases r with
  |cons h t=>exact .cons (GW h) (DY t)
abbrev KT(H:Hp):List (List nO×V)->List (List nO×Addr×Value)->Prop:=Paired λp q=>p.1=q.1/\H q.2.1=some (.tup (p.1.map kV))/\oK p.2 q.2.2
theorem KT.val{H:Hp}{kvs:List (List nO×V)}{xs:List (List nO×Addr×Value)}(r:KT H kvs xs) (k:List nO):Bg (zO kvs k) ((lS xs k).map (·.2)):=by
 induction r with
 |nil=>exact True.intro
 | @cons p q ps qs h t ih =>
  obtain⟨h1,_,h2⟩:=h
  by_cases e:p.1=k
  .have e':q.1=k:=h1.symm.trans e;have b:lS (q::qs) k=some q.2:=by simp[lS,dN,e']
   rw[BU e,b];exact h2
  .have e':¬ q.1=k:=λz=>e (h1.trans z)
   have b:lS (q::qs) k=lS qs k:=by simp[lS,dN,e']
   rw[Dd e,b];exact ih
theorem KT.repl{H:Hp}{kvs:List (List nO×V)}{xs:List (List nO×Addr×Value)}(r:KT H kvs xs) (k:List nO) {y:V}{u:Value}(ry:oK y u) :
  KT H (kvs.map λkv=>if kv.1=k then (kv.1,y) else kv) (xs.map (putAt k u)):=by
 induction r with
 |nil=>exact .nil
 | @cons p q ps qs h t ih =>
  rw[aB,aB];refine .cons ?_ ih;obtain⟨h1,h2,h3⟩:=h;unfold putAt
  by_cases e:p.1=k
  .rw [nP e,nP (h1.symm.trans e)];exact⟨h1,h2,ry⟩
  .rw [nQ e,nQ (λz=>e (h1.trans z))];exact⟨h1,h2,h3⟩
theorem KT.put{H:Hp}{kvs:List (List nO×V)}{xs:List (List nO×Addr×Value)}(r:KT H kvs xs) (k:List nO) {b:Addr}{y:V}{u:Value}(hb:H b=some (.tup (k.map kV))) (ry:oK y u) :
  KT H (xI kvs k y) (storedH xs k b u):=by
 have e:(kvs.any λkv=>decide (kv.1=k))=(lS xs k).isSome:=by
  rw[GT,(r.val k).isSome_eq,dS]
 unfold xI storedH;rw[e]
 by_cases q:(lS xs k).isSome=true
 .rw [nP q,nP q];exact r.repl k ry
 .rw [nQ q,nQ q];exact Paired.snoc r ⟨rfl,hb,ry⟩
theorem KT.keeps{H H':Hp}{kvs:List (List nO×V)}{xs:List (List nO×Addr×Value)}(r:KT H kvs xs) (ht:∀b ys,H b=some (.tup ys)->H' b=some (.tup ys)):KT H' kvs xs :=
 Paired.mapP r λ_ _ z=>⟨z.1,ht _ _ z.2.1,z.2.2⟩
section
variable {P:jg}{w:ji}{H:Hp}{h:Heap}{a:Addr}
theorem T1{u:HO}(ok:wX P w H h) (e:Rd H a u):oY P w H h a u:=e.ok ok
theorem D8{kvs:List (nO×V)}(ok:wX P w H h) (e:Rd H a (.dK kvs)):kvs.length<=jf/\(a == jT)=false/\∃vs,KV kvs vs/\h.DictOf (oX P w) a vs :=
 show oY P w H h a (.dK kvs) from T1 ok e
theorem TN{kvs:List (nO×V)}(ok:wX P w H h) (e:H a=some (.dK kvs)):kvs.length<=jf/\(a == jT)=false/\∃vs,KV kvs vs/\h.DictOf (oX P w) a vs:=D8 ok (.inl e)
theorem Fx{ks:List nO}(ok:wX P w H h) (e:H a=some (.tup (ks.map kV))):(lP (oX P w)).is h ks a:=by
 obtain⟨_,its,r,o,h1,h2,n,h3⟩:=(show oY P w H h a (.tup (ks.map kV)) from ok a _ e)
 exact⟨o,its.toArray,n,h1,h2,h3,by simpa using DY r⟩
theorem Hj{kvs:List (List nO×V)}(ok:wX P w H h) (e:Rd H a (.dT kvs)):kvs.length<=jf/\(a == jT)=false /\
  ∃xs,KT H kvs xs/\h.DictOfH (lP (oX P w)) a xs:=by
 obtain⟨z,y,xs,r,o,es,ep,h1,h2,h3,h4,h5⟩:=(show oY P w H h a (.dT kvs) from T1 ok e)
 refine⟨z,y,xs,r,o,es,ep,h1,h2,h3,h4,λx hx=>?_,h5⟩
 have all:∀{l:List (List nO×V)}{m:List (List nO×Addr×Value)},KT H l m->∀x∈m,(lP (oX P w)).is h x.1 x.2.1:=by
  intro l m q
  induction q with
  |nil=>intro x hx;exact nomatch hx
  | @cons p q ps qs hq t ih =>
   intro x hx;rcases ao.mp hx with e|hx
   .subst e;exact Fx ok (by rw[←hq.1];exact hq.2.1)
   .exact ih x hx
 exact all r x hx
theorem WZ{kvs:List (List nO×V)}(ok:wX P w H h) (e:H a=some (.dT kvs)):kvs.length<=jf/\(a == jT)=false /\
  ∃xs,KT H kvs xs/\h.DictOfH (lP (oX P w)) a xs:=Hj ok (.inl e)
end
def B4(H:Hp) (a:Addr) (y:V) (r:Option V):Prop :=
 (∃kvs k,Rd H a (.dK kvs)/\y=kV k/\r=zO kvs k)∨∃kvs k b,Rd H a (.dT kvs)/\y = .ref b/\H b=some (.tup (k.map kV))/\r=zO kvs k
def NG(H:Hp) (a:Addr) (y v:V) (H':Hp):Prop :=
 (∃kvs k,H a=some (.dK kvs)/\y=kV k/\kvs.length<jf/\H'=oB H a (.dK (xI kvs k v))) ∨
 ∃kvs k b,H a=some (.dT kvs)/\y = .ref b/\H b=some (.tup (k.map kV))/\kvs.length<jf/\H'=oB H a (.dT (xI kvs k v))
theorem B4.k{H:Hp}{a:Addr}{kvs:List (nO×V)}{k:nO}(e:H a=some (.dK kvs)):B4 H a (kV k) (zO kvs k):=.inl ⟨kvs,k,.inl e,rfl,rfl⟩
theorem NG.k{H:Hp}{a:Addr}{kvs:List (nO×V)}{k:nO}{v:V}(e:H a=some (.dK kvs)) (hl:kvs.length<jf):NG H a (kV k) v (oB H a (.dK (xI kvs k v))):=.inl ⟨kvs,k,e,rfl,hl,rfl⟩
section
variable {X:Cx}{mV:List (Addr×Obj)}{σ:St}{H:Hp}{s:Shared}{a:Addr}{y v:V}{u r:Value}{o:Option V}{A:Around}{E:Value->Shared->Prop}
theorem Inv.big(I:Inv X mV σ H s):jT<s.heap.objs.size:=by
 have h:jh<s.heap.objs.size:=(I.mod.glob.keeps I.bk).lt;exact Nat.lt_trans (by decide) h
theorem LA{Q:Value->Shared->Prop}(hu:A.units+1<jB) (I:Inv X mV σ H s) (g:B4 H a y (some v)) (ry:oK y u) (h:∀w' s',Inv X mV σ H s'->oK v w'->Q w' s') :
  jb (ja X.prog X.w) A (mw (.ref a) u) Q E s:=by
 rcases g with ⟨kvs,k,e,ey,l⟩|⟨kvs,k,b,e,ey,eb,l⟩
 .subst ey;obtain⟨z,hd,vs,rel,dd⟩:=D8 I.hok e;obtain⟨w',hw,rw'⟩:=Bg.some_of (v:=v) (o:=lC vs k) (by rw[l];exact rel.val k)
  exact wpAny_getItem_of (GW ry) dd.mapOf hw (h w' _ (I.tok _) rw')
 .subst ey;cases (show u=ak b from ry)
  obtain⟨z,hd,xs,rel,dd⟩:=Hj I.hok e;obtain⟨w',hw,rw'⟩:=Bg.some_of (v:=v) (o:=(lS xs k).map (·.2)) (by rw[l];exact rel.val k)
  obtain⟨p,hp,hp2⟩:=oMq.mp hw;refine wpAny_getItem_heap (kW hu) (Fx I.hok eb) dd hp ?_;rw[hp2];exact h w' _ (I.tok _) rw'
theorem Rt{Q:Value->Shared->Prop}(hu:A.units+1<jB) (I:Inv X mV σ H s) (g:B4 H a y o) (ry:oK y u) (h:∀s',Inv X mV σ H s'->Q (.bool (!o.isSome)) s') :
  jb (ja X.prog X.w) A (jI .NotIn u (.ref a)) Q E s:=by
 rcases g with ⟨kvs,k,e,ey,l⟩|⟨kvs,k,b,e,ey,eb,l⟩
 .subst ey;obtain⟨z,hd,vs,rel,dd⟩:=D8 I.hok e;refine wpAny_notIn_of (GW ry) hd dd.mapOf ?_;rw[← (rel.val k).isSome_eq,←l];exact h _ (I.tok _)
 .subst ey;cases (show u=ak b from ry)
  obtain⟨z,hd,xs,rel,dd⟩:=Hj I.hok e;refine wpAny_notIn_heap (kW hu) (Fx I.hok eb) hd dd ?_;have q:=(rel.val k).isSome_eq;rw[dS]at q;rw[←q,←l];exact h _ (I.tok _)
theorem E1{h':Heap}{t':Nat}{ob:HO}(I:Inv X mV σ H s) (mu:Xr (H a)) (hs:eM a s.heap h') (he:∃q,h'.get? a=some q) (new:oY X.prog X.w (oB H a ob) h' a ob) :
  Inv X mV σ (oB H a ob) { s with heap:=h',toks:=t' } :=
 I.write (x:=a) (e:=a) mu (.inl rfl) (λb q hb z=>(hs.2 b hb).trans z) he new
theorem PY{P:jg}{w:ji}{H':Hp}{h':Heap}{kvs:List (nO×V)}{vs:List (nO×Value)}(z:kvs.length<=jf) (hd:(a == jT)=false) (rel:KV kvs vs) (dd:h'.DictOf (oX P w) a vs) :
  oY P w H' h' a (.dK kvs):=⟨z,hd,vs,rel,dd⟩
theorem Mj{H':Hp}{Q:Unit->Shared->Prop}(hu:A.units+1<jB) (I:Inv X mV σ H s) (g:NG H a y v H') (ry:oK y u) (rv:oK v r) (h:∀s',Inv X mV σ H' s'->Q () s') :
  jb (ja X.prog X.w) A (setItem (.ref a) u r) Q E s:=by
 rcases g with ⟨kvs,k,e,ey,l,eH⟩|⟨kvs,k,b,e,ey,eb,l,eH⟩
 .subst ey eH;obtain⟨z,hd,vs,rel,dd⟩:=TN I.hok e;have hz:vs.length<=jf:=by rw[←rel.length];exact z
  have hl:(xI kvs k v).length<=jf:=by have:=xA kvs k v;lia
  refine wpAny_setItem_pairs (hsz:=hz) (GW ry) dd λh' dd' hs=>h _ ?_
  have he:∃q,h'.get? a=some q:=let ⟨q,_,_,hq,_⟩:=dd';⟨q,hq⟩
  exact E1 I (by rw[e];exact True.intro) hs he (PY hl hd (rel.put k rv) dd')
 .subst ey eH;cases (show u=ak b from ry)
  obtain⟨z,hd,xs,rel,dd⟩:=WZ I.hok e;have hz:xs.length<=jf:=by rw[←Paired.length rel];exact z
  have hl:(xI kvs k v).length<=jf:=by have:=xA kvs k v;lia
  refine wpAny_setItem_heap (hsz:=hz) (kW hu) (Fx I.hok eb) dd λh' dd' hs=>h _ ?_
  obtain⟨q,es,ep,hq,h2,h3,h4,_,h5⟩:=dd';refine E1 I (by rw[e];exact True.intro) hs ⟨q,hq⟩ ⟨hl,hd,_,(rel.put k eb rv).keeps λc ys ec=>?_,q,es,ep,hq,h2,h3,h4,h5⟩
  rw[ni (WX ec e (λz=>nomatch z))]
  exact ec
end
section
variable {X:Cx}{mV:List (Addr×Obj)}{σ:St}{H:Hp}{s:Shared}{a:Addr}{kvs:List (nO×V)}{k:nO}{u:Value}{A:Around}{E:Value->Shared->Prop}
theorem Tv{Q:Value->Shared->Prop}(I:Inv X mV σ H s) (e:Rd H a (.dK kvs)) (h:∀t s',Inv X mV σ H s'->Q (.int kvs.length t) s'):jb (ja X.prog X.w) A (call (.builtin "len") [.ref a]) Q E s:=by
 obtain⟨z,hd,vs,rel,dd⟩:=D8 I.hok e;refine call_len_dict hd dd (by rw[←rel.length];rw[jq]at z;lia) ?_
 rw[←rel.length];exact h _ _ (I.tok _)
end
def V8(i:Expr):Prop:=∀ov iv,lW i false ov iv=operate [ov,iv] (mw ov iv)
theorem QX{prog:jg}{w:ji}{A:Around}{E:Value->Shared->Prop}{s:Shared}{env:Env}{value slice:Expr}{pos:Pos}{T id:String}{Q:Value->Shared->Prop}
  (hl:jn (.type T) "__getitem__" = pure (some (.builtin id))) (hs:V8 slice)
  (h:jb (ja prog w) A (eval value env) (λo s₁=>jb (ja prog w) A (eval slice env) (λi s₂=>s₂.TypeIs o T/\jb (ja prog w) A (mw o i) Q E s₂) E s₁) E s) :
  jb (ja prog w) A (eval (.Subscript value slice pos) env) Q E s:=by
 refine Subscript_ (jo h (λo s₁ h₁=>jo h₁ (λi s₂ h₂=>?_) λ_ _ x=>x) λ_ _ x=>x)
 obtain⟨hT,h₂⟩:=h₂;unfold mK;refine iY ?_;rw[getitemInPython_of_ne hT.not_modules];refine iY (wpAny_specialOf hT hl ?_);have fin:jb (ja prog w) A (lW slice false o i) (λr s₃=>jb (ja prog w) A (letTemporaryGo value o r >>= λ_=>pure r) Q E s₃) E s₂:=by
  rw[hs o i];exact wpAny_operating (jo h₂ (λr s₃ h₃=>iY (wpAny_letTemporaryGo (je h₃))) λ_ _ x=>x)
 first
  |exact je (iY fin)
  |exact iY (je (iY fin))
  |exact iY fin
theorem GC{X:Cx}{mV:List (Addr×Obj)}{σ:St}{H:Hp}{s:Shared}{a:Addr}{y:V}{o:Option V}(I:Inv X mV σ H s) (g:B4 H a y o):s.TypeIs (.ref a) "dict" := by
 rcases g with ⟨kvs,k,e,_,_⟩|⟨kvs,k,b,e,_,_,_⟩
 .obtain ⟨_,_,vs,_,dd⟩:=D8 I.hok e;exact dd.typeIs
 .obtain ⟨_,_,xs,_,dd⟩:=Hj I.hok e;exact dd.typeIs
def NQ(td ty:TE):TE:=λσ H Q=>td σ H λx H1=>ty σ H1 λy H2=>∃a v,x = .ref a/\B4 H2 a y (some v)/\Q v H2
def J0(ty td:TE):TE:=λσ H Q=>ty σ H λy H1=>td σ H1 λx H2=>∃a o,x = .ref a/\B4 H2 a y o/\Q (.bl (!o.isSome)) H2
def T2(td ty tv:TE):TS:=λD σ H=>tv σ H λv H1=>td σ H1 λx H2=>ty σ H2 λy H3=>∃a H4,x = .ref a/\NG H3 a y v H4/\D.nx σ H4
section
variable {X:Cx}{o i e value:Expr}{pos pos' tpos:Pos}{td ty tv:TE}
theorem sS(hu:X.A.units+1<jB) (ho:PE X o td) (hi:PE X i ty) (hs:V8 i):PE X (.Subscript o i pos) (NQ td ty):=by
 intro mV s σ H Q I h;refine QX PySem.F.slot_dict_getitem.lookup hs (qA (ho mV s σ H _ I h) λu s1 ⟨x,H1,I1,rx,q1⟩=>qA (hi mV s1 σ H1 _ I1 q1) λiv s2 ⟨y,H2,I2,ry,a,v,ex,g,q2⟩=>?_)
 subst ex;obtain rfl:u=ak a:=rx;exact⟨GC I2 g,LA hu I2 g ry λw' s3 I3 rw'=>⟨v,H2,I3,rw',q2⟩⟩
theorem vx(hu:X.A.units+1<jB) (hi:PE X i ty) (ho:PE X o td):PC X .NotIn i o (J0 ty td):=by
 intro mV s σ H Q I h;refine qA (hi mV s σ H _ I h) λiv s1 ⟨y,H1,I1,ry,q1⟩=>qA (ho mV s1 σ H1 _ I1 q1) λu s2 ⟨x,H2,I2,rx,a,ov,ex,g,q2⟩=>?_
 subst ex;obtain rfl:u=ak a:=rx;exact Rt hu I2 g ry λs3 I3=>⟨.bl (!ov.isSome),H2,I3,rfl,q2⟩
theorem vZ(hu:X.A.units+1<jB) (ho:PE X o td) (hi:PE X i ty) (hv:PE X value tv) (hs:kX value (some (.Subscript o i pos')) pos.line X.env=pure false) :
  PS X (.Assign [.Subscript o i pos'] value pos) (T2 td ty tv):=by
 intro mV s σ H D I h;refine wpAny_Assign_Subscript (qA (hv mV s σ H _ I h) λr s1 ⟨v,H1,I1,rv,q1⟩=>qA (ho mV s1 σ H1 _ I1 q1) λu s2 ⟨x,H2,I2,rx,q2⟩=>qA (hi mV s2 σ H2 _ I2 q2) λiv s3 ⟨y,H3,I3,ry,a,H4,ex,g,q3⟩=>?_) hs
 subst ex;obtain rfl:u=ak a:=rx;exact Mj hu I3 g ry rv λs4 I4=>⟨σ,H4,I4,q3⟩
end
theorem Gu{P:jg}{w:ji}{H:Hp}(h:Heap) (hb:jT<h.objs.size):oY P w H (h.push { cls:=.type "dict", data:=.dict #[] }) h.objs.size (.dK []) :=
 ⟨aY _,beq_eq_false_iff_ne.mpr (Ne.symm (aw hb)),[],.nil,Heap.DictOf.new h⟩
def Qv:TE:=λ_ H Q=>∀p,H p=none->Q (.ref p) (oB H p (.dK []))
section
variable {X:Cx}{pos:Pos}
theorem zB:PE X (.Dict [] [] pos) Qv:=λmV s σ H Q I h =>
 wpAny_Dict_empty ⟨.ref s.heap.objs.size,_,I.laid (a:=s.heap.objs.size) (o:=.dK []) (t':=s.toks) (λ_ _ q=>ae _ q) (ai _) (Gu s.heap I.big),rfl,h _ (I.hok.fresh (ai _))⟩
end
def Jv:List (TE×TE)->St->Hp->(List (V×V)->Hp->Prop)->Prop
 | [],_,H,Q=>Q [] H
 | (tk,tv)::r,σ,H,Q=>tk σ H λx H1=>tv σ H1 λy H2=>Jv r σ H2 λps H3=>Q ((x,y)::ps) H3
abbrev VV:List (V×V)->List (Value×Value)->Prop:=Paired λp q=>oK p.1 q.1/\oK p.2 q.2
def Ya(X:Cx) (pos:Pos) (keys:List (Option Expr)) (values:List Expr) (trs:List (TE×TE)):Prop :=
 ∀(mV:List (Addr×Obj)) (s:Shared) (σ:St) (H:Hp) (Q:List (V×V)->Hp->Prop),Inv X mV σ H s->Jv trs σ H Q ->
  jb (ja X.prog X.w) X.A (evalPairs (pairTrees keys values X.env pos)) (λvs s'=>∃ps H',Inv X mV σ H' s'/\VV ps vs/\Q ps H') X.xe s
theorem Fe{X:Cx}{pos:Pos}:Ya X pos [] [] []:=λmV s σ H Q I h=>pairTrees_nil_walk ⟨[],H,I,.nil,h⟩
theorem BL{X:Cx}{pos:Pos}{k v:Expr}{ks:List (Option Expr)}{vs:List Expr}{tk tv:TE}{trs:List (TE×TE)}(hk:PE X k tk) (hv:PE X v tv) (hr:Ya X pos ks vs trs) :
  Ya X pos (some k::ks) (v::vs) ((tk,tv)::trs):=λmV s σ H Q I h =>
 pairTrees_cons_walk (qA (hk mV s σ H _ I h) λu s1 ⟨x,H1,I1,rx,q1⟩=>qA (hv mV s1 σ H1 _ I1 q1) λw2 s2 ⟨y,H2,I2,ry,q2⟩ =>
  qA (hr mV s2 σ H2 _ I2 q2) λws s3 ⟨ps,H3,I3,rel,q3⟩=>⟨(x,y)::ps,H3,I3,.cons ⟨rx,ry⟩ rel,q3⟩)
def Ah(kvs more:List (nO×V)):List (nO×V):=more.foldl (λacc kv=>xI acc kv.1 kv.2) kvs
theorem KV.merge:∀{more:List (nO×V)}{rs:List (nO×Value)}{kvs:List (nO×V)}{vs:List (nO×Value)},KV more rs->KV kvs vs->KV (Ah kvs more) (merged vs rs):=by
 intro more rs kvs vs r;unfold KV at r
 induction r generalizing kvs vs with
 |nil=>intro q;exact q
 | @cons p q ps qs h t ih =>
  intro r0;have e:KV (xI kvs p.1 p.2) (stored vs q.1 q.2):=by
   have:=r0.put p.1 h.2;rw[←h.1];exact this
  exact ih e
theorem yD:∀(more kvs:List (nO×V)),(Ah kvs more).length<=kvs.length+more.length
 | [],kvs=>by show kvs.length<=kvs.length+0;lia
 |p::r,kvs=>by
  have h1:=yD r (xI kvs p.1 p.2);have h2:=xA kvs p.1 p.2;show (Ah (xI kvs p.1 p.2) r).length<=_;rw[lCq];lia
theorem CS{P:jg}{w:ji}:∀{kvs:List (nO×V)}{ws:List (Value×Value)},VV (kvs.map λkv=>(kV kv.1,kv.2)) ws->∃rs,Carries (oX P w) ws rs/\KV kvs rs
 | [],_,r=>by rw[gj]at r;cases r;exact⟨[],True.intro,.nil⟩
 |p::kvs,_,r=>by
  rw[aB]at r;cases r with
  | @cons a b as bs h t =>
   obtain⟨rs,c,q⟩:=CS (P:=P) (w:=w) t;obtain⟨b1,b2⟩:=b;exact⟨(p.1,b2)::rs,⟨GW h.1,rfl,c⟩,.cons ⟨rfl,h.2⟩ q⟩
def TC(trs:List (TE×TE)):TE:=λσ H Q=>∀p,H p=none->Jv trs σ (oB H p (.dK [])) λps H2=>H2 p=some (.dK [])/\∃kvs:List (nO×V),ps=kvs.map (λkv=>(kV kv.1,kv.2))/\kvs.length<=15/\Q (.ref p) (oB H2 p (.dK (Ah [] kvs)))
theorem ED{X:Cx}{pos:Pos}{keys:List (Option Expr)}{values:List Expr}{trs:List (TE×TE)}(h:Ya X pos keys values trs) (hall:keys.all (·.isSome)=true) (hl:keys.length=values.length) (h0:keys≠[])
  (h15:keys.length<=15):PE X (.Dict keys values pos) (TC trs):=by
 intro mV s σ H Q I q;have hn:=I.hok.fresh (ai s.heap.objs.size);have I1:=I.laid (a:=s.heap.objs.size) (o:=.dK []) (h':=s.heap.push { cls:=.type "dict", data:=.dict #[] }) (t':=s.toks) (λ_ _ q=>ae _ q) (ai _) (Gu s.heap I.big)
 refine wpAny_Dict_walk (knd:=oX X.prog X.w) hall hl h0 h15 (qA (h mV _ σ _ _ I1 (q _ hn)) λws s2 ⟨ps,H2,I2,rel,e,kvs,ep,lk,q2⟩=>?_)
 subst ep;obtain⟨rs,c,rk⟩:=CS (P:=X.prog) (w:=X.w) rel;obtain⟨z,hd,vs0,r0,dd⟩:=TN I2.hok e;cases r0;refine⟨rs,c,dd,λh' dd' hs=>⟨.ref s.heap.objs.size,_,?_,rfl,q2⟩⟩
 have hz:(Ah [] kvs).length<=jf:=by
  have h1:=yD kvs [];rw[bB]at h1;rw[jq];lia
 have he:∃q,h'.get? s.heap.objs.size=some q:=let ⟨q,_,_,hq,_⟩:=dd';⟨q,hq⟩
 exact E1 I2 (by rw[e];exact True.intro) hs he (PY hz hd (rk.merge .nil) dd')
def IsD(H:Hp) (a:Addr):Prop:=(∃kvs,Rd H a (.dK kvs))∨∃kvs,Rd H a (.dT kvs)
theorem Ux{X:Cx}{mV:List (Addr×Obj)}{σ:St}{H:Hp}{s:Shared}{a:Addr}(I:Inv X mV σ H s) (d:IsD H a) :
  s.TypeIs (.ref a) "dict" /\ (∀b,ak a = .ref b->∃ob,s.heap.get? b=some ob/\ob.dict=none)/\(a == jT)=false:=by
 rcases d with ⟨kvs,e⟩|⟨kvs,e⟩
 .obtain ⟨_,hd,vs,_,dd⟩:=D8 I.hok e;refine⟨dd.typeIs,λb q=>?_,hd⟩
  cases q;obtain⟨ob,_,_,h1,h2,_⟩:=dd;exact⟨ob,h1,h2.2.1⟩
 .obtain ⟨_,hd,xs,_,dd⟩:=Hj I.hok e;refine⟨dd.typeIs,λb q=>?_,hd⟩
  cases q;obtain⟨ob,_,_,h1,h2,_⟩:=dd;exact⟨ob,h1,h2.2.1⟩
end L2
namespace Att
open PySem PySem.W PySem.Calls PyProof.Rows
theorem Bh{P:Params}{h:Heap}:∀(ns:List Int) (vs:List Value),WellAll P h vs (ns.map WData.int)->ju vs ns:=by
 intro ns
 induction ns with
 |nil =>
  intro vs w;rw[gj]at w;cases w;exact .nil
 |cons n ns ih =>
  intro vs w;rw[aB]at w;cases w with
  |cons a b =>
   cases a;exact .cons _ _ (ih _ b)
theorem Mi{l:OpenLaw}{n:Nat}(hn:l.most=some n) {P:Params}{h:Heap}{args:List WData}{vals:List Value}
  (hpre:l.row.toRowW.claim.pre args=true) (hwl:WellAll P h vals args) :
  ∃a vs ns,vals=[ak a]/\args=[WData.list (ns.map WData.int)]/\h.get? a=some { cls:=.type "list", data:=.seq vs.toArray }/\ju vs ns/\ns.length<=n:=by
 have hsh:WShape.hasAll [] args [.list .int]=true:=(pre_splitW hpre).1;have hc:l.pre.holds [] { args:=args }=true:=(pre_splitW hpre).2;obtain⟨d,r,rfl,h1,h2⟩:=hasAllW_cons hsh;obtain rfl:=hasAllW_nil h2;obtain⟨xs,rfl,h3⟩:=hasW_list h1;obtain⟨ns,rfl⟩:=items_int h3;have hlen:ns.length<=n:=by
  unfold OpenLaw.pre at hc;have h4:(WTm.not (.lt (.lit (.int (n:Int))) (.len (.arg 0)))).holds [] { args:=[.list (ns.map .int)] }=true:=by
   have h4:=(holds_andW hc).1;rw[hn]at h4;exact h4
  have h5:=condW_of h4 (w_not (w_lt w_lit (w_len_list (w_arg rfl))));rw[lMq]at h5;refine gc λq=>?_
  have q':(n:Int)<((ns.length:Nat):Int):=by lia
  first
   | (rw[decide_eq_true q']at h5;exact absurd h5 (by decide))
   | (simp at h5;lia)
 cases hwl with
 |cons w1 w2 =>
  cases w2;cases w1 with
  |list ho hall=>exact⟨_,_,ns,rfl,rfl,ho,Bh ns _ hall,hlen⟩
theorem LX(l:OpenLaw) (args:List WData):l.row.toRowW.claim.post args (.bool true) args=true :=
 postW_of (r:=l.row.toRowW) (X:=(true == true))
  (show WShape.has [] (.bool true) .bool=true by first|rfl|decide|simp[WShape.has,WShape.arms,WShape.armsAll])
  (show (WTm.eq .res (.lit (.bool true))).value [] { args:=args,res:=some (.bool true),after:=args }=some (.bool (true == true)) from w_eq_bool (w_res rfl) w_lit) rfl
theorem Hy{l:OpenLaw}{n:Nat}{q:jg}{loose:List Str}{XP:(Str->Option Value)->Heap->Prop}{YP:ji->Heap->Prop}{d:DefRec}
  (hn:l.most=some n) (hdf:d.params.defaults=[])
  (call:∀(w:ji) (s₀ s₁:Shared) (mg mb:Str->Option Value) (fa:Addr) (o:Obj) (pm cd doc:Value) (a:Addr) (vs:List Value) (ns:List Int),
   Ground q loose [] XP w s₀ mg mb s₁.heap->YP w s₁.heap ->
   s₁.heap.get? fa=some o->o.data = .func (docDef d.name d.params d.body d.scope pm cd doc)->s₁.heap.CodeRec cd d.name->mg d.name=some (.ref fa) ->
   s₁.heap.get? a=some { cls:=.type "list", data:=.seq vs.toArray }->ju vs ns->ns.length<=n->s₁.gens=#[] ->
   kK (ja l.prog w) lD (.call (.ref fa) ⟨[.ref a],[]⟩) (λr s'=>r = .ok (.ret (.bool true))/\OldK s₁.heap s'.heap/\s'.os=s₁.os/\kE s'.gens) s₁) :
  WalkO q loose XP YP l.row.toRowW d [] (λf vs=>PySem.call f vs):=by
 intro w s₀ s₁ mg mb G Y fa o pm cd doc dV kV ho hd hcd hD hmg hg args vals as hpre hlay hrd hwl hlo;obtain rfl:dV = .none:=Dflts.none hD hdf;obtain rfl:kV = .none:=Dflts.noKw hD;obtain⟨a,vs,ns,rfl,rfl,hobj,hints,hlen⟩:=Mi hn hpre hwl;refine enter_call (kN (call w s₀ s₁ mg mb fa o pm cd doc a vs ns G Y ho (fd_plain hd) hcd hmg hobj hints hlen hg) λr s' hq=>?_)
 obtain⟨rfl,h2,h3,h4⟩:=hq;exact⟨.inl ⟨.bool true,.bool true,[],rfl,λ_=>rfl,.bool true,LX l _,λ_=>⟨cZ.nil,λ_ hm=>(nomatch hm)⟩⟩,h2,h3,h4⟩
end Att
namespace L2
open PySem PySem.Spec PyProof.Rows
theorem vals_ints:∀{vs:List Value}{ns:List Int},ju vs ns->nX (ns.map V.int) vs
 |_,_,.nil=>.nil
 |_,_,.cons n t h=>.cons ⟨t,rfl⟩ (vals_ints h)
def UT(H:Hp):Prop:=∀b,H b=none∨∃o xs,H b=some (.frz o (.lst xs))
theorem Oq{P:jg}{w:ji}{K:W.Frag}{mg mb:Str->Option Value}{CX:M7}{k:Nat}{fa a:Addr}{fd:jr}{x:Str}{sp:Sp}{s₁:Shared}{vs:List Value}{ns:List Int}
  (KX:K.In s₁.heap) (hns:s₁.heap.Ns jh mg) (hb:s₁.heap.Ns builtinsNs mb) (hbb:∀x:Str,x ≠ "__name__" -> mb x=ke x) (hlim:s₁.heap.NoLimit) (hg:s₁.gens=#[])
  (ha:s₁.heap.get? a=some { cls:=.type "list", data:=.seq vs.toArray }) (hi:ju vs ns) (hl:ns.length<=jf) (hr:rz k lD)
  (F:∀base:Heap,K.In base->base.Ns jh mg->yt P w K mg base CX k fa fd [x] sp) (hbind:∀(s:Shared) (u:Value),mB s fd ⟨[u],[]⟩ [(x,u)])
  (hsp:∀H:Hp,UT H->qO K H a (ns.map V.int)->sp [.ref a] H (λv _=>v = .bl true) λ_ _ _=>False)
  (hCX:∀H e s',CX [] H s₁ (λ_ _ _=>False) e s'->False) :
  kK (ja P w) lD (.call (.ref fa) ⟨[.ref a],[]⟩) (λr s'=>r = .ok (.ret (.bool true))/\OldK s₁.heap s'.heap/\s'.os=s₁.os/\kE s'.gens) s₁:=by
 have rv:=vals_ints hi;have lenV:=hi.length;have core:∀H:Hp,UT H->qO K H a (ns.map V.int)->wX P w H s₁.heap->(∀b,H b≠none->b=a)->(H a≠none->K.lookup a=none) ->
   kK (ja P w) lD (.call (.ref fa) ⟨[.ref a],[]⟩) (λr s'=>r = .ok (.ret (.bool true))/\OldK s₁.heap s'.heap/\s'.os=s₁.os/\kE s'.gens) s₁:=by
  intro H hO hS hok hA hK;have base_of:∀{b:Addr}{o:Obj},s₁.heap.get? b=some o->H b=none->(EN s₁.heap H).get? b=some o:=λe n=>OQ e n
  have noA:∀{b:Addr}{o:Obj}{es:Array DictEntry}{ep:Nat},s₁.heap.get? b=some o->o.data = .dict es ep->H b=none:=λ{b o es ep} e d=>by
   cases q:H b with
   |none=>rfl
   |some u =>
    have e':b=a:=hA b (by rw[q];simp)
    subst e';rw[ha]at e;cases e;have d':Data.seq vs.toArray _=Data.dict es ep:=d;cases d'
  have nsK:∀{b:Addr}{m:Str->Option Value},s₁.heap.Ns b m->(EN s₁.heap H).Ns b m:=λ{b m} ⟨o,es,ep,e,d,r⟩=>⟨o,es,ep,base_of e (noA e d),d,r⟩
  have hKb:K.In (EN s₁.heap H):=λb o e=>base_of (KX b o e) (by
   cases q:H b with
   |none=>rfl
   |some u =>
    have e':b=a:=hA b (by rw[q];simp)
    subst e';rw[hK (by rw[q];simp)]at e;cases e)
  have hM:Mod K mg (EN s₁.heap H):=⟨hKb,nsK hns,⟨mb,nsK hb,hbb⟩,let ⟨mc,h1,h2⟩:=hlim;⟨mc,nsK h1,h2⟩⟩
  have e0:Ib P w K mg (EN s₁.heap H) lD [] s₁ H:=⟨rfl,hM,λb o e=>QV e,eN (Mk _ _),trivial,λb hb=>absurd (show b∈([]:List Addr) from hb) (by simp),hok,.of_eq hg⟩
  refine kN ((F _ hKb (nsK hns)).run lD [] s₁ H ⟨[.ref a],[]⟩ [.ref a] [.ref a] _ _ hr e0 (hbind s₁ (.ref a)) (.cons rfl .nil) (hsp H hO hS)) λr s' h=>?_
  cases r with
  |error e=>exact(hCX H e s' h).elim
  |ok fl =>
   cases fl with
   |next=>exact False.elim h
   |brk=>exact False.elim h
   |cont=>exact False.elim h
   |ret u =>
    obtain⟨v,H',os,bare,un,hok',r',q⟩:=h;have q':v = .bl true:=q;subst q';obtain rfl:u=eX true:=r';refine⟨rfl,OldK.of_keep λb o e=>?_,os,bare⟩
    cases q:H b with
    |none=>exact un.keep b o e q (by intro z;exact absurd (show b∈([]:List Addr) from z) (by simp)) (by simp)
    |some u =>
     rcases hO b with z|⟨ob,xs,z⟩
     .rw [q]at z;cases z
     .have z2:=un.frzs b ob _ z;obtain⟨e1,_⟩:=hok b _ z;obtain⟨e2,_⟩:=hok' b _ z2;rw[e]at e1;cases e1;exact e2
 cases hk:K.lookup a with
 |some o =>
  have e:=KX a o hk;rw[ha]at e;cases e;refine core (λ_=>none) (λ_=>.inl rfl) (.inr ⟨_,vs.toArray,_,hk,rfl,rfl,rfl,by rw[aC,lenV];exact hl,by simpa using rv⟩) (λb u z=>by have z':(none:Option HO)=some u:=z;cases z') (λb z=>absurd rfl z) λz=>absurd rfl z
 |none =>
  refine core (λb=>if b=a then some (.frz { cls:=.type "list", data:=.seq vs.toArray } (.lst (ns.map V.int))) else none) (λb=>?_) (.inl (.inr ⟨{ cls:=.type "list", data:=.seq vs.toArray },nP rfl⟩)) (λb u z=>?_) (λb z=>?_) λ_=>hk
  .by_cases hb:b=a
   .exact .inr ⟨_,_,nP hb⟩
   .exact .inl (nQ hb)
  .by_cases hb:b=a
   .have z':=(nP hb).symm.trans z;cases z';subst hb;exact⟨ha,by rw[lMq];exact hl,vs,_,rv,ha⟩
   .have z':=(nQ hb).symm.trans z;cases z'
  .by_cases hb:b=a
   .exact hb
   .exact absurd (nQ hb) z
theorem Rf{l:W.OpenLaw}{n k:Nat}{q:jg}{loose:List Str}{XP:(Str->Option Value)->Heap->Prop}{YP:ji->Heap->Prop}{d:DefRec}{K:Params->W.Frag}{CX:ji->M7}{sp:ji->Sp}{x:Str}
  (hn:l.most=some n) (hn2:n<=jf) (hdf:d.params.defaults=[]) (hr:rz k lD)
  (hY:∀(w:ji) (h:Heap),YP w h->(K w.params).In h)
  (F:∀(w:ji) (mg:Str->Option Value) (fa:Addr) (h:Heap),(K w.params).In h->h.Ns jh mg->mg d.name=some (.ref fa) ->
   ∃fd:jr,(∀(s:Shared) (u:Value),mB s fd ⟨[u],[]⟩ [(x,u)]) /\
    ∀base:Heap,(K w.params).In base->base.Ns jh mg->yt l.prog w (K w.params) mg base (CX w) k fa fd [x] (sp w))
  (hsp:∀(w:ji) (H:Hp) (a:Addr) (ns:List Int),ns.length<=n->UT H->qO (K w.params) H a (ns.map V.int)->sp w [.ref a] H (λv _=>v = .bl true) λ_ _ _=>False)
  (hCX:∀(w:ji) (H:Hp) (s:Shared) (e:Value) (s':Shared),CX w [] H s (λ_ _ _=>False) e s'->False) :
  W.WalkO q loose XP YP l.row.toRowW d [] (λf vs=>PySem.call f vs):=by
 refine Att.Hy hn hdf λw s₀ s₁ mg mb fa o pm cd doc a vs ns G Y ho hd hcd hmg hobj hints hlen hg=>?_
 have KX:=hY w _ Y;obtain⟨fd,hb,hF⟩:=F w mg fa _ KX G.T.g hmg;exact Oq KX G.T.g G.T.b G.T.builtins G.T.nolimit hg hobj hints (bC hlen hn2) hr hF hb (λH hO hS=>hsp w H a ns hlen hO hS) λH e s'=>hCX w H s₁ e s'
def sU(s:Stmt):Arguments:=match s with
 | .FunctionDef _ a _ _ _ _ _ _ _ _=>a
 |_=>{ posonlyargs:=[],args:=[],vararg:=none,kwonlyargs:=[],kw_defaults:=[],kwarg:=none,defaults:=[] }
def rB(s:Stmt):List Stmt:=match s with
 | .FunctionDef _ _ b _ _ _ _ _ _ _=>b
 |_=>[]
def nA(s:Stmt):ky:=match s with
 | .FunctionDef _ _ _ _ _ _ sc _ _ _=>sc
 |_=>{ kind:=.function,names:=[],isGenerator:=false,isCoroutine:=false }
abbrev Tn:M7:=λ_ _ _ _ _ _=>False
abbrev E0:XK:=λ_ _ _=>False
theorem Xk{X:Cx}:Aj Tn X E0:=λ_ _ _ _ _ _ _ h=>h.elim
structure QB (K:W.Frag) (x qual:Str) (st:Stmt) (f:Addr) (fd:jr):Prop where
 ex:∃(oc:Value) (od:Option Addr) (kV doc pm:Value) (an:Option Addr) (rS ct:Value) (osl:Array (Option Value)),
  fd=W.fnOf x qual (sU st) (rB st) (nA st) .none kV doc pm an rS ct/\K.lookup f=some ⟨oc,od,.func fd,osl⟩/\W.codeIn K rS qual=true
 kp:W.keepIn K (.ref f)=true
section
variable {P:jg}{w:ji}{K:W.Frag}{mg:Str->Option Value}{base:Heap}
theorem QB.ok{x qual:Str}{st:Stmt}{f:Addr}{fd:jr}{N ps:List Str}{k:Nat}{sp:Sp}(F:QB K x qual st f fd) (S:nW N ps (nA st)) (len:∀vs H Q E,sp vs H Q E->vs.length=ps.length)
  (hbody:∀(rS:Value) (A:Around) (outer:List Env) (s:Shared) (H:Hp) (vs:List V) (Q:VK) (E:XK),rz k (A.deeper (jQ qual (nA st) s.heap.objs.size f rS))->sp vs H Q E ->
   ∃t,HR (Ey Tn P w K mg base N qual (nA st) f rS A outer s H E).nox (rB st) t/\t { nx:=λ_ H'=>Q .non H',rt:=Q } (uF N vs) H):yt P w K mg base Tn (k+1) f fd ps sp:=by
 obtain⟨oc,od,kV,doc,pm,an,rS,ct,osl,rfl,lk,hcd⟩:=F.ex;refine fn_of lk hcd S len λA outer s H vs Q E hr hsp=>?_
 obtain⟨t,h,q⟩:=hbody rS A outer s H vs Q E hr hsp;exact⟨t,h.nox,q⟩
theorem QB.binds{x qual:Str}{st:Stmt}{f:Addr}{fd:jr}{ps:List Str}(F:QB K x qual st f fd)
  (h:∀(kV doc pm:Value) (an:Option Addr) (rS ct:Value) (us:List Value),us.length=ps.length->bindArgs (W.fnOf x qual (sU st) (rB st) (nA st) .none kV doc pm an rS ct) ⟨us,[]⟩=pure (ps.zip us)):uQ K fd ps []:=by
 obtain⟨oc,od,kV,doc,pm,an,rS,ct,osl,rfl,lk,hcd⟩:=F.ex;exact .all (h kV doc pm an rS ct)
theorem Dh{x qual:Str}{st:Stmt}{f:Addr}{oc:Value}{od an:Option Addr}{osl:Array (Option Value)}{kV doc pm rS ct:Value}(l:K.lookup f=some ⟨oc,od,.func (W.fnOf x qual (sU st) (rB st) (nA st) .none kV doc pm an rS ct),osl⟩)
  (c:W.codeIn K rS qual=true) (k:W.keepIn K (.ref f)=true):QB K x qual st f (W.fnOf x qual (sU st) (rB st) (nA st) .none kV doc pm an rS ct):=⟨⟨oc,od,kV,doc,pm,an,rS,ct,osl,rfl,l,c⟩,k⟩
end
theorem rm{A:Around}{k:Nat}(hr:rz k A):A.units+1<jB:=hU (Nat.add_le_add_left (by decide:1<=64) _) hr.units
section
variable {X:Cx}
theorem pv(i:Nat) {x:Str}{pos:Pos}(hN:X.N[i]?=some x:=by rfl) (hv:XG X.env.scope x:=by trivial) (hd:(x == ("__debug__" : Str))=false:=by decide)
  (hcd:(x == ("__classdict__" : Str))=false:=by decide):PE X (.Name x pos) (uI i):=UE hN hv hd hcd
end
theorem Gf{A B:Prop}(h:B):if false=true then A else B:=by
 rw[nQ aO];exact h
theorem GR{A B:Prop}(h:A):if true=true then A else B:=by
 rw[nP rfl];exact h
def nS(H H':Hp):Prop:=∀b o,H b=some o->H' b=some o
theorem nS.refl(H:Hp):nS H H:=λ_ _ h=>h
theorem nS.trans{H H1 H2:Hp}(a:nS H H1) (b:nS H1 H2):nS H H2:=λc o h=>b c o (a c o h)
theorem nS.free{H H':Hp}(e:nS H H') {l:Addr}(h:H' l=iT):H l=iT:=by
 cases q:H l with
 |none=>rfl
 |some o =>
  rw[e l o q]at h;cases h
theorem nS.seq{K:W.Frag}{H H':Hp}{a:Addr}{xs:List V}(e:nS H H') (h:qO K H a xs):qO K H' a xs:=by
 rcases h with (h|⟨o,h⟩)|h
 .exact .inl (.inl (e _ _ h))
 .exact .inl (.inr ⟨o,e _ _ h⟩)
 .exact .inr h
section
variable {X:Cx}
theorem Er:uB X (.builtin "len") (λxs H Q=>∃a kvs,xs=[V.ref a]/\H a=some (.dK kvs)/\Q (.int kvs.length) H):=by
 intro mV s σ H xs us Q I r h;obtain⟨a,kvs,rfl,ha,q⟩:=h;obtain⟨u,rfl,ru⟩:=vK r;cases ru;exact Tv I (.inl ha) λt s' I'=>⟨.int kvs.length,H,I',⟨t,rfl⟩,q⟩
end
end L2
namespace Mr
abbrev St:=L2.St
open PySem PySem.Spec PyProof.Rows L2
section
variable {X:Cx}{mV:List (Addr×Obj)}{σ:List (Option V)}{H H':Hp}{s:Shared}{h':Heap}
theorem Ng{t':Nat}{fp:List Addr}{T:Addr}{o:HO}(I:Inv X mV σ H s) (k:∀b u,b∉fp->s.heap.get? b=some u->h'.get? b=some u)
  (hf:∀b∈fp,B8 X mV H b) (hT:s.heap.objs.size<=T) (new:oY X.prog X.w (oB H T o) h' T o):Inv X mV σ (oB H T o) { s with heap:=h',toks:=t' }:=by
 have hn:H T=none:=I.hok.fresh hT;have nf:∀b u,H b=some u->b∉fp:=λb u e z=>by rw[(hf b z).1]at e;cases e
 refine I.step (g':=s.gens) (d':=s.drawn) (ch:=fp) (λb hb=>?_) (λb u _ _ hc e _=>k b u hc e) (λb u _ _ hc e _=>⟨u.slots,k b u hc e⟩)
  (λb u _ e n=>by rw[ni (aw (aK (ag e) hT))];exact n) (λb u hc e=>⟨u,k b u hc e⟩)
  (λb xs e=>by rw[ni (pX e hn)];exact e) (λb u xs e=>by rw[ni (pX e hn)];exact e) (λb ps e=>⟨#[],by rw[ni (pX e hn),e];simp⟩) (λm hm=>?_) (λb u e=>?_) I.bare
 .obtain ⟨_,f1,_,f3,f4,f5⟩:=hf b hb;exact⟨f3,f1,f4,f5⟩
 .obtain ⟨u,es,ep,ho,r⟩:=hm;exact⟨u,es,ep,k _ u (λz=>(hf _ z).2.1 rfl) ho,r⟩
 .by_cases hb:b=T
  .subst hb;rw[nB]at e;cases e;exact new
  .rw [ni hb]at e;refine(I.hok b u e).stay (λc v hc q=>k c v ?_ q) (λc q=>by rw[ni (pX q hn)];exact q) λc xs q=>by rw[ni (pX q hn)];exact q
   rcases hc with rfl|hc
   .exact nf _ u e
   .exact nf c _ hc
theorem Sl{t':Nat}{fp:List Addr}(I:Inv X mV σ H s) (k:∀b u,b∉fp->s.heap.get? b=some u->h'.get? b=some u)
  (hf:∀b∈fp,B8 X mV H b):Inv X mV σ H { s with heap:=h',toks:=t' }:=by
 have nf:∀b u,H b=some u->b∉fp:=λb u e z=>by rw[(hf b z).1]at e;cases e
 refine I.step (g':=s.gens) (d':=s.drawn) (ch:=fp) (λb hb=>?_) (λb u _ _ hc e _=>k b u hc e) (λb u _ _ hc e _=>⟨u.slots,k b u hc e⟩)
  (λ_ _ _ _ n=>n) (λb u hc e=>⟨u,k b u hc e⟩) (λ_ _ e=>e) (λ_ _ _ e=>e) (λb ps e=>⟨#[],by rw[e];simp⟩) (λm hm=>?_) (λb u e=>?_) I.bare
 .obtain ⟨_,f1,_,f3,f4,f5⟩:=hf b hb;exact⟨f3,f1,f4,f5⟩
 .obtain ⟨u,es,ep,ho,r⟩:=hm;exact⟨u,es,ep,k _ u (λz=>(hf _ z).2.1 rfl) ho,r⟩
 .refine (I.hok b u e).stay (λc v hc q=>k c v ?_ q) (λ_ q=>q) λ_ _ q=>q
  rcases hc with rfl|hc
  .exact nf _ u e
  .exact nf c _ hc
end
def WE(K:W.Frag) (a:Addr):It :=
  ⟨λi H=>∃xs x,qO K H a xs/\xs[i]?=some x,
   λi H v H'=>∃T x,H T=none/\v = .ref T/\H'=oB H T (.tup [.int i,x])/\∀xs,qO K H a xs->xs[i]?=some x,
   λi H=>∃xs,qO K H a xs/\xs.length<=i⟩
theorem Ma{P:jg}{w:ji}{K:W.Frag}{elts:List Expr}{k:Nat}{pos:Pos}(a e it:Addr) (hne:e≠it) :
  LG P w K (.Tuple elts k pos) (WE K a) [e,it] e (λi h=>(∃old,IsEnum h e it i old)/\h.IsListIter it a i) where
 mem:=by simp
 obj:=λi h st b hb=>by
  obtain⟨⟨old,he⟩,o,ho,_,d⟩:=st;rcases ao.mp hb with rfl|hb
  .exact ⟨_,he,λv z=>by
    have z':Data.fields _=Data.cell v:=z;cases z'⟩
  .have e:b=it:=by simpa using hb
   subst e;exact⟨o,ho,λv z=>by rw[d]at z;cases z⟩
 keep:=λi h h' st kp=>by
  obtain⟨⟨old,he⟩,hit⟩:=st;exact⟨⟨old,kp e (by simp) _ he⟩,hit.at λo q=>kp it (by simp) o q⟩
 item:=by
  intro X hP hw hK hc i mV s σ H E I hf st hg;subst hP hw hK;obtain⟨xs,x,hq,hx⟩:=hg;obtain⟨its,rv,p,hz⟩:=I.list hq;obtain⟨u,hu,ru⟩:=rv.get hx;obtain⟨⟨old,he⟩,hit⟩:=st;have hil:it<s.heap.objs.size:=by obtain⟨_,q,_⟩:=hit;exact ag q
  have hel:e<s.heap.objs.size:=ag he;refine wpAny_pyNext_enum_item he hit p.isList (x:=u) (by simpa using hu) hne λh1 he1 hit1 ht1 hz1 hk1=>⟨_,rfl,?_⟩
  refine wpAny_letOwnedTupleGo_enum he1 λh2 he2 hs2=>?_
  replace hs2:eM e h1 h2:=hs2;have hn:H s.heap.objs.size=none:=I.hok.fresh (ai _);refine⟨.ref s.heap.objs.size,oB H s.heap.objs.size (.tup [.int i,x]),?_,rfl,⟨_,x,hn,rfl,rfl,λys hy=>by rw[I.list_inj hy hq];exact hx⟩,⟨⟨_,by simpa using he2⟩,hit1.extBut hs2.extBut (Ne.symm hne)⟩,λb hb=>?_⟩
  .show L2.Inv X mV σ _ { s with heap:=h2,toks:=s.toks+1 }
   refine Ng (s:=s) (fp:=[e,it]) I (λb o hb q=>?_) hf (ai _) ⟨by simp only[lCq,bB];rw[jq];decide,[.int i s.toks,u],.cons ⟨_,rfl⟩ (.cons ru .nil),_,hs2.extBut _ _ (bj hel) ht1,rfl,_,rfl⟩
   have b1:b≠e:=λz=>hb (by simp[z])
   exact hs2.extBut b o b1 (hk1 b o b1 (λz=>hb (by simp[z])) q)
  .have hb2:b<s.heap.objs.size:=by
    rcases ao.mp hb with rfl|hb
    .exact hel
    .have e:b=it:=by simpa using hb
     subst e;exact hil
   rw[ni (aw hb2)];exact(hf b hb).1
 done:=by
  intro X hP hw hK hc i mV s σ H E I hf st hg;subst hP hw hK;obtain⟨xs,hq,hx⟩:=hg;obtain⟨its,rv,p,hz⟩:=I.list hq;obtain⟨⟨old,he⟩,hit⟩:=st;have hl:=rv.length;exact wpAny_pyNext_enum_end (I.ok.hd hc) he hit p.isList (by simp;lia) λh1 eb=>⟨rfl,Sl (t':=s.toks) (fp:=[e,it]) I (λb o hb q=>eb b o (λz=>hb (by simp[z])) q) hf⟩
 self:=λ_ _ _ _ _ st h=>by
  obtain⟨⟨old,he⟩,_⟩:=st;exact wpAny_pyIter_enum he h
section
variable {X:Cx}{elts:List Expr}{kk:Nat}{tpos:Pos}
def TZ(K:W.Frag) (ta:TA):TI:=λσ H R=>ta σ H λvs H1=>∃a,vs=[.ref a]/\(∃xs,qO K H1 a xs)/\R (WE K a) H1
theorem JQ{e:Expr}{ta:TA}{p pos:Pos}(hg:Gl X "enumerate") (hm:X.mg "enumerate" = none) (ha:PA X [e] ta) (hs:jj [e] X.env=[(false,eval e X.env)]:=by rfl) :
  PI X (.Tuple elts kk tpos) (.Call (.Name "enumerate" p) [e] [] pos) (TZ X.K ta):=by
 intro mV s σ H R I h;refine Call_ (xF I hg hm boot_enumerate (cQ (qA (ha pos mV s σ H _ I h) λus s1 hz1=>?_) hs rfl))
 obtain⟨vs,H1,I1,r1,q1⟩:=hz1;obtain⟨a,e1,⟨xs,hq⟩,q⟩:=q1;subst e1;obtain⟨u,rfl,ru⟩:=vK r1;cases ru;obtain⟨its,rv,p1,hz⟩:=I1.list hq;refine call_enumerate_list p1.isList λg he hit hsz hk=>wpAny_pyIter_enum he ?_
 refine⟨s1.heap.objs.size+1,[s1.heap.objs.size+1,s1.heap.objs.size],_,_,H1,rfl,I1.kept (t':=s1.toks) hk,Ma a _ _ (Nat.succ_ne_self _),⟨⟨_,he⟩,hit⟩,λb hb=>?_,q⟩
 have hb2:s1.heap.objs.size<=b:=by
  simp only[ao,gd,or_false]at hb;rcases hb with rfl|rfl
  .exact bM _
  .exact ai _
 exact I1.fpOk hb2 (I1.hok.fresh hb2)
end
theorem O8{K:W.Frag}{a:Addr}{xs:List V}{i1 i2:Nat}{tb:TS}{D:tV}{σ:St}{H:Hp}(Pv:Nat->St->Hp->Prop) (h0:Pv 0 σ H) (hl:∀i σ H,i<=xs.length->Pv i σ H->qO K H a xs)
  (hs:∀i x σ H T,xs[i]?=some x->Pv i σ H->H T=none->tb { D with nx:=Pv (i+1),ct:=Pv (i+1),bk:=D.nx } ((σ.set i1 (some (.int i))).set i2 (some x)) (oB H T (.tup [.int i,x]))) (hd:∀σ H,Pv xs.length σ H->D.nx σ H) :
  ∃W:Nat->Nat->St->Hp->Prop,(∃m,W 0 m σ H)/\∀i m σ H,W i m σ H ->
   ((WE K a).stop i H/\D.nx σ H)∨((WE K a).go i H/\∃N:St->Hp->Prop,(∀σ' H',N σ' H'->∃m',m'<m/\W (i+1) m' σ' H')/\∀x H',(WE K a).yld i H x H'->RB K 2 (B5 (rh i1) (B5 (rh i2) Rl)) x σ H' λσ2 H2=>tb { D with nx:=N,ct:=N,bk:=D.nx } σ2 H2):=by
 refine⟨λi m σ H=>m=xs.length-i/\i<=xs.length/\Pv i σ H,⟨xs.length,by simp,aY _,h0⟩,?_⟩
 rintro i m σ H ⟨rfl,hi,p⟩;have q:=hl i σ H hi p
 by_cases hlt:i<xs.length
 .refine .inr ⟨⟨xs,xs[i],q,by simp[hlt]⟩,Pv (i+1),λσ' H' p'=>⟨xs.length-(i+1),by lia,rfl,hlt,p'⟩,λv H' y=>?_⟩
  obtain⟨T,x,hT,rfl,rfl,hx⟩:=y;exact⟨T,_,rfl,FS.of nB,rfl,_,_,rfl,_,_,rfl,rfl,hs i x σ H T (hx xs q) p hT⟩
 .have e:i=xs.length:=by lia
  subst e;exact .inl ⟨⟨xs,q,ai _⟩,hd σ H p⟩
section
variable {X:Cx}
theorem P8{mV:List (Addr×Obj)}{σ:St}{H:Hp}{s:Shared}{a:Addr}{ns:List Int}(I:Inv X mV σ H s) (h:qO X.K H a (ns.map V.int)) :
  ∃vs:List Value,s.heap.IsList a vs.toArray/\ju vs ns/\ns.length<=jf:=by
 obtain⟨its,r,p,z⟩:=I.list h;rw[lMq]at z;exact⟨its,p.isList,uu r,z⟩
theorem M3(hc:X.calm=true):uB X (.builtin "min") (λxs H Q=>∃(a:Addr) (ns:List Int),xs=[.ref a]/\qO X.K H a (ns.map V.int)/\0<ns.length/\∀M,M∈ns->(∀x,x∈ns->M<=x)->Q (.int M) H):=by
 intro mV s σ H xs us Q I r h;obtain⟨a,ns,rfl,hS,hne,q⟩:=h;obtain⟨u,rfl,ru⟩:=vK r;cases ru;obtain⟨vs,hl,hi,_⟩:=P8 I hS;obtain⟨xs,e⟩:=hi.allInts.items;have hns:ns=xs.toList.map (·.1):=by
  rw[←hi.numsOf,←nums_intItems,←e]
 have hsz:0<xs.size:=by
  have h3:=hne;rw[hns,lMq,ax]at h3;exact h3
 rw[e]at hl;refine min_intList (I.ok.hd hc) hl hsz λv h' tk hv hk=>?_
 obtain⟨t,rfl⟩:=intItems_at hv;obtain⟨h1,h2⟩:=argBest_lt (numAt xs) (xs.size-1);refine⟨.int _,H,I.kept hk,⟨t,rfl⟩,q _ ?_ λx hx=>?_⟩
 .rw [hns,numAt_eq];exact PySem.getD_mem (by rw[lMq,ax];lia)
 .rw [hns]at hx;obtain⟨j,hj,rfl⟩:=PySem.mem_getD hx;rw[lMq,ax]at hj;rw[←numAt_eq];exact h2 j (by lia)
def Nu(K:W.Frag):V->List V->Hp->VK->Prop:=λx vs H Q=>∃(a:Addr) (ns:List Int) (k:Int),x = .ref a/\vs=[.int k]/\qO K H a (ns.map V.int)/\k∈ns/\Q (.int (ns.idxOf k:Nat)) H
theorem Gq:Yn X "list.index" (Nu X.K):=by
 intro mV s σ H x xs v us Q I rx r h;obtain⟨a,ns,k,rfl,rfl,hS,hk,q⟩:=h;cases rx;obtain⟨u,rfl,t,rfl⟩:=vK r;obtain⟨its,rv,⟨o,n,ho,hc,hd0,hd⟩,hz⟩:=I.list hS;have hi:=uu rv;obtain⟨cls,dd,data,sl⟩:=o;simp only at hc hd0 hd;subst hc hd0 hd;have hlen:=hi.length;have hj:ns.idxOf k<ns.length:=dr.mpr hk;have hs:jf=16777216:=jq;rw[lMq]at hz;refine jW eO ⟨_,ho,rfl⟩ PySem.F.entry_list_index (PySem.F.args_list_index_2 _ _)
  (SeqAt.list_indexAt a its.toArray n none sl (.int k t) (isInt k) (ns.idxOf k) (by simpa [hlen] using hj) (by lia) ?_ ?_) ⟨ho,λy hy=>(eq_isInt k t hi y (by simpa using hy)).at _ _,?_⟩
 .show isInt k its[ns.idxOf k]=true;rw[isInt_at k hi _ (by lia) hj]
  simpa using fF hj
 .intro j hjs hlt;show isInt k its[j]=false;rw[isInt_at k hi j (by simpa using hjs) (by lia)]
  exact ne_of_lt_idxOf hlt _
 .exact ⟨.int _,H,I.tok _,⟨_,rfl⟩,q⟩
def Wv(K:W.Frag) (x:V) (H:Hp) (T:String) (b:Bool):Prop :=
 match x with
 | .int _=>(T = "int" /\ b=true)∨(T = "bool" /\ b=false)
 | .bl _=>(T = "bool" /\ b=true)∨(T = "int" /\ b=true)
 | .str _=>T = "str" /\ b=true
 | .ref p=>(T = "list" /\ b=true/\∃xs,qO K H p xs)∨(T = "dict" /\ b=true/\∃kvs,H p=some (.dK kvs))∨(T = "tuple" /\ b=true/\∃xs,FS K H p xs)
 |_=>False
theorem wY:uB X (.builtin "isinstance") (λxs H Q=>∃x T b,xs=[x,.ty T]/\Wv X.K x H T b/\Q (.bl b) H):=by
 intro mV s σ H xs us Q I r h;obtain⟨x,T,b,rfl,e,q⟩:=h;obtain⟨u,v,rfl,rx,rT⟩:=TK r;cases rT;cases x with
 |int i =>
  obtain⟨t,rfl⟩:=rx;rcases e with ⟨rfl,rfl⟩|⟨rfl,rfl⟩
  .exact jF (jN (Tx := "int") F.isi_meta_int F.sub_int_int) ⟨(show s.TypeIs (.int i t) "int" from rfl),⟨.bl true,H,I,rfl,q⟩⟩
  .exact jF (isinstance_false_int (by decide +kernel) F.isi_meta_bool F.sub_int_bool) (show EP X mV σ Q (.bool false) { s with toks:=s.toks+1 } from ⟨.bl false,H,I.tok _,rfl,q⟩)
 |bl i =>
  cases rx;rcases e with ⟨rfl,rfl⟩|⟨rfl,rfl⟩
  .exact jF (jN (Tx := "bool") F.isi_meta_bool F.sub_bool_bool) ⟨(show s.TypeIs (.bool i) "bool" from rfl),⟨.bl true,H,I,rfl,q⟩⟩
  .exact jF (jN (Tx := "bool") F.isi_meta_int F.sub_bool_int) ⟨(show s.TypeIs (.bool i) "bool" from rfl),⟨.bl true,H,I,rfl,q⟩⟩
 |str i =>
  obtain⟨t,rfl⟩:=rx;obtain⟨rfl,rfl⟩:=e;exact jF (jN (Tx := "str") F.isi_meta_str F.sub_str_str) ⟨(show s.TypeIs (.str i t) "str" from rfl),⟨.bl true,H,I,rfl,q⟩⟩
 |ref p =>
  cases rx;rcases e with ⟨rfl,rfl,xs,hS⟩|⟨rfl,rfl,kvs,hp⟩|⟨rfl,rfl,xs,hS⟩
  .obtain ⟨its,rv,pl,hz⟩:=I.list hS;exact jF (jN (Tx := "list") F.isi_meta_list (by rw[mq];kernel_rfl)) ⟨pl.isList.typeIs,⟨.bl true,H,I,rfl,q⟩⟩
  .have ty:s.TypeIs (.ref p) "dict" := (Ux I (.inl ⟨kvs,.inl hp⟩)).1;exact jF (jN (Tx := "dict") F.isi_meta_dict (by rw[mq];kernel_rfl)) ⟨ty,⟨.bl true,H,I,rfl,q⟩⟩
  .obtain ⟨its,rv,⟨o,ho,hc,_⟩,hz⟩:=I.tuple hS;exact jF (jN (Tx := "tuple") F.isi_meta_tuple (by rw[mq];kernel_rfl)) ⟨⟨o,ho,hc⟩,⟨.bl true,H,I,rfl,q⟩⟩
 |_=>exact(show False from e).elim
end
end Mr
namespace Mr
open PySem L2
structure za (K:W.Frag) (mg:Str->Option Value) (x:Str) (st:Stmt) (ps:List Str) (f:Addr) (fd:jr):Prop where
 F:QB K x x st f fd
 m:mg x=some (.ref f)
 b:uQ K fd ps []
theorem pV{H:Hp}{p:Addr}{o:HO}(h:H p=none):nS H (oB H p o):=λb u e=>by
 rw[ni (pX e h)];exact e
variable {K:W.Frag}{h:Heap}{mg:Str->Option Value}{x z:Str}{st:Stmt}{f O:Addr}{fd:jr}
structure At (K:W.Frag) (x:Str) (st:Stmt) (f:Addr) (fd:jr):Prop where
 a:W.nsIn K jh x=some (some (.ref f))
 F:QB K x x st f fd
section
variable {oc kV doc pm rS ct:Value}{od an:Option Addr}{osl:Array (Option Value)}
theorem Xf(a:W.nsIn K jh x=some (some (.ref f))) (l:K.lookup f=some ⟨oc,od,.func (W.fnOf x x (sU st) (rB st) (nA st) .none kV doc pm an rS ct),osl⟩)
  (c:W.codeIn K rS x=true) (k:W.keepIn K (.ref f)=true):At K x st f (W.fnOf x x (sU st) (rB st) (nA st) .none kV doc pm an rS ct):=⟨a,Dh l c k⟩
end
abbrev BA(x q:Str) (st:Stmt) (ps:List Str) (us:List Value):Prop:=∀(kV doc pm:Value) (an:Option Addr) (rS ct:Value),bindArgs (W.fnOf x q (sU st) (rB st) (nA st) .none kV doc pm an rS ct) ⟨us,[]⟩=pure (ps.zip us)
section
variable {q a b c d:Str}(F:QB K x q st f fd)
include F
theorem b1(h:∀u,BA x q st [a] [u]):uQ K fd [a] []:=F.binds λ_ _ _ _ _ _ us hl=>by
 obtain - | ⟨u, - | ⟨v,l⟩⟩:=us <;> cases hl
 apply h
theorem b2(h:∀u v,BA x q st [a,b] [u,v]):uQ K fd [a,b] []:=F.binds λ_ _ _ _ _ _ us hl=>by
 obtain - | ⟨u, - | ⟨v, - | ⟨w,l⟩⟩⟩:=us <;> cases hl
 apply h
theorem b3(h:∀u v w,BA x q st [a,b,c] [u,v,w]):uQ K fd [a,b,c] []:=F.binds λ_ _ _ _ _ _ us hl=>by
 obtain - | ⟨u, - | ⟨v, - | ⟨w, - | ⟨y,l⟩⟩⟩⟩:=us <;> cases hl
 apply h
theorem b4(h:∀u v w y,BA x q st [a,b,c,d] [u,v,w,y]):uQ K fd [a,b,c,d] []:=F.binds λ_ _ _ _ _ _ us hl=>by
 obtain - | ⟨u, - | ⟨v, - | ⟨w, - | ⟨y, - | ⟨z,l⟩⟩⟩⟩⟩:=us <;> cases hl
 apply h
end
theorem Bj{ps:List Str}(X:K.In h) (G:h.Ns jh mg) (a:At K x st f fd) (b:uQ K fd ps []):za K mg x st ps f fd:=⟨a.F,W.mg_of X G a.a,b⟩
end Mr
namespace Mr
open PySem PySem.Spec PyProof.Rows L2
theorem Gh{prog:jg}{w:ji}{A:Around}{R:Result->Shared->Prop}{s:Shared}{elt target iter:Expr}{ifs:List Expr}{scope:ky}{pos:Pos}{it acc:Value}{env:Env}(I:Nat->Shared->Prop)
  (turn:∀n s,I n s->jb (ja prog w) A (kZ it) (λr s₁=>match r with
   |none=>R (.ok .next) s₁
   |some v=>jb (ja prog w) A (kM target it v) (λ_ s₂=>jb (ja prog w) A (assign target env v) (λ_ s₃ =>
     jb (ja prog w) A (forIn ifs true λc r=>if r=true then do let ok ←isTrue c env (eval c env);pure (ForInStep.yield ok) else pure (ForInStep.yield r)) (λok s₄ =>
      if ok=true then jb (ja prog w) A (eval elt env) (λx s₅ =>
       jb (ja prog w) A (call (.builtin "list.append") [acc,x]) (λ_ s₆=>∃m,m<n/\I m s₆) (λ_ _=>False) s₅) (λ_ _=>False) s₄
      else ∃m,m<n/\I m s₄) (λ_ _=>False) s₃) (λ_ _=>False) s₂) (λ_ _=>False) s₁) (λ_ _=>False) s)
  (n:Nat) (h:I n s):kK (ja prog w) A (.compLoop (.ListComp elt [⟨target,iter,ifs,0⟩] scope pos) 0 it acc env) R s:=by
 refine codeAny_loop rfl I (λn s hI=>?_) n h
 show jb _ A ((compTurn (.ListComp elt [⟨target,iter,ifs,0⟩] scope pos) 0 it acc env).onRaise (λx=>do lR x env;theTreesLotGoes x)) _ _ s
 refine wpAny_noted ?_;rw[compTurn_list];refine iY (lg (iY (jo (turn n s hI) (λr s₁ h₁=>?_) λ_ _ z=>z.elim)))
 cases r with
 |none=>exact je h₁
 |some v =>
  refine iY (jo h₁ (λ_ s₂ h₂=>?_) λ_ _ z=>z.elim)
  refine iY (jo h₂ (λ_ s₃ h₃=>?_) λ_ _ z=>z.elim)
  refine iY (jo h₃ (λok s₄ h₄=>?_) λ_ _ z=>z.elim)
  cases ok with
  |false=>exact je ⟨rfl,h₄⟩
  |true=>exact iY (iY (jo h₄ (λx s₅ h₅=>iY (jo h₅ (λ_ s₆ h₆=>je (je ⟨rfl,h₆⟩)) λ_ _ z=>z.elim)) λ_ _ z=>z.elim))
abbrev ro(X:Cx) (scope:ky) (cl:List (Str×Addr)) (N:List Str) (C:Addr) (s:Shared) (H:Hp) (fp:List Addr):Cx where
 prog:=X.prog
 w:=X.w
 K:=X.K
 mg:=X.mg
 base:=X.base
 A:=X.A
 N:=N
 s₀:=s
 H₀:=H
 env:=compEnvC scope cl C X.env
 outer:=X.stack
 stack:=X.stack
 ex:=fp
 fn:=λ_=>false
 calm:=X.calm
 pn:=[]
 xe:=λ_ _=>False
def PF(X:Cx) (ifs:List Expr) (t:TT):Prop :=
 ∀(mV:List (Addr×Obj)) (s:Shared) (σ:St) (H:Hp) (Q:Bool->Hp->Prop),Inv X mV σ H s->t σ H Q ->
  jb (ja X.prog X.w) X.A (forIn ifs true λc r=>if r=true then do let ok ←isTrue c X.env (eval c X.env);pure (ForInStep.yield ok) else pure (ForInStep.yield r)) (TP X mV σ Q) X.xe s
def XR:TT:=λ_ H Q=>Q true H
theorem yV{X:Cx}:PF X [] XR:=λ_ _ _ H _ I h=>wpAny_tests_nil ⟨H,I,h⟩
theorem Vc{X:Cx}{c:Expr}{t:TT}(h:PT X c t):PF X [c] t:=λmV s σ H Q I q=>wpAny_tests_one (h mV s σ H Q I q)
structure uy (X:Cx) (scope:ky) (cl:List (Str×Addr)) (x:Str) (N:List Str) (fr:List Nat):Prop where
 names:N.Nodup
 own:N[0]?=some x
 len:N.length=fr.length+1
 sub:∀y c,cl.lookup y=some c->X.env.cells.lookup y=some c
 has:∀y,((kT scope X.env).names.lookup y=some .cell∨(kT scope X.env).names.lookup y=some .free)->∃c,cl.lookup y=some c
 get:∀(k j:Nat) (y:Str),fr[k]?=some j->N[k+1]?=some y->X.N[j]?=some y/\X.env.scope.names.lookup y=some .cell/\(kT scope X.env).names.lookup y=some .cell
theorem uy.none{X:Cx}{scope:ky}{x:Str}(h:∀p∈scope.names,p.2 ≠ .cell/\p.2 ≠ .free):uy X scope [] x [x] [] where
 names:=by simp
 own:=rfl
 len:=rfl
 sub:=λy c e=>by cases e
 has:=λy e=>by
  exfalso;have key:∀p∈(kT scope X.env).names,p.2 ≠ .cell/\p.2 ≠ .free:=by
   intro p hp;obtain⟨q,hq,rfl⟩:=mMq.mp hp;obtain⟨n,k⟩:=q;obtain⟨h1,h2⟩:=h _ hq;have hk:(k == NameKind.free)=false:=by simpa using h2
   simp only[hk,iD];exact⟨h1,h2⟩
  rcases e with e|e
  .exact (key _ (PySem.mem_of_lookup e)).1 rfl
  .exact (key _ (PySem.mem_of_lookup e)).2 rfl
 get:=λk j y e _=>by cases e
def slots(σ:St) (fr:List Nat):St:=fr.map λj=>(σ[j]?).join
def JU(wi:TI) (fr:List Nat) (tf:TT) (te:TE):TE:=λσ H Q=>wi σ H λJ H1=>∀acc,H1 acc=none->∃W:Nat->Nat->Hp->Prop,(∃m,W 0 m (oB H1 acc (.lst [])))/\∀i m H,W i m H ->
 (J.stop i H/\Q (.ref acc) H) ∨
 (J.go i H/\∃N:Hp->Prop,(∀H',N H'->∃m',m'<m/\W (i+1) m' H')/\∀x H',J.yld i H x H'->tf (some x::slots σ fr) H' λb H2 =>
  if b=true then te (some x::slots σ fr) H2 λy H3=>∃ys,H3 acc=some (.lst ys)/\ys.length<jf/\N (oB H3 acc (.lst (ys++[y]))) else N H2)
section
variable {X:Cx}{scope:ky}{cl:List (Str×Addr)}{N:List Str}{fr:List Nat}{x:Str}{px pos:Pos}{elt iter:Expr}{ifs:List Expr}{tf:TT}{te:TE}
theorem Di{mV:List (Addr×Obj)}{σ:St}{H:Hp}{s:Shared}{E:Value->Shared->Prop}{J:It}{fp:List Addr}{it:Addr}{tn:Nat->Heap->Prop}{RR:Value->Addr->Result->Shared->Prop}{Q:VK}
  (hc:X.calm=true) (hcell:∀y∈scope.names,y.2 ≠ .cell) (hkind:scope.kind = .function) (hx:scope.names.lookup x=some .local) (hF:uy X scope cl x N fr)
  (hf:∀C s H fp,PF (ro X scope cl N C s H fp) ifs tf) (he:∀C s H fp,PE (ro X scope cl N C s H fp) elt te)
  (I:Inv X mV σ H s) (T:LG X.prog X.w X.K (.Name x px) J fp it tn) (st:tn 0 s.heap) (fpo:∀b∈fp,B8 X mV H b)
  (h:∀acc,H acc=none->∃W:Nat->Nat->Hp->Prop,(∃m,W 0 m (oB H acc (.lst [])))/\∀i m H,W i m H ->
   (J.stop i H/\Q (.ref acc) H) ∨
   (J.go i H/\∃N:Hp->Prop,(∀H',N H'->∃m',m'<m/\W (i+1) m' H')/\∀x H',J.yld i H x H'->tf (some x::slots σ fr) H' λb H2 =>
    if b=true then te (some x::slots σ fr) H2 λy H3=>∃ys,H3 acc=some (.lst ys)/\ys.length<jf/\N (oB H3 acc (.lst (ys++[y]))) else N H2))
  (fin:∀acc C s' Hf m,Inv X mV σ Hf s'->s'.heap.Ns C m->B8 X mV Hf C->Q (.ref acc) Hf->RR (.ref acc) C (.ok .next) s') :
  jb (ja X.prog X.w) X.A (newList []) (λacc s₃=>jb (ja X.prog X.w) X.A (newFunctionEnv scope X.env.globals cl [] X.env.qual none .none (some X.env)) (λcenv s₄ =>
   kK (ja X.prog X.w) X.A (.compStart (.ListComp elt [⟨.Name x px,iter,ifs,0⟩] scope pos) 0 (.ref it) acc { cenv with scope:=kT scope X.env }) (RR acc cenv.locals) s₄) E s₃) E s:=by
 refine wpAny_newObj_type (wpAny_newFunctionEnv hcell (by intro y hy;simp at hy) (λh₁ hns₁ hsb₁=>?_) hkind)
 dsimp only at hns₁ hsb₁ ⊢;generalize hG:s.heap.push { cls:=.type "list", dict:=none,data:=.seq ([]:List Value).toArray }=G at hns₁ hsb₁ ⊢;have hC:G.objs.size=s.heap.objs.size+1:=by rw[←hG,fA]
 have hCle:s.heap.objs.size<=G.objs.size:=by rw[hC];exact bM _
 have hDC:s.heap.objs.size≠G.objs.size:=by rw[hC];exact aw (eh _)
 have below:∀b,b<s.heap.objs.size->b≠G.objs.size:=λb hb=>by rw[hC];exact aw (bS hb)
 have old:∀b o,s.heap.get? b=some o->h₁.get? b=some o:=λb o e=>hsb₁.extBut b o (below b (ag e)) (ae _ (hG ▸ ae _ e))
 have hacc:h₁.get? s.heap.objs.size=some { cls:=.type "list", data:=.seq ([]:List Value).toArray }:=hsb₁.extBut _ _ hDC (ae _ (hG ▸ aS _ rfl));have hn:H s.heap.objs.size=none:=I.hok.fresh (ai _);have hnC:H G.objs.size=none:=I.hok.fresh hCle;have fpl:∀b∈fp,b<s.heap.objs.size:=λb hb=>by
  obtain⟨o,q,_⟩:=T.obj 0 _ st b hb;exact ag q
 obtain⟨W,⟨m0,w0⟩,turn⟩:=h _ hn;have ok':(ro X scope cl N G.objs.size s H fp).Ok:=by
  refine⟨I.ok.mod,by show (kT scope X.env).kind = .function;exact hkind,I.ok.glob,I.ok.blt,hCle,λy z c h1 h2=>I.ok.inj y z c (hF.sub y c h1) (hF.sub z c h2),hF.has,λ_ _ z _=>(by cases z),I.ok.hd,I.ok.frames,.inl rfl,
   λb hb=>⟨below b (fpl b hb),λy c e=>(fpo b hb).2.2.2.2.1 y c (hF.sub y c e)⟩,λb o e=>⟨(I.bs b o e).1,(I.bs b o e).2⟩,bC I.ok.bsz I.sz,λb o e hb=>?_,λb hb z=>?_,I.stack,I.stkFree⟩
  .rcases (fpo b hb).2.2.2.1 with q|q
   .exact I.ok.noex b o e q
   .exact absurd (aK (ag (I.ok.bs b o e).1) q) (bY _)
  .rcases ao.mp (I.stkSub b z) with q|q
   .exact (fpo b hb).2.1 q
   .exact (fpo b hb).2.2.1 q
 have I0:Inv (ro X scope cl N G.objs.size s H fp) [] (none::slots σ fr) (oB H s.heap.objs.size (.lst [])) { s with heap:=h₁,toks:=s.toks+([]:List (Str×Value)).length }:=by
  have hok1:wX X.prog X.w (oB H s.heap.objs.size (.lst [])) h₁:=I.hok.laid old (ai _) ⟨aY _,[],0,.nil,hacc⟩;refine⟨ok',rfl,I.bare,Un.laid old (ai _) hn,⟨_,hns₁,λk y v e1 e2 e3=>?_⟩,λy c e=>?_,?_,λy c e=>?_,λp hp=>absurd (show p∈([]:List (Addr×Obj)) from hp) (by simp),hok1,?_⟩
  .cases k with
   |zero=>cases e2
   |succ k =>
    have e2':(slots σ fr)[k]?=some (some v):=e2;unfold slots at e2';rw[gMq]at e2';cases ej:fr[k]? with
    |none=>rw[ej]at e2';cases e2'
    |some j =>
     rw[ej]at e2';have e2j:(σ[j]?).join=some v:=ba.inj e2';have e2s:σ[j]?=some (some v):=by
      cases q:σ[j]? with
      |none=>rw[q]at e2j;cases e2j
      |some z=>rw[q]at e2j;exact congrArg some e2j
     obtain⟨g1,g2,g3⟩:=hF.get k j y ej e1;obtain⟨m,_,hl⟩:=I.loc;obtain⟨u,r,l⟩:=hl j y v g1 e2s (.inr (.inl g2));refine⟨u,r,.inr ⟨.inl g3,?_⟩⟩;obtain⟨c,e⟩:=hF.has y (.inl g3);have e':=hF.sub y c e;rcases l with ⟨l1,_⟩|⟨_,c',ec,hcell'⟩
     .have l1':X.env.scope.names.lookup y=some .local:=l1;rw[g2]at l1';cases l1'
     .rw [e']at ec;cases ec;obtain⟨o,ho,hd⟩:=hcell';exact⟨c,e,o,old c o ho,hd⟩
  .obtain ⟨v,o,ho,hd⟩:=I.cell y c (hF.sub y c e);exact⟨v,o,old c o ho,hd⟩
  .show oB H s.heap.objs.size (.lst []) G.objs.size=none;rw[ni (Ne.symm hDC)];exact hnC
  .obtain ⟨v,o,ho,hd⟩:=I.cell y c (hF.sub y c e);rw[ni (aw (ag ho))];exact I.freeC y c (hF.sub y c e)
  .show (none::slots σ fr).length=N.length;rw[hF.len,lCq];unfold slots;rw[lMq]
 have Ym:tn 0 h₁:=T.keep 0 _ _ st λb _ o e=>old b o e
 have nd:N.Nodup:=hF.names;have nf0:∀b∈fp,oB H s.heap.objs.size (.lst []) b=none:=λb hb=>by
  rw[ni (aw (fpl b hb))];exact(fpo b hb).1
 have stat:∀{H':Hp},(∀b∈fp,H' b=none)->∀b∈fp,B8 (ro X scope cl N G.objs.size s H fp) [] H' b:=λhn' b hb =>
  ⟨hn' b hb,below b (fpl b hb),ok'.exfs b hb,.inl hb,λy c e=>(ok'.exf b hb).2 y c e,λp hp=>absurd (show p∈([]:List (Addr×Obj)) from hp) (by simp)⟩
 have loop:∀s₃:Shared,s₃={ s with heap:=h₁,toks:=s.toks+([]:List (Str×Value)).length } ->
   kK (ja X.prog X.w) X.A (.compLoop (.ListComp elt [⟨.Name x px,iter,ifs,0⟩] scope pos) 0 (.ref it) (.ref s.heap.objs.size) (compEnvC scope cl G.objs.size X.env)) (RR (.ref s.heap.objs.size) G.objs.size) s₃:=by
  rintro s₃ rfl;refine Gh (λn s'=>∃i v0 H',Inv (ro X scope cl N G.objs.size s H fp) [] (v0::slots σ fr) H' s'/\tn i s'.heap/\(∀b∈fp,H' b=none)/\W i n H') ?_ m0 ⟨0,none,_,I0,Ym,nf0,w0⟩
  rintro n s4 ⟨i,v0,H4,I4,X1,nf4,w4⟩;rcases turn i n H4 w4 with ⟨stop,q⟩|⟨go,Nx,hNx,step⟩
  .refine qA (T.done (ro X scope cl N G.objs.size s H fp) rfl rfl rfl hc i [] s4 (v0::slots σ fr) H4 (λ_ _=>False) I4 (stat nf4) X1 stop) λr s5 hz1=>?_
   obtain⟨hr,I5⟩:=hz1;subst hr;obtain⟨m,hm,_⟩:=I5.loc;have I6:Inv X mV σ H4 s5:=I.call' (ch:=fp) I5.os I5.base I5.hok I5.bare λb hb=>⟨(fpo b hb).2.2.2.1,(fpo b hb).2.1,(fpo b hb).2.2.2.2.1,(fpo b hb).2.2.2.2.2⟩
   exact fin _ _ s5 H4 m I6 hm (I.fpOk hCle I5.free) q
  .refine qA (T.item (ro X scope cl N G.objs.size s H fp) rfl rfl rfl hc i [] s4 (v0::slots σ fr) H4 (λ_ _=>False) I4 (stat nf4) X1 go) λr s5 hz1=>?_
   obtain⟨u,hr,h5⟩:=hz1;subst hr;refine qA h5 λ_ s6 hz1=>?_
   obtain⟨y,H6,I6,r6,y6,st6,nf6⟩:=hz1;have I6':=I6.pinned (stat nf6) (T.obj _ _ st6);have pg:PG (ro X scope cl N G.objs.size s H fp) (.Name x px) (rh 0):=pN nd hF.own (.inl (mF hx)) (.inr (mF hx));refine qA (pg _ s6 (v0::slots σ fr) H6 y u (λσ2 H2=>σ2=some y::slots σ fr/\H2=H6) I6' r6 ⟨rfl,rfl⟩) λ_ s7 hz1=>?_
   obtain⟨σ7,H7,I7,e7,e8⟩:=hz1;subst e7 e8;refine qA (hf _ _ _ _ _ s7 _ _ _ I7 (step y _ y6)) λb s8 hz1=>?_
   obtain⟨H8,I8,q8⟩:=hz1;have again:∀{s9:Shared}{H9:Hp},Inv (ro X scope cl N G.objs.size s H fp) ([]++CU fp s6.heap) (some y::slots σ fr) H9 s9->Nx H9->∃m,m<n/\∃i v0 H',Inv (ro X scope cl N G.objs.size s H fp) [] (v0::slots σ fr) H' s9/\tn i s9.heap/\(∀b∈fp,H' b=none)/\W i m H':=λ{s9 H9} I9 n9=>by
    obtain⟨m',hm,w9⟩:=hNx H9 n9;refine⟨m',hm,i+1,some y,H9,I9.unpinned,T.keep _ _ _ st6 λb hb o e=>(I9.pin (b,o) (aE _ (aE _ (wg hb e)))).1,λb hb=>?_,w9⟩
    obtain⟨o,e,d⟩:=T.obj _ _ st6 b hb;exact(I9.pin (b,o) (aE _ (aE _ (wg hb e)))).2.1
   cases b with
   |false=>exact again I8 q8
   |true =>
    refine qA (he _ _ _ _ _ s8 _ _ _ I8 q8) λz s9 hz1=>?_
    obtain⟨zv,H9,I9,r9,ys,a9,l9,n9⟩:=hz1;refine qA (pR (X:=ro X scope cl N G.objs.size s H fp) _ s9 _ H9 (.ref s.heap.objs.size) [zv] (.ref s.heap.objs.size) [z] (λ_ H'=>H'=oB H9 s.heap.objs.size (.lst (ys++[zv]))) I9 rfl (.cons r9 .nil) ⟨_,ys,zv,rfl,rfl,a9,l9,rfl⟩) λ_ s10 hz1=>?_
    obtain⟨_,H10,I10,_,e10⟩:=hz1;subst e10;exact again I10 n9
 exact codeAny_compStart_list (loop _ rfl) (T.self X.A 0 _ _ _ Ym (loop _ rfl))
theorem wa{wi:TI}(hc:X.calm=true) (hclos:closureFor scope X.env=pure cl) (hcell:∀y∈scope.names,y.2 ≠ .cell) (hkind:scope.kind = .function) (hnames:∀y∈scope.names,y.2 = .local->scope.names.lookup y.1=some .local)
  (hx:scope.names.lookup x=some .local) (hF:uy X scope cl x N fr) (hi:PI X (.Name x px) iter wi) (hf:∀C s H fp,PF (ro X scope cl N C s H fp) ifs tf) (he:∀C s H fp,PE (ro X scope cl N C s H fp) elt te)
  (hs:∀x,lp iter X.env x=pure x:=by intro _;rfl):PE X (.ListComp elt [⟨.Name x px,iter,ifs,0⟩] scope pos) (JU wi fr tf te):=by
 intro mV s σ H Q I h;rw[eval_ListComp];refine lF (use:=none) rfl hs hclos hkind hnames (qA (hi mV s σ H _ I h) λv s1 h1=>qA h1 λitv s2 h2=>?_)
 obtain⟨it,fp,tn,J,H2,e,I2,T,FR,f2,q2⟩:=h2;subst e;refine Di (RR:=λacc C=>compPost (ja X.prog X.w) X.A X.xe none (EP X mV σ Q) acc C) hc hcell hkind hx hF hf he I2 T FR f2 q2 ?_
 intro acc C s' Hf m I' hm fC q;refine⟨m,hm,λh' sb=>⟨.ref acc,Hf,?_,rfl,q⟩⟩
 exact I'.turned (t':=s'.toks) (λb o hb e=>(sb.2 b hb).trans e) fC.1 fC.2.1 fC.2.2.2.1 fC.2.2.2.2.1 fC.2.2.2.2.2
theorem Ra{wi:TI}{y:Str}{i:Nat}{py spos:Pos}(hc:X.calm=true) (hN:X.N.Nodup) (X4:X.N[i]?=some y) (hy:V1 X.env.scope y) (hclos:closureFor scope X.env=pure cl) (hcell:∀y∈scope.names,y.2 ≠ .cell) (hkind:scope.kind = .function)
  (hnames:∀y∈scope.names,y.2 = .local->scope.names.lookup y.1=some .local)
  (hx:scope.names.lookup x=some .local) (hF:uy X scope cl x N fr) (hi:PI X (.Name x px) iter wi) (hf:∀C s H fp,PF (ro X scope cl N C s H fp) ifs tf) (he:∀C s H fp,PE (ro X scope cl N C s H fp) elt te)
  (hsw:kX (.ListComp elt [⟨.Name x px,iter,ifs,0⟩] scope pos) (some (.Name y py)) spos.line X.env=pure true:=by rfl) (hs:∀x,lp iter X.env x=pure x:=by intro _;rfl)
  (hfn:X.fn y=true∨X.env.scope.names.lookup y=some .local:=by trivial) :
  PS X (.Assign [.Name y py] (.ListComp elt [⟨.Name x px,iter,ifs,0⟩] scope pos) spos) (Gn (JU wi fr tf te) (rh i)):=by
 intro mV s σ H D I h;rw[exec_Assign_Name_used _ _ _ _ hsw];refine iY (lg (iY ?_));show jb _ X.A (do let _ ←comprehension (.ListComp elt [⟨.Name x px,iter,ifs,0⟩] scope pos) scope X.env _ (newList []) false (eval iter X.env) (some (assign (.Name y py) X.env))) _ _ s
 refine iY (jo (lF (use:=some (assign (.Name y py) X.env)) (Q:=λ_ s'=>SP X mV D .next s') rfl hs hclos hkind hnames
  (qA (hi mV s σ H _ I h) λv s1 h1=>qA h1 λitv s2 h2=>?_)) (λ_ s' hq=>je (je hq)) λ_ _ e=>e)
 obtain⟨it,fp,tn,J,H2,e,I2,T,FR,f2,q2⟩:=h2;subst e;refine Di (RR:=λacc C=>compPost (ja X.prog X.w) X.A X.xe (some (assign (.Name y py) X.env)) (λ_ s'=>SP X mV D .next s') acc C) (Q:=λv H'=>D.nx (σ.set i (some v)) H') hc hcell hkind hx hF hf he I2 T FR f2 q2 ?_
 intro acc C s' Hf m I' hm fC q;obtain⟨o,es,ep,ho,hd,r⟩:=id hm;have I1:Inv X (mV++[(C,o)]) σ Hf s':=I'.pins_of λp hp=>(mAq.mp hp).elim (λz=>I'.pin p (aE _ z)) λz=>by
  have e:p=(C,o):=by simpa using z
  subst e;exact⟨ho,fC.1,fC.2.1,fC.2.2.1,λv z=>by rw[hd]at z;cases z⟩
 refine qA (pN (X:=X) (i:=i) (pos:=py) hN X4 hy hfn _ s' σ Hf (.ref acc) (.ref acc) _ I1 rfl q) λ_ s2 hz1=>?_
 obtain⟨σ2,H2,I2,q2⟩:=hz1;have pC:=I2.pin (C,o) (aE _ (aE _ (by simp)))
 refine⟨m,⟨o,es,ep,pC.1,hd,r⟩,λh' sb=>⟨σ2,H2,?_,q2⟩⟩
 exact I2.unpinned.turned (t':=s2.toks) (λb u hb e=>(sb.2 b hb).trans e) pC.2.1 fC.2.1 fC.2.2.2.1 fC.2.2.2.2.1 fC.2.2.2.2.2
end
end Mr
namespace MrS
open PySem PyProof.Rows
def uT:Bool->iZ->Array iZ->Nat->Nat->Nat->StateT SortSt Sem (Option Nat):=sortPriv% PySem.Builtin.gallop
structure wR (prog:jg) (w:ji) (A:Around) (s:Shared) (κ:jx) (P:iZ->Prop) (lt:iZ->iZ->Bool):Prop where
 ask:∀x y,P x->P y->∀(E:Value->Shared->Prop) (Q:Bool->Shared->Prop),Q (lt x y) s->jb (ja prog w) A (keyLt' κ x.1 y.1) Q E s
 asym:∀x y,P x->P y->lt x y=true->lt y x=false
 trans:∀x y z,P x->P y->P z->lt y x=false->lt z y=false->lt z x=false
section
variable {prog:jg}{w:ji}{A:Around}{E:Value->Shared->Prop}{s:Shared}{κ:jx}{P:iZ->Prop}{lt:iZ->iZ->Bool}
theorem wR.refl(C:wR prog w A s κ P lt) {x:iZ}(hx:P x):lt x x=false:=by
 cases e:lt x x with
 |false=>rfl
 |true=>rw[←C.asym x x hx hx e,e]
theorem wR.cmp(C:wR prog w A s κ P lt) {x y:iZ}{st:SortSt}{Q:Option Bool->SortSt->Prop}(hx:P x) (hy:P y) (hk:kindOf st=κ) (h:Q (some (lt x y)) st) :
  wpS (ja prog w) A E s (lt' x y) Q st:=by
 rw[lt'_eq];refine jc (ku ?_);rw[hk];refine jc (wpS_lift (mJ (C.ask x y hx hy _ _ ⟨rfl,?_⟩)));exact jd h
theorem om{arr:Array iZ}{i:Nat}{x:iZ}{st:SortSt}{Q:iZ->SortSt->Prop}(hx:arr[i]?=some x) (h:Q x st):wpS (ja prog w) A E s (jJ arr i) Q st:=by
 rw[elem'_eq,hx];exact jd h
theorem wR.at(C:wR prog w A s κ P lt) {i j:Nat}{x y:iZ}{st:SortSt}{Q:Option Bool->SortSt->Prop}(hi:(jl st)[i]?=some x) (hj:(jl st)[j]?=some y) (hx:P x) (hy:P y) (hk:kindOf st=κ) (h:Q (some (lt x y)) st) :
  wpS (ja prog w) A E s (ltAt' i j) Q st:=by
 rw[ltAt'_eq];refine jc (ku ?_);exact jc (om hi (jc (om hj (C.cmp hx hy hk h))))
def vY(lt:iZ->iZ->Bool) (left:Bool) (key:iZ) (arr:Array iZ) (base i:Nat):Bool :=
 if left then lt (arr.getD (base+i) key) key else !lt key (arr.getD (base+i) key)
theorem JH(left:Bool) (key:iZ) (arr:Array iZ) (base n hint:Nat):uT left key arr base n hint=(do
 let beyond (i:Nat):StateT SortSt Sem (Option Bool):=do
  let x ←jJ arr (base+i)
  if left then lt' x key else return (←lt' key x).map (!·)
 let mut lastofs:=0
 let mut ofs:=1
 let mut lo:=0
 let mut hi:=0
 let some right ←beyond hint|return none
 if right then
  let maxofs:=n-hint
  for _ in [0:n] do
   if ofs ≥ maxofs then break
   let some more ←beyond (hint+ofs)|return none
   if !more then break
   lastofs:=ofs
   ofs:=2*ofs+1
  lo:=hint+lastofs+1
  hi:=hint+min ofs maxofs
 else
  let maxofs:=hint+1
  for _ in [0:n] do
   if ofs ≥ maxofs then break
   let some found ←beyond (hint-ofs)|return none
   if found then break
   lastofs:=ofs
   ofs:=2*ofs+1
  lo:=hint+1-min ofs maxofs
  hi:=hint-lastofs
 for _ in [0:n] do
  if lo ≥ hi then break
  let m:=lo+(hi-lo) / 2
  let some more ←beyond m|return none
  if more then lo:=m+1 else hi:=m
 return some hi):=rfl
theorem ux(C:wR prog w A s κ P lt) {left:Bool}{key:iZ}{arr:Array iZ}{base i:Nat}{st:SortSt}{Q:Option Bool->SortSt->Prop}(hi:base+i<arr.size) (ha:∀x,x∈arr->P x) (hkey:P key) (hk:kindOf st=κ)
  (h:Q (some (vY lt left key arr base i)) st):wpS (ja prog w) A E s (do
   let x ←jJ arr (base+i)
   if left=true then lt' x key else do
    let __x ←lt' key x
    pure (__x.map (!·))) Q st:=by
 have e:arr[base+i]?=some arr[base+i]:=aj hi;have e2:arr.getD (base+i) key=arr[base+i]:=by simp[gN,hi]
 refine jc (om e ?_);have hp:P arr[base+i]:=ha _ (bc hi);unfold vY at h;rw[e2]at h;cases left with
 |true =>
  rw[nP rfl]at h ⊢;exact C.cmp hp hkey hk h
 |false =>
  rw[nQ (by decide)]at h ⊢
  exact jc (C.cmp hkey hp hk (jd h))
theorem AX{left:Bool}{key:iZ}{arr:Array iZ}{base n lo hi:Nat}{st:SortSt}{f:Nat->Option (Option Nat)×Nat×Nat->StateT SortSt Sem (ForInStep (Option (Option Nat)×Nat×Nat))}
  (mono:∀i j,i<=j->j<n->vY lt left key arr base j=true->vY lt left key arr base i=true)
  (down:∀i j,i<=j->j<n->vY lt left key arr base i=false->vY lt left key arr base j=false)
  (hf:∀(i l u:Nat) (Q':ForInStep (Option (Option Nat)×Nat×Nat)->SortSt->Prop),u<=n->(u<=l->Q' (.done (none,l,u)) st)->(l<u->vY lt left key arr base (l+(u-l) / 2)=true->Q' (.yield (none,l+(u-l) / 2+1,u)) st) ->
   (l<u->vY lt left key arr base (l+(u-l) / 2)=false->Q' (.yield (none,l,l+(u-l) / 2)) st)->wpS (ja prog w) A E s (f i (none,l,u)) Q' st)
  (h1:lo<=hi) (h2:hi<=n) (h3:∀j,j<lo->vY lt left key arr base j=true) (h4:∀j,hi<=j->j<n->vY lt left key arr base j=false) :
  wpS (ja prog w) A E s (forIn [:n] ((none,lo,hi):Option (Option Nat)×Nat×Nat) f)
   (λc st'=>∃k,c=(none,k,k)/\st'=st/\k<=n/\(∀j,j<k->vY lt left key arr base j=true)/\(∀j,k<=j->j<n->vY lt left key arr base j=false)) st:=by
 refine jD
  (I:=λi c st'=>∃l u,c=(none,l,u)/\st'=st/\l<=u/\u<=n/\(∀j,j<l->vY lt left key arr base j=true)/\(∀j,u<=j->j<n->vY lt left key arr base j=false)/\(u-l)+i<=n)
  ?step ?fin ⟨lo,hi,rfl,rfl,h1,h2,h3,h4,by lia⟩
 case step =>
  rintro i c st' _ hi' ⟨l,u,rfl,rfl,a1,a2,a3,a4,a5⟩;refine hf i l u _ a2 (λc1=>?_) (λc1 e=>?_) (λc1 e=>?_)
  .have e:l=u:=by lia
   subst e;exact⟨l,rfl,rfl,a2,a3,a4⟩
  .exact ⟨_,u,rfl,rfl,by lia,a2,λj hj=>mono j _ (by lia) (by lia) e,a4,by lia⟩
  .exact ⟨l,_,rfl,rfl,by lia,by lia,a3,λj hj hn=>down _ j hj hn e,by lia⟩
 case fin =>
  rintro c st' ⟨l,u,rfl,rfl,a1,a2,a3,a4,a5⟩;have e:l=u:=by lia
  subst e;exact⟨l,rfl,rfl,a2,a3,a4⟩
theorem sO(C:wR prog w A s κ P lt) {left:Bool}{key:iZ}{arr:Array iZ}{base n hint:Nat}{st:SortSt}{Q:Option Nat->SortSt->Prop}(hh:hint<n) (hb:base+n<=arr.size) (ha:∀x,x∈arr->P x) (hkey:P key) (hk:kindOf st=κ)
  (mono:∀i j,i<=j->j<n->vY lt left key arr base j=true->vY lt left key arr base i=true)
  (h:∀k,k<=n->(∀j,j<k->vY lt left key arr base j=true)->(∀j,k<=j->j<n->vY lt left key arr base j=false)->Q (some k) st) :
  wpS (ja prog w) A E s (uT left key arr base n hint) Q st:=by
 have down:∀i j,i<=j->j<n->vY lt left key arr base i=false->vY lt left key arr base j=false:=λi j hij hj e=>by
  cases q:vY lt left key arr base j with
  |false=>rfl
  |true=>rw[mono i j hij hj q]at e;cases e
 rw[JH];dsimp only;refine jc (ux C (base:=base) (i:=hint) (by lia) ha hkey hk ?_)
 cases er:vY lt left key arr base hint with
 |true =>
  dsimp only;rw[nP rfl];refine jc (jG (jD
   (I:=λi c st'=>∃l o,c=(none,l,o)/\st'=st/\l<o/\i+1<=o/\hint+l<n/\vY lt left key arr base (hint+l)=true)
   (Q:=λc st'=>∃l o,c=(none,l,o)/\st'=st/\l<o/\hint+l<n/\vY lt left key arr base (hint+l)=true/\(n-hint<=o∨(hint+o<n/\vY lt left key arr base (hint+o)=false)))
   ?step ?fin ⟨0,1,rfl,rfl,by lia,by lia,by lia,er⟩) ?post)
  case step =>
   rintro i c st' _ hi' ⟨l,o,rfl,rfl,a1,a2,a3,a4⟩;dsimp only
   by_cases c1:o ≥ n-hint
   .rw [nP c1];exact jd ⟨l,o,rfl,rfl,a1,a3,a4,.inl c1⟩
   .rw [nQ c1];refine jc (ux C (base:=base) (i:=hint+o) (by lia) ha hkey hk ?_)
    cases e:vY lt left key arr base (hint+o) with
    |true =>
     dsimp only;rw[nQ (by decide)]
     exact jd ⟨o,_,rfl,rfl,by lia,by lia,by lia,e⟩
    |false =>
     dsimp only;rw[nP (by decide)]
     exact jd ⟨l,o,rfl,rfl,a1,a3,a4,.inr ⟨by lia,e⟩⟩
  case fin =>
   rintro c st' ⟨l,o,rfl,rfl,a1,a2,a3,a4⟩;exact⟨l,o,rfl,rfl,a1,a3,a4,.inl (by lia)⟩
  case post =>
   rintro c st' ⟨l,o,rfl,rfl,a1,a3,a4,a5⟩;dsimp only;refine jc (jG (AX (lt:=lt) (left:=left) (key:=key) (arr:=arr) (base:=base) mono down (λi l' u' Q' hu q1 q2 q3=>?_) (by lia) (by lia) (λj hj=>mono j _ (by lia) a3 a4) ?_) ?_)
   .dsimp only
    by_cases c1:l' ≥ u'
    .rw [nP c1];exact jd (q1 c1)
    .rw [nQ c1];refine jc (ux C (base:=base) (i:=l'+(u'-l') / 2) (by lia) ha hkey hk ?_)
     cases e:vY lt left key arr base (l'+(u'-l') / 2) with
     |true =>
      dsimp only;rw[nP rfl];exact jd (q2 (by lia) e)
     |false =>
      dsimp only;rw[nQ (by decide)]
      exact jd (q3 (by lia) e)
   .intro j hj hn;rcases a5 with a5|⟨a5,a6⟩
    .lia
    .exact down (hint+o) j (by lia) hn a6
   .rintro c st' ⟨k,rfl,rfl,k1,k2,k3⟩;exact jd (h k k1 k2 k3)
 |false =>
  dsimp only;rw[nQ (by decide)]
  refine jc (jG (jD
   (I:=λi c st'=>∃l o,c=(none,l,o)/\st'=st/\l<o/\i+1<=o/\l<=hint/\vY lt left key arr base (hint-l)=false)
   (Q:=λc st'=>∃l o,c=(none,l,o)/\st'=st/\l<o/\l<=hint/\vY lt left key arr base (hint-l)=false/\(hint+1<=o∨(o<=hint/\vY lt left key arr base (hint-o)=true)))
   ?step ?fin ⟨0,1,rfl,rfl,by lia,by lia,by lia,er⟩) ?post)
  case step =>
   rintro i c st' _ hi' ⟨l,o,rfl,rfl,a1,a2,a3,a4⟩;dsimp only
   by_cases c1:o ≥ hint+1
   .rw [nP c1];exact jd ⟨l,o,rfl,rfl,a1,a3,a4,.inl c1⟩
   .rw [nQ c1];refine jc (ux C (base:=base) (i:=hint-o) (by lia) ha hkey hk ?_)
    cases e:vY lt left key arr base (hint-o) with
    |true =>
     dsimp only;rw[nP rfl];exact jd ⟨l,o,rfl,rfl,a1,a3,a4,.inr ⟨by lia,e⟩⟩
    |false =>
     dsimp only;rw[nQ (by decide)]
     exact jd ⟨o,_,rfl,rfl,by lia,by lia,by lia,e⟩
  case fin =>
   rintro c st' ⟨l,o,rfl,rfl,a1,a2,a3,a4⟩;exact⟨l,o,rfl,rfl,a1,a3,a4,.inl (by lia)⟩
  case post =>
   rintro c st' ⟨l,o,rfl,rfl,a1,a3,a4,a5⟩;dsimp only;refine jc (jG (AX (lt:=lt) (left:=left) (key:=key) (arr:=arr) (base:=base) mono down (λi l' u' Q' hu q1 q2 q3=>?_) (by lia) (by lia) ?_ (λj hj hn=>down _ j hj hn a4)) ?_)
   .dsimp only
    by_cases c1:l' ≥ u'
    .rw [nP c1];exact jd (q1 c1)
    .rw [nQ c1];refine jc (ux C (base:=base) (i:=l'+(u'-l') / 2) (by lia) ha hkey hk ?_)
     cases e:vY lt left key arr base (l'+(u'-l') / 2) with
     |true =>
      dsimp only;rw[nP rfl];exact jd (q2 (by lia) e)
     |false =>
      dsimp only;rw[nQ (by decide)]
      exact jd (q3 (by lia) e)
   .intro j hj;rcases a5 with a5|⟨a5,a6⟩
    .lia
    .exact mono j (hint-o) (by lia) (by lia) a6
   .rintro c st' ⟨k,rfl,rfl,k1,k2,k3⟩;exact jd (h k k1 k2 k3)
end
abbrev wt(lt:iZ->iZ->Bool) (l:List iZ):Prop:=l.Pairwise λx y=>lt y x=false
structure MI (lt:iZ->iZ->Bool) (a b out:Array iZ) (ia ib:Nat):Prop where
 la:ia<=a.size
 lb:ib<=b.size
 pm:(out.toList++(a.toList.drop ia++b.toList.drop ib)).Perm (a.toList++b.toList)
 so:wt lt out.toList
 ua:∀x∈out.toList,∀y∈a.toList.drop ia,lt y x=false
 ub:∀x∈out.toList,∀y∈b.toList.drop ib,lt y x=false
section
variable {lt:iZ->iZ->Bool}{a b out out':Array iZ}{ia ib k:Nat}
theorem MI.congr(m:MI lt a b out ia ib) (e:out'.toList=out.toList):MI lt a b out' ia ib:=⟨m.la,m.lb,by rw[e];exact m.pm,by rw[e];exact m.so,by rw[e];exact m.ua,by rw[e];exact m.ub⟩
theorem Hs(l:List iZ) (i k:Nat):l.drop i=(l.drop i).take k++l.drop (i+k):=by
 rw[←List.drop_drop,bo]
theorem wB(a:Array iZ) (i k:Nat):(a.extract i (i+k)).toList=(a.toList.drop i).take k:=by
 rw[fj,eC,dG]
theorem MI.moreA(m:MI lt a b out ia ib) (sa:wt lt a.toList) (hk:ia+k<=a.size) (h:∀x∈(a.toList.drop ia).take k,∀y∈b.toList.drop ib,lt y x=false):MI lt a b (out++a.extract ia (ia+k)) (ia+k) ib:=by
 have e:(out++a.extract ia (ia+k)).toList=out.toList++(a.toList.drop ia).take k:=by rw[aN,wB]
 have sd:wt lt (a.toList.drop ia):=sa.sublist (bT _ _);have c:=Hs a.toList ia k;have sd2:=sd;rw[c]at sd2;obtain⟨q1,q2,q3⟩:=aQ.mp sd2;refine⟨hk,m.lb,?_,?_,?_,?_⟩
 .rw [e,aF];refine(bU.append_left _ ?_).trans m.pm;rw[←aF,←c]
 .rw [e];exact aQ.mpr ⟨m.so,q1,λx hx y hy=>m.ua x hx y (bX hy)⟩
 .rw [e];intro x hx y hy;rcases mAq.mp hx with hx|hx
  .exact m.ua x hx y (by rw[c];exact aE _ hy)
  .exact q3 x hx y hy
 .rw [e];intro x hx y hy;rcases mAq.mp hx with hx|hx
  .exact m.ub x hx y hy
  .exact h x hx y hy
theorem MI.moreB(m:MI lt a b out ia ib) (sb:wt lt b.toList) (hk:ib+k<=b.size) (h:∀x∈(b.toList.drop ib).take k,∀y∈a.toList.drop ia,lt y x=false):MI lt a b (out++b.extract ib (ib+k)) ia (ib+k):=by
 have e:(out++b.extract ib (ib+k)).toList=out.toList++(b.toList.drop ib).take k:=by rw[aN,wB]
 have sd:wt lt (b.toList.drop ib):=sb.sublist (bT _ _);have c:=Hs b.toList ib k;have sd2:=sd;rw[c]at sd2;obtain⟨q1,q2,q3⟩:=aQ.mp sd2;refine⟨m.la,hk,?_,?_,?_,?_⟩
 .rw [e,aF];refine(bU.append_left _ ?_).trans m.pm;refine((List.perm_append_comm_assoc _ _ _).trans ?_);rw[←c]
 .rw [e];exact aQ.mpr ⟨m.so,q1,λx hx y hy=>m.ub x hx y (bX hy)⟩
 .rw [e];intro x hx y hy;rcases mAq.mp hx with hx|hx
  .exact m.ua x hx y hy
  .exact h x hx y hy
 .rw [e];intro x hx y hy;rcases mAq.mp hx with hx|hx
  .exact m.ub x hx y (by rw[c];exact aE _ hy)
  .exact q3 x hx y hy
theorem wc{l:List iZ}{i:Nat}{x:iZ}(h:l[i]?=some x):(l.drop i).take 1=[x]:=by
 obtain⟨hi,e⟩:=gSq.mp h;rw[aL hi,e];rfl
theorem MI.pushA{x:iZ}(m:MI lt a b out ia ib) (sa:wt lt a.toList) (hx:a[ia]?=some x) (h:∀y∈b.toList.drop ib,lt y x=false):MI lt a b (out.push x) (ia+1) ib:=by
 have hi:ia<a.size:=(aJ.mp hx).1;have hx':a.toList[ia]?=some x:=by rw[aH];exact hx
 refine(m.moreA sa (k:=1) hi λz hz y hy=>?_).congr ?_
 .rw [wc hx',mSq]at hz;rw[hz];exact h y hy
 .rw [dU,aN,wB,wc hx']
theorem MI.pushB{x:iZ}(m:MI lt a b out ia ib) (sb:wt lt b.toList) (hx:b[ib]?=some x) (h:∀y∈a.toList.drop ia,lt y x=false):MI lt a b (out.push x) ia (ib+1):=by
 have hi:ib<b.size:=(aJ.mp hx).1;have hx':b.toList[ib]?=some x:=by rw[aH];exact hx
 refine(m.moreB sb (k:=1) hi λz hz y hy=>?_).congr ?_
 .rw [wc hx',mSq]at hz;rw[hz];exact h y hy
 .rw [dU,aN,wB,wc hx']
structure Qz (lt:iZ->iZ->Bool) (a b r:Array iZ):Prop where
 pm:r.toList.Perm (a.toList++b.toList)
 so:wt lt r.toList
theorem vn(a:Array iZ) (i:Nat):(a.extract i a.size).toList=a.toList.drop i:=by
 rw[fj,eC];exact dO (by rw[aR,ax];exact ai _)
theorem MI.endB(m:MI lt a b out ia ib) (sa:wt lt a.toList) (e:ib=b.size):Qz lt a b (out++a.extract ia a.size++b.extract ib b.size):=by
 have eb:b.toList.drop ib=[]:=by rw[e,←ax,cM]
 have et:(out++a.extract ia a.size++b.extract ib b.size).toList=out.toList++a.toList.drop ia:=by
  rw[aN,aN,vn,vn,eb,aNq]
 have pm:=m.pm;rw[eb,aNq]at pm;exact⟨by rw[et];exact pm,by rw[et];exact aQ.mpr ⟨m.so,sa.sublist (bT _ _),m.ua⟩⟩
theorem MI.endA(m:MI lt a b out ia ib) (sb:wt lt b.toList) (e:ia=a.size):Qz lt a b (out++a.extract ia a.size++b.extract ib b.size):=by
 have ea:a.toList.drop ia=[]:=by rw[e,←ax,cM]
 have et:(out++a.extract ia a.size++b.extract ib b.size).toList=out.toList++b.toList.drop ib:=by
  rw[aN,aN,vn,vn,ea,aNq]
 have pm:=m.pm;rw[ea,eE]at pm;exact⟨by rw[et];exact pm,by rw[et];exact aQ.mpr ⟨m.so,sb.sublist (bT _ _),m.ub⟩⟩
theorem MI.lastA(m:MI lt a b out ia ib) (sa:wt lt a.toList) (sb:wt lt b.toList) (h:∀x∈b.toList.drop ib,∀y∈a.toList.drop ia,lt y x=false):Qz lt a b (out++b.extract ib b.size++a.extract ia a.size):=by
 have et:(out++b.extract ib b.size++a.extract ia a.size).toList=out.toList++(b.toList.drop ib++a.toList.drop ia):=by
  rw[aN,aN,vn,vn,aF]
 refine⟨?_,?_⟩
 .rw [et];exact(bU.append_left _ bW).trans m.pm
 .rw [et];refine aQ.mpr ⟨m.so,aQ.mpr ⟨sb.sublist (bT _ _),sa.sublist (bT _ _),h⟩,λx hx y hy=>?_⟩
  rcases mAq.mp hy with hy|hy
  .exact m.ub x hx y hy
  .exact m.ua x hx y hy
end
def BV:Array iZ->Array iZ->StateT SortSt Sem (Array iZ):=sortPriv% PySem.Builtin.mergeLo
def qL:Nat->StateT SortSt Sem Unit:=sortPriv% PySem.Builtin.setMinGallop
abbrev sg(st:SortSt) (g:Nat):SortSt:=SortSt.mk' (kindOf st) (jl st) (jX st) g (failedOf st)
theorem Ay(g:Nat):qL g=modify λst=>sg st g:=rfl
section
variable (a b:Array iZ)
abbrev dn(o:Array iZ) (i j:Nat):=o++a.extract i a.size++b.extract j b.size
abbrev lA(o:Array iZ) (i j:Nat):=o++b.extract j b.size++a.extract i a.size
abbrev SF(α:Type):=ForInStep (Option (Array iZ)×Array iZ×Nat×Nat×α)
def Ys(o:Array iZ) (i j m k l:Nat):StateT SortSt Sem (SF (Nat×Nat×Nat)):=do
 let x ←jJ a i
 if i+1+1 == a.size then pure (.done (some (lA a b (o.push x) (i+1) j),o.push x,i+1,j,m,k,l))
 else if decide (k<7) && decide (l<7) then pure (.done (none,o.push x,i+1,j,m,k,l))
 else pure (.yield (none,o.push x,i+1,j,m,k,l))
def Yz(o:Array iZ) (i j m k q:Nat):StateT SortSt Sem (SF (Nat×Nat×Nat)):=do
 let x ←jJ b j
 if j+1 == b.size then pure (.done (some (dn a b (o.push x) i (j+1)),o.push x,i,j+1,m,k,q))
 else do
  let y ←jJ a i
  match ←uT true y b (j+1) (b.size-(j+1)) 0 with
  |some l =>
   if l>0 then
    if j+1+l == b.size then pure (.done (some (dn a b (o.push x++b.extract (j+1) (j+1+l)) i (j+1+l)),o.push x++b.extract (j+1) (j+1+l),i,j+1+l,m,k,l))
    else Ys a b (o.push x++b.extract (j+1) (j+1+l)) i (j+1+l) m k l
   else Ys a b (o.push x) i (j+1) m k l
  |_=>pure (.done (some (dn a b (o.push x) i (j+1)),o.push x,i,j+1,m,k,q))
def YH(o:Array iZ) (i j m p q:Nat):StateT SortSt Sem (SF (Nat×Nat×Nat)):=do
 qL m
 let x ←jJ b j
 match ←uT false x a i (a.size-i) 0 with
 |some k =>
  if k>0 then
   if i+k+1 == a.size then pure (.done (some (lA a b (o++a.extract i (i+k)) (i+k) j),o++a.extract i (i+k),i+k,j,m,k,q))
   else if i+k == a.size then pure (.done (some (dn a b (o++a.extract i (i+k)) (i+k) j),o++a.extract i (i+k),i+k,j,m,k,q))
   else Yz a b (o++a.extract i (i+k)) (i+k) j m k q
  else Yz a b o i j m k q
 |_=>pure (.done (some (dn a b o i j),o,i,j,m,p,q))
def ZF(m:Nat) (o:Array iZ) (i j p q:Nat):StateT SortSt Sem (SF (Nat×Nat)):=do
 let y ←jJ b j
 let x ←jJ a i
 match ←lt' y x with
 |some c =>
  if c then do
   let z ←jJ b j
   if j+1 == b.size then pure (.done (some (dn a b (o.push z) i (j+1)),o.push z,i,j+1,0,q+1))
   else if q+1 ≥ m then pure (.done (none,o.push z,i,j+1,0,q+1))
   else pure (.yield (none,o.push z,i,j+1,0,q+1))
  else do
   let z ←jJ a i
   if i+1+1 == a.size then pure (.done (some (lA a b (o.push z) (i+1) j),o.push z,i+1,j,p+1,0))
   else if p+1 ≥ m then pure (.done (none,o.push z,i+1,j,p+1,0))
   else pure (.yield (none,o.push z,i+1,j,p+1,0))
 |_=>pure (.done (some (dn a b o i j),o,i,j,p,q))
def ZA(o:Array iZ) (i j m:Nat):StateT SortSt Sem (SF Nat):=do
 let r ←forIn [0:a.size+b.size] (none,o,i,j,0,0) λ_ s=>ZF a b m s.2.1 s.2.2.1 s.2.2.2.1 s.2.2.2.2.1 s.2.2.2.2.2
 Break.runK.match_1 (λ_=>StateT SortSt Sem (SF Nat)) r.1 (λv=>pure (.done (some v,r.2.1,r.2.2.1,r.2.2.2.1,m))) λ_=>do
  rule "list.sort.gallop"
  let r ←forIn [0:a.size+b.size] (none,r.2.1,r.2.2.1,r.2.2.2.1,m+1,r.2.2.2.2.1,r.2.2.2.2.2) λ_ s=>if s.2.2.2.2.1>1 then YH a b s.2.1 s.2.2.1 s.2.2.2.1 (s.2.2.2.2.1-1) s.2.2.2.2.2.1 s.2.2.2.2.2.2 else YH a b s.2.1 s.2.2.1 s.2.2.2.1 s.2.2.2.2.1 s.2.2.2.2.2.1 s.2.2.2.2.2.2
  Break.runK.match_1 (λ_=>StateT SortSt Sem (SF Nat)) r.1 (λv=>pure (.done (some v,r.2.1,r.2.2.1,r.2.2.2.1,r.2.2.2.2.1))) λ_=>do
   qL (r.2.2.2.2.1+1)
   pure (.yield (none,r.2.1,r.2.2.1,r.2.2.2.1,r.2.2.2.2.1+1))
theorem HG:BV a b=(do
 rule "list.sort.merge-lo"
 let x ←jJ b 0
 if 1 == b.size then pure (dn a b #[x] 0 1)
 else if 0+1 == a.size then pure (lA a b #[x] 0 1)
 else do
  let st ←get
  let r ←forIn [0:a.size+b.size] (none,#[x],0,1,kJ st) λ_ s=>ZA a b s.2.1 s.2.2.1 s.2.2.2.1 s.2.2.2.2
  Break.runK.match_1 (λ_=>StateT SortSt Sem (Array iZ)) r.1 (λv=>pure v) λ_=>kq "internal:list.sort.merge-bound"):=rfl
end
section
variable {prog:jg}{w:ji}{A:Around}{E:Value->Shared->Prop}{s:Shared}{κ:jx}{P:iZ->Prop}{lt:iZ->iZ->Bool}
theorem wD{g:Nat}{st:SortSt}{Q:Unit->SortSt->Prop}(h:Q () (sg st g)):wpS (ja prog w) A E s (qL g) Q st:=by
 rw[Ay];exact kj h
theorem vA{x:String}{st:SortSt}{Q:Unit->SortSt->Prop}(h:Q () st):wpS (ja prog w) A E s (liftM (rule x):StateT SortSt Sem Unit) Q st:=wpS_lift (wpAny_rule ⟨rfl,h⟩)
theorem Bx(C:wR prog w A s κ P lt) {a:Array iZ}{i:Nat}{x:iZ}(ha:∀x,x∈a->P x) (sa:wt lt a.toList) (hx:a[i]?=some x):∀y∈a.toList.drop i,lt y x=false:=by
 obtain⟨hi,e⟩:=aJ.mp hx;have hi':i<a.toList.length:=by simpa using hi
 have e':a.toList[i]=x:=by simpa using e
 have sd:wt lt (a.toList.drop i):=sa.sublist (bT _ _);rw[aL hi',e']at sd ⊢;intro y hy;rcases ao.mp hy with rfl|hy
 .exact C.refl (ha _ (by rw[←e];exact bc hi))
 .exact (fG.mp sd).1 y hy
theorem uw{a:Array iZ}{i:Nat}{y:iZ}(h:y∈a.toList.drop i):y∈a:=by simpa using bE h
theorem zt(C:wR prog w A s κ P lt) {left:Bool}{key:iZ}{arr:Array iZ}{base n:Nat}(hb:base+n<=arr.size) (ha:∀x,x∈arr->P x) (hkey:P key) (so:wt lt (arr.toList.drop base)) :
  ∀i j,i<=j->j<n->vY lt left key arr base j=true->vY lt left key arr base i=true:=by
 intro i j hij hj h;have hi':base+i<arr.size:=by lia
 have hj':base+j<arr.size:=by lia
 have ei:arr.getD (base+i) key=arr[base+i]:=by simp[gN,hi']
 have ej:arr.getD (base+j) key=arr[base+j]:=by simp[gN,hj']
 have pi:=ha _ (bc hi');have pj:=ha _ (bc hj');have le:lt arr[base+j] arr[base+i]=false:=by
  rcases eG hij with q|q
  .have:=bJ.mp so i j (by simp;lia) (by simp;lia) q
   simpa using this
  .subst q;exact C.refl pi
 unfold vY at h ⊢;rw[ei];rw[ej]at h;cases left with
 |true =>
  rw[nP rfl]at h ⊢;cases q:lt arr[base+i] key with
  |true=>rfl
  |false =>
   have:=C.trans key arr[base+i] arr[base+j] hkey pi pj q le;rw[h]at this;cases this
 |false =>
  rw[nQ (by decide)]at h ⊢
  have h':lt key arr[base+j]=false:=by simpa using h
  have:=C.trans arr[base+i] arr[base+j] key pi pj hkey le h';simp[this]
theorem sj{left:Bool}{key x:iZ}{arr:Array iZ}{base i:Nat}(hx:arr[base+i]?=some x):vY lt left key arr base i=if left then lt x key else !lt key x:=by
 obtain⟨hi,e⟩:=aJ.mp hx;unfold vY;have ei:arr.getD (base+i) key=x:=by simp[gN,hi,e]
 rw[ei]
theorem vc{a:Array iZ}{i k:Nat}{x:iZ}(h:x∈(a.toList.drop i).take k):∃j,j<k/\a[i+j]?=some x:=by
 obtain⟨j,hj,e⟩:=bF.mp h;rw[lTq]at hj;refine⟨j,by lia,?_⟩
 rw[fP,eU]at e;rw[aJ];have hs:i+j<a.size:=by
  rw[aR,ax]at hj;lia
 exact⟨hs,by simpa using e⟩
theorem xK{a:Array iZ}{i:Nat}{x:iZ}(h:x∈a.toList.drop i):∃j,i+j<a.size/\a[i+j]?=some x:=by
 obtain⟨j,hj,e⟩:=bF.mp h;rw[aR,ax]at hj;have hs:i+j<a.size:=by lia
 refine⟨j,hs,?_⟩;rw[eU]at e;rw[aJ];exact⟨hs,by simpa using e⟩
inductive Lp {ρ τ ι σ:Type}(t:ι->τ) (v:ι->σ) (J K:ι->Prop) (R:ρ->σ->Prop):ForInStep (Option ρ×τ)->σ->Prop
 |y (x):J x->Lp t v J K R (.yield (none,t x)) (v x)
 |d (x):K x->Lp t v J K R (.done (none,t x)) (v x)
 |r (a y st):R a st->Lp t v J K R (.done (some a,y)) st
theorem vD{M:jZ}{ρ τ ι σ β:Type}{n:Nat}(t:ι->τ) (v:ι->σ) (J:Nat->ι->Prop) (K:ι->Prop) (R:ρ->σ->Prop) {f:Nat->Option ρ×τ->StateT σ Sem (ForInStep (Option ρ×τ))}{k:Option ρ×τ->StateT σ Sem β}{Q:β->σ->Prop}
  (x:ι) (h:J 0 x) (step:∀i x,J i x->wpS M A E s (f i (none,t x)) (Lp t v (J (i+1)) K R) (v x)) (fin:∀x,J n x->K x) (pn:∀x,K x->wpS M A E s (k (none,t x)) Q (v x)) (ps:∀r y st,R r st->wpS M A E s (k (some r,y)) Q st) :
  wpS M A E s (forIn [0:n] (none,t x) f >>= k) Q (v x):=by
 refine jc (jG (jD (I:=λi c st=>∃x,c=(none,t x)/\st=v x/\J i x) (Q:=λc st=>Lp t v K K R (.done c) st) ?_ ?_ ⟨x,rfl,rfl,h⟩) ?_)
 .rintro i c st _ _ ⟨x,rfl,rfl,h⟩;refine jG (step i x h) λr st' hr=>?_
  cases hr with
  |y x h=>exact⟨x,rfl,rfl,h⟩
  |d x h=>exact .d x h
  |r a y st h=>exact .r a y _ h
 .rintro c st ⟨x,rfl,rfl,h⟩;rw[ik (aY n)]at h;exact .d x (fin x h)
 .rintro c st h;cases h with
  |d x h=>exact pn x h
  |r a y st h=>exact ps a y _ h
structure Ls where
 o:Array iZ
 (i j m p q g:Nat)
structure ML (lt:iZ->iZ->Bool) (a b:Array iZ) (n:Nat) (x:Ls):Prop where
 m:MI lt a b x.o x.i x.j
 p:x.i+1<a.size
 q:x.j<b.size
 r:n<=x.i+x.j
structure Lo (prog:jg) (w:ji) (A:Around) (s:Shared) (κ:jx) (P:iZ->Prop) (lt:iZ->iZ->Bool) (a b:Array iZ) (st:SortSt) (Q:Array iZ->SortSt->Prop):Prop where
 C:wR prog w A s κ P lt
 ha:∀x,x∈a->P x
 hb:∀x,x∈b->P x
 hk:kindOf st=κ
 sa:wt lt a.toList
 sb:wt lt b.toList
 h:∀r g,Qz lt a b r->Q r (sg st g)
abbrev L6(x:Ls):=(x.o,x.i,x.j,x.m,x.p,x.q)
abbrev L5(x:Ls):=(x.o,x.i,x.j,x.p,x.q)
abbrev L4(x:Ls):=(x.o,x.i,x.j,x.m)
variable {a b:Array iZ}{st:SortSt}{Q:Array iZ->SortSt->Prop}{n:Nat}{x:Ls}
abbrev Hl(lt:iZ->iZ->Bool) (a b:Array iZ):=∀i,i+1=a.size->∀x∈b.toList,∀y∈a.toList.drop i,lt y x=false
theorem Qc(H:Lo prog w A s κ P lt a b st Q) (hl:Hl lt a b) (q:ML lt a b n x) (hi:∀z,a[x.i]?=some z->∀y∈b.toList.drop x.j,lt y z=false) :
  wpS (ja prog w) A E s (Ys a b x.o x.i x.j x.m x.p x.q) (Lp L6 (λx=>sg st x.g) (ML lt a b n) (ML lt a b n) Q) (sg st x.g):=by
 have p1:=q.p;have ea:a[x.i]?=some a[x.i]:=aj (by lia)
 refine jc (om ea ?_);have m6:=q.m.pushA H.sa ea (hi _ ea)
 by_cases d6:x.i+1+1=a.size
 .rw [nP (by simp[d6])]
  exact jd (.r _ _ _ (H.h _ _ (m6.lastA H.sa H.sb λy hy=>hl _ d6 y (bE hy))))
 rw[nQ (by simpa using d6)]
 have R:ML lt a b n ⟨_,_,_,x.m,x.p,x.q,x.g⟩:=⟨m6,by dsimp only;lia,q.q,by have:=q.r;dsimp only;lia⟩
 split
 .exact jd (.d _ R)
 .exact jd (.y _ R)
theorem Ov(H:Lo prog w A s κ P lt a b st Q) (hl:Hl lt a b) (q:ML lt a b n x) (hi:∀z,b[x.j]?=some z->∀y∈a.toList.drop x.i,lt y z=false) :
  wpS (ja prog w) A E s (Yz a b x.o x.i x.j x.m x.p x.q) (Lp L6 (λx=>sg st x.g) (ML lt a b n) (ML lt a b n) Q) (sg st x.g):=by
 have p1:=q.p;have p2:=q.q;have p3:=q.r;have eb:b[x.j]?=some b[x.j]:=aj p2;refine jc (om eb ?_);have m4:=q.m.pushB H.sb eb (hi _ eb)
 by_cases d3:x.j+1=b.size
 .rw [nP (by simp[d3])]
  exact jd (.r _ _ _ (H.h _ _ (m4.endB H.sa d3)))
 rw[nQ (by simpa using d3)]
 have ea:a[x.i]?=some a[x.i]:=aj (by lia)
 have pa:=H.ha _ (bc (show x.i<a.size by lia))
 refine jc (om ea (jc (sO H.C (base:=x.j+1) (n:=b.size-(x.j+1)) (by lia) (by lia) H.hb pa H.hk (zt H.C (by lia) H.hb pa (H.sb.sublist (bT _ _))) λl l1 l2 l3=>?_)))
 have hB:∀z,a[x.i]?=some z->∀y∈b.toList.drop (x.j+1+l),lt y z=false:=λz hz y hy=>by
  obtain⟨j',hj',ey⟩:=xK hy;have q:=l3 (l+j') (by lia) (by lia)
  rw[sj (by rw[←ff];exact ey),nP rfl]at q
  rw[ea]at hz;cases hz;exact q
 dsimp only
 by_cases cl:l>0
 .rw [nP cl];have m5:=m4.moreB H.sb (k:=l) (by lia) λx hx y hy=>by
   obtain⟨j',hj',ex⟩:=vc hx;have q:=l2 j' hj';rw[sj ex,nP rfl]at q;have px:=H.hb x (bX hx |> uw);exact H.C.trans _ _ _ px pa (H.ha _ (uw hy)) (H.C.asym _ _ px pa q) (Bx H.C H.ha H.sa ea y hy)
  by_cases d5:x.j+1+l=b.size
  .rw [nP (by simp[d5])]
   exact jd (.r _ _ _ (H.h _ _ (m5.endB H.sa d5)))
  rw[nQ (by simpa using d5)]
  exact Qc H hl (x:=⟨_,_,_,_,_,_,x.g⟩) ⟨m5,p1,by dsimp only;lia,by dsimp only;lia⟩ hB
 .rw [nQ cl];exact Qc H hl (x:=⟨_,_,_,_,_,_,x.g⟩) ⟨m4,p1,by dsimp only;lia,by dsimp only;lia⟩ (by rw[show x.j+1=x.j+1+l by lia];exact hB)
theorem PB(H:Lo prog w A s κ P lt a b st Q) (hl:Hl lt a b) (q:ML lt a b n x) :
  wpS (ja prog w) A E s (YH a b x.o x.i x.j x.m x.p x.q) (Lp L6 (λx=>sg st x.g) (ML lt a b n) (ML lt a b n) Q) (sg st x.g):=by
 have p1:=q.p;have p2:=q.q;have p3:=q.r;have eb:b[x.j]?=some b[x.j]:=aj p2;have pb:=H.hb _ (bc p2);refine jc (wD (jc (om eb (jc (sO H.C (base:=x.i) (n:=a.size-x.i) (by lia) (by lia) H.ha pb H.hk (zt H.C (by lia) H.ha pb (H.sa.sublist (bT _ _))) λk k1 k2 k3=>?_)))))
 have hA:∀z,b[x.j]?=some z->∀y∈a.toList.drop (x.i+k),lt y z=false:=λz hz y hy=>by
  obtain⟨j',hj',ey⟩:=xK hy;have q:=k3 (k+j') (by lia) (by lia)
  rw[sj (by rw[←ff];exact ey),nQ (by decide)]at q
  rw[eb]at hz;cases hz;exact H.C.asym _ _ pb (H.ha _ (uw hy)) (by simpa using q)
 dsimp only
 by_cases ck:k>0
 .rw [nP ck];have m3:=q.m.moreA H.sa (k:=k) (by lia) λx hx y hy=>by
   obtain⟨j',hj',ex⟩:=vc hx;have q:=k2 j' hj';rw[sj ex,nQ (by decide)]at q
   exact H.C.trans _ _ _ (H.ha x (bX hx |> uw)) pb (H.hb _ (uw hy)) (by simpa using q) (Bx H.C H.hb H.sb eb y hy)
  by_cases d1:x.i+k+1=a.size
  .rw [nP (by simp[d1])]
   exact jd (.r _ _ _ (H.h _ x.m (m3.lastA H.sa H.sb λx hx=>hl _ d1 x (bE hx))))
  rw[nQ (by simpa using d1)]
  by_cases d2:x.i+k=a.size
  .rw [nP (by simp[d2])]
   exact jd (.r _ _ _ (H.h _ x.m (m3.endA H.sb d2)))
  rw[nQ (by simpa using d2)]
  exact Ov H hl (x:=⟨_,_,_,_,_,_,x.m⟩) ⟨m3,by dsimp only;lia,p2,by dsimp only;lia⟩ hA
 .rw [nQ ck];exact Ov H hl (x:=⟨_,_,_,_,_,_,x.m⟩) ⟨q.m,p1,p2,p3⟩ (by rw[show x.i=x.i+k by lia];exact hA)
theorem Ur(H:Lo prog w A s κ P lt a b st Q) (hl:Hl lt a b) {m j:Nat}(q:ML lt a b (n+j) x) :
  wpS (ja prog w) A E s (ZF a b m x.o x.i x.j x.p x.q) (Lp L5 (λx=>sg st x.g) (ML lt a b (n+(j+1))) (ML lt a b (n+1)) Q) (sg st x.g):=by
 have p1:=q.p;have p2:=q.q;have p3:=q.r;have ea:a[x.i]?=some a[x.i]:=aj (by lia)
 have eb:b[x.j]?=some b[x.j]:=aj p2;have pa:=H.ha _ (bc (show x.i<a.size by lia))
 have pb:=H.hb _ (bc p2);refine jc (om eb (jc (om ea (jc (H.C.cmp pb pa H.hk ?_)))));cases e:lt b[x.j] a[x.i] with
 |true =>
  dsimp only;rw[nP rfl];refine jc (om eb ?_);have m2:=q.m.pushB H.sb eb λz hz=>H.C.trans _ _ _ pb pa (H.ha _ (uw hz)) (H.C.asym _ _ pb pa e) (Bx H.C H.ha H.sa ea z hz)
  by_cases d1:x.j+1=b.size
  .rw [nP (by simp[d1])]
   exact jd (.r _ _ _ (H.h _ _ (m2.endB H.sa d1)))
  rw[nQ (by simpa using d1)]
  have R:∀n,n<=x.i+(x.j+1)->ML lt a b n ⟨_,_,_,0,0,x.q+1,x.g⟩:=λn hn=>⟨m2,p1,by dsimp only;lia,hn⟩
  split
  .exact jd (.d _ (R _ (by lia)))
  .exact jd (.y _ (R _ (by lia)))
 |false =>
  dsimp only;rw[nQ (by decide)]
  refine jc (om ea ?_);have m2:=q.m.pushA H.sa ea λz hz=>H.C.trans _ _ _ pa pb (H.hb _ (uw hz)) e (Bx H.C H.hb H.sb eb z hz)
  by_cases d1:x.i+1+1=a.size
  .rw [nP (by simp[d1])]
   exact jd (.r _ _ _ (H.h _ _ (m2.lastA H.sa H.sb λx hx=>hl _ d1 x (bE hx))))
  rw[nQ (by simpa using d1)]
  have R:∀n,n<=x.i+1+x.j->ML lt a b n ⟨_,_,_,0,x.p+1,0,x.g⟩:=λn hn=>⟨m2,by dsimp only;lia,p2,hn⟩
  split
  .exact jd (.d _ (R _ (by lia)))
  .exact jd (.y _ (R _ (by lia)))
theorem VW(H:Lo prog w A s κ P lt a b st Q) (hl:Hl lt a b) (q:ML lt a b n x) :
  wpS (ja prog w) A E s (ZA a b x.o x.i x.j x.m) (Lp L4 (λx=>sg st x.g) (ML lt a b (n+1)) (λ_=>False) Q) (sg st x.g):=by
 refine vD L5 (λx=>sg st x.g) (λj=>ML lt a b (n+j)) (ML lt a b (n+1)) Q ⟨x.o,x.i,x.j,0,0,0,x.g⟩ ⟨q.m,q.p,q.q,q.r⟩ (λj x q=>Ur H hl q) (λy h=>⟨h.m,h.p,h.q,by have:=h.r;have:=h.p;have:=h.q;lia⟩) (λy q=>?_) λr y st' hr=>jd (.r _ _ _ hr)
 refine jc (vA ?_);refine vD L6 (λx=>sg st x.g) (λ_=>ML lt a b (n+1)) (ML lt a b (n+1)) Q ⟨y.o,y.i,y.j,x.m+1,y.p,y.q,y.g⟩ ⟨q.m,q.p,q.q,q.r⟩ (λj z q=>?_) (λ_ h=>h) (λz q=>?_) λr y st' hr=>jd (.r _ _ _ hr)
 .dsimp only;split
  .exact PB H hl (x:=⟨_,_,_,z.m-1,_,_,z.g⟩) ⟨q.m,q.p,q.q,q.r⟩
  .exact PB H hl q
 .refine jc (wD (jd ?_));exact Lp.y (t:=L4) (v:=λx=>sg st x.g) ⟨_,_,_,z.m+1,0,0,z.m+1⟩ ⟨q.m,q.p,q.q,q.r⟩
theorem Hn(C:wR prog w A s κ P lt) (ha:∀x,x∈a->P x) (hb:∀x,x∈b->P x) (hk:kindOf st=κ) (sa:wt lt a.toList) (sb:wt lt b.toList)
  (na:0<a.size) (nb:0<b.size) (h0:∀x,b[0]?=some x->∀y∈a.toList,lt y x=false) (hl:∀i,i+1=a.size->∀x∈b.toList,∀y∈a.toList.drop i,lt y x=false)
  (h:∀r g,Qz lt a b r->Q r (sg st g)):wpS (ja prog w) A E s (BV a b) Q st:=by
 rw[HG];refine jc (vA ?_);have eb0:b[0]?=some b[0]:=aj nb;refine jc (om eb0 ?_);have m0:MI lt a b #[] 0 0:=⟨aY _,aY _,by simp,by simp[wt],by simp,by simp⟩
 have m1:MI lt a b #[b[0]] 0 1:=m0.pushB sb eb0 λy hy=>h0 _ eb0 y (by simpa using hy)
 by_cases c1:1=b.size
 .rw [nP (by simp[←c1])]
  exact jd (h _ (kJ st) (m1.endB sa c1))
 rw[nQ (by simpa using c1)]
 by_cases c2:0+1=a.size
 .rw [nP (by simp[←c2])]
  exact jd (h _ (kJ st) (m1.lastA sa sb λx hx=>hl 0 c2 x (bE hx)))
 rw[nQ (by simpa using c2)]
 refine jc (ku ?_);exact vD L4 (λx=>sg st x.g) (λi=>ML lt a b (i+1)) (λ_=>False) Q ⟨_,0,1,_,0,0,kJ st⟩ ⟨m1,by dsimp only;lia,by dsimp only;lia,by dsimp only;lia⟩ (λi x q=>VW ⟨C,ha,hb,hk,sa,sb,h⟩ hl q) (λx h=>by have:=h.p;have:=h.q;have:=h.r;lia) (λx h=>h.elim) λr y st' hr=>jd hr
end
structure MH (lt:iZ->iZ->Bool) (a b out:Array iZ) (na nb:Nat):Prop where
 la:na<=a.size
 lb:nb<=b.size
 pm:((a.toList.take na++b.toList.take nb)++out.toList.reverse).Perm (a.toList++b.toList)
 so:wt lt out.toList.reverse
 ua:∀x∈a.toList.take na,∀y∈out.toList,lt y x=false
 ub:∀x∈b.toList.take nb,∀y∈out.toList,lt y x=false
section
variable {lt:iZ->iZ->Bool}{a b out out':Array iZ}{na nb k:Nat}
theorem MH.congr(m:MH lt a b out na nb) (e:out'.toList=out.toList):MH lt a b out' na nb:=⟨m.la,m.lb,by rw[e];exact m.pm,by rw[e];exact m.so,by rw[e];exact m.ua,by rw[e];exact m.ub⟩
theorem zF(l:List iZ) (k n:Nat) (h:k<=n):l.take n=l.take k++(l.take n).drop k:=by
 have e:(l.take n).take k=l.take k:=by rw[List.take_take,cX h]
 rw[←e,bo]
theorem qe(a:Array iZ) (k n:Nat):(a.extract k n).toList=(a.toList.take n).drop k:=by
 rw[fj,eC,List.drop_take]
theorem zr(a:Array iZ) (n:Nat):(a.extract 0 n).toList=a.toList.take n:=by
 rw[qe,dZ]
theorem MH.moreA(m:MH lt a b out na nb) (sa:wt lt a.toList) (hk:k<=na) (h:∀x∈b.toList.take nb,∀y∈(a.toList.take na).drop k,lt y x=false):MH lt a b (out++(a.extract k na).reverse) k nb:=by
 have e:(out++(a.extract k na).reverse).toList=out.toList++((a.toList.take na).drop k).reverse:=by rw[aN,cF,qe]
 have er:(out++(a.extract k na).reverse).toList.reverse=(a.toList.take na).drop k++out.toList.reverse:=by rw[e,gO,fk]
 have c:=zF a.toList k na hk;have sd:wt lt (a.toList.take na):=sa.sublist (bD _ _);have sd2:=sd;rw[c]at sd2;obtain⟨q1,q2,q3⟩:=aQ.mp sd2;have sub:∀y,y∈(a.toList.take na).drop k->y∈a.toList.take na:=λy hy=>bE hy
 refine⟨bC hk m.la,m.lb,?_,?_,?_,?_⟩
 .rw [er];refine bU.trans ?_ m.pm;rw[←aF];refine bU.append_right _ ?_
  conv=>rhs;rw[c]
  rw[aF,aF];exact bU.append_left _ bW
 .rw [er];exact aQ.mpr ⟨q2,m.so,λx hx y hy=>m.ua x (sub x hx) y (bN.mp hy)⟩
 .rw [e];intro x hx y hy;rcases mAq.mp hy with hy|hy
  .exact m.ua x (by rw[c];exact aU _ hx) y hy
  .exact q3 x hx y (bN.mp hy)
 .rw [e];intro x hx y hy;rcases mAq.mp hy with hy|hy
  .exact m.ub x hx y hy
  .exact h x hx y (bN.mp hy)
theorem MH.moreB(m:MH lt a b out na nb) (sb:wt lt b.toList) (hk:k<=nb) (h:∀x∈a.toList.take na,∀y∈(b.toList.take nb).drop k,lt y x=false):MH lt a b (out++(b.extract k nb).reverse) na k:=by
 have e:(out++(b.extract k nb).reverse).toList=out.toList++((b.toList.take nb).drop k).reverse:=by rw[aN,cF,qe]
 have er:(out++(b.extract k nb).reverse).toList.reverse=(b.toList.take nb).drop k++out.toList.reverse:=by rw[e,gO,fk]
 have c:=zF b.toList k nb hk;have sd:wt lt (b.toList.take nb):=sb.sublist (bD _ _);have sd2:=sd;rw[c]at sd2;obtain⟨q1,q2,q3⟩:=aQ.mp sd2;have sub:∀y,y∈(b.toList.take nb).drop k->y∈b.toList.take nb:=λy hy=>bE hy
 refine⟨m.la,bC hk m.lb,?_,?_,?_,?_⟩
 .rw [er];refine bU.trans ?_ m.pm;rw[←aF];refine bU.append_right _ ?_
  conv=>rhs;rw[c]
  rw[aF]
 .rw [er];exact aQ.mpr ⟨q2,m.so,λx hx y hy=>m.ub x (sub x hx) y (bN.mp hy)⟩
 .rw [e];intro x hx y hy;rcases mAq.mp hy with hy|hy
  .exact m.ua x hx y hy
  .exact h x hx y (bN.mp hy)
 .rw [e];intro x hx y hy;rcases mAq.mp hy with hy|hy
  .exact m.ub x (by rw[c];exact aU _ hx) y hy
  .exact q3 x hx y (bN.mp hy)
theorem wx{l:List iZ}{i:Nat}{x:iZ}(h:l[i]?=some x):(l.take (i+1)).drop i=[x]:=by
 rw[de,h,List.drop_append];have hl:(l.take i).length=i:=by
  have:=(gSq.mp h).1;rw[lTq];lia
 rw[eY (by lia),hl,cf]
 rfl
theorem MH.pushA{x:iZ}(m:MH lt a b out (na+1) nb) (sa:wt lt a.toList) (hx:a[na]?=some x) (h:∀y∈b.toList.take nb,lt x y=false):MH lt a b (out.push x) na nb:=by
 have hx':a.toList[na]?=some x:=by rw[aH];exact hx
 refine(m.moreA sa (k:=na) (bM _) λz hz y hy=>?_).congr ?_
 .rw [wx hx',mSq]at hy;rw[hy];exact h z hz
 .rw [dU,aN,cF,qe,wx hx'];rfl
theorem MH.pushB{x:iZ}(m:MH lt a b out na (nb+1)) (sb:wt lt b.toList) (hx:b[nb]?=some x) (h:∀y∈a.toList.take na,lt x y=false):MH lt a b (out.push x) na nb:=by
 have hx':b.toList[nb]?=some x:=by rw[aH];exact hx
 refine(m.moreB sb (k:=nb) (bM _) λz hz y hy=>?_).congr ?_
 .rw [wx hx',mSq]at hy;rw[hy];exact h z hz
 .rw [dU,aN,cF,qe,wx hx'];rfl
theorem MH.end(m:MH lt a b out na nb) (sa:wt lt a.toList) (sb:wt lt b.toList) (e:na=0∨nb=0):Qz lt a b (a.extract 0 na++b.extract 0 nb++out.reverse):=by
 have et:(a.extract 0 na++b.extract 0 nb++out.reverse).toList=(a.toList.take na++b.toList.take nb)++out.toList.reverse:=by
  rw[aN,aN,zr,zr,cF]
 refine⟨by rw[et];exact m.pm,?_⟩
 rw[et];refine aQ.mpr ⟨?_,m.so,λx hx y hy=>?_⟩
 .rcases e with rfl|rfl
  .rw [gI,eE];exact sb.sublist (bD _ _)
  .rw [gI,aNq];exact sa.sublist (bD _ _)
 .rcases mAq.mp hx with hx|hx
  .exact m.ua x hx y (bN.mp hy)
  .exact m.ub x hx y (bN.mp hy)
theorem MH.firstB(m:MH lt a b out na nb) (sa:wt lt a.toList) (sb:wt lt b.toList) (h:∀x∈b.toList.take nb,∀y∈a.toList.take na,lt y x=false):Qz lt a b (b.extract 0 nb++a.extract 0 na++out.reverse):=by
 have et:(b.extract 0 nb++a.extract 0 na++out.reverse).toList=(b.toList.take nb++a.toList.take na)++out.toList.reverse:=by
  rw[aN,aN,zr,zr,cF]
 refine⟨?_,?_⟩
 .rw [et];exact(bU.append_right _ bW).trans m.pm
 .rw [et];refine aQ.mpr ⟨aQ.mpr ⟨sb.sublist (bD _ _),sa.sublist (bD _ _),h⟩,m.so,λx hx y hy=>?_⟩
  rcases mAq.mp hx with hx|hx
  .exact m.ub x hx y (bN.mp hy)
  .exact m.ua x hx y (bN.mp hy)
end
def CN:Array iZ->Array iZ->StateT SortSt Sem (Array iZ):=sortPriv% PySem.Builtin.mergeHi
section
variable (a b:Array iZ)
abbrev dH(o:Array iZ) (i j:Nat):=a.extract 0 i++b.extract 0 j++o.reverse
abbrev fH(o:Array iZ) (i j:Nat):=b.extract 0 j++a.extract 0 i++o.reverse
abbrev SH(α:Type):=ForInStep (Option (Array iZ)×Nat×Nat×Array iZ×α)
def Yj(o:Array iZ) (i j m k l:Nat):StateT SortSt Sem (SH (Nat×Nat×Nat)):=do
 let x ←jJ a (i-1)
 if i-1 == 0 then pure (.done (some (dH a b (o.push x) (i-1) j),i-1,j,o.push x,m,k,l))
 else if decide (k<7) && decide (l<7) then pure (.done (none,i-1,j,o.push x,m,k,l))
 else pure (.yield (none,i-1,j,o.push x,m,k,l))
def XZ(o:Array iZ) (i j m k q:Nat):StateT SortSt Sem (SH (Nat×Nat×Nat)):=do
 let x ←jJ b (j-1)
 if j-1 == 1 then pure (.done (some (fH a b (o.push x) i (j-1)),i,j-1,o.push x,m,k,q))
 else do
  let y ←jJ a (i-1)
  match ←uT true y b 0 (j-1) (j-1-1) with
  |some l =>
   if j-1-l>0 then
    if l == 1 then pure (.done (some (fH a b (o.push x++(b.extract l (j-1)).reverse) i l),i,l,o.push x++(b.extract l (j-1)).reverse,m,k,j-1-l))
    else if l == 0 then pure (.done (some (dH a b (o.push x++(b.extract l (j-1)).reverse) i l),i,l,o.push x++(b.extract l (j-1)).reverse,m,k,j-1-l))
    else Yj a b (o.push x++(b.extract l (j-1)).reverse) i l m k (j-1-l)
   else Yj a b (o.push x) i (j-1) m k (j-1-l)
  |_=>pure (.done (some (dH a b (o.push x) i (j-1)),i,j-1,o.push x,m,k,q))
def Yc(o:Array iZ) (i j m p q:Nat):StateT SortSt Sem (SH (Nat×Nat×Nat)):=do
 qL m
 let x ←jJ b (j-1)
 match ←uT false x a 0 i (i-1) with
 |some k =>
  if i-k>0 then
   if k == 0 then pure (.done (some (dH a b (o++(a.extract k i).reverse) k j),k,j,o++(a.extract k i).reverse,m,i-k,q))
   else XZ a b (o++(a.extract k i).reverse) k j m (i-k) q
  else XZ a b o i j m (i-k) q
 |_=>pure (.done (some (dH a b o i j),i,j,o,m,p,q))
def Ec(m:Nat) (o:Array iZ) (i j p q:Nat):StateT SortSt Sem (SH (Nat×Nat)):=do
 let y ←jJ b (j-1)
 let x ←jJ a (i-1)
 match ←lt' y x with
 |some c =>
  if c then do
   let z ←jJ a (i-1)
   if i-1 == 0 then pure (.done (some (dH a b (o.push z) (i-1) j),i-1,j,o.push z,p+1,0))
   else if p+1 ≥ m then pure (.done (none,i-1,j,o.push z,p+1,0))
   else pure (.yield (none,i-1,j,o.push z,p+1,0))
  else do
   let z ←jJ b (j-1)
   if j-1 == 1 then pure (.done (some (fH a b (o.push z) i (j-1)),i,j-1,o.push z,0,q+1))
   else if q+1 ≥ m then pure (.done (none,i,j-1,o.push z,0,q+1))
   else pure (.yield (none,i,j-1,o.push z,0,q+1))
 |_=>pure (.done (some (dH a b o i j),i,j,o,p,q))
def X4(o:Array iZ) (i j m:Nat):StateT SortSt Sem (SH Nat):=do
 let r ←forIn [0:a.size+b.size] (none,i,j,o,0,0) λ_ s=>Ec a b m s.2.2.2.1 s.2.1 s.2.2.1 s.2.2.2.2.1 s.2.2.2.2.2
 Break.runK.match_1 (λ_=>StateT SortSt Sem (SH Nat)) r.1 (λv=>pure (.done (some v,r.2.1,r.2.2.1,r.2.2.2.1,m))) λ_=>do
  rule "list.sort.gallop"
  let r ←forIn [0:a.size+b.size] (none,r.2.1,r.2.2.1,r.2.2.2.1,m+1,r.2.2.2.2.1,r.2.2.2.2.2) λ_ s=>if s.2.2.2.2.1>1 then Yc a b s.2.2.2.1 s.2.1 s.2.2.1 (s.2.2.2.2.1-1) s.2.2.2.2.2.1 s.2.2.2.2.2.2 else Yc a b s.2.2.2.1 s.2.1 s.2.2.1 s.2.2.2.2.1 s.2.2.2.2.2.1 s.2.2.2.2.2.2
  Break.runK.match_1 (λ_=>StateT SortSt Sem (SH Nat)) r.1 (λv=>pure (.done (some v,r.2.1,r.2.2.1,r.2.2.2.1,r.2.2.2.2.1))) λ_=>do
   qL (r.2.2.2.2.1+1)
   pure (.yield (none,r.2.1,r.2.2.1,r.2.2.2.1,r.2.2.2.2.1+1))
theorem FX:CN a b=(do
 rule "list.sort.merge-hi"
 let x ←jJ a (a.size-1)
 if a.size-1 == 0 then pure (dH a b #[x] (a.size-1) b.size)
 else if b.size == 1 then pure (fH a b #[x] (a.size-1) b.size)
 else do
  let st ←get
  let r ←forIn [0:a.size+b.size] (none,a.size-1,b.size,#[x],kJ st) λ_ s=>X4 a b s.2.2.2.1 s.2.1 s.2.2.1 s.2.2.2.2
  Break.runK.match_1 (λ_=>StateT SortSt Sem (Array iZ)) r.1 (λv=>pure v) λ_=>kq "internal:list.sort.merge-bound"):=rfl
end
section
variable {prog:jg}{w:ji}{A:Around}{E:Value->Shared->Prop}{s:Shared}{κ:jx}{P:iZ->Prop}{lt:iZ->iZ->Bool}
theorem Bo(C:wR prog w A s κ P lt) {a:Array iZ}{i:Nat}{x:iZ}(ha:∀x,x∈a->P x) (sa:wt lt a.toList) (hx:a[i]?=some x):∀y∈a.toList.take (i+1),lt x y=false:=by
 obtain⟨hi,e⟩:=aJ.mp hx;have hx':a.toList[i]?=some x:=by rw[aH];exact hx
 have sd:wt lt (a.toList.take (i+1)):=sa.sublist (bD _ _);rw[de,hx']at sd ⊢;intro y hy;rcases mAq.mp hy with hy|hy
 .exact (aQ.mp sd).2.2 y hy x (by simp)
 .have:y=x:=by simpa using hy
  rw[this];exact C.refl (ha _ (by rw[←e];exact bc hi))
theorem uA{a:Array iZ}{i:Nat}{y:iZ}(h:y∈a.toList.take i):y∈a:=by simpa using bX h
theorem xl{a:Array iZ}{n:Nat}{x:iZ}(h:x∈a.toList.take n):∃j,j<n/\a[0+j]?=some x:=by
 have h':x∈(a.toList.drop 0).take n:=by rw[dZ];exact h
 exact vc h'
theorem uv{a:Array iZ}{k n:Nat}{x:iZ}(h:x∈(a.toList.take n).drop k):∃j,k<=j/\j<n/\a[0+j]?=some x:=by
 obtain⟨j,hj,e⟩:=bF.mp h;rw[aR,lTq,ax]at hj;refine⟨k+j,by lia,by lia,?_⟩
 rw[eU,fP]at e;rw[aJ];exact⟨by lia,by simpa using e⟩
structure MG (lt:iZ->iZ->Bool) (a b:Array iZ) (n:Nat) (x:Ls):Prop where
 m:MH lt a b x.o x.i x.j
 p:0<x.i
 q:1<x.j
 r:x.i+x.j+n<=a.size+b.size
abbrev H6(x:Ls):=(x.i,x.j,x.o,x.m,x.p,x.q)
abbrev H5(x:Ls):=(x.i,x.j,x.o,x.p,x.q)
abbrev H4(x:Ls):=(x.i,x.j,x.o,x.m)
variable {a b:Array iZ}{st:SortSt}{Q:Array iZ->SortSt->Prop}{n:Nat}{x:Ls}{o:Array iZ}{u v i j m k l g:Nat}
abbrev Hf(lt:iZ->iZ->Bool) (a b:Array iZ):=∀x∈b.toList.take 1,∀y∈a.toList,lt y x=false
theorem Ye(H:Lo prog w A s κ P lt a b st Q) (hf:Hf lt a b) (m:MH lt a b o i 1):Q (b.extract 0 1++a.extract 0 i++o.reverse) (sg st g):=H.h _ _ (m.firstB H.sa H.sb λx hx y hy=>hf x hx y (bX hy))
theorem Po(H:Lo prog w A s κ P lt a b st Q) (q:MG lt a b n ⟨o,u+1,j,m,k,l,g⟩) (hi:∀z,a[u]?=some z->∀y∈b.toList.take j,lt z y=false) :
  wpS (ja prog w) A E s (Yj a b o (u+1) j m k l) (Lp H6 (λx=>sg st x.g) (MG lt a b n) (MG lt a b n) Q) (sg st g):=by
 dsimp only [Yj,eD];have ea:a[u]?=some (a[u]'q.m.la):=aj q.m.la;refine jc (om ea ?_);have m6:=q.m.pushA H.sa ea (hi _ ea)
 by_cases d6:u=0
 .rw [nP (by simp[d6])]
  exact jd (.r _ _ _ (H.h _ _ (m6.end H.sa H.sb (.inl d6))))
 rw[nQ (by simpa using d6)]
 have R:MG lt a b n ⟨_,_,_,m,k,l,g⟩:=⟨m6,fJ d6,q.q,by have:=q.r;dsimp only at *;lia⟩
 split
 .exact jd (.d _ R)
 .exact jd (.y _ R)
theorem Pq(H:Lo prog w A s κ P lt a b st Q) (hf:Hf lt a b) (q:MG lt a b n ⟨o,u+1,v+1,m,k,l,g⟩) (hi:∀z,b[v]?=some z->∀y∈a.toList.take (u+1),lt z y=false) :
  wpS (ja prog w) A E s (XZ a b o (u+1) (v+1) m k l) (Lp H6 (λx=>sg st x.g) (MG lt a b n) (MG lt a b n) Q) (sg st g):=by
 dsimp only [XZ,eD];have la:u<a.size:=q.m.la;have lb:v<b.size:=q.m.lb;have p2:1<v+1:=q.q;have p3:u+1+(v+1)+n<=a.size+b.size:=q.r;have eb:b[v]?=some b[v]:=aj lb;refine jc (om eb ?_);have m4:=q.m.pushB H.sb eb (hi _ eb)
 by_cases d3:v=1
 .rw [nP (by simp[d3])]
  subst d3;exact jd (.r _ _ _ (Ye H hf m4))
 rw[nQ (by simpa using d3)]
 have ea:a[u]?=some a[u]:=aj la;have pa:=H.ha _ (bc la);refine jc (om ea (jc (sO H.C (base:=0) (n:=v) (by lia) (by lia) H.hb pa H.hk (zt H.C (by lia) H.hb pa (by rw[dZ];exact H.sb)) λl l1 l2 l3=>?_)))
 have hB:∀z,a[u]?=some z->∀y∈b.toList.take l,lt z y=false:=λz hz y hy=>by
  obtain⟨j',hj',ey⟩:=xl hy;have q:=l2 j' hj';rw[sj ey,nP rfl]at q;rw[ea]at hz;cases hz;exact H.C.asym _ _ (H.hb _ (uA hy)) pa q
 dsimp only
 by_cases cl:v-l>0
 .rw [nP cl];have m5:=m4.moreB H.sb (k:=l) l1 λx hx y hy=>by
   obtain⟨j',hj1,hj',ey⟩:=uv hy;have q:=l3 j' hj1 hj';rw[sj ey,nP rfl]at q;exact H.C.trans _ _ _ (H.ha _ (uA hx)) pa (H.hb y (bE hy |> uA)) (Bo H.C H.ha H.sa ea x hx) q
  by_cases d5:l=1
  .rw [nP (by simp[d5])]
   subst d5;exact jd (.r _ _ _ (Ye H hf m5))
  rw[nQ (by simpa using d5)]
  by_cases d6:l=0
  .rw [nP (by simp[d6])]
   exact jd (.r _ _ _ (H.h _ _ (m5.end H.sa H.sb (.inr d6))))
  rw[nQ (by simpa using d6)]
  exact Po H ⟨m5,q.p,by dsimp only;lia,by dsimp only;lia⟩ hB
 .rw [nQ cl];have:l=v:=by lia
  subst this;exact Po H ⟨m4,q.p,by dsimp only;lia,by dsimp only;lia⟩ hB
theorem ON(H:Lo prog w A s κ P lt a b st Q) (hf:Hf lt a b) (q:MG lt a b n x) :
  wpS (ja prog w) A E s (Yc a b x.o x.i x.j x.m x.p x.q) (Lp H6 (λx=>sg st x.g) (MG lt a b n) (MG lt a b n) Q) (sg st x.g):=by
 obtain⟨o,i,j,m,p,q',g⟩:=x;have la:i<=a.size:=q.m.la;have p1:0<i:=q.p;have p2:1<j:=q.q;have p3:i+j+n<=a.size+b.size:=q.r;obtain⟨v,rfl⟩:∃v,j=v+1:=⟨j-1,by lia⟩
 have lb:v<b.size:=q.m.lb;dsimp only [Yc,eD];have eb:b[v]?=some b[v]:=aj lb;have pb:=H.hb _ (bc lb);refine jc (wD (jc (om eb (jc (sO H.C (base:=0) (n:=i) (by lia) (by lia) H.ha pb H.hk (zt H.C (by lia) H.ha pb (by rw[dZ];exact H.sa)) λk k1 k2 k3=>?_)))))
 have hA:∀z,b[v]?=some z->∀y∈a.toList.take k,lt z y=false:=λz hz y hy=>by
  obtain⟨j',hj',ey⟩:=xl hy;have q:=k2 j' hj';rw[sj ey,nQ (by decide)]at q
  rw[eb]at hz;cases hz;simpa using q
 dsimp only
 by_cases ck:i-k>0
 .rw [nP ck];have m3:=q.m.moreA H.sa (k:=k) k1 λx hx y hy=>by
   obtain⟨j',hj1,hj',ey⟩:=uv hy;have q:=k3 j' hj1 hj';rw[sj ey,nQ (by decide)]at q
   have py:=H.ha y (bE hy |> uA);exact H.C.trans _ _ _ (H.hb _ (uA hx)) pb py (Bo H.C H.hb H.sb eb x hx) (H.C.asym _ _ pb py (by simpa using q))
  by_cases d2:k=0
  .rw [nP (by simp[d2])]
   exact jd (.r _ _ _ (H.h _ m (m3.end H.sa H.sb (.inl d2))))
  rw[nQ (by simpa using d2)]
  obtain⟨u,rfl⟩:∃u,k=u+1:=⟨k-1,by lia⟩
  exact Pq H hf (g:=m) ⟨m3,Nat.succ_pos _,p2,by dsimp only;lia⟩ hA
 .rw [nQ ck];have:k=i:=by lia
  subst this;obtain⟨u,rfl⟩:∃u,k=u+1:=⟨k-1,by lia⟩
  exact Pq H hf (g:=m) ⟨q.m,p1,p2,p3⟩ hA
theorem Uj(H:Lo prog w A s κ P lt a b st Q) (hf:Hf lt a b) (q:MG lt a b (n+j) x) :
  wpS (ja prog w) A E s (Ec a b m x.o x.i x.j x.p x.q) (Lp H5 (λx=>sg st x.g) (MG lt a b (n+(j+1))) (MG lt a b (n+1)) Q) (sg st x.g):=by
 obtain⟨o,i,k,m',p,q',g⟩:=x;have p1:0<i:=q.p;have p2:1<k:=q.q;have p3:i+k+(n+j)<=a.size+b.size:=q.r;obtain⟨u,rfl⟩:∃u,i=u+1:=⟨i-1,by lia⟩
 obtain⟨v,rfl⟩:∃v,k=v+1:=⟨k-1,by lia⟩
 have la:u<a.size:=q.m.la;have lb:v<b.size:=q.m.lb;dsimp only [Ec,eD];have ea:a[u]?=some a[u]:=aj la;have eb:b[v]?=some b[v]:=aj lb;have pa:=H.ha _ (bc la);have pb:=H.hb _ (bc lb);refine jc (om eb (jc (om ea (jc (H.C.cmp pb pa H.hk ?_)))));cases e:lt b[v] a[u] with
 |true =>
  dsimp only;rw[nP rfl];refine jc (om ea ?_);have m2:=q.m.pushA H.sa ea λy hy=>H.C.trans _ _ _ (H.hb _ (uA hy)) pb pa (Bo H.C H.hb H.sb eb y hy) (H.C.asym _ _ pb pa e)
  by_cases d1:u=0
  .rw [nP (by simp[d1])]
   exact jd (.r _ _ _ (H.h _ _ (m2.end H.sa H.sb (.inl d1))))
  rw[nQ (by simpa using d1)]
  have R:∀n,u+(v+1)+n<=a.size+b.size->MG lt a b n ⟨_,_,_,0,p+1,0,g⟩:=λn hn=>⟨m2,fJ d1,p2,hn⟩
  split
  .exact jd (.d _ (R _ (by lia)))
  .exact jd (.y _ (R _ (by lia)))
 |false =>
  dsimp only;rw[nQ (by decide)]
  refine jc (om eb ?_);have m2:=q.m.pushB H.sb eb λy hy=>H.C.trans _ _ _ (H.ha _ (uA hy)) pa pb (Bo H.C H.ha H.sa ea y hy) e
  by_cases d1:v=1
  .rw [nP (by simp[d1])]
   subst d1;exact jd (.r _ _ _ (Ye H hf m2))
  rw[nQ (by simpa using d1)]
  have R:∀n,u+1+v+n<=a.size+b.size->MG lt a b n ⟨_,_,_,0,0,q'+1,g⟩:=λn hn=>⟨m2,p1,by dsimp only;lia,hn⟩
  split
  .exact jd (.d _ (R _ (by lia)))
  .exact jd (.y _ (R _ (by lia)))
theorem Us(H:Lo prog w A s κ P lt a b st Q) (hf:Hf lt a b) (q:MG lt a b n x) :
  wpS (ja prog w) A E s (X4 a b x.o x.i x.j x.m) (Lp H4 (λx=>sg st x.g) (MG lt a b (n+1)) (λ_=>False) Q) (sg st x.g):=by
 refine vD H5 (λx=>sg st x.g) (λj=>MG lt a b (n+j)) (MG lt a b (n+1)) Q ⟨x.o,x.i,x.j,0,0,0,x.g⟩ ⟨q.m,q.p,q.q,q.r⟩ (λj x q=>Uj H hf q) (λy h=>⟨h.m,h.p,h.q,by have:=h.r;have:=h.p;have:=h.q;lia⟩) (λy q=>?_) λr y st' hr=>jd (.r _ _ _ hr)
 refine jc (vA ?_);refine vD H6 (λx=>sg st x.g) (λ_=>MG lt a b (n+1)) (MG lt a b (n+1)) Q ⟨y.o,y.i,y.j,x.m+1,y.p,y.q,y.g⟩ ⟨q.m,q.p,q.q,q.r⟩ (λj z q=>?_) (λ_ h=>h) (λz q=>?_) λr y st' hr=>jd (.r _ _ _ hr)
 .dsimp only;split
  .exact ON H hf (x:=⟨_,_,_,z.m-1,_,_,z.g⟩) ⟨q.m,q.p,q.q,q.r⟩
  .exact ON H hf q
 .refine jc (wD (jd ?_));exact Lp.y (t:=H4) (v:=λx=>sg st x.g) ⟨_,_,_,z.m+1,0,0,z.m+1⟩ ⟨q.m,q.p,q.q,q.r⟩
theorem GZ(C:wR prog w A s κ P lt) (ha:∀x,x∈a->P x) (hb:∀x,x∈b->P x) (hk:kindOf st=κ) (sa:wt lt a.toList) (sb:wt lt b.toList)
  (na0:0<a.size) (nb0:0<b.size) (h0:∀x∈b.toList.take 1,∀y∈a.toList,lt y x=false) (hl:∀x,a[a.size-1]?=some x->∀y∈b.toList,lt x y=false)
  (h:∀r g,Qz lt a b r->Q r (sg st g)):wpS (ja prog w) A E s (CN a b) Q st:=by
 have H:Lo prog w A s κ P lt a b st Q:=⟨C,ha,hb,hk,sa,sb,h⟩;rw[FX];refine jc (vA ?_);have ea0:a[a.size-1]?=some (a[a.size-1]'(by lia)):=aj (by lia)
 refine jc (om ea0 ?_);have m0:MH lt a b #[] (a.size-1+1) b.size:=⟨by lia,ai _,by
  rw[show a.size-1+1=a.toList.length by simp;lia,bx,←ax,bx];simp,by simp[wt],by simp,by simp⟩
 have m1:MH lt a b #[a[a.size-1]'(by lia)] (a.size-1) b.size:=m0.pushA sa ea0 λy hy=>hl _ ea0 y (bX hy)
 by_cases c1:a.size-1=0
 .rw [nP (by simp[c1])]
  exact jd (h _ (kJ st) (m1.end sa sb (.inl c1)))
 rw[nQ (by simpa using c1)]
 by_cases c2:b.size=1
 .rw [nP (by simp[c2])]
  have m1':=m1;rw[c2]at m1' ⊢;exact jd (Ye H h0 (g:=kJ st) m1')
 rw[nQ (by simpa using c2)]
 refine jc (ku ?_);exact vD H4 (λx=>sg st x.g) (λi=>MG lt a b (i+1)) (λ_=>False) Q ⟨_,a.size-1,b.size,_,0,0,kJ st⟩ ⟨m1,fJ c1,show 1<b.size by lia,show a.size-1+b.size+1<=a.size+b.size by lia⟩ (λi x q=>Us H h0 q) (λx h=>by have:=h.p;have:=h.q;have:=h.r;lia) (λx h=>h.elim) λr y st' hr=>jd hr
end
def yq(lt:iZ->iZ->Bool) (xs:Array iZ) (i j:Nat):Prop:=∀p q x y,i<=p->p<=q->q<j->xs[p]?=some x->xs[q]?=some y->lt y x=false
def QE(lt:iZ->iZ->Bool) (xs:Array iZ) (i j:Nat):Prop:=∀p q x y,i<=p->p<=q->q<j->xs[p]?=some x->xs[q]?=some y->lt x y=false
def XA(lt:iZ->iZ->Bool) (xs:Array iZ) (i j:Nat):Prop:=∀p q x y,i<=p->p<j->i<=q->q<j->xs[p]?=some x->xs[q]?=some y->lt x y=false
section
variable {lt:iZ->iZ->Bool}{xs:Array iZ}{i j lo n:Nat}
theorem HS(hj:j<=xs.size) (h:QE lt xs i j):yq lt (mirror xs i j ((j-i) / 2)) i j:=by
 intro p q x y h1 h2 h3 ex ey;rw[kx hj,nP ⟨h1,by lia⟩]at ex
 rw[kx hj,nP ⟨by lia,h3⟩]at ey
 exact h _ _ _ _ (by lia) (by lia) (by lia) ey ex
theorem yQ(hj:j<=xs.size) (hi:lo<=i) (hn:j<=n) (e:XA lt xs i j) (h:QE lt xs lo n):QE lt (mirror xs i j ((j-i) / 2)) lo n:=by
 intro p q x y h1 h2 h3 ex ey;rw[kx hj]at ex ey
 by_cases cp:i<=p/\p<j
 .rw [nP cp]at ex
  by_cases cq:i<=q/\q<j
  .rw [nP cq]at ey;exact e _ _ _ _ (by lia) (by lia) (by lia) (by lia) ex ey
  .rw [nQ cq]at ey;exact h _ _ _ _ (by lia) (by lia) h3 ex ey
 .rw [nQ cp]at ex
  by_cases cq:i<=q/\q<j
  .rw [nP cq]at ey;exact h _ _ _ _ h1 (by lia) (by lia) ex ey
  .rw [nQ cq]at ey;exact h _ _ _ _ h1 h2 h3 ex ey
end
section
variable (lo:Nat)
def YA(n:Nat):StateT SortSt Sem (ForInStep (Option (Option Nat)×Nat)):=do
 match ←ltAt' (lo+n) (lo+n-1) with
 |some c=>if c then pure (.done (none,n)) else pure (.yield (none,n+1))
 |_=>pure (.done (some none,n))
def ZV(n q:Nat):StateT SortSt Sem (ForInStep (Option (Option Nat)×Nat×Nat)):=do
 match ←ltAt' (lo+n) (lo+n-1) with
 |some c =>
  if c then
   if q>0 then do
    let _ ←kG (lo+n-(q+1)) (lo+n)
    pure (.yield (none,n+1,0))
   else pure (.yield (none,n+1,0))
  else do
   match ←ltAt' (lo+n-1) (lo+n) with
   |some c=>if c then pure (.done (none,n,q)) else pure (.yield (none,n+1,q+1))
   |_=>pure (.done (some none,n,q))
 |_=>pure (.done (some none,n,q))
def Yy(nrem n:Nat):StateT SortSt Sem (Option Nat):=do
 kG lo (lo+n)
 let r ←forIn [n:nrem] (none,n) λ_ s=>YA lo s.2
 Break.runK.match_1 (λ_=>StateT SortSt Sem (Option Nat)) r.1 (λv=>pure v) λ_=>pure (some r.2)
def YO(nrem n:Nat):StateT SortSt Sem (Option Nat):=do
 rule "list.sort.descending-run"
 let r ←forIn [n+1:nrem] (none,n+1,0) λ_ s=>ZV lo s.2.1 s.2.2
 Break.runK.match_1 (λ_=>StateT SortSt Sem (Option Nat)) r.1 (λv=>pure v) λ_ =>
  if r.2.2>0 then do
   let _ ←kG (lo+r.2.1-(r.2.2+1)) (lo+r.2.1)
   Yy lo nrem r.2.1
  else Yy lo nrem r.2.1
theorem Wa(nrem:Nat):countRun' lo nrem=(do
 let r ←forIn [1:nrem] (none,1) λ_ s=>YA lo s.2
 Break.runK.match_1 (λ_=>StateT SortSt Sem (Option Nat)) r.1 (λv=>pure v) λ_ =>
  if r.2 == nrem then pure (some r.2)
  else if r.2>1 then do
   match ←ltAt' lo (lo+r.2-1) with
   |some c =>
    if c then pure (some r.2)
    else do
     let _ ←kG lo (lo+r.2)
     YO lo nrem r.2
   |_=>pure none
  else YO lo nrem r.2):=countRun'_eq lo nrem
end
section
variable {prog:jg}{w:ji}{A:Around}{E:Value->Shared->Prop}{s:Shared}{κ:jx}{P:iZ->Prop}{lt:iZ->iZ->Bool}
theorem Sj(C:wR prog w A s κ P lt) {xs:Array iZ}(hp:∀x,x∈xs->P x) (lo:Nat):yq lt xs lo (lo+1):=by
 intro p q x y h1 h2 h3 ex ey;have e:p=q:=by lia
 subst e;rw[ex]at ey;cases ey;exact C.refl (hp _ (aQq ex))
theorem PD(C:wR prog w A s κ P lt) {xs:Array iZ}(hp:∀x,x∈xs->P x) {lo n:Nat}(h:yq lt xs lo (lo+(n+1))) (hx:∀x y,xs[lo+(n+1)]?=some x->xs[lo+n]?=some y->lt x y=false) (hz:lo+(n+1)<xs.size):yq lt xs lo (lo+(n+2)):=by
 intro p q x y h1 h2 h3 ex ey
 by_cases c:q<lo+(n+1)
 .exact h p q x y h1 h2 c ex ey
 .have eq:q=lo+(n+1):=by lia
  subst eq
  by_cases c2:p=lo+(n+1)
  .subst c2;rw[ex]at ey;cases ey;exact C.refl (hp _ (aQq ex))
  .have em:xs[lo+n]?=some (xs[lo+n]'(by lia)):=aj (by lia)
   exact C.trans _ _ _ (hp _ (aQq ex)) (hp _ (aQq em)) (hp _ (aQq ey)) (h p (lo+n) _ _ h1 (by lia) (by lia) ex em) (hx _ _ ey em)
theorem FU(C:wR prog w A s κ P lt) {xs:Array iZ}(hp:∀x,x∈xs->P x) {lo n:Nat}(h:QE lt xs lo (lo+(n+1))) (hx:∀x y,xs[lo+(n+1)]?=some x->xs[lo+n]?=some y->lt y x=false) (hz:lo+(n+1)<xs.size):QE lt xs lo (lo+(n+2)):=by
 intro p q x y h1 h2 h3 ex ey
 by_cases c:q<lo+(n+1)
 .exact h p q x y h1 h2 c ex ey
 .have eq:q=lo+(n+1):=by lia
  subst eq
  by_cases c2:p=lo+(n+1)
  .subst c2;rw[ex]at ey;cases ey;exact C.refl (hp _ (aQq ex))
  .have em:xs[lo+n]?=some (xs[lo+n]'(by lia)):=aj (by lia)
   exact C.trans _ _ _ (hp _ (aQq ey)) (hp _ (aQq em)) (hp _ (aQq ex)) (hx _ _ ey em) (h p (lo+n) _ _ h1 (by lia) (by lia) ex em)
theorem GS(C:wR prog w A s κ P lt) {lo nrem a:Nat}{st:SortSt}(hp:∀x,x∈jl st->P x) (hk:kindOf st=κ) (ha:1<=a) (han:a<=nrem) (hz:lo+nrem<=(jl st).size) (hs:yq lt (jl st) lo (lo+a)) :
  wpS (ja prog w) A E s (forIn [a:nrem] ((none,a):Option (Option Nat)×Nat) λ_ s=>YA lo s.2)
   (λc st'=>∃n,c=(none,n)/\st'=st/\a<=n/\n<=nrem/\yq lt (jl st) lo (lo+n)/\(n=nrem∨∃x y,(jl st)[lo+n]?=some x/\(jl st)[lo+n-1]?=some y/\lt x y=true)) st:=by
 refine jD (I:=λi c st'=>c=(none,i)/\st'=st/\a<=i/\i<=nrem/\yq lt (jl st) lo (lo+i)) ?step ?fin ⟨rfl,rfl,ai _,han,hs⟩
 case step =>
  rintro i c st' h1 h2 ⟨rfl,rfl,h3,h4,h5⟩;obtain⟨k,rfl⟩:∃k,i=k+1:=⟨i-1,by lia⟩
  have ex:(jl st')[lo+(k+1)]?=some ((jl st')[lo+(k+1)]'(by lia)):=aj (by lia)
  have ey:(jl st')[lo+(k+1)-1]?=some ((jl st')[lo+k]'(by lia)):=aj (by lia)
  refine jc (C.at ex ey (hp _ (aQq ex)) (hp _ (aQq ey)) hk ?_);cases e:lt ((jl st')[lo+(k+1)]'(by lia)) ((jl st')[lo+k]'(by lia)) with
  |true=>exact jd ⟨_,rfl,rfl,h3,h4,h5,.inr ⟨_,_,ex,ey,e⟩⟩
  |false =>
   refine jd ⟨rfl,rfl,by lia,h2,PD C hp h5 (λx y hx hy=>?_) (by lia)⟩
   have hy':(jl st')[lo+(k+1)-1]?=some y:=hy;rw[ex]at hx;rw[ey]at hy';cases hx;cases hy';exact e
 case fin =>
  rintro c st' ⟨rfl,rfl,h3,h4,h5⟩;have e:max a nrem=nrem:=ik han;rw[e]at h3 h4 h5 ⊢;exact⟨nrem,rfl,rfl,h3,ai _,h5,.inl rfl⟩
theorem Bm{i j:Nat}{st:SortSt}{Q:Unit->SortSt->Prop}(h:Q () (jE st (mirror (jl st) i j ((j-i) / 2)))):wpS (ja prog w) A E s (kG i j) Q st:=by
 rw[reverseSlice'_eq];exact kj h
structure wU (xs ys:Array iZ) (lo hi:Nat):Prop where
 pm:ys.Perm xs
 out:∀k,(k<lo∨hi<=k)->ys[k]?=xs[k]?
theorem wU.refl(xs:Array iZ) (lo hi:Nat):wU xs xs lo hi:=⟨gP.refl _,λ_ _=>rfl⟩
theorem wU.trans{xs ys zs:Array iZ}{lo hi:Nat}(a:wU xs ys lo hi) (b:wU ys zs lo hi):wU xs zs lo hi:=⟨b.pm.trans a.pm,λk h=>(b.out k h).trans (a.out k h)⟩
theorem wU.mono{xs ys:Array iZ}{lo hi hi':Nat}(a:wU xs ys lo hi) (h:hi<=hi'):wU xs ys lo hi':=⟨a.pm,λk q=>a.out k (by lia)⟩
theorem wU.size{xs ys:Array iZ}{lo hi:Nat}(a:wU xs ys lo hi):ys.size=xs.size:=a.pm.size_eq
theorem wU.mem{xs ys:Array iZ}{lo hi:Nat}(a:wU xs ys lo hi) {P:iZ->Prop}(h:∀x,x∈xs->P x):∀x,x∈ys->P x:=λx hx=>h x (a.pm.mem_iff.mp hx)
theorem wz{xs:Array iZ}{lo hi i j:Nat}(hj:j<=xs.size) (h1:lo<=i) (h2:j<=hi):wU xs (mirror xs i j ((j-i) / 2)) lo hi :=
 ⟨mirror_perm _ _ _ _,λk hk=>by rw[kx hj,nQ (by lia)]⟩
structure CR (lt:iZ->iZ->Bool) (as:Array iZ) (lo i q:Nat) (ys:Array iZ):Prop where
 b:wU as ys lo (lo+i)
 d:QE lt ys lo (lo+i)
 e:XA lt ys (lo+i-(q+1)) (lo+i)
 p:q+1<=i
theorem Bn(C:wR prog w A s κ P lt) {ys:Array iZ}(hp:∀x,x∈ys->P x) {i j:Nat}(h:j<=i+1):XA lt ys i j:=by
 intro p q x y g1 g2 g3 g4 gx gy;have e:p=q:=by lia
 subst e;rw[gx]at gy;cases gy;exact C.refl (hp _ (aQq gx))
theorem VY(C:wR prog w A s κ P lt) {lo nrem k neq:Nat}{st:SortSt}{ys:Array iZ}(hp:∀x,x∈jl st->P x) (hk:kindOf st=κ) (hz:lo+nrem<=(jl st).size) (hi:k+1<nrem) (g:CR lt (jl st) lo (k+1) neq ys) :
  wpS (ja prog w) A E s (ZV lo (k+1) neq) (λr FR=>∃m q zs,FR=jE st zs/\m<=nrem/\CR lt (jl st) lo m q zs/\(r = .done (none,m,q)∨r = .yield (none,m,q)/\m=k+1+1)) (jE st ys):=by
 have g1:=g.b;have g2:=g.d;have g3:=g.e;have g4:=g.p;have hpy:=g1.mem hp;have hsz:=g1.size;have ex:ys[lo+(k+1)]?=some (ys[lo+(k+1)]'(by lia)):=aj (by lia)
 have ey:ys[lo+(k+1)-1]?=some (ys[lo+k]'(by lia)):=aj (by lia)
 have px:=hpy _ (aQq ex);have py:=hpy _ (aQq ey);have des:lt (ys[lo+k]'(by lia)) (ys[lo+(k+1)]'(by lia))=false->QE lt ys lo (lo+(k+1+1)):=λe=>FU C hpy g2 (λx y hx hy=>by
  have hy':ys[lo+(k+1)-1]?=some y:=hy;rw[ex]at hx;rw[ey]at hy';cases hx;cases hy';exact e) (by lia)
 refine jc (C.at (st:=jE st ys) ex ey px py hk ?_);cases e:lt (ys[lo+(k+1)]'(by lia)) (ys[lo+k]'(by lia)) with
 |true =>
  have g2':=des (C.asym _ _ px py e);dsimp only;rw[nP rfl]
  by_cases cn:neq>0
  .rw [nP cn];refine jc (Bm (jd ?_));have bt:wU (jl st) (mirror ys (lo+(k+1)-(neq+1)) (lo+(k+1)) ((lo+(k+1)-(lo+(k+1)-(neq+1))) / 2)) lo (lo+(k+1)):=g1.trans (wz (by lia) (by lia) (ai _))
   exact⟨_,0,_,rfl,hi,⟨bt.mono (by lia),yQ (by lia) (by lia) (by lia) g3 g2',Bn C (bt.mem hp) (by lia),by lia⟩,.inr ⟨rfl,rfl⟩⟩
  .rw [nQ cn];exact jd ⟨_,0,ys,rfl,hi,⟨g1.mono (by lia),g2',Bn C hpy (by lia),by lia⟩,.inr ⟨rfl,rfl⟩⟩
 |false =>
  dsimp only;rw[nQ (by decide)]
  refine jc (C.at (st:=jE st ys) ey ex py px hk ?_);cases e':lt (ys[lo+k]'(by lia)) (ys[lo+(k+1)]'(by lia)) with
  |true=>exact jd ⟨_,neq,ys,rfl,bZ hi,g,.inl rfl⟩
  |false =>
   refine jd ⟨_,neq+1,ys,rfl,hi,⟨g1.mono (by lia),des e',?_,by lia⟩,.inr ⟨rfl,rfl⟩⟩
   intro p q x y h1 h2 h3 h4 gx gy;have qx:=hpy _ (aQq gx);have qy:=hpy _ (aQq gy)
   by_cases cp:p=lo+(k+1)
   .subst cp;rw[ex]at gx;cases gx
    by_cases cq:q=lo+(k+1)
    .subst cq;rw[ex]at gy;cases gy;exact C.refl px
    .exact C.trans _ _ _ qy py px (g3 (lo+(k+1)-1) q _ _ (by lia) (by lia) (by lia) (by lia) ey gy) e
   .by_cases cq:q=lo+(k+1)
    .subst cq;rw[ex]at gy;cases gy;exact C.trans _ _ _ px py qx e' (g3 p (lo+(k+1)-1) _ _ (by lia) (by lia) (by lia) (by lia) gx ey)
    .exact g3 p q x y (by lia) (by lia) (by lia) (by lia) gx gy
abbrev WH(lt:iZ->iZ->Bool) (st:SortSt) (lo nrem:Nat) (Q:Option Nat->SortSt->Prop):=∀n xs,1<=n->n<=nrem->wU (jl st) xs lo (lo+n)->yq lt xs lo (lo+n)->Q (some n) (jE st xs)
theorem N6(C:wR prog w A s κ P lt) {lo nrem m:Nat}{st:SortSt}{ys:Array iZ}{Q:Option Nat->SortSt->Prop}(hp:∀x,x∈jl st->P x) (hk:kindOf st=κ) (hz:lo+nrem<=(jl st).size) (h:WH lt st lo nrem Q)
  (h1:1<=m) (h2:m<=nrem) (b:wU (jl st) ys lo (lo+m)) (d:QE lt ys lo (lo+m)):wpS (ja prog w) A E s (Yy lo nrem m) Q (jE st ys):=by
 refine jc (Bm ?_);have hsz:=b.size;have f1:=HS (by lia) d
 have f2:=b.trans (wz (i:=lo) (j:=lo+m) (by lia) (ai _) (ai _))
 refine jc (jG (GS (st:=jE st _) C (f2.mem hp) hk h1 h2 (bC hz (eN f2.size.symm)) f1) ?_);rintro c FR ⟨n',rfl,rfl,n1',n2',s1',_⟩;exact jd (h n' _ (by lia) n2' (f2.mono (by lia)) s1')
theorem Nv(C:wR prog w A s κ P lt) {lo nrem n:Nat}{st:SortSt}{xs:Array iZ}{Q:Option Nat->SortSt->Prop}(hp:∀x,x∈jl st->P x) (hk:kindOf st=κ) (hz:lo+nrem<=(jl st).size) (h:WH lt st lo nrem Q)
  (hn:n<nrem) (b:wU (jl st) xs lo (lo+n)) (d:QE lt xs lo (lo+(n+1))):wpS (ja prog w) A E s (YO lo nrem n) Q (jE st xs):=by
 refine jc (vA (jc (jG (jD
  (I:=λi c FR=>∃q ys,c=(none,i,q)/\FR=jE st ys/\i<=nrem/\CR lt (jl st) lo i q ys)
  (Q:=λc FR=>∃m q ys,c=(none,m,q)/\FR=jE st ys/\m<=nrem/\CR lt (jl st) lo m q ys)
  ?_ ?_ ⟨0,xs,rfl,rfl,hn,b.mono (by lia),d,Bn C (b.mem hp) (by lia),by lia⟩) ?_)))
 .rintro i c FR _ hi ⟨q,ys,rfl,rfl,_,g⟩;obtain⟨k,rfl⟩:∃k,i=k+1:=⟨i-1,by have:=g.p;lia⟩
  refine jG (VY C hp hk hz hi g) λr FR hr=>?_
  obtain⟨m,q,zs,rfl,hm,g',rfl|⟨rfl,rfl⟩⟩:=hr
  .exact ⟨m,q,zs,rfl,rfl,hm,g'⟩
  .exact ⟨q,zs,rfl,rfl,hm,g'⟩
 .rintro c FR ⟨q,ys,rfl,rfl,hm,g⟩;exact⟨_,q,ys,rfl,rfl,hm,g⟩
 .rintro c FR ⟨m,q,ys,rfl,rfl,hm,g⟩;have hsz:=g.b.size;have gp:=g.p;dsimp only
  by_cases cn:q>0
  .rw [nP cn];exact jc (Bm (N6 (st:=st) (ys:=mirror ys (lo+m-(q+1)) (lo+m) ((lo+m-(lo+m-(q+1))) / 2)) C hp hk hz h (by lia) hm (g.b.trans (wz (by lia) (by lia) (ai _))) (yQ (by lia) (by lia) (ai _) g.e g.d)))
  .rw [nQ cn];exact N6 C hp hk hz h (by lia) hm g.b g.d
theorem Fy(C:wR prog w A s κ P lt) {lo nrem:Nat}{st:SortSt}{Q:Option Nat->SortSt->Prop}(hp:∀x,x∈jl st->P x) (hk:kindOf st=κ) (h1:1<=nrem) (hz:lo+nrem<=(jl st).size)
  (h:∀n xs,1<=n->n<=nrem->wU (jl st) xs lo (lo+n)->yq lt xs lo (lo+n)->Q (some n) (jE st xs)):wpS (ja prog w) A E s (countRun' lo nrem) Q st:=by
 rw[Wa];refine jc (jG (GS C hp hk (ai 1) h1 hz (Sj C hp lo)) ?_);rintro c st' ⟨n,rfl,rfl,n1,n2,sg1,brk⟩;dsimp only;have triv:Q (some n) st':=h n (jl st') n1 n2 (wU.refl _ _ _) sg1
 by_cases c1:n=nrem
 .rw [nP (by simp[c1])]
  exact jd triv
 rw[nQ (by simpa using c1)]
 obtain⟨xb,yb,exb,eyb,eb⟩:=brk.resolve_left c1;obtain⟨m,rfl⟩:∃m,n=m+1:=⟨n-1,by lia⟩
 have pxb:=hp _ (aQq exb);have pyb:=hp _ (aQq eyb);have go:XA lt (jl st') lo (lo+(m+1))->QE lt (jl st') lo (lo+(m+1+1)):=λe1 =>
  FU C hp (λp q x y g1 g2 g3 ex ey=>e1 p q x y g1 (by lia) (by lia) g3 ex ey) (λx y hx hy=>by
   have hy':(jl st')[lo+(m+1)-1]?=some y:=hy;rw[exb]at hx;rw[eyb]at hy';cases hx;cases hy';exact C.asym _ _ pxb pyb eb) (by lia)
 by_cases c2:m+1>1
 .rw [nP c2];have ex:(jl st')[lo]?=some ((jl st')[lo]'(by lia)):=aj (by lia)
  have pex:=hp _ (aQq ex);refine jc (C.at ex eyb pex pyb hk ?_);cases e:lt ((jl st')[lo]'(by lia)) yb with
  |true=>exact jd triv
  |false =>
   dsimp only;rw[nQ (by decide)]
   have eqv:XA lt (jl st') lo (lo+(m+1)):=by
    intro p q x y g1 g2 g3 g4 gx gy;have px:=hp _ (aQq gx);have py:=hp _ (aQq gy);have q1:=sg1 q (lo+(m+1)-1) _ _ g3 (by lia) (by lia) gy eyb
    have q2:=sg1 lo p _ _ (ai _) g1 g2 ex gx;exact C.trans _ _ _ py pex px (C.trans _ _ _ py pyb pex q1 e) q2
   exact jc (Bm (Nv C hp hk hz h (by lia) (wz (by lia) (ai _) (ai _)) (yQ (by lia) (ai _) (by lia) eqv (go eqv))))
 .rw [nQ c2];exact Nv C hp hk hz h (by lia) (wU.refl _ _ _) (go (Bn C hp (by lia)))
end
section
variable {prog:jg}{w:ji}{A:Around}{E:Value->Shared->Prop}{s:Shared}{κ:jx}{P:iZ->Prop}{lt:iZ->iZ->Bool}
theorem RC(C:wR prog w A s κ P lt) {xs:Array iZ}(hp:∀x,x∈xs->P x) {lo k l:Nat}(hz:lo+k<xs.size) (hl:l<=k) (hs:yq lt xs lo (lo+k)) {x:iZ}(hx:xs[lo+k]?=some x)
  (h1:∀j y,j<l->xs[lo+j]?=some y->lt x y=false) (h2:∀j y,l<=j->j<k->xs[lo+j]?=some y->lt x y=true):yq lt (bubble xs (lo+k) (k-l)) lo (lo+(k+1)):=by
 have px:=hp _ (aQq hx);have g:∀p,(bubble xs (lo+k) (k-l))[p]?=if p=lo+l then some x else if lo+l<p/\p<=lo+k then xs[p-1]? else xs[p]?:=λp=>by
  rw[getElem?_bubble hz (k-l) (by lia) p,show lo+k-(k-l)=lo+l by lia,hx]
 intro p q u v a1 a2 a3 eu ev;rw[g]at eu ev
 by_cases cp:p=lo+l
 .rw [nP cp]at eu;cases eu
  by_cases cq:q=lo+l
  .rw [nP cq]at ev;cases ev;exact C.refl px
  .rw [nQ cq,nP ⟨by lia,by lia⟩]at ev
   have pv:=hp _ (aQq ev);exact C.asym _ _ px pv (h2 (q-1-lo) v (by lia) (by lia) (by rw[show lo+(q-1-lo)=q-1 by lia];exact ev))
 .rw [nQ cp]at eu
  by_cases cp2:lo+l<p/\p<=lo+k
  .rw [nP cp2]at eu;rw[nQ (by lia),nP ⟨by lia,by lia⟩]at ev
   exact hs (p-1) (q-1) _ _ (by lia) (by lia) (by lia) eu ev
  .rw [nQ cp2]at eu
   by_cases cq:q=lo+l
   .rw [nP cq]at ev;cases ev;exact h1 (p-lo) u (by lia) (by rw[show lo+(p-lo)=p by lia];exact eu)
   .rw [nQ cq]at ev
    by_cases cq2:lo+l<q/\q<=lo+k
    .rw [nP cq2]at ev;exact hs p (q-1) _ _ a1 (by lia) (by lia) eu ev
    .rw [nQ cq2]at ev;exact hs p q _ _ a1 a2 (by lia) eu ev
theorem IA{xs:Array iZ}{lo k l n:Nat}(hz:lo+k<xs.size) (hl:l<=k) (hn:k<n):wU xs (bubble xs (lo+k) (k-l)) lo (lo+n) :=
 ⟨bubble_perm _ _ _,λp hp=>by rw[getElem?_bubble hz (k-l) (by lia) p,nQ (by lia),nQ (by lia)]⟩
theorem OG{src dst:Nat}{st:SortSt}{Q:Unit->SortSt->Prop}(h:Q () (jE st (bubble (jl st) src (src-dst)))):wpS (ja prog w) A E s (moveDown' src dst) Q st:=by
 rw[moveDown'_eq];exact kj h
theorem HX(C:wR prog w A s κ P lt) {lo n ok:Nat}{st:SortSt}{Q:Bool->SortSt->Prop}(hp:∀x,x∈jl st->P x) (hk:kindOf st=κ) (h1:1<=ok) (h2:ok<=n) (hz:lo+n<=(jl st).size) (hs:yq lt (jl st) lo (lo+ok))
  (h:∀xs,wU (jl st) xs lo (lo+n)->yq lt xs lo (lo+n)->Q true (jE st xs)):wpS (ja prog w) A E s (binarySort' lo n ok) Q st:=by
 rw[binarySort'_eq];dsimp only;rw[Nat.max_eq_left h1];refine jc (jG (jD (I:=λk c st'=>∃ys,c=(none,())/\st'=jE st ys/\wU (jl st) ys lo (lo+n)/\yq lt ys lo (lo+k)/\k<=n)
  (Q:=λc st'=>∃ys,c=(none,())/\st'=jE st ys/\wU (jl st) ys lo (lo+n)/\yq lt ys lo (lo+n)) ?step ?fin ⟨jl st,rfl,rfl,wU.refl _ _ _,hs,h2⟩) ?post)
 case fin =>
  rintro c st' ⟨ys,rfl,rfl,b1,s1,q⟩;have e:max ok n=n:=by lia
  rw[e]at s1;exact⟨ys,rfl,rfl,b1,s1⟩
 case post =>
  rintro c st' ⟨ys,rfl,rfl,b1,s1⟩;exact jd (h ys b1 s1)
 case step =>
  rintro k c st' hk1 hk2 ⟨ys,rfl,rfl,b1,s1,q⟩;have hpy:=b1.mem hp;have hsz:=b1.size;have ex:ys[lo+k]?=some (ys[lo+k]'(by lia)):=aj (by lia)
  have px:=hpy _ (aQq ex);refine jc (jG (jD (I:=λi c st'=>∃l r,c=(none,l,r)/\st'=jE st ys/\l<=r/\r<=k/\(∀j y,j<l->ys[lo+j]?=some y->lt (ys[lo+k]'(by lia)) y=false)/\(∀j y,r<=j->j<k->ys[lo+j]?=some y->lt (ys[lo+k]'(by lia)) y=true)/\(r-l)+i<=k)
   (Q:=λc st'=>∃l r,c=(none,l,r)/\st'=jE st ys/\l=r/\r<=k/\(∀j y,j<l->ys[lo+j]?=some y->lt (ys[lo+k]'(by lia)) y=false)/\(∀j y,r<=j->j<k->ys[lo+j]?=some y->lt (ys[lo+k]'(by lia)) y=true))
   ?step1 ?fin1 ⟨0,k,rfl,rfl,aY _,ai _,λj y hj=>absurd hj (cG _),λj y g1 g2=>absurd g2 (by lia),by lia⟩) ?post1)
  case fin1 =>
   rintro c st' ⟨l,r,rfl,rfl,a1,a2,a3,a4,a5⟩;exact⟨l,r,rfl,rfl,by lia,a2,a3,a4⟩
  case step1 =>
   rintro i c st' _ hi ⟨l,r,rfl,rfl,a1,a2,a3,a4,a5⟩;dsimp only
   by_cases c1:l ≥ r
   .rw [nP c1];exact jd ⟨l,r,rfl,rfl,by lia,a2,a3,a4⟩
   rw[nQ c1];have em:ys[lo+(l+r) / 2]?=some (ys[lo+(l+r) / 2]'(by lia)):=aj (by lia)
   have pm:=hpy _ (aQq em);refine jc (C.at (st:=jE st ys) ex em px pm hk ?_);cases e:lt (ys[lo+k]'(by lia)) (ys[lo+(l+r) / 2]'(by lia)) with
   |true =>
    dsimp only;rw[nP rfl];refine jd ⟨l,_,rfl,rfl,by lia,by lia,a3,λj y g1 g2 ey=>?_,by lia⟩
    have py:=hpy _ (aQq ey);cases e':lt (ys[lo+k]'(by lia)) y with
    |true=>rfl
    |false =>
     have q1:=s1 (lo+(l+r) / 2) (lo+j) _ _ (by lia) (by lia) (by lia) em ey
     have q2:=C.trans _ _ _ pm py px q1 e';rw[e]at q2;cases q2
   |false =>
    dsimp only;rw[nQ (by decide)]
    refine jd ⟨_,r,rfl,rfl,by lia,a2,λj y g1 ey=>?_,a4,by lia⟩
    have py:=hpy _ (aQq ey);exact C.trans _ _ _ py pm px (s1 (lo+j) (lo+(l+r) / 2) _ _ (by lia) (by lia) (by lia) ey em) e
  case post1 =>
   rintro c st' ⟨l,r,rfl,rfl,rfl,a2,a3,a4⟩;dsimp only;refine jc (OG (jd ?_));have e:lo+k-(lo+l)=k-l:=by lia
   show ∃ys',_/\jE st (bubble ys (lo+k) (lo+k-(lo+l)))=jE st ys'/\_;rw[e];exact⟨_,rfl,rfl,b1.trans (IA (by lia) a2 hk2),RC C hpy (by lia) a2 s1 ex a3 a4,hk2⟩
end
def qV(lt:iZ->iZ->Bool) (xs:Array iZ):Nat->List (Nat×Nat×Nat)->Nat->Prop
 |s,[],e=>s=e
 |s,p::r,e=>p.1=s/\0<p.2.1/\yq lt xs s (s+p.2.1)/\qV lt xs (s+p.2.1) r e
theorem sF{lt:iZ->iZ->Bool}{xs:Array iZ}:∀{q r:List (Nat×Nat×Nat)}{s e:Nat},qV lt xs s (q++r) e↔∃m,qV lt xs s q m/\qV lt xs m r e
 | [],r,s,e=>by
  constructor
  .intro h;exact⟨s,rfl,h⟩
  .rintro ⟨m,rfl,h⟩;exact h
 |p::q,r,s,e=>by
  constructor
  .rintro ⟨h1,h2,h3,h4⟩;obtain⟨m,a,b⟩:=sF.mp h4;exact⟨m,⟨h1,h2,h3,a⟩,b⟩
  .rintro ⟨m,⟨h1,h2,h3,a⟩,b⟩;exact⟨h1,h2,h3,sF.mpr ⟨m,a,b⟩⟩
theorem xP{lt:iZ->iZ->Bool}{xs:Array iZ}:∀{q:List (Nat×Nat×Nat)}{s e:Nat},qV lt xs s q e->s+q.length<=e
 | [],s,e,h=>by have:s=e:=h;simp[this]
 |p::q,s,e,hz=>by
  obtain⟨_,h2,_,h4⟩:=hz;have:=xP h4;rw[lCq];lia
theorem uW{lt:iZ->iZ->Bool}{xs ys:Array iZ}:∀{q:List (Nat×Nat×Nat)}{s e:Nat},(∀k,s<=k->k<e->ys[k]?=xs[k]?)->qV lt xs s q e->qV lt ys s q e
 | [],s,e,_,h=>h
 |p::q,s,e,g,hz=>by
  obtain⟨h1,h2,h3,h4⟩:=hz;have l:=xP h4;refine⟨h1,h2,λa b x y a1 a2 a3 ex ey=>h3 a b x y a1 a2 a3 ?_ ?_,uW (λk k1 k2=>g k (by lia) k2) h4⟩
  .rw [←g a a1 (by lia)];exact ex
  .rw [←g b (by lia) (by lia)];exact ey
theorem zH{lt:iZ->iZ->Bool}{xs:Array iZ}:∀{q q':List (Nat×Nat×Nat)}{s e:Nat},q'.map (λp=>(p.1,p.2.1))=q.map (λp=>(p.1,p.2.1))->qV lt xs s q e->qV lt xs s q' e
 | [],q',s,e,g,h=>by
  have:q'=[]:=by simpa using g
  subst this;exact h
 |p::q,[],s,e,g,h=>by simp at g
 |p::q,p'::q',s,e,g,hz=>by
  obtain⟨h1,h2,h3,h4⟩:=hz;simp only[aB,List.cons.injEq,Prod.mk.injEq]at g;obtain⟨⟨g1,g2⟩,g3⟩:=g;rw[←g2]at h2 h3 h4;exact⟨g1.trans h1,h2,h3,zH g3 h4⟩
theorem Ef(o:Nat):∀(M:List iZ) (n:Nat) (xs:Array iZ),o+n+M.length<=xs.size ->
  ((M.zipIdx n).foldl (λa x=>a.setIfInBounds (o+x.2) x.1) xs).toList=xs.toList.take (o+n)++M++xs.toList.drop (o+n+M.length)
 | [],n,xs,h=>by simp
 |y::r,n,xs,h=>by
  rw[List.zipIdx_cons,bV];rw[lCq]at h;rw[Ef o r (n+1) _ (by rw[Array.size_setIfInBounds];lia),fL]
  have hl:o+n<xs.toList.length:=by rw[ax];lia
  have e1:(xs.toList.set (o+n) y).take (o+(n+1))=xs.toList.take (o+n)++[y]:=by
   rw[←ff,de,aG hl,List.take_set_of_le (ai _)];rfl
  have e2:(xs.toList.set (o+n) y).drop (o+(n+1)+r.length)=xs.toList.drop (o+n+(r.length+1)):=by
   rw[List.drop_set_of_lt (by lia)]
   congr 1;lia
  rw[e1,e2,lCq,aF,aF,aF];rfl
section
variable {prog:jg}{w:ji}{A:Around}{E:Value->Shared->Prop}{s:Shared}{κ:jx}{P:iZ->Prop}{lt:iZ->iZ->Bool}
theorem JO(C:wR prog w A s κ P lt) {left:Bool}{key:iZ}{arr:Array iZ}{base n:Nat}(hb:base+n<=arr.size) (ha:∀x,x∈arr->P x) (hkey:P key) (so:yq lt arr base (base+n)) :
  ∀i j,i<=j->j<n->vY lt left key arr base j=true->vY lt left key arr base i=true:=by
 intro i j hij hj h;have ei:arr[base+i]?=some (arr[base+i]'(by lia)):=aj (by lia)
 have ej:arr[base+j]?=some (arr[base+j]'(by lia)):=aj (by lia)
 have pi:=ha _ (aQq ei);have pj:=ha _ (aQq ej);have le:=so (base+i) (base+j) _ _ (by lia) (by lia) (by lia) ei ej
 rw[sj ej]at h;rw[sj ei];cases left with
 |true =>
  rw[nP rfl]at h ⊢;cases q:lt (arr[base+i]'(by lia)) key with
  |true=>rfl
  |false =>
   have:=C.trans _ _ _ hkey pi pj q le;rw[h]at this;cases this
 |false =>
  rw[nQ (by decide)]at h ⊢
  have h':lt key (arr[base+j]'(by lia))=false:=by simpa using h
  have:=C.trans _ _ _ pi pj hkey le h';simp[this]
theorem rQ{a:Array iZ}{i j:Nat}{x:iZ}(h:x∈(a.extract i j).toList):∃k,i<=k/\k<j/\a[k]?=some x:=by
 rw[qe]at h;obtain⟨k,k1,k2,e⟩:=uv h;rw[bL]at e;exact⟨k,k1,k2,e⟩
theorem AW{a:Array iZ}{i j:Nat}(h:yq lt a i j):wt lt (a.extract i j).toList:=by
 rw[qe];refine bJ.mpr λp q hp hq hpq=>?_
 rw[aR,lTq,ax]at hp hq;have e:∀k (hk:k<((a.toList.take j).drop i).length),a[i+k]?=some ((a.toList.take j).drop i)[k]:=λk hk=>by
  rw[aR,lTq,ax]at hk;rw[eU,fP,aJ];exact⟨by lia,by simp⟩
 exact h (i+p) (i+q) _ _ (by lia) (by lia) (by lia) (e p _) (e q _)
theorem GX(i:Nat):mergeAt' i=(do
 let s ←get
 let (some (sa,na,power),some (sb,nb,_)):=((jX s)[i]?,(jX s)[i+1]?)|kq "internal:list.sort.pending"
 set (setPending s (((jX s).setIfInBounds i (sa,na+nb,power)).eraseIdxIfInBounds (i+1)))
 let some k ←uT false (←jJ (jl s) sb) (jl s) sa na 0|return false
 let (sa,na):=(sa+k,na-k)
 if na == 0 then return true
 let some nb ←uT true (←jJ (jl s) (sa+na-1)) (jl s) sb nb (nb-1)|return false
 if nb == 0 then return true
 let x:=(jl s).extract sa sb
 let y:=(jl s).extract sb (sb+nb)
 let merged ←if na<=nb then BV x y else CN x y
 modify λs=>jE s (merged.toList.zipIdx.foldl (λa (p,j)=>a.setIfInBounds (sa+j) p) (jl s))
 return (failedOf (←get)).isNone):=rfl
theorem Lc{st st':SortSt}{Q:PUnit->SortSt->Prop}(h:Q ⟨⟩ st'):wpS (ja prog w) A E s (set st':StateT SortSt Sem PUnit) Q st:=by
 unfold wpS;rw[StateT.run_set];exact je ⟨rfl,h⟩
theorem NS(C:wR prog w A s κ P lt) {xs zs M:Array iZ}{sa na nb k l:Nat}(hp:∀x,x∈xs->P x) (hz:sa+na+nb<=xs.size) (hk:k<=na) (hl:l<=nb) (h1:yq lt xs sa (sa+na)) (h2:yq lt xs (sa+na) (sa+na+nb)) {key last:iZ}
  (ek:xs[sa+na]?=some key) (el:xs[sa+na-1]?=some last)
  (k2:∀j y,j<k->xs[sa+j]?=some y->lt key y=false) (l3:∀j y,l<=j->j<nb->xs[sa+na+j]?=some y->lt y last=false) (hna:0<na) (hnb:0<nb)
  (m:Qz lt (xs.extract (sa+k) (sa+na)) (xs.extract (sa+na) (sa+na+l)) M)
  (hzs:zs.toList=xs.toList.take (sa+k)++M.toList++xs.toList.drop (sa+k+M.toList.length)):wU xs zs sa (sa+na+nb)/\yq lt zs sa (sa+na+nb):=by
 have lM:M.toList.length=(na-k)+l:=by
  have:=m.pm.length_eq;simp only[lAq,ax,eI]at this ⊢;lia
 have hlx:xs.toList.length=xs.size:=ax;have gz:∀p,zs[p]?=if p<sa+k then xs[p]? else if p<sa+na+l then M[p-(sa+k)]? else xs[p]?:=λp=>by
  rw[←aH,hzs]
  by_cases c1:p<sa+k
  .rw [nP c1,aF,gZq (by rw[lTq];lia),dq c1,aH]
  .rw [nQ c1,aF,gYq (by rw[lTq];lia),lTq,show min (sa+k) xs.toList.length=sa+k by lia]
   by_cases c2:p<sa+na+l
   .rw [nP c2,gZq (by lia),aH]
   .rw [nQ c2,gYq (by lia),cS,aH]
    congr 1;lia
 have pk:=hp _ (aQq ek);have pl:=hp _ (aQq el);have from_:∀q v,M[q]?=some v->(∃j,k<=j/\j<na/\xs[sa+j]?=some v)∨∃j,j<l/\xs[sa+na+j]?=some v:=λq v e=>by
  have hv:v∈M.toList:=by simpa using aQq e
  rcases mAq.mp (m.pm.mem_iff.mp hv) with hv|hv
  .obtain ⟨j,j1,j2,ej⟩:=rQ hv;exact .inl ⟨j-sa,by lia,by lia,by rw[show sa+(j-sa)=j by lia];exact ej⟩
  .obtain ⟨j,j1,j2,ej⟩:=rQ hv;exact .inr ⟨j-(sa+na),by lia,by rw[show sa+na+(j-(sa+na))=j by lia];exact ej⟩
 refine⟨⟨?_,λp hp'=>?_⟩,?_⟩
 .rw [Array.perm_iff_toList_perm,hzs];have c:xs.toList=xs.toList.take (sa+k)++((xs.extract (sa+k) (sa+na)).toList++(xs.extract (sa+na) (sa+na+l)).toList)++xs.toList.drop (sa+k+M.toList.length):=by
   rw[qe,qe,lM];have a1:=zF xs.toList (sa+k) (sa+na) (by lia)
   have a2:=zF xs.toList (sa+na) (sa+na+l) (by lia)
   have a3:sa+k+(na-k+l)=sa+na+l:=by lia
   rw[a3,←aF,←a1,←a2,bo]
  conv=>rhs;rw[c]
  exact bU.append_right _ (bU.append_left _ m.pm)
 .rw [gz]
  by_cases c1:p<sa+k
  .rw [nP c1]
  .rw [nQ c1,nQ (by lia)]
 .intro p q x y a1 a2 a3 ex ey;rw[gz]at ex ey
  by_cases p1:p<sa+k
  .rw [nP p1]at ex;have px:=hp _ (aQq ex);have lx:lt key x=false:=k2 (p-sa) x (by lia) (by rw[show sa+(p-sa)=p by lia];exact ex)
   by_cases q1:q<sa+k
   .rw [nP q1]at ey;exact h1 p q _ _ a1 a2 (by lia) ex ey
   .rw [nQ q1]at ey
    by_cases q2:q<sa+na+l
    .rw [nP q2]at ey;rcases from_ _ _ ey with ⟨j,j1,j2,ej⟩|⟨j,j1,ej⟩
     .exact h1 p (sa+j) _ _ a1 (by lia) (by lia) ex ej
     .exact C.trans _ _ _ px pk (hp _ (aQq ej)) lx (h2 (sa+na) (sa+na+j) _ _ (ai _) (by lia) (by lia) ek ej)
    .rw [nQ q2]at ey;exact C.trans _ _ _ px pk (hp _ (aQq ey)) lx (h2 (sa+na) q _ _ (ai _) (by lia) (by lia) ek ey)
  .rw [nQ p1]at ex;rw[nQ (by lia)]at ey
   by_cases p2:p<sa+na+l
   .rw [nP p2]at ex
    by_cases q2:q<sa+na+l
    .rw [nP q2]at ey;rcases eG a2 with c|c
     .have ex':M.toList[p-(sa+k)]?=some x:=by rw[aH];exact ex
      have ey':M.toList[q-(sa+k)]?=some y:=by rw[aH];exact ey
      obtain⟨hx,e1⟩:=gSq.mp ex';obtain⟨hy,e2⟩:=gSq.mp ey';have:=bJ.mp m.so (p-(sa+k)) (q-(sa+k)) hx hy (by lia)
      rw[e1,e2]at this;exact this
     .subst c;rw[ex]at ey;cases ey;rcases from_ _ _ ex with ⟨j,j1,j2,ej⟩|⟨j,j1,ej⟩
      .exact C.refl (hp _ (aQq ej))
      .exact C.refl (hp _ (aQq ej))
    .rw [nQ q2]at ey;have py:=hp _ (aQq ey);rcases from_ _ _ ex with ⟨j,j1,j2,ej⟩|⟨j,j1,ej⟩
     .exact C.trans _ _ _ (hp _ (aQq ej)) pl py (h1 (sa+j) (sa+na-1) _ _ (by lia) (by lia) (by lia) ej el) (l3 (q-(sa+na)) y (by lia) (by lia) (by rw[show sa+na+(q-(sa+na))=q by lia];exact ey))
     .exact h2 (sa+na+j) q _ _ (by lia) (by lia) (by lia) ej ey
   .rw [nQ p2]at ex;rw[nQ (by lia)]at ey
    exact h2 p q _ _ (by lia) a2 (by lia) ex ey
end
section
variable {prog:jg}{w:ji}{A:Around}{E:Value->Shared->Prop}{s:Shared}{κ:jx}{P:iZ->Prop}{lt:iZ->iZ->Bool}
theorem P4{α:Type}{l:List α}{i:Nat}{a b:α}(h1:l[i]?=some a) (h2:l[i+1]?=some b):l=l.take i++a::b::l.drop (i+2):=by
 obtain⟨h3,e3⟩:=gSq.mp h1;obtain⟨h4,e4⟩:=gSq.mp h2
 conv=>lhs;rw[←bo i l]
 rw[aL h3,aL h4,e3,e4]
theorem Ld{α:Type}{q r:List α}{a b c:α}:((q++a::b::r).set q.length c).eraseIdx (q.length+1)=q++c::r:=by
 rw[gD _ _ (ai _),cf,cT,List.eraseIdx_append_of_length_le (by lia),dG]
 rfl
theorem AQ(C:wR prog w A s κ P lt) {i lo:Nat}{st:SortSt}{Q:Bool->SortSt->Prop}(hp:∀x,x∈jl st->P x) (hk:kindOf st=κ) (hf:failedOf st=none) (hlo:lo<=(jl st).size) (hch:qV lt (jl st) 0 (jX st).toList lo)
  (hi:i+1<(jX st).size) (h:∀xs p g,wU (jl st) xs 0 lo->p.size+1=(jX st).size->qV lt xs 0 p.toList lo->Q true (SortSt.mk' κ xs p g none)):wpS (ja prog w) A E s (mergeAt' i) Q st:=by
 obtain⟨κ',arr,pend,g0,fl⟩:=st;have hk:κ'=κ:=hk;have hf:fl=none:=hf;subst hk hf;have hp:∀x,x∈arr->P x:=hp;have hlo:lo<=arr.size:=hlo;have hch:qV lt arr 0 pend.toList lo:=hch;have hi:i+1<pend.size:=hi;have e1:pend[i]?=some (pend[i]'(by lia)):=aj (by lia)
 have e2:pend[i+1]?=some (pend[i+1]'(by lia)):=aj (by lia)
 generalize pend[i]'(by lia)=a at e1
 generalize pend[i+1]'(by lia)=b at e2
 obtain⟨sa,na,pa⟩:=a;obtain⟨sb,nb,pb⟩:=b;have e1':pend.toList[i]?=some (sa,na,pa):=by rw[aH];exact e1
 have e2':pend.toList[i+1]?=some (sb,nb,pb):=by rw[aH];exact e2
 have ep:=P4 e1' e2';have lq:(pend.toList.take i).length=i:=by rw[lTq,ax];lia
 generalize pend.toList.take i=q at ep lq;generalize pend.toList.drop (i+2)=r at ep;rw[ep]at hch;obtain⟨m0,c1,c2⟩:=sF.mp hch;obtain⟨x1,x2,x3,x4,x5,x6,x7⟩:=c2;have d1:sa=m0:=x1;have d2:0<na:=x2;have d3:yq lt arr m0 (m0+na):=x3;have f1:sb=m0+na:=x4;have f2:0<nb:=x5;have f3:yq lt arr (m0+na) (m0+na+nb):=x6;have f4:qV lt arr (m0+na+nb) r lo:=x7
 clear x1 x2 x3 x4 x5 x6 x7
 subst d1 f1;have hrl:sa+na+nb+r.length<=lo:=xP f4;have hql:0+q.length<=sa:=xP c1;have hz:sa+na+nb<=arr.size:=by lia
 have np:((pend.setIfInBounds i (sa,na+nb,pa)).eraseIdxIfInBounds (i+1)).toList=q++(sa,na+nb,pa)::r:=by
  rw[Array.toList_eraseIdxIfInBounds,fL,ep,←lq];exact Ld
 have ns:((pend.setIfInBounds i (sa,na+nb,pa)).eraseIdxIfInBounds (i+1)).size+1=pend.size:=by
  rw[←ax,np,←ax,ep];simp only[lAq,lCq];lia
 have fin:∀zs g,wU arr zs sa (sa+na+nb)->yq lt zs sa (sa+na+nb)->Q true (SortSt.mk' κ' zs ((pend.setIfInBounds i (sa,na+nb,pa)).eraseIdxIfInBounds (i+1)) g none):=λzs g b1 s1=>by
  refine h zs _ g ⟨b1.pm,λk hk=>b1.out k (by lia)⟩ ns ?_
  rw[np];refine sF.mpr ⟨sa,uW (λk _ k2=>b1.out k (.inl k2)) c1,rfl,by show 0<na+nb;lia,?_,?_⟩
  .show yq lt zs sa (sa+(na+nb));rw[←ff];exact s1
  .show qV lt zs (sa+(na+nb)) r lo;rw[←ff];exact uW (λk k1 _=>b1.out k (.inr k1)) f4
 rw[GX];refine jc (ku ?_);dsimp only;rw[e1,e2];dsimp only;refine jc (Lc ?_);have ek:arr[sa+na]?=some (arr[sa+na]'(by lia)):=aj (by lia)
 have el:arr[sa+na-1]?=some (arr[sa+na-1]'(by lia)):=aj (by lia)
 have pk:=hp _ (aQq ek);have pl:=hp _ (aQq el);refine jc (om ek ?_);refine jc (sO C d2 (by lia) hp pk rfl (JO C (by lia) hp pk d3) λk k1 k2 k3=>?_)
 dsimp only;have kl:∀j y,j<k->arr[sa+j]?=some y->lt (arr[sa+na]'(by lia)) y=false:=λj y hj ey=>by
  have:=k2 j hj;rw[sj ey,nQ (by decide)]at this
  simpa using this
 have kh:∀j y,k<=j->j<na->arr[sa+j]?=some y->lt (arr[sa+na]'(by lia)) y=true:=λj y h1 h2 ey=>by
  have:=k3 j h1 h2;rw[sj ey,nQ (by decide)]at this
  simpa using this
 by_cases c1':na-k=0
 .rw [nP (by simp[c1'])]
  refine jd (fin arr g0 (wU.refl _ _ _) λp q x y a1 a2 a3 ex ey=>?_)
  have px:=hp _ (aQq ex);have py:=hp _ (aQq ey)
  by_cases q1:q<sa+na
  .exact d3 p q _ _ a1 a2 q1 ex ey
  .by_cases p1:p<sa+na
   .exact C.trans _ _ _ px pk py (kl (p-sa) x (by lia) (by rw[show sa+(p-sa)=p by lia];exact ex)) (f3 (sa+na) q _ _ (ai _) (by lia) a3 ek ey)
   .exact f3 p q _ _ (by lia) a2 a3 ex ey
 rw[nQ (by simpa using c1')]
 have ea:sa+k+(na-k)-1=sa+na-1:=by lia
 rw[ea];refine jc (om el ?_);refine jc (sO C (by lia) (by lia) hp pl rfl (JO C (by lia) hp pl f3) λl l1 l2 l3=>?_)
 dsimp only;have ll:∀j y,j<l->arr[sa+na+j]?=some y->lt y (arr[sa+na-1]'(by lia))=true:=λj y hj ey=>by
  have:=l2 j hj;rw[sj ey,nP rfl]at this;exact this
 have lh:∀j y,l<=j->j<nb->arr[sa+na+j]?=some y->lt y (arr[sa+na-1]'(by lia))=false:=λj y h1 h2 ey=>by
  have:=l3 j h1 h2;rw[sj ey,nP rfl]at this;exact this
 by_cases c2':l=0
 .rw [nP (by simp[c2'])]
  refine jd (fin arr g0 (wU.refl _ _ _) λp q x y a1 a2 a3 ex ey=>?_)
  have px:=hp _ (aQq ex);have py:=hp _ (aQq ey)
  by_cases q1:q<sa+na
  .exact d3 p q _ _ a1 a2 q1 ex ey
  .by_cases p1:p<sa+na
   .exact C.trans _ _ _ px pl py (d3 p (sa+na-1) _ _ a1 (by lia) (by lia) ex el) (lh (q-(sa+na)) y (by lia) (by lia) (by rw[show sa+na+(q-(sa+na))=q by lia];exact ey))
   .exact f3 p q _ _ (by lia) a2 a3 ex ey
 rw[nQ (by simpa using c2')]
 have sx:wt lt (arr.extract (sa+k) (sa+na)).toList:=AW λp q x y a1 a2 a3 ex ey=>d3 p q x y (by lia) a2 a3 ex ey
 have sy:wt lt (arr.extract (sa+na) (sa+na+l)).toList:=AW λp q x y a1 a2 a3 ex ey=>f3 p q x y a1 a2 (by lia) ex ey
 have hx:∀x,x∈arr.extract (sa+k) (sa+na)->P x:=λx hx=>by
  obtain⟨j,_,_,e⟩:=rQ (gJ.mpr hx);exact hp _ (aQq e)
 have hy:∀x,x∈arr.extract (sa+na) (sa+na+l)->P x:=λx hx=>by
  obtain⟨j,_,_,e⟩:=rQ (gJ.mpr hx);exact hp _ (aQq e)
 have zx:(arr.extract (sa+k) (sa+na)).size=na-k:=by rw[eI];lia
 have zy:(arr.extract (sa+na) (sa+na+l)).size=l:=by rw[eI];lia
 have g0':(arr.extract (sa+na) (sa+na+l))[0]?=some (arr[sa+na]'(by lia)):=by
  rw[gB,nP (by lia),gk]
  exact ek
 have gl':(arr.extract (sa+k) (sa+na))[na-k-1]?=some (arr[sa+na-1]'(by lia)):=by
  rw[gB,nP (by lia),show sa+k+(na-k-1)=sa+na-1 by lia]
  exact el
 have low:∀y∈(arr.extract (sa+k) (sa+na)).toList,lt y (arr[sa+na]'(by lia))=false:=λy hy=>by
  obtain⟨j,j1,j2,ej⟩:=rQ hy;exact C.asym _ _ pk (hp _ (aQq ej)) (kh (j-sa) y (by lia) (by lia) (by rw[show sa+(j-sa)=j by lia];exact ej))
 have high:∀x∈(arr.extract (sa+na) (sa+na+l)).toList,lt (arr[sa+na-1]'(by lia)) x=false:=λx hx=>by
  obtain⟨j,j1,j2,ej⟩:=rQ hx;exact C.asym _ _ (hp _ (aQq ej)) pl (ll (j-(sa+na)) x (by lia) (by rw[show sa+na+(j-(sa+na))=j by lia];exact ej))
 have done:∀M g,Qz lt (arr.extract (sa+k) (sa+na)) (arr.extract (sa+na) (sa+na+l)) M ->
   Q true (SortSt.mk' κ' (M.toList.zipIdx.foldl (λa x=>a.setIfInBounds (sa+k+x.snd) x.fst) arr) ((pend.setIfInBounds i (sa,na+nb,pa)).eraseIdxIfInBounds (i+1)) g none):=λM g mg=>by
  have lM:M.toList.length=(na-k)+l:=by
   have:=mg.pm.length_eq;simp only[lAq,ax,eI]at this ⊢;lia
  have wb:=Ef (sa+k) M.toList 0 arr (by lia)
  obtain⟨b1,s1⟩:=NS C hp hz k1 l1 d3 f3 ek el kl lh d2 f2 mg wb;exact fin _ g b1 s1
 by_cases c3:na-k<=l
 .rw [nP c3];refine jc (Hn (κ:=κ') (a:=arr.extract (sa+k) (sa+na)) (b:=arr.extract (sa+na) (sa+na+l)) C hx hy rfl sx sy (by rw[zx];lia) (by rw[zy];lia) (λx ex y hy=>?_) (λj hj x hx y hy=>?_) λM g mg=>?_)
  .rw [g0']at ex;cases ex;exact low y hy
  .have hj':j=na-k-1:=by lia
   subst hj';have:y=arr[sa+na-1]'(by lia):=by
    obtain⟨t,t1,t2⟩:=xK hy;rw[zx]at t1;have t0:t=0:=by lia
    subst t0;rw[gk,gl']at t2;exact(ba.inj t2).symm
   rw[this];exact high x hx
  .refine jc (kj ?_);refine jc (ku ?_);exact jd (done M g mg)
 .rw [nQ c3];refine jc (GZ (κ:=κ') (a:=arr.extract (sa+k) (sa+na)) (b:=arr.extract (sa+na) (sa+na+l)) C hx hy rfl sx sy (by rw[zx];lia) (by rw[zy];lia) (λx hx y hy=>?_) (λx ex y hy=>?_) λM g mg=>?_)
  .have:x=arr[sa+na]'(by lia):=by
    obtain⟨t,t1,t2⟩:=xl hx;have t0:t=0:=by lia
    subst t0;rw[bL,g0']at t2;exact(ba.inj t2).symm
   rw[this];exact low y hy
  .rw [zx,gl']at ex;cases ex;exact high y hy
  .refine jc (kj ?_);refine jc (ku ?_);exact jd (done M g mg)
end
section
variable {prog:jg}{w:ji}{A:Around}{E:Value->Shared->Prop}{s:Shared}{κ:jx}{P:iZ->Prop}{lt:iZ->iZ->Bool}
abbrev vy(κ:jx) (xs:Array iZ) (p:Array (Nat×Nat×Nat)) (g:Nat):SortSt:=SortSt.mk' κ xs p g none
theorem BR{xs:Array iZ}{p:Array (Nat×Nat×Nat)}{lo n:Nat}(h:qV lt xs 0 p.toList lo) (hn:0<n) (hs:yq lt xs lo (lo+n)):qV lt xs 0 (p.push (lo,n,0)).toList (lo+n):=by
 rw[dU];exact sF.mpr ⟨lo,h,rfl,hn,hs,rfl⟩
theorem DB(p:Array (Nat×Nat×Nat)) (i pw:Nat):(p.modify i λx=>(x.fst,x.2.fst,pw)).toList.map (λp=>(p.1,p.2.1))=p.toList.map (λp=>(p.1,p.2.1)):=by
 apply dW;intro k;rw[gMq,gMq,aH,aH,Array.getElem?_modify];split
 .cases p[k]? <;> rfl
 .rfl
theorem zC(C:wR prog w A s κ P lt) {arr:Array iZ}{g:Nat}{Q:Unit->SortSt->Prop}(hp:∀x,x∈arr->P x) (h2:2<=arr.size)
    (h:∀xs p g',xs.Perm arr->yq lt xs 0 arr.size->Q () (vy κ xs p g')):wpS (ja prog w) A E s sortRuns' Q (vy κ arr #[] g):=by
  rw[sortRuns'_eq];refine jc (ku ?_);dsimp only;have e0:jl (vy κ arr #[] g)=arr:=rfl;rw[e0];generalize minRun' arr.size arr.size 0=mr;refine jc (jG (jD
    (I:=λi c st'=>∃lo xs p g',c=(none,lo)/\st'=vy κ xs p g'/\xs.Perm arr/\lo<=arr.size/\qV lt xs 0 p.toList lo/\i<=lo)
    (Q:=λc st'=>∃xs p g',c=(none,arr.size)/\st'=vy κ xs p g'/\xs.Perm arr/\qV lt xs 0 p.toList arr.size)
    ?step ?fin ⟨0,arr,#[],g,rfl,rfl,gP.refl _,aY _,rfl,ai _⟩) ?post)
  case fin =>
    rintro c st' ⟨lo,xs,p,g',rfl,rfl,q1,q2,q3,q4⟩;have e:lo=arr.size:=by lia
    subst e;exact⟨xs,p,g',rfl,rfl,q1,q3⟩
  case step =>
    rintro i c st' _ hi ⟨lo,xs,p,g',rfl,rfl,q1,q2,q3,q4⟩;dsimp only;have hpx:∀x,x∈xs->P x:=λx hx=>hp x (q1.mem_iff.mp hx)
    have hzx:xs.size=arr.size:=q1.size_eq
    by_cases c1:lo ≥ arr.size
    . rw[nP c1]
      have e:lo=arr.size:=by lia
      subst e;exact jd ⟨xs,p,g',rfl,rfl,q1,q3⟩
    rw[nQ c1];refine jc (Fy (st:=vy κ xs p g') C hpx rfl (by lia) (by show lo+(arr.size-lo)<=xs.size;lia) λn ys n1 n2 b1 s1=>?_)
    dsimp only;have hb:wU xs ys lo (lo+n):=b1;show wpS _ _ _ _ _ _ (vy κ ys p g')
    by_cases c2:n<mr
    all_goals
      first
        | (rw[nP c2]
           refine jc (vA ?_);refine jc (HX (st:=vy κ ys p g') (n:=min (arr.size-lo) mr) C (hb.mem hpx) rfl n1 (by lia) (by show lo+min (arr.size-lo) mr<=ys.size;have:=hb.size;lia) s1 λzs b2 s2=>?_)
           rw[nQ (by decide)]
           have hb2:wU xs zs lo (lo+min (arr.size-lo) mr):=(hb.mono (by lia)).trans b2
           have nn:1<=min (arr.size-lo) mr:=by lia
           have nl:lo+min (arr.size-lo) mr<=arr.size:=by lia
           show wpS _ _ _ _ _ _ (vy κ zs p g')
           clear b1 s1 hb b2
           generalize min (arr.size-lo) mr=nN at hb2 nn nl s2 ⊢)
        | (rw[nQ c2]
           have hb2:=hb;have s2:=s1;have nn:=n1;have nl:lo+n<=arr.size:=by lia
           clear b1 s1 hb
           generalize hnN:n=nN at hb2 nn nl s2 ⊢;generalize hzs:ys=zs at hb2 s2 ⊢)
      have hpz:=hb2.mem hpx;have hzz:=hb2.size;have hcz:qV lt zs 0 p.toList lo:=uW (λk _ k2=>hb2.out k (.inl k2)) q3
      have pz:zs.Perm arr:=hb2.pm.trans q1;refine jc (ku ?_);have ep:jX (vy κ zs p g')=p:=rfl;rw[ep];cases eb:p.back? with
      |none =>
        dsimp only;refine jc (kj (jd ?_));exact⟨lo+nN,zs,p.push (lo,nN,0),g',rfl,rfl,pz,nl,BR hcz nn s2,by lia⟩
      |some t =>
        obtain⟨s1',n1',pw0⟩:=t;dsimp only;refine jc (jG (jD
          (I:=λi c st'=>∃ys q g2,c=(none,())/\st'=vy κ ys q g2/\wU zs ys 0 lo/\qV lt ys 0 q.toList lo)
          (Q:=λc st'=>∃ys q g2,c=(none,())/\st'=vy κ ys q g2/\wU zs ys 0 lo/\qV lt ys 0 q.toList lo)
          ?step1 (λc st' hh=>hh) ⟨zs,p,g',rfl,rfl,wU.refl _ _ _,hcz⟩) ?post1)
        case step1 =>
          rintro j c st' _ hj ⟨ys2,q,g2,rfl,rfl,b3,ch3⟩;refine jc (ku ?_);have eq:jX (vy κ ys2 q g2)=q:=rfl;rw[eq]
          by_cases d1:q.size>1
          . rw[nP d1]
            have eo:q[q.size-2]?=some (q[q.size-2]'(by lia)):=aj (by lia)
            rw[eo];generalize q[q.size-2]'(by lia)=o
            obtain⟨o1,o2,older⟩:=o;dsimp only;split
            . exact jd ⟨ys2,q,g2,rfl,rfl,b3,ch3⟩
            . refine jc (AQ (st:=vy κ ys2 q g2) C (b3.mem hpz) rfl rfl (by show lo<=ys2.size;have:=b3.size;lia) ch3 (by show q.size-2+1<q.size;lia) λxs3 p3 g3 b4 _ ch4=>?_)
              rw[nQ (by decide)]
              exact jd ⟨xs3,p3,g3,rfl,rfl,b3.trans b4,ch4⟩
          . rw[nQ d1]
            exact jd ⟨ys2,q,g2,rfl,rfl,b3,ch3⟩
        case post1 =>
          rintro c st' ⟨ys2,q,g2,rfl,rfl,b3,ch3⟩;dsimp only;refine jc (kj (jc (kj (jd ?_))));have s3:yq lt ys2 lo (lo+nN):=λa b x y a1 a2 a3 ex ey=>s2 a b x y a1 a2 a3 (by rw[←b3.out a (.inr a1)];exact ex) (by rw[←b3.out b (.inr (by lia))];exact ey)
          exact⟨lo+nN,ys2,_,g2,rfl,rfl,b3.pm.trans pz,nl,BR (zH (DB q _ _) ch3) nn s3,by lia⟩
  case post =>
    rintro c st' ⟨xs,p,g',rfl,rfl,q1,q3⟩;dsimp only;refine jc (jG (jD
      (I:=λi c st'=>∃ys q g2,c=(none,())/\st'=vy κ ys q g2/\ys.Perm arr/\qV lt ys 0 q.toList arr.size/\q.size+i<=arr.size)
      (Q:=λc st'=>∃ys q g2,c=(none,())/\st'=vy κ ys q g2/\ys.Perm arr/\qV lt ys 0 q.toList arr.size/\q.size<=1)
      ?step2 ?fin2 ⟨xs,p,g',rfl,rfl,q1,q3,by have:=xP q3;rw[ax]at this;lia⟩) ?post2)
    case fin2 =>
      rintro c st' ⟨ys,q,g2,rfl,rfl,r1,r2,r3⟩;exact⟨ys,q,g2,rfl,rfl,r1,r2,by lia⟩
    case step2 =>
      rintro j c st' _ hj ⟨ys,q,g2,rfl,rfl,r1,r2,r3⟩;refine jc (ku ?_);have eq:jX (vy κ ys q g2)=q:=rfl;rw[eq]
      by_cases d1:q.size<=1
      . rw[nP d1]
        exact jd ⟨ys,q,g2,rfl,rfl,r1,r2,d1⟩
      rw[nQ d1];have hi':∀(b:Prop) [Decidable b],(if b then q.size-2-1 else q.size-2)+1<q.size:=λb _=>by split <;> lia
      refine jc (AQ (st:=vy κ ys q g2) C (λx hx=>hp x (r1.mem_iff.mp hx)) rfl rfl (by show arr.size<=ys.size;have:=r1.size_eq;lia) r2 (hi' _) λxs3 p3 g3 b4 ns ch4=>?_)
      rw[nQ (by decide)]
      have ns':p3.size+1=q.size:=ns;exact jd ⟨xs3,p3,g3,rfl,rfl,b4.pm.trans r1,ch4,by lia⟩
    case post2 =>
      rintro c st' ⟨ys,q,g2,rfl,rfl,r1,r2,r3⟩;refine jd (h ys q g2 r1 ?_);rw[←ax]at r3;cases eq:q.toList with
      |nil =>
        rw[eq]at r2;have r2':0=arr.size:=r2;lia
      |cons a r =>
        rw[eq]at r2 r3;have er:r=[]:=by
          rw[lCq]at r3;exact cI.mp (by lia)
        subst er;obtain⟨_,_,s3,e3⟩:=r2;have e3':0+a.2.1=arr.size:=e3;rw[e3']at s3;exact s3
end
section
variable {prog:jg}{w:ji}{A:Around}{E:Value->Shared->Prop}{s:Shared}{Pk:iZ->Prop}{lt:iZ->iZ->Bool}
abbrev qf(h:Heap) (a:Addr) (vs:List Value):Heap:=((h.update a (Obj.mapSeq λ_=>#[])).push (jm "tuple" vs.toArray 0)).push (jm "list" #[] 0)
theorem yA{a:Addr}{vs:List Value}{n:Nat}{P:PySem.Fin->Shared->Prop}(ho:s.heap.get? a=some (jm "list" vs.toArray n)) (hs:vs.length<=jf)
  (hkk:2<=vs.length->∀Q:jx->Shared->Prop,Q jY { s with heap:=qf s.heap a vs }->jb (ja prog w) A (kQ vs.toArray) Q E { s with heap:=qf s.heap a vs })
  (C:wR prog w A { s with heap:=qf s.heap a vs } jY Pk lt) (hp:∀x,x∈jy vs->Pk x)
  (h:∀xs:Array iZ,xs.Perm (jy vs)->yq lt xs 0 (jy vs).size->P (.done (.ret .none)) { s with heap:=km s.heap a vs (xs.map (·.2)) }) :
  jb (ja prog w) A (Builtin.«list.sort» ⟨[.ref a],[]⟩) P E s:=by
 rw[list_sort_plain];have ha:a<s.heap.objs.size:=ag ho;refine iY (listItems_at ho rfl ?_);refine iY (jH ho rfl ?_ (hsz:=by simpa using hs))
 obtain⟨e1,ho1⟩:∃e1,(s.heap.update a (Obj.mapSeq λ_=>#[])).get? a=some (jm "list" #[] e1):=⟨_,jO ho (λ_=>#[])⟩
 refine iY (kF ho1 rfl ?_);refine iY (mj ?_);refine iY (jU ?_);refine jA ?_;have ho6:(qf s.heap a vs).get? a=some (jm "list" #[] e1):=by
  rw[df _ _ _ (by rw[kC,bO];exact aw (bS ha)),df _ _ _ (by rw[bO];exact aw ha)]
  exact ho1
 show jb (ja prog w) A _ P E { s with heap:=qf s.heap a vs }
 dsimp only;have hsz:vs.toArray.size=vs.length:=by simp
 have hs':jf=16777216:=jq
 by_cases h2:vs.toArray.size<2
 .rw [nP h2,nP h2];refine iY (je ?_);rw[StateT.run_pure];refine iY (je ?_);dsimp only;refine iY (kF ho6 rfl ?_);refine iY (jH ho6 rfl ?_ (hsz2:=by rw[fB];show (jy vs).size<=_;rw[jL,jq];lia))
  simp only[bne_self_eq_false,bG,if_false];refine je (h _ (gP.refl _) ?_);intro i j x y _ hij hj ex ey;have:i=j:=by rw[jL]at hj;lia
  subst this;rw[ex]at ey;cases ey;exact C.refl (hp x (aQq ex))
 .rw [nQ h2,nQ h2];refine iY (hkk (by lia) _ ?_)
  refine iY (jo (zC C (arr:=jy vs) (g:=7) (E:=E)
   (Q:=λ_ st'=>∃xs p g',st'=vy jY xs p g'/\xs.Perm (jy vs)/\yq lt xs 0 (jy vs).size) hp (by rw[jL];lia) λxs p g' a1 a2=>⟨xs,p,g',rfl,a1,a2⟩) ?_ λ_ _ e=>e)
  rintro⟨⟨⟩,st'⟩ s' ⟨rfl,xs,p,g',rfl,hpm,hsg⟩;dsimp only;refine iY (kF ho6 rfl ?_);refine iY (jH ho6 rfl ?_ (hsz2:=by refine bC (eN ((fB ..).trans (hpm.size_eq.trans (jL _)))) ?_;lia))
  simp only[bne_self_eq_false,bG,if_false];exact je (h xs hpm hsg)
theorem ET{h:Heap}{a:Addr}{xs:Array Value}{n:Nat}(vs:List Value) (ho:h.get? a=some (jm "list" xs n)):∃e1,(qf h a vs).get? a=some (jm "list" #[] e1):=by
 have ha:a<h.objs.size:=ag ho;obtain⟨e1,ho1⟩:∃e1,(h.update a (Obj.mapSeq λ_=>#[])).get? a=some (jm "list" #[] e1):=⟨_,jO ho (λ_=>#[])⟩
 refine⟨e1,?_⟩;rw[df _ _ _ (by rw[kC,bO];exact aw (bS ha)),df _ _ _ (by rw[bO];exact aw ha)]
 exact ho1
theorem Ex{h:Heap}{a:Addr}{xs:Array Value}{n:Nat}(ys:Array Value) (ho:h.get? a=some (jm "list" xs n)):∃n1,(h.update a (Obj.mapSeq λ_=>ys)).get? a=some (jm "list" ys n1):=⟨_,jO ho (λ_=>ys)⟩
theorem tF{vs:List Value}{x:iZ}(h:x∈jy vs):x.1∈vs/\x.2=x.1:=by
 obtain⟨i,hi,e⟩:=Array.mem_iff_getElem.mp h;have hi':i<vs.length:=by rw[jL]at hi;exact hi
 have:x=(vs[i],vs[i]):=by
  rw[←e];simp[jy]
 rw[this];exact⟨gRq hi',rfl⟩
theorem xB{vs:List Value}{xs:Array iZ}(hp:xs.Perm (jy vs)) (hs:yq lt xs 0 (jy vs).size) :
  (xs.map (·.2)).toList.Perm vs/\(xs.map (·.2)).toList.Pairwise (λx y=>lt (y,y) (x,x)=false):=by
 constructor
 .have:=hp.toList.map (·.2);have e:(jy vs).toList.map (·.2)=vs:=by
   have:(jy vs).toList=vs.zip vs:=by simp[jy]
   rw[this];apply ip
   .simp
   .intro i h1 h2;simp
  rw[e]at this;rw[Array.toList_map];exact this
 .rw [bJ];intro i j hi hj hij;have hi':i<xs.size:=by simpa using hi
  have hj':j<xs.size:=by simpa using hj
  have z:=hs i j xs[i] xs[j] (aY _) (bZ hij) (by rw[←hp.size_eq];exact hj') (by simp[hi']) (by simp[hj'])
  have m1:=tF (hp.mem_iff.mp (bc hi'));have m2:=tF (hp.mem_iff.mp (bc hj'));have e1:xs[i]=(xs[i].2,xs[i].2):=gX m1.2.symm rfl;have e2:xs[j]=(xs[j].2,xs[j].2):=gX m2.2.symm rfl;rw[e1,e2]at z;simpa using z
theorem BW{l:Addr}{vs:List Value}{Q:Value->Shared->Prop}(hl:s.heap.IsList l vs.toArray) (hs:vs.length<=jf)
  (hC:∀s':Shared,(∀b o,s.heap.get? b=some o->s'.heap.get? b=some o)->(2<=vs.length->∀Q:jx->Shared->Prop,Q jY s'->jb (ja prog w) A.in1.in1 (kQ vs.toArray) Q E s')/\wR prog w A.in1.in1 s' jY Pk lt)
  (hp:∀v∈vs,Pk (v,v))
  (h:∀(out:List Value) (h':Heap) (n':Nat),out.Perm vs->out.Pairwise (λx y=>lt (y,y) (x,x)=false)->(∀b o,s.heap.get? b=some o->h'.get? b=some o) ->
   h'.get? (s.heap.objs.size+1)=some (jm "list" out.toArray n')->Q (.ref (s.heap.objs.size+1)) { s with heap:=h' }) :
  jb (ja prog w) A (call (.builtin "sorted") [.ref l]) Q E s:=by
 refine Calls.call_function_entry aab mP mQ (mR _) ?_;unfold Builtin.«sorted»;refine iY (m:=checkCount "sorted" 1 1 _) (je ?_);refine iY (collect_list hl ?_ hs);refine iY (jU ?_);have hsz:((s.heap.push (jm "list" #[] 0)).update s.heap.objs.size (Obj.mapSeq (· ++ vs.toArray))).objs.size=s.heap.objs.size+1:=by
  rw[bO,kC]
 have hoL:(((s.heap.push (jm "list" #[] 0)).update s.heap.objs.size (Obj.mapSeq (· ++ vs.toArray))).push (jm "list" vs.toArray 0)).get? (s.heap.objs.size+1)=some (jm "list" vs.toArray 0):=by
  rw[←hsz];exact aS _ rfl
 show jb _ _ _ _ _ { s with heap:=((s.heap.push (jm "list" #[] 0)).update s.heap.objs.size (Obj.mapSeq (· ++ vs.toArray))).push (jm "list" vs.toArray 0) }
 rw[hsz];generalize hG:((s.heap.push (jm "list" #[] 0)).update s.heap.objs.size (Obj.mapSeq (· ++ vs.toArray))).push (jm "list" vs.toArray 0)=G at hoL ⊢;have k1:∀b o,s.heap.get? b=some o->G.get? b=some o:=λb o e=>by
  rw[←hG];refine ae _ ?_;rw[bp _ _ _ _ (aw (ag e))];exact ae _ e
 have k2:∀b o,s.heap.get? b=some o->(qf G (s.heap.objs.size+1) vs).get? b=some o:=λb o e=>by
  refine ae _ (ae _ ?_);rw[bp _ _ _ _ (aw (bS (ag e)))];exact k1 b o e
 obtain⟨q1,q2⟩:=hC { s with heap:=qf G (s.heap.objs.size+1) vs } k2
 refine iY (jA (ki mn ⟨_,hoL,rfl⟩ lO (yA (Pk:=Pk) (lt:=lt) hoL hs q1 q2 (λx hx=>?_) λxs a1 a2=>⟨_,rfl,?_⟩) (mv _)))
 .obtain ⟨m1,m2⟩:=tF hx;have:x=(x.1,x.1):=gX rfl m2;rw[this];exact hp _ m1
 .obtain ⟨v1,v2⟩:=xB a1 a2;obtain⟨e1,ho1⟩:=ET vs hoL;obtain⟨n1,g1⟩:=Ex (xs.map (·.2)) ho1;refine je ⟨_,rfl,h _ (km G (s.heap.objs.size+1) vs (xs.map (·.2))) n1 v1 v2 (λb o e=>?_) ?_⟩
  .unfold km;rw[bp _ _ _ _ (aw (bS (ag e)))];exact k2 b o e
  .rw [show (xs.map (·.2)).toList.toArray=xs.map (·.2) from fm]
   exact g1
end
end MrS
namespace HT
open PySem PyProof.Rows
section
open PySem.SeqAt
open PySem.AutoSeq1 (wpAny_loadPart')
open PySem.MeetsSeq PySem.MeetsSeq2 PySem.MeetsSeq3 PySem.SeqRoads2
theorem Ht{vs:List Value}{ns:List Int}(h:ju vs ns):∀{i:Nat}(hi:i<vs.length),∃(z:Int) (t:Tok),vs[i] = .int z t/\ns.drop i=z::ns.drop (i+1):=by
 induction h with
 |nil=>intro i hi;exact absurd hi (cG _)
 |cons a t _ ih =>
  intro i hi;cases i with
  |zero=>exact⟨a,t,rfl,rfl⟩
  |succ i=>exact ih (i:=i) (by simpa using hi)
theorem Fv(l b:Addr) (items items2:Array Value) (n n2:Nat) (dd dd2:Option Addr) (sl sl2:Array (Option Value)) (ns ms:List Int) (hi:ju items.toList ns) (hj:ju items2.toList ms) (k:Nat) :
  ∀i:Nat,min items.size items2.size-i=k->i<=items.size->i<=items2.size->Meets (Builtin.«list.__eq__.loop» ⟨[.ref l,.ref b,kf i,kf 0],[]⟩)
   (λ_ R s=>s.heap.get? l=some { cls:=.type "list", dict:=dd,data:=.seq items n,slots:=sl }/\s.heap.get? b=some { cls:=.type "list", dict:=dd2,data:=.seq items2 n2,slots:=sl2 } /\
    R (.ok (.ret (.bool (oR (ns.drop i) (ms.drop i))))) s):=by
 have z1:ns.length=items.size:=by rw[←hi.length];simp
 have z2:ms.length=items2.size:=by rw[←hj.length];simp
 induction k with
 |zero =>
  intro i hk h1 h2 prog w A R s h;obtain⟨hp,g,d,tk,os⟩:=s;obtain⟨hl,hb,h⟩:=h
  wp_walk using wpAny_loadPart' hl,wpAny_loadPart' hb
  have fin:oR (ns.drop i) (ms.drop i)=decide (items.size<items2.size):=by
   by_cases c:i=items.size
   .have e1:ns.drop i=[]:=bP (by lia)
    rw[e1]
    by_cases c2:i<items2.size
    .rw [aL (by lia:i<ms.length),xC]
     exact(decide_eq_true (by lia)).symm
    .rw [bP (by lia:ms.length<=i),yw]
     exact(decide_eq_false (by lia)).symm
   .have c2:i=items2.size:=by lia
    rw[aL (by lia:i<ns.length),bP (by lia:ms.length<=i),xw]
    exact(decide_eq_false (by lia)).symm
  rw[fin]at h
  by_cases c:i=items.size
  .have Ec:items[((i:Nat):Int).toNat]?=none:=by simp;lia
   rw[Ec]
   wp_walk using wpAny_loadPart' hl,wpAny_loadPart' hb
   exact h
  .have c2:i=items2.size:=by lia
   have Ec:items[((i:Nat):Int).toNat]?=some (items[i]'(by lia)):=by simp
   have hi2:items2[((i:Nat):Int).toNat]?=none:=by simp;lia
   rw[Ec,hi2]
   wp_walk using wpAny_loadPart' hl,wpAny_loadPart' hb
   exact h
 |succ k ih =>
  intro i hk h1 h2 prog w A R s h;obtain⟨hp,g,d,tk,os⟩:=s;obtain⟨hl,hb,h⟩:=h
  wp_walk using wpAny_loadPart' hl,wpAny_loadPart' hb
  have hlt:i<items.size:=by lia
  have hlt2:i<items2.size:=by lia
  obtain⟨x,t,ex,dx⟩:=Ht hi (i:=i) (by simpa using hlt)
  obtain⟨y,u,ey,dy⟩:=Ht hj (i:=i) (by simpa using hlt2)
  have Ec:items[((i:Nat):Int).toNat]?=some (.int x t):=by
   rw[←ex];simp[hlt]
  have hi2:items2[((i:Nat):Int).toNat]?=some (.int y u):=by
   rw[←ey];simp[hlt2]
  have hc:((i:Int)+1)=((i+1:Nat):Int):=by push_cast;rfl
  rw[dx,dy,sL]at h;rw[Ec,hi2];obtain⟨e,he,hiff⟩:=GG A.in1 ⟨hp,g,d,tk,os⟩ x t y u;refine iY (he prog w _ _ ?_);cases e with
  |true =>
   rw[nP (hiff.mp rfl)]at h
   wp_walk
   rw[hc];exact⟨ko plain_eq_loop _,jw entry_eq_loop (by
    rw[Around.under_plainId plain_eq_loop _];exact ih (i+1) (by lia) (by lia) (by lia) prog w A R _ ⟨hl,hb,h⟩)⟩
  |false =>
   rw[nQ (λq=>absurd (hiff.mpr q) aO)]at h
   have hri:=Hw A.in1 ⟨hp,g,d,tk,os⟩ x t y u prog w
   wp_walk using wpAny_loadPart' hl,wpAny_loadPart' hb
   rw[Ec,hi2]
   wp_walk using hri
   exact h
theorem EV(l b:Addr) (items items2:Array Value) (n n2:Nat) (dd dd2:Option Addr) (sl sl2:Array (Option Value)) (ns ms:List Int) (hi:ju items.toList ns) (hj:ju items2.toList ms) :
  Meets (Builtin.«list.__lt__» ⟨[.ref l,.ref b],[]⟩)
   (λ_ R s=>s.heap.get? l=some { cls:=.type "list", dict:=dd,data:=.seq items n,slots:=sl }/\s.heap.get? b=some { cls:=.type "list", dict:=dd2,data:=.seq items2 n2,slots:=sl2 } /\
    R (.ok (.ret (.bool (oR ns ms)))) s):=by
 intro prog w A R s h;obtain⟨hp,g,d,tk,os⟩:=s;obtain⟨hl,hb,h⟩:=h;have f3:=AutoSeq1.sub_list_list
 wp_walk using wpAny_loadPart' hl,wpAny_loadPart' hb
 exact⟨ko plain_eq_loop _,jw entry_eq_loop (by
  rw[Around.under_plainId plain_eq_loop _];exact Fv l b items items2 n n2 dd dd2 sl sl2 ns ms hi hj _ 0 rfl (aY _) (aY _) prog w A R _ ⟨hl,hb,h⟩)⟩
end
end HT
namespace Mr
open PySem PySem.Spec PyProof.Rows L2
section
open HT
theorem xY:∀xs ys:List Int,oR xs ys=true->oR ys xs=false
 | [],[],_=>rfl
 | [],_::_,_=>rfl
 |_::_,[],h=>by cases h
 |x::xs,y::ys,h=>by
  rw[sL]at h ⊢
  by_cases e:x=y
  .rw [nP e]at h;rw[nP e.symm];exact xY xs ys h
  .rw [nQ e]at h;rw[nQ (Ne.symm e)];have h':x<y:=of_decide_eq_true h;exact decide_eq_false (by lia)
theorem vV:∀xs ys zs:List Int,oR ys xs=false->oR zs ys=false->oR zs xs=false
 | [],[],[],_,_=>rfl
 | [],[],_::_,_,h=>by exact h
 | [],_::_,[],_,h=>by cases h
 | [],_::_,_::_,_,_=>rfl
 |_::_,[],_,h,_=>by cases h
 |_::_,_::_,[],_,h=>by cases h
 |x::xs,y::ys,z::zs,h1,h2=>by
  rw[sL]at h1 h2 ⊢
  by_cases e1:y=x
  .rw [nP e1]at h1;subst e1
   by_cases e2:z=y
   .rw [nP e2]at h2 ⊢;exact vV xs ys zs h1 h2
   .rw [nQ e2]at h2 ⊢;exact h2
  .rw [nQ e1]at h1;have h1':¬ y<x:=of_decide_eq_false h1
   by_cases e2:z=y
   .rw [nQ (by lia)]
    exact decide_eq_false (by lia)
   .rw [nQ e2]at h2;have h2':¬ z<y:=of_decide_eq_false h2;rw[nQ (by lia)]
    exact decide_eq_false (by lia)
theorem zp:∀xs ys:List Int,oR xs ys=false->oR ys xs=false->xs=ys
 | [],[],_,_=>rfl
 | [],_::_,h,_=>by cases h
 |_::_,[],_,h=>by cases h
 |x::xs,y::ys,h1,h2=>by
  rw[sL]at h1 h2
  by_cases e:x=y
  .rw [nP e]at h1;rw[nP e.symm]at h2;rw[e,zp xs ys h1 h2]
  .rw [nQ e]at h1;rw[nQ (Ne.symm e)]at h2;have h1':¬ x<y:=of_decide_eq_false h1;have h2':¬ y<x:=of_decide_eq_false h2;lia
def SW(x y:List Int):Bool:=!HT.oR y x
theorem K7(x y z:List Int) (h1:SW x y=true) (h2:SW y z=true):SW x z=true:=by
 unfold SW at *;simp only[eV]at *;exact vV x y z h1 h2
theorem Lf(x y:List Int):(SW x y || SW y x)=true:=by
 unfold SW;cases h:HT.oR y x with
 |false=>rfl
 |true=>rw[xY y x h];rfl
def yZ(rs:List (List Int)):List (List Int):=rs.mergeSort SW
theorem zA(rs:List (List Int)):(yZ rs).Perm rs:=fx _ _
theorem yL(rs:List (List Int)):(yZ rs).Pairwise (λx y=>HT.oR y x=false):=by
 refine(eP K7 Lf rs).imp λ{a b} h=>?_
 unfold SW at h;simpa using h
theorem Dt:∀{xs ys:List (List Int)},xs.Perm ys->xs.Pairwise (λx y=>HT.oR y x=false)->ys.Pairwise (λx y=>HT.oR y x=false)->xs=ys
 |xs,ys,hp,h1,h2=>bU.eq_of_pairwise (λa b _ _ e1 e2=>(zp b a e1 e2).symm) h1 h2 hp
theorem Jc{xs rs:List (List Int)}(hp:xs.Perm rs) (h:xs.Pairwise (λx y=>HT.oR y x=false)):xs=yZ rs :=
 Dt (hp.trans (zA rs).symm) h (yL rs)
def wu(ns:List Int):List Int:=ns.mergeSort (λx y=>decide (x<=y))
theorem Al(ns:List Int):(wu ns).Perm ns:=fx _ _
theorem AO(ns:List Int):(wu ns).Pairwise (·<=·):=by
 refine(eP (le:=λx y=>decide (x<=y)) (λa b c h1 h2=>?_) (λa b=>?_) ns).imp λ{a b} h=>by simpa using h
 .simp only [decide_eq_true_eq]at *;lia
 .simp only [Bool.or_eq_true,decide_eq_true_eq];lia
theorem Rq{xs ns:List Int}(hp:xs.Perm ns) (h:xs.Pairwise (·<=·)):xs=wu ns :=
 bU.eq_of_pairwise (λa b _ _ e1 e2=>Int.le_antisymm e1 e2) h (AO ns) (hp.trans (Al ns).symm)
end
def qw(H:Hp) (ps:List Addr) (rs:List (List Int)):Prop:=ps.map H=rs.map (λr=>some (HO.lst (r.map V.int)))
theorem qw.nil{H:Hp}:qw H [] []:=rfl
theorem qw.length{H:Hp}{ps:List Addr}{rs:List (List Int)}(h:qw H ps rs):ps.length=rs.length:=by
 have:=congrArg bb h;simpa using this
theorem qw.cons_iff{H:Hp}{ps:List Addr}{rs:List (List Int)}{p:Addr}{r:List Int}:qw H (p::ps) (r::rs)↔H p=some (.lst (r.map V.int))/\qw H ps rs:=by
 unfold qw;rw[aB,aB,List.cons.injEq]
theorem qw.get{H:Hp}{ps:List Addr}{rs:List (List Int)}(h:qw H ps rs) {i:Nat}{p:Addr}(e:ps[i]?=some p):∃r,rs[i]?=some r/\H p=some (.lst (r.map V.int)):=by
 have:=congrArg (λl=>l[i]?) h
 simp only[gMq,e,dQ]at this;cases er:rs[i]? with
 |none=>rw[er]at this;cases this
 |some r=>rw[er]at this;exact⟨r,rfl,ba.inj this⟩
theorem qw.mem{H:Hp}{ps:List Addr}{rs:List (List Int)}(h:qw H ps rs) {p:Addr}(hp:p∈ps):∃r,r∈rs/\H p=some (.lst (r.map V.int)):=by
 obtain⟨i,hi⟩:=List.getElem?_of_mem hp;obtain⟨r,er,e⟩:=h.get hi;exact⟨r,mGq er,e⟩
theorem qw.keep{H H':Hp}{ps:List Addr}{rs:List (List Int)}(h:qw H ps rs) (k:∀p∈ps,H' p=H p):qw H' ps rs:=by
 unfold qw at *;rw[←h];exact mCq k
theorem qw.same{H H':Hp}{ps:List Addr}{rs:List (List Int)}(h:qw H ps rs) (s:nS H H'):qw H' ps rs :=
 h.keep λp hp=>by
  obtain⟨r,_,e⟩:=h.mem hp;rw[s _ _ e,e]
def toI:V->Int
 | .int i=>i
 |_=>0
def yF(H:Hp) (p:Addr):List Int:=match H p with
 |some (.lst xs)=>xs.map toI
 |_=>[]
theorem HD{H:Hp}{p:Addr}{r:List Int}(h:H p=some (.lst (r.map V.int))):yF H p=r:=by
 unfold yF;rw[h];simp only[mPq];exact List.map_id'' (λ_=>rfl) r
theorem qw.fn{H:Hp}{ps:List Addr}{rs:List (List Int)}(h:qw H ps rs):rs=ps.map (yF H):=by
 induction rs generalizing ps with
 |nil =>
  have:=h.length;have:ps=[]:=cI.mp this;rw[this];rfl
 |cons r rs ih =>
  cases ps with
  |nil=>have:=h.length;simp at this
  |cons p ps =>
   obtain⟨h1,h2⟩:=qw.cons_iff.mp h;rw[aB,←ih h2,HD h1]
theorem qw.fn_row{H:Hp}{ps:List Addr}{rs:List (List Int)}(h:qw H ps rs) {p:Addr}(hp:p∈ps):H p=some (.lst ((yF H p).map V.int)):=by
 obtain⟨r,_,e⟩:=h.mem hp;rw[HD e];exact e
theorem qw.of_fn{H:Hp}{ps:List Addr}(h:∀p∈ps,H p=some (.lst ((yF H p).map V.int))):qw H ps (ps.map (yF H)):=by
 unfold qw;rw[mPq];exact mCq h
theorem qw.perm{H:Hp}{ps qs:List Addr}{rs:List (List Int)}(h:qw H ps rs) (hp:qs.Perm ps):∃ts,qw H qs ts/\ts.Perm rs/\ts=qs.map (yF H) :=
 ⟨_,qw.of_fn λp m=>h.fn_row (hp.mem_iff.mp m),by rw[h.fn];exact hp.map _,rfl⟩
theorem qw.free{H H':Hp}{ps:List Addr}{rs:List (List Int)}(h:qw H' ps rs) {q:Addr}(n:H' q=none):q∉ps:=λm=>by
 obtain⟨r,_,e⟩:=h.mem m;rw[n]at e;cases e
theorem yn:∀{ps:List Addr}{vs:List Value},nX (ps.map V.ref) vs->vs=ps.map ak
 | [],vs,r=>by cases r;rfl
 |p::ps,vs,r=>by
  rw[aB]at r;cases r with
  |cons h1 h2 =>
   have e:_=ak p:=h1;rw[e,yn h2];rfl
theorem yh:∀(ps:List Addr),nX (ps.map V.ref) (ps.map ak)
 | []=>.nil
 |p::ps=>.cons rfl (yh ps)
def ql:Value->Addr
 | .ref p=>p
 |_=>0
def intOf:Value->Int
 | .int i _=>i
 |_=>0
theorem KU{vs:List Value}{ns:List Int}(h:ju vs ns):ns=vs.map intOf/\∀v∈vs,∃a t,v = .int a t:=by
 induction h with
 |nil=>exact⟨rfl,λv hv=>by cases hv⟩
 |cons a t _ ih =>
  refine⟨by rw[aB,←ih.1];rfl,λv hv=>?_⟩
  rcases ao.mp hv with rfl|hv
  .exact ⟨a,t,rfl⟩
  .exact ih.2 v hv
theorem vals_ints:∀{vs:List Value},(∀v∈vs,∃a t,v = .int a t)->nX ((vs.map intOf).map V.int) vs
 | [],_=>.nil
 |v::vs,h=>by
  obtain⟨a,t,rfl⟩:=h _ (aD ..);exact .cons ⟨t,rfl⟩ (vals_ints λv hv=>h v (mCo _ hv))
theorem KH{M:jZ}{A:Around}{E:Value->Shared->Prop}{s:Shared}{vs:List Value}{T:String}{Q:jx->Shared->Prop}(h2:2<=vs.length) (hT:∀v∈vs,W.Looks M s.heap (typeOf v) (.type T)) (hT1:(dR T != dR "tuple")=true) (hT2:(dR T == dR T)=true) (h:Q jY s) :
  jb M A (kQ vs.toArray) Q E s:=W.kas_kind h2 hT hT1 hT2 h
def Zx(x y:iZ):Bool:=match x.1,y.1 with
 | .int a _,.int b _=>decide (a<b)
 |_,_=>false
theorem Y3(prog:jg) (w:ji) (A:Around) (s:Shared):MrS.wR prog w A s jY (λx=>∃a t,x.1 = .int a t) Zx where
 ask:=by
  rintro⟨_,x⟩ ⟨_,y⟩ ⟨a,t,e1⟩ ⟨b,u,e2⟩ E Q q;dsimp only at e1 e2;subst e1 e2;rw[kP];exact oneLt_int q
 asym:=by
  rintro⟨_,x⟩ ⟨_,y⟩ ⟨a,t,e1⟩ ⟨b,u,e2⟩ h;dsimp only at e1 e2;subst e1 e2;have h':a<b:=of_decide_eq_true h;exact decide_eq_false (by lia)
 trans:=by
  rintro⟨_,x⟩ ⟨_,y⟩ ⟨_,z⟩ ⟨a,t,e1⟩ ⟨b,u,e2⟩ ⟨c,v,e3⟩ h1 h2;dsimp only at e1 e2 e3;subst e1 e2 e3;have h1':¬ b<a:=of_decide_eq_false h1;have h2':¬ c<b:=of_decide_eq_false h2;exact decide_eq_false (by lia)
def Z1(r:Addr->List Int) (x y:iZ):Bool:=match x.1,y.1 with
 | .ref p,.ref q=>HT.oR (r p) (r q)
 |_,_=>false
theorem YN{prog:jg}{w:ji}{A:Around}{s:Shared}{ps:List Addr}{r:Addr->List Int}(hu:A.units<jB)
  (h:∀p∈ps,∃vs:List Value,PlainL s.heap p vs.toArray/\ju vs (r p)):MrS.wR prog w A s jY (λx=>∃p,x.1 = .ref p/\p∈ps) (Z1 r) where
 ask:=by
  rintro⟨_,x⟩ ⟨_,y⟩ ⟨p,e1,hp⟩ ⟨q,e2,hq⟩ E Q k;dsimp only at e1 e2;subst e1 e2;obtain⟨vs,⟨o,n,ho,hc,hd0,hd⟩,hi⟩:=h p hp;obtain⟨ws,⟨o2,n2,ho2,hc2,hd02,hd2⟩,hj⟩:=h q hq;obtain⟨cls,dd,data,sl⟩:=o;obtain⟨cls2,dd2,data2,sl2⟩:=o2;simp only at hc hd0 hd hc2 hd02 hd2;subst hc hd0 hd hc2 hd02 hd2;rw[kP,oneLt'_eq];simp only[if_true];refine iY (wpAny_cRoomFor hu ?_);refine iY (kL ⟨_,ho,rfl⟩ F.slot_list_lt (jW F.slot_list_lt ⟨_,ho,rfl⟩ F.entry_list_lt (F.args_list_lt_2 _ _)
   (HT.EV p q vs.toArray ws.toArray n n2 none none sl sl2 (r p) (r q) (by simpa using hi) (by simpa using hj)) ⟨ho,ho2,?_⟩))
  exact jC k
 asym:=by
  rintro⟨_,x⟩ ⟨_,y⟩ ⟨a,e1,_⟩ ⟨b,e2,_⟩ h;dsimp only at e1 e2;subst e1 e2;exact xY _ _ h
 trans:=by
  rintro⟨_,x⟩ ⟨_,y⟩ ⟨_,z⟩ ⟨a,e1,_⟩ ⟨b,e2,_⟩ ⟨c,e3,_⟩ h1 h2;dsimp only at e1 e2 e3;subst e1 e2 e3;exact vV _ _ _ h1 h2
section
variable {X:Cx}
theorem Fl(hu:X.A.units+64<jB):uB X (.builtin "sorted") (λxs H Q=>∃(a:Addr) (ps:List Addr) (rs:List (List Int)),xs=[.ref a]/\qO X.K H a (ps.map V.ref)/\qw H ps rs /\
  ∀p qs,H p=none->qs.Perm ps->qw (oB H p (.lst (qs.map V.ref))) qs (yZ rs)->Q (.ref p) (oB H p (.lst (qs.map V.ref)))):=by
 intro mV s σ H xs us Q I r h;obtain⟨a,ps,rs,rfl,hS,hE,q⟩:=h;obtain⟨u,rfl,ru⟩:=vK r;cases ru;obtain⟨its,rv,hl,hz⟩:=I.list hS;have ei:=yn rv;subst ei;have hrow:∀p∈ps,∃vs:List Value,PlainL s.heap p vs.toArray/\ju vs (yF H p):=λp hp=>by
  obtain⟨its,rv,pl,_⟩:=I.list (qO.of (hE.fn_row hp));exact⟨its,pl,uu rv⟩
 have keepL:∀(s':Shared),(∀b o,s.heap.get? b=some o->s'.heap.get? b=some o)->∀p∈ps,∃vs:List Value,PlainL s'.heap p vs.toArray/\ju vs (yF H p):=λs' k p hp=>by
  obtain⟨vs,⟨o,n,ho,rest⟩,hi⟩:=hrow p hp;exact⟨vs,⟨o,n,k _ _ ho,rest⟩,hi⟩
 refine MrS.BW (Pk:=λx=>∃p,x.1 = .ref p/\p∈ps) (lt:=Z1 (yF H)) hl.isList (by simpa using hz) (λs' k=>⟨λh2 Q q=>?_,YN (by show X.A.units+1+1<jB;lia) (keepL s' k)⟩) (λv m=>?_) λout h' n' o1 o2 o3 o4=>?_
 .refine KH (T := "list") h2 (λv hv=>?_) (by rfl) (by rfl) q
  obtain⟨p,hp,rfl⟩:=mMq.mp hv;obtain⟨vs,pl,_⟩:=keepL s' k p hp;intro A Q E s2 k2 q2;obtain⟨o,ho,hc,_⟩:=pl.isList;exact kz (T := "list") ⟨o,k2 _ _ ho,hc⟩ q2
 .obtain ⟨p,hp,rfl⟩:=mMq.mp m;exact⟨p,rfl,hp⟩
 .have ho:∀v∈out,∃p∈ps,v = .ref p:=λv m=>by
   obtain⟨p,hp,rfl⟩:=mMq.mp (o1.mem_iff.mp m);exact⟨p,hp,rfl⟩
  have eo:out=(out.map ql).map ak:=by
   rw[mPq];have e:=mCq (l:=out) (f:=id) (g:=ak∘ql) λv hv=>by
    obtain⟨p,_,rfl⟩:=ho v hv;rfl
   rw[←e,dB]
  have hq:(out.map ql).Perm ps:=by
   have:=o1.map ql;rw[mPq,show ql∘ak=id from rfl,dB]at this
   exact this
  have hp:H (s.heap.objs.size+1)=none:=I.hok.fresh (bM _);generalize out.map ql=qs at eo hq;obtain⟨ts,e1,e2,e3⟩:=hE.perm hq;have es:ts=yZ rs:=by
   refine Jc e2 ?_;rw[e3,bg];rw[eo,bg]at o2;exact o2
  refine⟨.ref (s.heap.objs.size+1),_,I.laid (t':=s.toks) o3 (bM _) (show oY X.prog X.w _ h' _ (.lst (qs.map V.ref)) from ⟨?_,out,n',?_,o4⟩),rfl,q _ qs hp hq (by rw[←es];exact e1.same (pV hp))⟩
  .rw [lMq,hq.length_eq];simpa using hz
  .rw [eo];exact yh qs
def uX(r:List Int):PyData:=.list (r.map PyData.int)
def zE(rs:List (List Int)):PyData:=.list (rs.map uX)
theorem AM:∀rs:List (List Int),PyData.canLayAll0 (rs.map uX)=true
 | []=>by simp[PyData.canLayAll0]
 |r::rs=>by simp[PyData.canLayAll0,uX,PyData.canLay0,W.canLayAll0_ints r,AM rs]
theorem Df:∀rs:List (List Int),PyData.depthAll (rs.map uX)<=3
 | []=>by simp[PyData.depthAll]
 |r::rs=>by
  have h1:=Df rs;have h2:=W.depthAll_ints r;simp only[aB,PyData.depthAll,uX,PyData.depth];lia
theorem Ba(rs:List (List Int)):SeqAt.shaped (zE rs)=true:=by
 have h1:=Df rs;have h2:PyData.depth (zE rs)<=64:=by simp only[zE,PyData.depth];lia
 show (PyData.canLay0 (zE rs) && decide (PyData.depth (zE rs)<=64))=true;rw[dC];exact⟨by simp only[zE,PyData.canLay0];exact AM rs,decide_eq_true h2⟩
theorem CG:∀rs ts:List (List Int),SeqAt.noMixAll (rs.map uX) (ts.map uX)=true
 | [],[]=>by simp[SeqAt.noMixAll]
 | [],_::_=>by simp[SeqAt.noMixAll]
 |_::_,[]=>by simp[SeqAt.noMixAll]
 |r::rs,t::ts=>by simp[SeqAt.noMixAll,uX,SeqAt.noMix,W.noMix_ints r t,CG rs ts]
theorem El:∀rs ts:List (List Int),PySem.Spec.sameAll (rs.map uX) (ts.map uX)=decide (rs=ts)
 | [],[]=>by simp[PySem.Spec.sameAll]
 | [],_::_=>by simp[PySem.Spec.sameAll]
 |_::_,[]=>by simp[PySem.Spec.sameAll]
 |r::rs,t::ts=>by
  simp only[aB,PySem.Spec.sameAll,uX,PySem.Spec.same,W.same_ints r t];rw[El rs ts]
  by_cases h:r=t <;> simp[h]
end
def cell(ns:List Int) (k:Nat):Int:=ns.getD k 0
def pZ(ns:List Int):Nat->Nat
 |0=>0
 |k+1=>if ns.getD k 0<ns.getD (pZ ns k) 0 then k else pZ ns k
def rot(ns:List Int) (i:Nat):List Int:=ns.drop i++ns.take i
def zS(ns:List Int):List Int:=rot ns (pZ ns ns.length)
theorem wJ(ns:List Int):∀n,(0<n->pZ ns n<n)/\(∀j,j<n->ns.getD (pZ ns n) 0<=ns.getD j 0)/\(∀j,j<pZ ns n->ns.getD (pZ ns n) 0<ns.getD j 0)
 |0=>⟨λh=>absurd h (bY _),λj h=>absurd h (cG _),λj h=>absurd h (cG _)⟩
 |n+1=>by
  obtain⟨h1,h2,h3⟩:=wJ ns n;simp only[pZ]
  by_cases c:ns.getD n 0<ns.getD (pZ ns n) 0
  .rw [nP c];refine⟨λ_=>eh n,λj hj=>?_,λj hj=>?_⟩
   .rcases eG (hZ hj) with q|q
    .have:=h2 j q;lia
    .subst q;exact gE _
   .have:=h2 j hj;lia
  .rw [nQ c];refine⟨λ_=>?_,λj hj=>?_,h3⟩
   .by_cases hn:0<n
    .exact bS (h1 hn)
    .have:n=0:=by lia
     subst this;exact eh 0
   .rcases eG (hZ hj) with q|q
    .exact h2 j q
    .subst q;lia
theorem Jg(ns:List Int):pZ ns ns.length<=ns.length:=by
 by_cases h:0<ns.length
 .exact bZ ((wJ ns ns.length).1 h)
 .have:ns.length=0:=by lia
  rw[this];exact ai 0
theorem Bl{ns:List Int}{j:Nat}(h:j<ns.length):ns.getD j 0=ns[j]:=by
 rw[gDq,gEg h];rfl
theorem AY{ns:List Int}{M:Int}(hm:M∈ns) (hl:∀a,a∈ns->M<=a):ns.idxOf M=pZ ns ns.length:=by
 have h0:0<ns.length:=bQ hm;obtain⟨h1,h2,h3⟩:=wJ ns ns.length;have h1:=h1 h0;have hi:ns.idxOf M<ns.length:=dr.mpr hm;have e:ns.getD (ns.idxOf M) 0=M:=by rw[Bl hi];exact fF hi
 have eL:ns.getD (pZ ns ns.length) 0=M:=by
  have q1:=h2 _ hi;rw[e]at q1;have q2:=hl _ (by rw[Bl h1];exact gRq h1:ns.getD (pZ ns ns.length) 0∈ns)
  lia
 rcases fQ (ns.idxOf M) (pZ ns ns.length) with q|q|q
 .have:=h3 _ q;lia
 .exact q
 .exfalso;have:=List.not_of_lt_findIdx (p:=(· == M)) (xs:=ns) (i:=pZ ns ns.length) (by simpa [List.idxOf] using q)
  rw[Bl h1]at eL;simp[eL]at this
def step(ns:List Int):Int:=if 0<cell ns 0 % 3 then cell ns 0 % 10 ^ 40+1 else 1
theorem rot_perm(t:List Int) (i:Nat):(rot t i).Perm t:=by
 unfold rot;exact bW.trans (by rw[bo])
theorem yg(t:List Int):(zS t).Perm t:=rot_perm t _
theorem FH{rs ts:List (List Int)}(h:rs.Perm ts):rs.flatten.Perm ts.flatten:=by
 induction h with
 |nil=>exact .refl _
 |cons x _ ih=>rw[fCq,fCq];exact bU.append (.refl x) ih
 |swap x y l =>
  rw[fCq,fCq,fCq,fCq,←aF,←aF];exact bU.append bW (.refl _)
 |trans _ _ a b=>exact a.trans b
theorem vM{f:List Int->List Int}(hf:∀r,(f r).Perm r):∀rs:List (List Int),(rs.map f).flatten.Perm rs.flatten
 | []=>.refl _
 |r::rs=>by
  rw[aB,fCq,fCq];exact bU.append (hf r) (vM hf rs)
theorem KG:∀t:Fin 66,∀d:Fin 67,0<d.val->(t.val+1)*d.val % 67≠0:=by decide +kernel
end Mr
namespace Mr
open PySem L2
structure Bt (mg:Str->Option Value):Prop where
 len:mg "len" = none
 min:mg "min" = none
 max:mg "max" = none
 abs:mg "abs" = none
 all:mg "all" = none
 sorted:mg "sorted" = none
 isi:mg "isinstance" = none
 list:mg "list" = none
 int:mg "int" = none
 bool:mg "bool" = none
 str:mg "str" = none
 dict:mg "dict" = none
 zip:mg "zip" = none
 enum:mg "enumerate" = none
 range:mg "range" = none
 reversed:mg "reversed" = none
structure Fn (P:jg) (w:ji) (K:W.Frag) (mg:Str->Option Value) (base:Heap) (k:Nat) (x:Str) (st:Stmt) (ps:List Str) (sp:Sp) (f:Addr) (fd:jr):Prop where
 D:za K mg x st ps f fd
 ok:yt P w K mg base Tn k f fd ps sp
theorem rz.units65{k:Nat}{A:Around}(r:rz k A):A.units+65<jB:=by have:=r.un;lia
section
variable {X:Cx}{k:Nat}{f:Addr}{fd:jr}{ps:List Str}{sp:Sp}{x:Str}{p pos:Pos}{e:Expr}{es:List Expr}{t:TA}{st:Stmt}
theorem qa(G:Fn X.prog X.w X.K X.mg X.base k x st ps sp f fd) (hr:rz k X.A) (ha:PA X (e::es) t) (hg:Gl X x:=by rfl) (hdb:(x == ("__debug__" : Str))=false:=by decide)
  (he:jj (e::es) X.env=(false,eval e X.env)::jj es X.env:=by rfl) (hpl:(jR pos (jj es X.env)).any (·.1)=false:=by rfl) :
  PE X (.Call (.Name x p) (e::es) [] pos) (yy sp [] E0 t):=FE G.ok hr hg G.D.m G.D.F.kp G.D.b .nil Xk ha hdb he hpl
end
section
variable (K:W.Frag)
def JR:Sp:=λvs H Q _=>∃(a:Addr) (ns:List Int),vs=[.ref a]/\qO K H a (ns.map V.int)/\ns.length<=63/\∀H',Q (.bl true) H'
end
theorem rd{α:Type}{l:List α}{i:Nat}{x:α}(h:l[i]?=some x):l.take (i+1)=l.take i++[x]:=by
 rw[de,h];rfl
end Mr
namespace Xe
open PySem
section
variable {M:jZ}{A:Around}{E:Value->Shared->Prop}{s:Shared}
structure D6 (fs:List Addr) (e:Addr) (oe:Obj) (T:Addr) (h h':Heap):Prop where
 keep:∀b o,b≠e->b∉fs->h.get? b=some o->h'.get? b=some o
 slot:∀b o,b≠e->h.get? b=some o->∃sl,h'.get? b=some { o with slots:=sl }
 exc:h'.get? e=some (oe.mapFields (·.setIfInBounds 1 (.ref T)))
 fresh:h.get? T=none
 ent:∃oT ts,h'.get? T=some oT/\oT.data = .fields ts/\ts[3]?=some .none
theorem Eg{base:Heap}{env:Env}{outer:List Env}{L e:Addr}{oe:Obj}{vs:Array Value}{head:Value}{hadNext:Bool}{Q:Unit->Shared->Prop}
  (hfr:A.frames=some (env::outer)) (hl:s.heap.FunFrames base (env::outer)) (hf:env.frame=some L)
  (he:s.heap.get? e=some oe) (hd:oe.data = .fields vs) (hsz:1<vs.size)
  (h:∀h' T,D6 ((env::outer).filterMap (·.frame)) e oe T s.heap h'->Q () { s with heap:=h' }) :
  jb M A (do let a ←frameOf env;let pl ←entryPlaceOf L hadNext;let b ←EntryCells.newEntry head a .none (kf L) .none pl;setField (.ref e) 1 b) (λ_ s'=>jb M A (kY (.ref e) none) Q E s') E s:=by
 have hene:e∉(env::outer).filterMap (·.frame):=λhm=>by
  obtain⟨_,o,ho,hnf⟩:=hl.mem hm;rw[he]at ho;injection ho with ho;subst ho;exact hnf vs hd
 refine iY (wpAny_frameOf_fun hfr hl hf λh₁ hs₁=>?_)
 refine iY (wpAny_entryPlaceOf λpl hpl=>?_)
 unfold EntryCells.newEntry newFields;refine iY (wpAny_newObj_type ?_ (hpl.sizeOk5 _ _ _ _ _));have he₁:h₁.get? e=some oe:=(hs₁.2.1 e hene).trans he;have he₂:=ae (h:=h₁) { cls:=.type "traceback", dict:=none,data:=.fields ([head,.ref L,.none,kf L,.none]++(if pl.isEmpty then ay 6 cA else pl)).toArray } he₁
 refine mi he₂ hd hsz ?_;have hTe:h₁.objs.size≠e:=bj (ag he₁);have hd₃:=Obj.data_mapFields hd (·.setIfInBounds 1 (ak h₁.objs.size));have he₃:=cU (Obj.mapFields (·.setIfInBounds 1 (ak h₁.objs.size))) he₂ (Obj.isFreed_of_fields hd₃);have hT₃:=(bI (h₁.push { cls:=.type "traceback", dict:=none,data:=.fields ([head,.ref L,.none,kf L,.none]++(if pl.isEmpty then ay 6 cA else pl)).toArray })
  (Obj.mapFields (·.setIfInBounds 1 (ak h₁.objs.size))) (Ne.symm hTe)).trans (aS h₁ rfl)
 unfold kY;refine iY (jK he₃ hd₃ (x:=.ref h₁.objs.size) (by simp[hsz]) ?_)
 rw[nP (show (ak h₁.objs.size != cA)=true from by simp)]
 refine mi hT₃ rfl (by simp only[aC,lAq,lCq,bB] <;> lia) (h _ h₁.objs.size ?_)
 have keep:∀b o,b≠e->h₁.get? b=some o ->
   (((h₁.push { cls:=.type "traceback", dict:=none,data:=.fields ([head,.ref L,.none,kf L,.none]++(if pl.isEmpty then ay 6 cA else pl)).toArray }).update e (Obj.mapFields (·.setIfInBounds 1 (ak h₁.objs.size)))).update h₁.objs.size
    (Obj.mapFields (·.setIfInBounds 3 ((none:Option Addr).elim cA λf=>kf f)))).get? b=some o:=λb o hbe hb=>by
  have hbT:h₁.objs.size≠b:=bj (ag hb);rw[bI _ _ hbT,bI _ _ (Ne.symm hbe)];exact ae _ hb
 refine⟨λb o hb hbf ho=>keep b o hb ((hs₁.2.1 b hbf).trans ho),λb o hb ho=>?_,?_,?_,?_⟩
 .obtain ⟨sl,e1⟩:=hs₁.2.2 b o ho;exact⟨sl,keep b _ hb e1⟩
 .rw [bI _ _ hTe];exact he₃
 .exact cE (by rw[hs₁.1];exact ai _)
 .exact ⟨_,_,cU _ hT₃ (Obj.isFreed_of_fields (Obj.data_mapFields rfl _)),Obj.data_mapFields rfl _,by first|(simp;done)|(rcases hpl with rfl|⟨_,_,_,_,_,_,_,rfl⟩ <;> simp)⟩
def D0(h:Heap) (vs:Array Value):Prop:=vs[1]?=some .none∨∃T0 o0 ts,vs[1]?=some (.ref T0)/\h.get? T0=some o0/\o0.data = .fields ts/\ts[3]?=some .none
theorem W4{base:Heap}{env:Env}{outer:List Env}{L e:Addr}{oe:Obj}{vs:Array Value}{Q:Unit->Shared->Prop}
  (hfr:A.frames=some (env::outer)) (hl:s.heap.FunFrames base (env::outer)) (hf:env.frame=some L)
  (he:s.heap.get? e=some oe) (hd:oe.data = .fields vs) (hq:D0 s.heap vs)
  (h:∀h' T,D6 ((env::outer).filterMap (·.frame)) e oe T s.heap h'->Q () { s with heap:=h' }) :
  jb M A (lR (.ref e) env) (λ_ s'=>jb M A (kY (.ref e) none) Q E s') E s:=by
 unfold lR;simp only[hf];rcases hq with h1|⟨T0,o0,ts,h1,hT,hdT,h3⟩
 .refine iY (jK he hd h1 ?_);rw[nQ (by decide)]
  exact Eg hfr hl hf he hd (aJ.mp h1).1 h
 .refine iY (jK he hd h1 ?_);rw[nP (show (ak T0 != cA)=true from by simp)]
  refine iY (jK hT hdT h3 ?_);rw[nQ (show ¬ ((cA == kf L)=true) from by simp[kf])]
  refine iY (mi hT hdT (aJ.mp h3).1 ?_);rw[fR s.heap T0 o0 ts 3 .none hT hdT h3];exact Eg hfr hl hf he hd (aJ.mp h1).1 h
theorem WJ{base:Heap}{env:Env}{outer:List Env}{L e:Addr}{oe:Obj}{vs:Array Value}{Q:Unit->Shared->Prop}
  (hfr:A.frames=some (env::outer)) (hl:s.heap.FunFrames base (env::outer)) (hf:env.frame=some L)
  (he:s.heap.get? e=some oe) (hd:oe.data = .fields vs) (hq:D0 s.heap vs)
  (h:∀h' T,D6 ((env::outer).filterMap (·.frame)) e oe T s.heap h'->Q () { s with heap:=h' }) :
  jb M A (leaving env (.ref e)) Q E s:=by
 unfold leaving;exact iY (W4 hfr hl hf he hd hq h)
end
abbrev uV:List Value:=[.type "ValueError", .type "Exception", .type "BaseException", .type "object"]
abbrev xy(C t:Addr) (dd:Option Addr):Obj:={ cls:=.ref C,dict:=dd,data:=.fields #[.ref t,.none,.none,.none,.bool false,.none] }
abbrev Lk{α:Type}(M:jZ) (h:Heap) (x:Sem α) (r:α):Prop :=
 ∀(A:Around) (Q:α->Shared->Prop) (E:Value->Shared->Prop) (s:Shared),(∀b o,h.get? b=some o->s.heap.get? b=some o)->Q r s->jb M A x Q E s
section
variable {M:jZ}{A:Around}{E:Value->Shared->Prop}{env:Env}
variable {nm q:Str}{C N:Addr}{bs bm:List Value}{hdct:Bool}{sn:List Str}{sub:List Value}{ab:Bool}{col:Option Bool}{dd:Option Addr}{k0 k1 k2 k3 k5:Option Value}{newId:String}
theorem IP{s:Shared}{x:Sem Value}{Q:Flow->Shared->Prop}(hbase:bm.contains (.type "BaseException")=true) (hh:A.handled=none)
  (h:jb M A x (λv s₁=>∃e t dx,v = .ref e/\s₁.heap.get? C=some (jv nm q C N bs bm hdct sn sub ab col dd k0 k1 k2 k3 k5 newId) /\
   s₁.heap.get? e=some (xy C t dx)/\E (.ref e) s₁) E s) :
  jb M A (raiseStmt env (some x) none) Q E s:=by
 have hcB:(ak C::bm).contains (.type "BaseException")=true:=by rw[br,hbase,dJ]
 unfold raiseStmt;refine iY (jo h (λv s₁ h₁=>?_) λ_ _ x=>x)
 obtain⟨e,t,dx,rfl,hC,he,hE⟩:=h₁;obtain⟨hp,g,d,tk,os⟩:=s₁
 repeat (first|with_reducible refine jk he ?_|with_reducible refine jk hC ?_|(with_reducible refine jt hC ?_;rw[hcB])|wp_step)
 exact wpAny_raiseNew_none hh hE
end
section
variable {prog:jg}{w:ji}{A:Around}{E:Value->Shared->Prop}{h:Heap}{g:Array kS}{d:Drawn}{t:Nat}{os:mU}
variable {nm q:Str}{C N:Addr}{bs bm:List Value}{hdct:Bool}{sn:List Str}{sub:List Value}{ab:Bool}{col:Option Bool}{dd:Option Addr}{k0 k1 k2 k3 k5:Option Value}
theorem Dc(T:jP h uV bm) {rest:List Value}{fI:Addr}{Q:Fin->Shared->Prop}
  (hC:h.get? C=some (jv nm q C N bs bm hdct sn sub ab col dd k0 k1 k2 k3 k5 "ValueError.__new__"))
  (hi:Lk (ja prog w) h (jn (.ref C) "__init__") (some (.ref fI))) (hb:∀self,Lk (ja prog w) h (bindSpecial (.ref fI) self) (.ref fI,[self]))
  (hq:∀h' e,fD h h' e (.ref C) rest->h.objs.size<=e ->
   jb (ja prog w) A (call (.ref fI) (.ref e::rest)) (λr s'=>r = .none/\Q (.done (.ret (.ref e))) s') E ⟨h',g,d,t,os⟩) (hrest:rest.length<=jf) :
  jb (ja prog w) A (Builtin.«type.__call__» ⟨.ref C::rest,[]⟩) Q E ⟨h,g,d,t,os⟩:=by
 have F:=eA
 repeat (first|with_reducible refine jk hC ?_|with_reducible refine wpAny_madeBy_exc hC ?_|wp_step)
 refine ly (Code.quiet_builtin _ F.quiet) (mD F T hC ?_);refine mH F T hC ?_ hrest;show jb _ _ _ _ _ _;have hC₁:=ae { cls:=.ref C,data:=.fields #[.ref h.objs.size,.none,.none,.none,.bool false,.none] }
  (ae { cls:=.type "tuple", data:=.seq rest.toArray } hC)
 have hget:((h.push { cls:=.type "tuple", data:=.seq rest.toArray }).push
   { cls:=.ref C,data:=.fields #[.ref h.objs.size,.none,.none,.none,.bool false,.none] }).get? (h.objs.size+1)=some
   { cls:=.ref C,data:=.fields #[.ref h.objs.size,.none,.none,.none,.bool false,.none] }:=by heap_get
 have hcC:(ak C::bm).contains (.ref C)=true:=by simp
 have kk:∀b o,h.get? b=some o->((h.push { cls:=.type "tuple", data:=.seq rest.toArray }).push { cls:=.ref C,data:=.fields #[.ref h.objs.size,.none,.none,.none,.bool false,.none] }).get? b=some o:=λb o e=>ae _ (ae _ e)
 have T₁:=T.keeps (h':=(h.push { cls:=.type "tuple", data:=.seq rest.toArray }).push { cls:=.ref C,data:=.fields #[.ref h.objs.size,.none,.none,.none,.bool false,.none] })
  λb o e=>ae _ (ae _ e)
 unfold mI
 repeat (first|with_reducible refine jk hget ?_|(with_reducible refine jt hC₁ ?_;rw[hcC])|wp_step)
 show jb _ _ (jn (.ref C) _) _ _ _;refine hi _ _ _ _ kk ?_;refine jA (iY (hb _ _ _ _ _ kk ?_));refine(iY (jo (hq _ (h.objs.size+1) ⟨λb o hb=>ae _ (ae _ hb),cE (bM _),h.objs.size,hget,cE (ai _),?_⟩ (bM _)) (λr s' hr=>?_) λ_ _ x=>x))
 .exact ae _ (fS rfl rfl)
 .obtain ⟨rfl,hQ⟩:=hr
  wp_walk
  exact hQ
theorem MQ(T:jP h uV bm) {rest:List Value}{fI:Addr}{Q:Value->Shared->Prop}
  (hC:h.get? C=some (jv nm q C N bs bm hdct sn sub ab col dd k0 k1 k2 k3 k5 "ValueError.__new__"))
  (hi:Lk (ja prog w) h (jn (.ref C) "__init__") (some (.ref fI))) (hb:∀self,Lk (ja prog w) h (bindSpecial (.ref fI) self) (.ref fI,[self]))
  (hq:∀h' e,fD h h' e (.ref C) rest->h.objs.size<=e ->
   jb (ja prog w) (A.under (.builtin "type.__call__" ⟨.ref C::rest,[]⟩)) (call (.ref fI) (.ref e::rest)) (λr s'=>r = .none/\Q (.ref e) s') E ⟨h',g,d,t,os⟩) (hrest:rest.length<=jf) :
  jb (ja prog w) A (call (.ref C) rest) Q E ⟨h,g,d,t,os⟩:=by
 have f1:=tc_lookup;have f2:=tc_bind (.ref C);have hT:(⟨h,g,d,t,os⟩:Shared).TypeIs (.ref C) "type" := ⟨_,hC,rfl⟩;refine kB (codeAny_of_tree ?_);show jb _ _ (callAny (.ref C) _) _ _ _
 repeat (any_goals (first|assumption|with_reducible refine jk hC ?_|wp_step))
 refine⟨rfl,?_⟩;refine lN (Code.quiet_builtin _ (by decide +kernel)) entry_typeCall (lu hC (Dc (hrest:=hrest) T hC hi hb λh' e hm hs=>?_))
 exact hq h' e hm hs
theorem MR(T:jP h uV bm) {e t0:Addr}{rest:List Value}{Q:Value->Shared->Prop}
  (hC:h.get? C=some (jv nm q C N bs bm hdct sn sub ab col dd k0 k1 k2 k3 k5 "ValueError.__new__")) (he:h.get? e=some (xy C t0 none))
  (hq:∀h' t1,(∀b o,b≠e->h.get? b=some o->h'.get? b=some o)->h'.get? e=some (xy C t1 none)->Q .none ⟨h',g,d,t,os⟩) (hrest:rest.length<=jf) :
  jb (ja prog w) A (call (.builtin "ValueError.__init__") (.ref e::rest)) Q E ⟨h,g,d,t,os⟩:=by
 have F:=eA;refine kB (jS F.init.plain F.initEntry (lY F T hC he rfl ?_))
 wp_walk
 refine hq _ h.objs.size (λb o hb ho=>?_) ?_
 .rw [bI _ _ (Ne.symm hb)];exact ae _ ho
 .rw [cU _ (ae _ he) rfl];rfl
theorem GQ(T:jP h uV bm) (self:Value):refuseLoop self "__setattr__" bm=pure ():=by
 induction T with
 |base=>exact PySem.F.store_ValueError.passes self
 |own _ _ _ _ ih=>rw[refuseLoop_ref];exact ih
end
end Xe
namespace Xe
open PySem
open Builtin Builtin.ObjectAttr
section
variable {prog:jg}{w:ji}{A:Around}{E:Value->Shared->Prop}{h:Heap}{g:Array kS}{d:Drawn}{t:Nat}{os:mU}
variable {nm q:Str}{C N:Addr}{bs bm:List Value}{sn:List Str}{sub:List Value}{ab:Bool}{col:Option Bool}{dd:Option Addr}{k0 k1 k2 k3 k5:Option Value}
theorem Mq(T:jP h uV bm) {x:Addr}{o:Obj}{name:Str}{v:Value}{tk:Tok}{Q:Fin->Shared->Prop}
  (hC:h.get? C=some (jv nm q C N bs bm true sn sub ab col dd k0 k1 k2 k3 k5 "ValueError.__new__")) (hx:h.get? x=some o) (hc:o.cls = .ref C) (hnc:∀c,o.data ≠ .cls c) (hdn:o.dict=none)
  (hTL:Lk (ja prog w) h (jn (.ref C) name) none)
  (hq:∀h' dx tk',h.objs.size<=dx->dx≠x->h'.get? x=some { cls:=o.cls,dict:=some dx,data:=o.data,slots:=o.slots }->h'.Ns1 dx (λy=>if y=name then some v else none)->(∀b ob,b≠x->h.get? b=some ob->h'.get? b=some ob) ->
   Q (.done (.ret .none)) ⟨h',g,d,tk',os⟩) :
  jb (ja prog w) A (Builtin.«object.__setattr__» ⟨[.ref x,.str name tk,v],[]⟩) Q E ⟨h,g,d,t,os⟩:=by
 have hpass:=GQ T (.ref x);unfold Builtin.«object.__setattr__»
 repeat (first|rw[refuse_eq]|(rw[refuseLoop_ref,hpass])|(with_reducible refine jk hx ?_;rw[hc])|with_reducible refine wpAny_mroOf_exc hC ?_|with_reducible refine hTL _ _ _ _ (λ_ _ z=>z) ?_|wp_step)
 rw[hdn,nQ (by simp[typeHasDict])]
 split
 .rename_i hcd;cases hcd
 split
 .rename_i c hcd;exact absurd hcd (hnc c)
 .have hx₁:(h.push { cls:=.type "dict", data:=.dict #[] }).get? x=some o:=ae _ hx;have hxs:x≠h.objs.size:=aw (ag hx);refine iY (wpAny_alloc' ?_);refine iY (wpAny_update' hx₁ ?_);refine je ?_;have hgd:((h.push { cls:=.type "dict", data:=.dict #[] }).update x λo=>{ cls:=o.cls,dict:=some h.objs.size,data:=o.data,slots:=o.slots }).get? h.objs.size
    = some { cls:=.type "dict", data:=.dict #[] } :=
   (bp _ _ _ _ hxs.symm).trans (fS rfl rfl)
  have hnd:((h.push { cls:=.type "dict", data:=.dict #[] }).update x λo=>{ cls:=o.cls,dict:=some h.objs.size,data:=o.data,slots:=o.slots }).Ns h.objs.size (λ_=>none) :=
   ⟨_,#[],_,hgd,rfl,λe he=>absurd he (by simp),λ_=>rfl⟩
  show jb _ _ (storeInDict h.objs.size (.str name tk) name v) _ _ _;unfold storeInDict newKeyGuard;refine iY (je (iY (wpAny_nsSet1 (Heap.Ns1.of_empty hnd) λh' hn' hs=>?_)))
  obtain⟨oD,esD,epD,hoD,hdD,hcD⟩:=hn'.count (Within.cons name v Within.nil);refine iY (wpAny_lookBehind hoD (by rw[hdD];exact pastItsLine_dict (bC hcD (by rw[lCq,bB,jq];lia))) ?_)
  wp_walk
  refine hq h' h.objs.size _ (ai _) hxs.symm ?_ hn' (λb ob hbx hb=>?_)
  .refine (hs.2 x hxs).trans (cU _ hx₁ ?_);have hfr:=(Heap.get?_some_iff.mp hx).2;obtain⟨oc,od,odt,osl⟩:=o;cases odt <;> first|rfl|exact hfr
  .exact (hs.2 b (aw (ag hb))).trans ((bp _ _ _ _ hbx).trans (ae _ hb))
theorem Qm{M:jZ}(T:jP h uV bm) {x:Addr}{o:Obj}{nameV v:Value}{Q:Unit->Shared->Prop}
  (hC:h.get? C=some (jv nm q C N bs bm true sn sub ab col dd k0 k1 k2 k3 k5 "ValueError.__new__")) (hx:h.get? x=some o) (hc:o.cls = .ref C) (hq:Q () ⟨h,g,d,t,os⟩) :
  jb M A (kI "object.__setattr__" ⟨[.ref x,nameV,v],[]⟩) Q E ⟨h,g,d,t,os⟩:=by
 have SF:=gK;have hob:(ak C::bm).contains (.type "object")=true:=by rw[br,T.hasType (show uV.contains (.type "object")=true by decide),dJ]
 have ha:=SF.args (.ref x) nameV v;simp only[kI,SF.kind,SF.split];refine iY ?_
 .unfold mI
  repeat (first|(with_reducible refine jk hx ?_;rw[hc])|(with_reducible refine jt hC ?_;rw[hob])|wp_step)
  exact hq
theorem La(T:jP h uV bm) {x t0:Addr}{name:Str}{v:Value}{Q:Unit->Shared->Prop}
  (hC:h.get? C=some (jv nm q C N bs bm true sn sub ab col dd k0 k1 k2 k3 k5 "ValueError.__new__")) (hx:h.get? x=some (xy C t0 none))
  (hSA:Lk (ja prog w) h (jn (.ref C) "__setattr__") (some (.builtin "object.__setattr__"))) (hTL:Lk (ja prog w) h (jn (.ref C) name) none)
  (hq:∀h' dx tk',h.objs.size<=dx->dx≠x->h'.get? x=some (xy C t0 (some dx))->h'.Ns1 dx (λy=>if y=name then some v else none)->(∀b ob,b≠x->h.get? b=some ob->h'.get? b=some ob) ->
   Q () ⟨h',g,d,tk',os⟩) :
  jb (ja prog w) A (setAttr (.ref x) name v) Q E ⟨h,g,d,t,os⟩:=by
 have SF:=gK;have f3:=SF.slot.bind (.ref x);have hob:(ak C::bm).contains (.type "object")=true:=by rw[br,T.hasType (show uV.contains (.type "object")=true by decide),dJ]
 unfold setAttr callSpecial? specialOf
 repeat (any_goals (first|assumption|with_reducible refine jk hx ?_|with_reducible refine hSA _ _ _ _ (λ_ _ z=>z) ?_|wp_step))
 refine jS SF.slot.plain SF.entry (Qm T hC hx rfl (Mq T hC hx rfl (λc z=>nomatch z) rfl hTL λh' dx tk' a1 a2 a3 a4 a5=>?_))
 repeat (any_goals (first|assumption|wp_step))
 exact hq h' dx tk' a1 a2 a3 a4 a5
end
section
variable {prog:jg}{w:ji}{A:Around}{E:Value->Shared->Prop}{h:Heap}{g:Array kS}{d:Drawn}{t:Nat}{os:mU}
variable {nm q:Str}{C N:Addr}{bs bm:List Value}{sn:List Str}{sub:List Value}{ab:Bool}{col:Option Bool}{dd:Option Addr}{k0 k1 k2 k3 k5:Option Value}{x dx:Addr}{o:Obj}{name:Str}{v:Value}{mA:Str->Option Value}
theorem PR{M:jZ}(T:jP h uV bm) {nameV:Value}{Q:Unit->Shared->Prop}(hC:h.get? C=some (jv nm q C N bs bm true sn sub ab col dd k0 k1 k2 k3 k5 "ValueError.__new__"))
  (hx:h.get? x=some o) (hc:o.cls = .ref C) (hq:Q () ⟨h,g,d,t,os⟩):jb M A (kI "BaseException.__getattribute__" ⟨[.ref x,nameV],[]⟩) Q E ⟨h,g,d,t,os⟩:=by
 have hk:builtinKind "BaseException.__getattribute__" = some .slot:=by decide +kernel
 have hsplit:splitId "BaseException.__getattribute__" = some ("BaseException", "__getattribute__"):=by decide +kernel
 have hcB:(ak C::bm).contains (.type "BaseException")=true:=by rw[br,T.hasType (show uV.contains (.type "BaseException")=true by decide)];rfl
 have ha:=PySem.F.args_bexc_ga (.ref x) nameV;simp only[kI,hk,hsplit];refine iY ?_
 .unfold mI
  repeat (first|(with_reducible refine jk hx ?_;rw[hc])|(with_reducible refine jt hC ?_;rw[hcB])|wp_step)
  exact hq
theorem Mb(T:jP h uV bm) {R:Result->Shared->Prop}(hC:h.get? C=some (jv nm q C N bs bm true sn sub ab col dd k0 k1 k2 k3 k5 "ValueError.__new__")) (hx:h.get? x=some o) (hc:o.cls = .ref C)
  (hq:R (.ok (.ret (.ref C))) ⟨h,g,d,t,os⟩) :
  kK (ja prog w) A (.call (.builtin "getset_descriptor.__get__") ⟨[.builtin "object.__class__", .ref x,.ref C],[]⟩) R ⟨h,g,d,t,os⟩:=by
 have hT5:(⟨h,g,d,t,os⟩:Shared).TypeIs (.builtin "object.__class__") "getset_descriptor" := ed;have hcB:(ak C::bm).contains (.type (".".intercalate ("object.__class__".cutAt '.').dropLast))=true:=by
  rw[PySem.F.owner_object_class,br,T.hasType (show uV.contains (.type "object")=true by decide)];rfl
 refine jS fy.plain PySem.F.entry_gs_get (fy.check _ _ _ _ _ _ _ _ hT5 (PySem.F.args_gs_get _ _ _) ?_)
 repeat (any_goals (first|assumption|(with_reducible refine jk hx ?_;rw[hc])|(with_reducible refine jt hC ?_;rw[hcB])|wp_step))
 refine⟨Code.quiet_builtin _ (by decide +kernel),jw PySem.F.entry_object_class ?_⟩
 repeat (any_goals (first|assumption|(with_reducible refine jk hx ?_;rw[hc])|wp_step))
theorem MD(T:jP h uV bm) {tk:Tok}{Q:Fin->Shared->Prop}(hC:h.get? C=some (jv nm q C N bs bm true sn sub ab col dd k0 k1 k2 k3 k5 "ValueError.__new__")) (hx:h.get? x=some o) (hc:o.cls = .ref C)
  (hTL:Lk (ja prog w) h (jn (.ref C) "__class__") (some (.builtin "object.__class__"))) (hq:Q (.done (.ret (.ref C))) ⟨h,g,d,t,os⟩) :
  jb (ja prog w) A (Builtin.«object.__getattribute__» ⟨[.ref x,.str "__class__" tk],[]⟩) Q E ⟨h,g,d,t,os⟩:=by
 have hT5:(⟨h,g,d,t,os⟩:Shared).TypeIs (.builtin "object.__class__") "getset_descriptor" := ed;have f5:=ed;have f6:=fy.lookup;have f7:=PySem.F.slot_gs_set.lookup
 repeat (any_goals (first|assumption|(with_reducible refine jk hx ?_;rw[hc])|with_reducible refine hTL _ _ _ _ (λ_ _ z=>z) ?_|wp_step))
 refine Mb T hC hx hc ?_
 repeat (any_goals (first|assumption|wp_step))
theorem Qj(T:jP h uV bm) {tk:Tok}{Q:Value->Shared->Prop}(hC:h.get? C=some (jv nm q C N bs bm true sn sub ab col dd k0 k1 k2 k3 k5 "ValueError.__new__")) (hx:h.get? x=some o) (hc:o.cls = .ref C)
  (hTL:Lk (ja prog w) h (jn (.ref C) "__class__") (some (.builtin "object.__class__"))) (hGA:Lk (ja prog w) h (jn (.ref C) "__getattribute__") (some (.builtin "BaseException.__getattribute__")))
  (hGT:Lk (ja prog w) h (jn (.ref C) "__getattr__") none) (hq:Q (.ref C) ⟨h,g,d,t,os⟩):jb (ja prog w) A (getAttrBy (.ref x) (.str "__class__" tk) false) Q E ⟨h,g,d,t,os⟩:=by
 have FB:=PySem.F.excAttr_ValueError;have f3:=FB.ga.bind (.ref x);have hx2:(fT "BaseException.__getattribute__" == fT "object.__getattribute__")=false:=by decide +kernel
 have hx1:(onTheHeap (ak C) && fT "BaseException.__getattribute__" == fT "object.__getattribute__")=false:=by rw[hx2];rfl
 repeat (any_goals (first|assumption|(with_reducible refine jk hx ?_;rw[hc])|with_reducible refine hGA _ _ _ _ (λ_ _ z=>z) ?_|with_reducible refine hGT _ _ _ _ (λ_ _ z=>z) ?_|wp_step))
 refine jS FB.ga.plain PySem.F.entry_bexc_ga (PR T hC hx hc (MD T hC hx hc hTL ?_))
 repeat (any_goals (first|assumption|wp_step))
theorem IU(T:jP h uV bm) {Q:Option Value->Shared->Prop}(hC:h.get? C=some (jv nm q C N bs bm true sn sub ab col dd k0 k1 k2 k3 k5 "ValueError.__new__")) (hx:h.get? x=some o) (hc:o.cls = .ref C)
  (hTL:Lk (ja prog w) h (jn (.ref C) "__class__") (some (.builtin "object.__class__"))) (hGA:Lk (ja prog w) h (jn (.ref C) "__getattribute__") (some (.builtin "BaseException.__getattribute__")))
  (hGT:Lk (ja prog w) h (jn (.ref C) "__getattr__") none) (hq:Q (some (.ref C)) ⟨h,g,d,t+1,os⟩):jb (ja prog w) A (getAttr? (.ref x) "__class__") Q E ⟨h,g,d,t,os⟩:=by
 unfold getAttr? getAttrBy?
 repeat (any_goals (first|assumption|with_reducible apply Qj T hC hx hc hTL hGA hGT|wp_step))
end
section
variable {M:jZ}{A:Around}{E:Value->Shared->Prop}{h:Heap}{g:Array kS}{d:Drawn}{t:Nat}{os:mU}
variable {nm q nm' q':Str}{C N C' N':Addr}{bs bm bs' bm':List Value}{hdct hdct':Bool}{sn sn':List Str}{sub sub':List Value}{ab ab':Bool}{col col':Option Bool}{dd dd':Option Addr}{k0 k1 k2 k3 k5 k0' k1' k2' k3' k5':Option Value}{newId newId':String}
theorem GK{e:Addr}{oe:Obj}{Q:Bool->Shared->Prop}(hC:h.get? C=some (jv nm q C N bs bm hdct sn sub ab col dd k0 k1 k2 k3 k5 newId))
  (hC':h.get? C'=some (jv nm' q' C' N' bs' bm' hdct' sn' sub' ab' col' dd' k0' k1' k2' k3' k5' newId')) (hb:bm'.contains (.type "BaseException")=true)
  (he:h.get? e=some oe) (hcls:oe.cls = .ref C) (hq:Q ((ak C::bm).contains (.ref C')) ⟨h,g,d,t,os⟩):jb M A (excMatches (.ref e) (.ref C')) Q E ⟨h,g,d,t,os⟩:=by
 have hcB:(ak C'::bm').contains (.type "BaseException")=true:=by rw[br,hb,dJ]
 have f:=tc_notTuple;unfold excMatches;cases hv:(ak C::bm).contains (.ref C') with
 |true =>
  rw[hv]at hq
  repeat (first|(with_reducible refine jk he ?_;rw[hcls])|with_reducible refine jk hC' ?_|(with_reducible refine jt hC' ?_;rw[hcB])|(with_reducible refine jt hC ?_;rw[hv])|wp_step)
  exact hq
 |false =>
  rw[hv]at hq
  repeat (first|(with_reducible refine jk he ?_;rw[hcls])|with_reducible refine jk hC' ?_|(with_reducible refine jt hC' ?_;rw[hcB])|(with_reducible refine jt hC ?_;rw[hv])|wp_step)
  exact hq
end
section
variable {prog:jg}{w:ji}{A:Around}{E:Value->Shared->Prop}{s:Shared}{env:Env}{e:Addr}{c0:Value}{t:Expr}{n:Str}{b₀:Stmt}{suite:List Stmt}{pos:Pos}{rest:List ExceptHandler}{Q:Flow->Shared->Prop}
abbrev Mt(M:jZ) (e:Addr) (c0:Value) (b:Bool) (s:Shared):Prop:=∀(A:Around) (Q:Bool->Shared->Prop) (E:Value->Shared->Prop),Q b s->jb M A (excMatches (.ref e) c0) Q E s
theorem NN(hm:Mt (ja prog w) e c0 true s) (hv:∀Q':Value->Shared->Prop,Q' c0 s->jb (ja prog w) (A.mark (some (.ref e))) (eval t env) Q' (λ_ _=>False) s)
  (k:jb (ja prog w) (A.mark (some (.ref e))) (kY (.ref e) none) (λ_ s₂=>jb (ja prog w) (A.mark (some (.ref e))) (mS env n (.ref e)) (λ_ s₃ =>
   jb (ja prog w) (A.mark (some (.ref e))) (execs (b₀::suite) env) (λf s₄=>jb (ja prog w) A (do bindName env n .none;mE env n pos) (λ_ s₅=>Q f s₅) E s₄) (λ_ _=>False) s₃) (λ_ _=>False) s₂) (λ_ _=>False) s) :
  jb (ja prog w) A (lI (.ref e) env (.ExceptHandler (some t) (some n) (b₀::suite) pos::rest)) Q E s:=by
 refine mO (lZ (jo (hv _ ?_) (λc s₁ h₁=>h₁) λ_ _ x=>x.elim)) (by intro q;cases q)
 refine hm _ _ _ (codeAny_handlers_suite_as ?_);exact jo k (λ_ s₂ h₂=>jo h₂ (λ_ s₃ h₃=>jo h₃ (λ_ _ z=>z) λ_ _ z=>z.elim) λ_ _ z=>z.elim) λ_ _ z=>z.elim
theorem Wz{n':Option Str}(hm:Mt (ja prog w) e c0 false s) (hv:∀Q':Value->Shared->Prop,Q' c0 s->jb (ja prog w) (A.mark (some (.ref e))) (eval t env) Q' (λ_ _=>False) s)
  (k:jb (ja prog w) A (lI (.ref e) env rest) Q E s):jb (ja prog w) A (lI (.ref e) env (.ExceptHandler (some t) n' (b₀::suite) pos::rest)) Q E s:=by
 refine mO (lZ (jo (hv _ ?_) (λc s₁ h₁=>h₁) λ_ _ x=>x.elim)) (by intro q;cases q)
 exact hm _ _ _ k
end
end Xe
namespace Xe
open PySem PySem.Spec PySem.W PyProof.Rows L2 Mr
abbrev St:=L2.St
abbrev V3(K:Frag) (C:Addr):Bool:=findIn K (.ref C) "__setattr__" == some (some (.builtin "object.__setattr__")) && findIn K (.ref C) "__getattribute__" == some (some (.builtin "BaseException.__getattribute__")) &&
 findIn K (.ref C) "__getattr__" == some none && findIn K (.ref C) "__class__" == some (some (.builtin "object.__class__"))
def vv(K:Frag) (c:Str) (C:Addr) (bm:List Value):Bool:=match K.lookup C with
 |some ⟨.type "type", _,.cls cd,sl⟩=>(match sl.toList with
  | [_,_,_,_,some (.builtin n),_]=>cd.name == c && cd.mro == .ref C::bm && n == "ValueError.__new__" && !cd.hasDel && cd.hasDict && tailIn K uV bm
  |_=>false)
 |_=>false
structure XC (K:Frag) (c:Str) (C:Addr) (bm:List Value):Prop where
 obj:∃N q bs sn sub ab col dd k0 k1 k2 k3 k5,K.lookup C=some (jv c q C N bs bm true sn sub ab col dd k0 k1 k2 k3 k5 "ValueError.__new__")
 cls:∃cd,clsIn K C=some cd/\cd.mro = .ref C::bm/\cd.name=c
 tail:∀h:Heap,K.In h->jP h uV bm
theorem uU{K:Frag}{c:Str}{C:Addr}{bm:List Value}(e:vv K c C bm=true):XC K c C bm:=by
 unfold vv at e;split at e
 .rename_i dd cd sl ho;split at e
  .rename_i k0 k1 k2 k3 n k5 hs;simp only[dC,beq_iff_eq,eV]at e;obtain⟨⟨⟨⟨⟨e1,e2⟩,e3⟩,hdel⟩,hdc⟩,ht⟩:=e;have hc:clsIn K C=some cd:=by unfold clsIn;rw[ho]
   obtain⟨nm,bs,mro,ns,qn,hd,sn,sub,ab,col,del⟩:=cd;dsimp only at e1 e2 hdel hdc;subst e1 e2 e3 hdel hdc;have hsl:sl=#[k0,k1,k2,k3,some (.builtin "ValueError.__new__"),k5]:=by
    obtain⟨l⟩:=sl;simp only at hs;rw[hs]
   subst hsl;exact⟨⟨ns,qn,bs,sn,sub,ab,col,dd,k0,k1,k2,k3,k5,ho⟩,⟨_,hc,rfl,rfl⟩,λh X=>tail_of_in X ht⟩
  .cases e
 .cases e
theorem Ko{K:Frag}{c c':Str}{C:Addr}{bm bm':List Value}(e:vv K c C bm=true) (e':vv K c' C bm'=true):c=c'/\bm=bm':=by
 obtain⟨_,⟨cd,h1,h2,h3⟩,_⟩:=uU e;obtain⟨_,⟨cd',h1',h2',h3'⟩,_⟩:=uU e';rw[h1]at h1';cases h1';rw[h2]at h2';exact⟨h3.symm.trans h3',by injection h2'⟩
structure wO (K:Frag) (c:Str) (C M:Addr):Prop where
 nm:nsIn K jh c=some (some (.ref C))
 nmM:nsIn K jh "MapError" = some (some (.ref M))
 xc:vv K c C (.ref M::uV)=true
 xm:vv K "MapError" M uV=true
 lk:V3 K C=true
def T4(K:Frag) (c:Str) (C:Addr):Prop:=nsIn K jh c=some (some (.ref C))/\((∃M,wO K c C M)∨(c = "MapError" /\ vv K "MapError" C uV=true))
theorem wO.one{K:Frag}{c:Str}{C M C' M':Addr}(a:wO K c C M) (b:wO K c C' M'):C=C'/\M=M':=by
 have e1:=a.nm.symm.trans b.nm;have e2:=a.nmM.symm.trans b.nmM;simp at e1 e2;exact⟨e1,e2⟩
structure wO.Lks (K:Frag) (M:jZ) (h:Heap) (C:Addr):Prop where
 sa:Lk M h (jn (.ref C) "__setattr__") (some (.builtin "object.__setattr__"))
 ga:Lk M h (jn (.ref C) "__getattribute__") (some (.builtin "BaseException.__getattribute__"))
 gt:Lk M h (jn (.ref C) "__getattr__") none
 cl:Lk M h (jn (.ref C) "__class__") (some (.builtin "object.__class__"))
theorem wO.lks{K:Frag}{c:Str}{C M:Addr}{Mo:jZ}{h:Heap}(r:wO K c C M) (X:K.In h):wO.Lks K Mo h C:=by
 have e:=r.lk;simp only[V3,dC,beq_iff_eq]at e;obtain⟨⟨⟨e1,e2⟩,e3⟩,e4⟩:=e;exact⟨ka X e1,ka X e2,ka X e3,ka X e4⟩
def BG(e C:Addr) (od:Option Addr):HO:=.ext λh=>∃o vs,h.get? e=some o/\o.cls = .ref C/\o.dict=od/\o.data = .fields vs
def IY(e C:Addr) (od:Option Addr):HO:=.ext λh=>∃t,h.get? e=some (xy C t od)
section
variable {P:jg}{w:ji}{H:Hp}{h:Heap}{e C:Addr}{od:Option Addr}
theorem Vg{o:Obj}{vs:Array Value}(h1:h.get? e=some o) (h2:o.cls = .ref C) (h3:o.dict=od) (h4:o.data = .fields vs):oY P w H h e (BG e C od) :=
 ⟨⟨o,vs,h1,h2,h3,h4⟩,⟨o,h1⟩,λg1 g2 ⟨o',vs',a,b⟩ k=>⟨o',vs',k _ a,b⟩⟩
theorem E8{t:Addr}(h1:h.get? e=some (xy C t od)):oY P w H h e (IY e C od):=⟨⟨t,h1⟩,⟨_,h1⟩,λg1 g2 ⟨t',a⟩ k=>⟨t',k _ a⟩⟩
theorem EZ(ok:wX P w H h) (q:H e=some (IY e C od)):∃t,h.get? e=some (xy C t od):=(show oY P w H h e (IY e C od) from ok e _ q).1
theorem BC(ok:wX P w H h) (q:H e=some (BG e C od)):∃o vs,h.get? e=some o/\o.cls = .ref C/\o.dict=od/\o.data = .fields vs:=(show oY P w H h e (BG e C od) from ok e _ q).1
theorem BE{o:HO}(q:H e=some o):oB H e o=H:=by
 funext b
 by_cases hb:b=e
 .subst hb;rw[nB,q]
 .rw [ni hb]
end
section
variable {X:Cx}{mV:List (Addr×Obj)}{σ:St}{H:Hp}{s:Shared}
def ZW(K:Frag) (t:TA):TE:=λσ H Q=>t σ H λvs H1=>∃e v c C M,vs=[.ref e,v]/\H1 e=some (IY e C none)/\wO K c C M/\Q .non H1
theorem Xt{M:Addr}{x:Str}{p ap pos:Pos}{a1 a2:Expr}{t:TA}{pl:Sem Bool}(hg:Gl X x) (hm:X.mg x=some (.ref M)) (hr:readsIn X.K M (.type "type")=true)
  (hs:specialIn X.K (.ref M) "__getattribute__" = some (some (.builtin "type.__getattribute__"))) (hf:findCls X.K (.ref M) (.type "type") "__init__" = some (.val (.builtin "ValueError.__init__")))
  (ha:PA X [a1,a2] t) (hdb:(x == ("__debug__" : Str))=false:=by decide)
  (he:jj [a1,a2] X.env=(false,eval a1 X.env)::jj [a2] X.env:=by rfl) (hpl:(jR pos (jj [a2] X.env)).any (·.1)=false:=by rfl)
  (ht:eval (.Call (.Attribute (.Name x p) "__init__" ap) [a1,a2] [] pos) X.env=(do
   let ov ←eval (.Name x p) X.env
   standAt ap.atName
   let (f,first) ←holding [ov] (getMethod ov "__init__" pl)
   callWith pos f first (jR pos (jj [a1,a2] X.env)) (backToKw pos (keywordEach [] X.env))):=by rfl):PE X (.Call (.Attribute (.Name x p) "__init__" ap) [a1,a2] [] pos) (ZW X.K t):=by
 intro mV s σ H Q I h;refine W.methodCall_KW (pl:=pl) (vW I hg hm ?_ hdb) ht;refine method_cls I.kIn hs (cls_value I.kIn hr hf (by decide +kernel) ?_)
 refine cC (qA (ha pos mV _ σ H _ (I.tok _) h) λus s1 hz1=>?_) he hpl
 obtain⟨vs,H1,I1,r1,e,v,c,C,Mc,ev,he1,rf,q⟩:=hz1;subst ev;cases r1 with
 |cons r2 r3 =>
  cases r3 with
  |cons r4 r5 =>
   cases r5;cases r2;obtain⟨t0,hx⟩:=EZ I1.hok he1;obtain⟨⟨N,q',bs,sn,sub,ab,col,dd,k0,k1,k2,k3,k5,hC⟩,_,T⟩:=uU rf.xc;obtain⟨hh,g,d,tk,os⟩:=s1;refine MR (T _ I1.kIn) (I1.kIn _ _ hC) hx (λh' t1 hk hx'=>?_) (by rw[jq];simp)
   refine⟨.non,H1,?_,rfl,q⟩;have J:=I1.write (x:=e) (e:=e) (o:=IY e C none) (t':=tk) (by rw[he1];trivial) (.inl rfl) (λb u hb hu=>hk b u hb hu) ⟨_,hx'⟩ (E8 hx')
   rw[BE he1]at J;exact J
def ZJ(K:Frag) (ta tv:TE) (f:Str):TS:=λD σ H=>tv σ H λy H1=>ta σ H1 λx H2=>∃e c C M,x = .ref e/\H2 e=some (IY e C none)/\wO K c C M/\findIn K (.ref C) f=some none /\
 ∀dx,H2 dx=none->dx≠e->D.nx σ (oB (oB H2 dx (.xd [(f,y)])) e (IY e C (some dx)))
theorem WU{o value:Expr}{f:Str}{pos pos':Pos}{ta tv:TE}(ha:PE X o ta) (hv:PE X value tv) (hs:kX value (some (.Attribute o f pos')) pos.line X.env=pure false):PS X (.Assign [.Attribute o f pos'] value pos) (ZJ X.K ta tv f):=by
 intro mV s σ H D I h;refine plainObj_wpAny_Assign_Attribute (qA (hv mV s σ H _ I h) λu s1 hz1=>?_) hs
 obtain⟨y,H1,I1,ry,q⟩:=hz1;refine qA (ha mV s1 σ H1 _ I1 q) λov s2 hz2=>?_
 obtain⟨x,H2,I2,rx,e,c,C,M,ex,he,rf,nf,q2⟩:=hz2;subst ex;obtain rfl:ov=ak e:=rx;obtain⟨t0,hx⟩:=EZ I2.hok he;obtain⟨⟨N,q',bs,sn,sub,ab,col,dd,k0,k1,k2,k3,k5,hC⟩,_,T⟩:=uU rf.xc;have L:=rf.lks (Mo:=ja X.prog X.w) I2.kIn;have LN:=ka (M:=ja X.prog X.w) I2.kIn nf;obtain⟨hh,g,d,tk,os⟩:=s2;refine La (T _ I2.kIn) (I2.kIn _ _ hC) hx L.sa LN λh' dx tk' n1 n2 hx' hns hk=>?_
 have nd:H2 dx=none:=I2.hok.fresh n1;refine⟨σ,_,?_,q2 dx nd n2⟩;have ne:∀b ob,H2 b=none->hh.get? b=some ob->b≠e:=λb ob z _=>λq=>by rw[q,he]at z;cases z
 have nx:∀b ob,hh.get? b=some ob->b≠dx:=λb ob z=>aw (aK (ag z) n1)
 have nt:∀b ob,H2 b=some ob->b≠dx:=λb ob z q=>by rw[q,nd]at z;cases z
 have nE:∀(b:Addr) (ob:HO),H2 b=some ob->(∀φ,ob ≠ .ext φ)->b≠e:=λb ob z k q=>by rw[q,he]at z;cases z;exact k _ rfl
 refine I2.un (t':=tk') ⟨λb ob z n _ _=>hk b ob (ne b ob n z) z,λb ob z n _ _=>⟨ob.slots,hk b ob (ne b ob n z) z⟩,λb ob z n _=>by rw[ni (ne b ob n z),ni (nx b ob z)];exact n,λb ob z _=>?_,
  λb xs z=>by rw[ni (nE b _ z λφ w=>by cases w),ni (nt b _ z)];exact z,λb o' u' z=>by rw[ni (nE b _ z λφ w=>by cases w),ni (nt b _ z)];exact z,
  λb ps z=>⟨#[],by rw[ni (nE b _ z λφ w=>by cases w),ni (nt b _ z),z];simp⟩⟩ λb u z=>?_
 .by_cases hb:b=e
  .subst hb;exact⟨_,hx'⟩
  .exact ⟨ob,hk b ob hb z⟩
 .by_cases hb:b=e
  .subst hb;rw[nB]at z;cases z;exact E8 hx'
  .rw [ni hb]at z
   by_cases hb2:b=dx
   .subst hb2;rw[nB]at z;cases z;refine⟨_,hns,λg=>?_⟩
    by_cases hg:g=f
    .subst hg;simpa [iU,Bg] using ry
    .have:(g == f)=false:=by simpa using hg
     simp[iU,this,hg,Bg]
   .rw [ni hb2]at z;refine(I2.hok b u z).stay (λc' v' hc r=>hk c' v' ?_ r) (λc' r=>?_) λc' xs r=>?_
    .rcases hc with rfl|hc
     .exact hb
     .exact nE c' _ hc λφ w=>by cases w
    .rw [ni (nE c' _ r λφ w=>by cases w),ni (nt c' _ r)];exact r
    .rw [ni (nE c' _ r λφ w=>by cases w),ni (nt c' _ r)];exact r
end
def Oo(K:Frag) (c fld:Str):Sp:=λvs H Q _=>∃e v C M,vs=[.ref e,v]/\H e=some (IY e C none)/\wO K c C M/\findIn K (.ref C) fld=some none /\
 ∀dx,H dx=none->dx≠e->Q .non (oB (oB H dx (.xd [(fld,v)])) e (IY e C (some dx)))
def XN(K:Frag) (c fld:Str) (t:TA):TE:=λσ H Q=>t σ H λvs H1=>∃v C M,vs=[v]/\wO K c C M/\findIn K (.ref C) fld=some none /\
 ∀e dx,H1 e=none->H1 dx=none->dx≠e->Q (.ref e) (oB (oB H1 dx (.xd [(fld,v)])) e (IY e C (some dx)))
structure Zj (P:jg) (w:ji) (K:Frag) (mg:Str->Option Value) (base:Heap) (k:Nat) (c fld prm:Str) (C M f:Addr) (fd:jr):Prop where
 rf:wO K c C M
 ini:findIn K (.ref C) "__init__" = some (some (.ref f))
 fn:isFn K (.ref f)=true
 kp:keepIn K (.ref C)=true
 nf:findIn K (.ref C) fld=some none
 m:mg c=some (.ref C)
 b:uQ K fd ["self", prm] []
 ok:yt P w K mg base Tn k f fd ["self", prm] (Oo K c fld)
theorem Sk{H:Hp}{e dx:Addr}{a b c:HO}:oB (oB (oB H e a) dx b) e c=oB (oB H dx b) e c:=by
 funext x;unfold oB;split
 .rfl
 .rename_i h;split
  .rfl
  .first|rfl|rw[nQ h]
section
variable {X:Cx}{k:Nat}{c fld prm:Str}{C M f:Addr}{fd:jr}{p pos:Pos}{a:Expr}{t:TA}
theorem SJ{mV:List (Addr×Obj)}{σ:St}{H1:Hp}{s1:Shared}{Q:VK}{u:Value}{v:V}(G:Zj X.prog X.w X.K X.mg X.base k c fld prm C M f fd) (hr:rz (k+1) X.A) (I1:Inv X mV σ H1 s1) (ru:oK v u)
  (q:∀e dx,H1 e=none->H1 dx=none->dx≠e->Q (.ref e) (oB (oB H1 dx (.xd [(fld,v)])) e (IY e C (some dx)))):jb (ja X.prog X.w) X.A (call (.ref C) [u]) (EP X mV σ Q) X.xe s1:=by
 obtain⟨⟨N,q',bs,sn,sub,ab,col,dd,k0,k1,k2,k3,k5,hC⟩,_,T⟩:=uU G.rf.xc;obtain⟨hh,g,d,tk,os⟩:=s1;refine MQ (T _ I1.kIn) (I1.kIn _ _ hC) (ka I1.kIn G.ini) (λself=>bind_fn I1.kIn self (beq_iff_eq.mp G.fn)) (λh' e hm hs=>?_) (by rw[jq];simp)
 have nE:H1 e=none:=I1.hok.fresh hs;obtain⟨t0,hx,_,_⟩:=hm.there;have I2:Inv X mV σ (oB H1 e (IY e C none)) ⟨h',g,d,tk,os⟩:=I1.laid (t':=tk) hm.keeps hs (E8 hx);have hsp:Oo X.K c fld [.ref e,v] (oB H1 e (IY e C none)) (λv' H2=>v' = .non/\Q (.ref e) H2) E0:=by
  refine⟨e,v,C,M,rfl,nB,G.rf,G.nf,λdx nd ne=>⟨rfl,?_⟩⟩
  rw[Sk];rw[ni ne]at nd;exact q e dx nE nd ne
 refine kB (kN (G.ok.run _ X.stack _ _ ⟨[.ref e,u],[]⟩ [.ref e,u] [.ref e,v] _ E0 (hr.make C [u] []) (I2.env0.make C [u] []) (G.b _ [.ref e,u] I2.kIn rfl) (.cons rfl (.cons ru .nil)) hsp) λr s' hq'=>?_)
 cases r with
 |error e=>exact False.elim hq'
 |ok fl =>
  cases fl with
  |ret u =>
   obtain⟨v',H',I3,rv,ev,q3⟩:=I2.after hq';subst ev;exact⟨rv,⟨V.ref e,H',I3,rfl,q3⟩⟩
  |next=>exact False.elim hq'
  |brk=>exact False.elim hq'
  |cont=>exact False.elim hq'
theorem Uv(G:Zj X.prog X.w X.K X.mg X.base k c fld prm C M f fd) (hr:rz (k+1) X.A) (ha:PA X [a] t) (hg:Gl X c:=by rfl) (hdb:(c == ("__debug__" : Str))=false:=by decide)
  (he:jj [a] X.env=(false,eval a X.env)::jj [] X.env:=by rfl) (hpl:(jR pos (jj [] X.env)).any (·.1)=false:=by rfl) :
  PE X (.Call (.Name c p) [a] [] pos) (XN X.K c fld t):=by
 intro mV s σ H Q I h;refine jz (vW I hg G.m ?_ hdb);refine W.callWith_K (h₀:=X.base) I.ok.mod.kin G.kp (qA (ha pos mV s σ H _ I h) λus s1 hz1=>?_) he hpl
 obtain⟨vs,H1,I1,r,v,C',M',ev,rf',nf',q⟩:=hz1;refine⟨I1.kIn,?_⟩;obtain⟨rfl,rfl⟩:=G.rf.one rf';subst ev;cases r with
 |cons ru r2 =>
  cases r2;exact SJ G hr I1 ru q
end
def S6(P:jg) (w:ji):M7:=λouter H s E ev s'=>∃e C od H' o vs,ev = .ref e/\s'.os=s.os/\kE s'.gens/\Un (JE outer) [] H H' s.heap s'.heap/\wX P w H' s'.heap/\H' e=some (BG e C od) /\
 s'.heap.get? e=some o/\o.data = .fields vs/\D0 s'.heap vs/\E (.ref e) od H'
theorem VO{P:jg}{w:ji}{X:Cx}:Aj (S6 P w) X E0:=λ_ _ _ _ _ _ _ h=>by
 obtain⟨_,_,_,_,_,_,_,_,_,_,_,_,_,_,_,z⟩:=h;exact z.elim
def Qq(X:Cx) (E:XK):Prop:=∀(mV:List (Addr×Obj)) (σ:St) (H:Hp) (s:Shared) (e C:Addr) (od:Option Addr) (o:Obj) (vs:Array Value) (φ:Heap->Prop),Inv X mV σ H s->H e=some (.ext φ)->s.heap.get? e=some o ->
 o.cls = .ref C->o.dict=od->o.data = .fields vs->D0 s.heap vs->E (.ref e) od (oB H e (BG e C od))->X.xe (.ref e) s
section
variable {P:jg}{w:ji}{H:Hp}{h h':Heap}{e C T:Addr}{od:Option Addr}{o:Obj}{vs:Array Value}{fs:List Addr}{φ:Heap->Prop}
theorem HA(N:D6 fs e o T h h') (hE:H e=some (.ext φ)):Un fs [] H (oB H e (BG e C od)) h h':=by
 have ne:∀b,H b=none->b≠e:=λb z q=>by rw[q,hE]at z;cases z
 have nE:∀(b:Addr) (ob:HO),H b=some ob->(∀φ,ob ≠ .ext φ)->b≠e:=λb ob z k q=>by rw[q,hE]at z;cases z;exact k _ rfl
 refine⟨λb ob z n hb _=>N.keep b ob (ne b n) hb z,λb ob z n _ _=>N.slot b ob (ne b n) z,λb ob z n _=>by rw[ni (ne b n)];exact n,λb ob z _=>?_,
  λb xs z=>by rw[ni (nE b _ z λφ w=>by cases w)];exact z,λb o' u' z=>by rw[ni (nE b _ z λφ w=>by cases w)];exact z,
  λb ps z=>⟨#[],by rw[ni (nE b _ z λφ w=>by cases w),z];simp⟩⟩
 by_cases hb:b=e
 .subst hb;exact⟨_,N.exc⟩
 .obtain ⟨sl,q⟩:=N.slot b ob hb z;exact⟨_,q⟩
theorem GA(N:D6 fs e o T h h') (hE:H e=some (.ext φ)) (ok:wX P w H h) (hf:∀b∈fs,H b=none) (hc:o.cls = .ref C) (hd:o.dict=od) (hdat:o.data = .fields vs):wX P w (oB H e (BG e C od)) h':=by
 have nE:∀(b:Addr) (ob:HO),H b=some ob->(∀φ,ob ≠ .ext φ)->b≠e:=λb ob z k q=>by rw[q,hE]at z;cases z;exact k _ rfl
 have nf:∀b ob,H b=some ob->b∉fs:=λb ob z q=>by rw[hf b q]at z;cases z
 intro b u z
 by_cases hb:b=e
 .subst hb;rw[nB]at z;cases z;refine Vg N.exc ?_ ?_ (Obj.data_mapFields hdat _)
  .rw [Obj.cls_mapFields];exact hc
  .obtain ⟨_,_,dt,_⟩:=o;cases dt <;> exact hd
 .rw [ni hb]at z;refine(ok b u z).stay (λc' v' hc r=>N.keep c' v' ?_ ?_ r) (λc' r=>?_) λc' xs r=>?_
  .rcases hc with rfl|hc
   .exact hb
   .exact nE c' _ hc λφ w=>by cases w
  .rcases hc with rfl|hc
   .exact nf _ _ z
   .exact nf _ _ hc
  .rw [ni (nE c' _ r λφ w=>by cases w)];exact r
  .rw [ni (nE c' _ r λφ w=>by cases w)];exact r
theorem A8(N:D6 fs e o T h h') (hdat:o.data = .fields vs) (hz:1<vs.size):∃o' vs',h'.get? e=some o'/\o'.data = .fields vs'/\vs'[1]?=some (.ref T)/\D0 h' vs':=by
 obtain⟨oT,ts,h1,h2,h3⟩:=N.ent;have q:(vs.setIfInBounds 1 (ak T))[1]?=some (.ref T):=by simp[hz]
 exact⟨_,_,N.exc,Obj.data_mapFields hdat _,q,.inr ⟨T,oT,ts,q,h1,h2,h3⟩⟩
theorem CM(q:D0 h vs):1<vs.size:=by
 rcases q with q|⟨_,_,_,q,_⟩ <;> exact(aJ.mp q).1
end
section
variable {P:jg}{w:ji}{K:Frag}{mg:Str->Option Value}{base:Heap}{N:List Str}{qual:Str}{scope:ky}{f:Addr}{cd:Value}{A:Around}{outer:List Env}{s:Shared}{H:Hp}{E:XK}
theorem Aq:Qq (Ey (S6 P w) P w K mg base N qual scope f cd A outer s H E) E:=by
 intro mV σ H1 s1 e C od o vs φ I hE ho hc hd hdat hq he;show jb (ja P w) (A.deeper (jQ qual scope s.heap.objs.size f cd)) (leaving (jQ qual scope s.heap.objs.size f cd) (.ref e)) _ _ s1;have fr:(A.deeper (jQ qual scope s.heap.objs.size f cd)).frames=some (jQ qual scope s.heap.objs.size f cd::outer):=I.ok.frames;have st:s1.heap.FunFrames base (jQ qual scope s.heap.objs.size f cd::outer):=I.stack;refine WJ fr st rfl ho hdat hq λh' T Nt=>?_
 have free:∀b∈(jQ qual scope s.heap.objs.size f cd::outer).filterMap (·.frame),H1 b=none:=I.stkFree;have un:=HA (C:=C) (od:=od) Nt hE;have ok:=GA (P:=P) (w:=w) Nt hE I.hok free hc hd hdat;obtain⟨o',vs',g1,g2,g3,g4⟩:=A8 Nt hdat (CM hq);have B:Un (JE outer) [] H H1 s.heap s1.heap:=I.base;have nL:∀b ob,s.heap.get? b=some ob->b∉JE outer->b∉(jQ qual scope s.heap.objs.size f cd::outer).filterMap (·.frame):=λb ob z nb m=>by
  rcases ao.mp (show b∈s.heap.objs.size::JE outer from m) with q|q
  .rw [q]at z;exact absurd (ag z) (bY _)
  .exact nb q
 refine⟨e,C,od,oB H1 e (BG e C od),o',vs',rfl,I.os,I.bare,⟨λb ob z n hb hx=>un.keep b ob (B.keep b ob z n hb hx) (B.free b ob z n hx) (nL b ob z hb) hx,λb ob z n hb hx=>?_,λb ob z n hx=>?_,λb ob z hx=>?_,λb xs z=>un.tups b xs (B.tups b xs z),λb o1 u1 z=>un.frzs b o1 u1 (B.frzs b o1 u1 z),λb ps z=>?_⟩,ok,nB,g1,g2,g4,he⟩
 .obtain ⟨sl,q⟩:=B.slot b ob z n hb hx;obtain⟨sl',q'⟩:=un.any q (B.free b ob z n hx) hx;exact⟨sl',q'⟩
 .obtain ⟨o1,q⟩:=B.there b ob z hx;exact un.free b o1 q (B.free b ob z n hx) hx
 .obtain ⟨o1,q⟩:=B.there b ob z hx;exact un.there b o1 q hx
 .obtain ⟨m1,e1⟩:=B.tbls b ps z;obtain⟨m2,e2⟩:=un.tbls b _ e1;exact⟨m1++m2,by rw[e2,gY]⟩
theorem vN:Aj (S6 P w) (Ey (S6 P w) P w K mg base N qual scope f cd A outer s H E) E:=by
 intro mV σ H1 s1 ev s2 I h;obtain⟨e,C,od,H',o,vs,rfl,os,bare,un,hok,hA,ho,hd,hq,hE⟩:=h;have I':=I.call' os un hok bare (λb z=>nomatch z)
 obtain⟨o',vs',a1,a2,a3,a4⟩:=BC hok hA;rw[ho]at a1;cases a1;exact Aq mV σ H' s2 e C od o vs _ I' hA ho a2 a3 hd hq (by rw[BE hA];exact hE)
theorem okX{x:Str}{st:Stmt}{fd:jr}{ps:List Str}{k:Nat}{sp:Sp}(F:QB K x qual st f fd) (S:nW N ps (nA st)) (len:∀vs H Q E,sp vs H Q E->vs.length=ps.length)
  (hbody:∀(rS:Value) (A:Around) (outer:List Env) (s:Shared) (H:Hp) (vs:List V) (Q:VK) (E:XK),rz k (A.deeper (jQ qual (nA st) s.heap.objs.size f rS))->sp vs H Q E ->
   ∃t,HR (Ey (S6 P w) P w K mg base N qual (nA st) f rS A outer s H E) (rB st) t/\t { nx:=λ_ H'=>Q .non H',rt:=Q } (uF N vs) H):yt P w K mg base (S6 P w) (k+1) f fd ps sp:=by
 obtain⟨oc,od,kV,doc,pm,an,rS,ct,osl,rfl,lk,hcd⟩:=F.ex;exact fn_of lk hcd S len λA outer s H vs Q E hr hsp=>hbody rS A outer s H vs Q E hr hsp
end
section
variable {X:Cx}{E:XK}{c:Str}{C M:Addr}{e:Expr}{te:TE}{pos:Pos}
def Y7(E:XK) (C:Addr) (te:TE):TS:=λ_ σ H=>te σ H λv H1=>∃e od,v = .ref e/\H1 e=some (IY e C od)/\E (.ref e) od (oB H1 e (BG e C od))
theorem Gk(rf:wO X.K c C M) (hl:Qq X E) (hc:X.calm=true) (he:PE X e te):PS X (.Raise (some e) none pos) (Y7 E C te):=by
 intro mV s σ H D I h;obtain⟨⟨N,q',bs,sn,sub,ab,col,dd,k0,k1,k2,k3,k5,hC⟩,_,T⟩:=uU rf.xc;rw[arm_exec_Raise];simp only[evalOpt,Option.map];refine iY (lg (IP (C:=C) (nm:=c) (q:=q') (N:=N) (bs:=bs) (bm:=.ref M::uV) (hdct:=true) (sn:=sn) (sub:=sub) (ab:=ab) (col:=col) (dd:=dd) (k0:=k0) (k1:=k1) (k2:=k2) (k3:=k3) (k5:=k5) (newId := "ValueError.__new__") (by rw[br,show uV.contains (dR "BaseException")=true by decide,dJ]) (I.ok.hd hc)
  (iY (jo (he mV s σ H _ I h) (λv s3 h3=>iY (lg (je ?_))) λ_ _ x=>x))))
 obtain⟨v',H1,I1,r,ev,od,rfl,hx,hE⟩:=h3;obtain rfl:v=ak ev:=r;obtain⟨t0,ho⟩:=EZ I1.hok hx;exact⟨ev,t0,od,rfl,I1.kIn _ _ hC,ho,hl mV σ H1 s3 ev C od _ _ _ I1 hx ho rfl rfl rfl (.inl rfl) hE⟩
end
structure HM (P:jg) (w:ji) (K:Frag) (mg:Str->Option Value) (base:Heap) (k:Nat) (x:Str) (st:Stmt) (ps:List Str) (sp:Sp) (f:Addr) (fd:jr):Prop where
 D:za K mg x st ps f fd
 ok:yt P w K mg base (S6 P w) k f fd ps sp
abbrev Lx(X:Cx) (e:Addr):Cx:={ X with A:=X.A.mark (some (.ref e)),calm:=false,xe:=λ_ _=>False }
section
variable {X:Cx}{mV:List (Addr×Obj)}{σ:St}{H:Hp}{s:Shared}{e:Addr}
theorem KJ(I:Inv X mV σ H s):Inv (Lx X e) mV σ H s :=
 ⟨⟨I.ok.mod,I.ok.kind,I.ok.glob,I.ok.blt,I.ok.above,I.ok.inj,I.ok.has,I.ok.cab,λz=>Bool.noConfusion z,I.ok.frames,I.ok.stk,I.ok.exf,I.ok.bs,I.ok.bsz,I.ok.noex,I.ok.exfs,I.ok.funs,I.ok.frf⟩,I.os,I.bare,I.base,I.loc,I.cell,I.free,I.freeC,I.pin,I.hok,I.len⟩
theorem OX(ok:X.Ok) (I:Inv (Lx X e) mV σ H s):Inv X mV σ H s:=⟨ok,I.os,I.bare,I.base,I.loc,I.cell,I.free,I.freeC,I.pin,I.hok,I.len⟩
theorem Inv.gone{i:Nat}{n:Str}{v:Option Value}{h':Heap}{t':Nat}{m:Str->Option Value}(I:Inv X mV σ H s) (hN:X.N.Nodup) (hi:X.N[i]?=some n)
  (hm:∀(j:Nat) (y:Str) (v':V),X.N[j]?=some y->σ[j]?=some (some v')->XG X.env.scope y->∃u,oK v' u/\W5 X.env s.heap m y u)
  (hn':h'.Ns X.env.locals (λx=>if x=n then v else m x)) (hs:eM X.env.locals s.heap h') (hn:s.heap.Ns X.env.locals m):Inv X mV (σ.set i none) H { s with heap:=h',toks:=t' }:=by
 have hiσ:i<σ.length:=by rw[I.len];exact(gSq.mp hi).1
 have cne:=I.cne;obtain⟨oL,_,_,hoL,_⟩:=id hn;refine⟨I.ok,I.os,I.bare,⟨λb o e n hb hx=>?_,λb o e n hb hx=>?_,I.base.free,λb o e hx=>?_,I.base.tups,I.base.frzs,I.base.tbls⟩,⟨_,hn',λj y v' e1 e2 e3=>?_⟩,λy c e=>?_,I.free,I.freeC,λp hp=>?_,λb ob e=>?_,by simpa using I.len⟩
 .exact (hs.2 b (aw (aK (ag e) I.ok.above))).trans (I.base.keep b o e n hb hx)
 .obtain ⟨sl,e1⟩:=I.base.slot b o e n hb hx;exact⟨sl,(hs.2 b (aw (aK (ag e) I.ok.above))).trans e1⟩
 .obtain ⟨o',e1⟩:=I.base.there b o e hx;exact⟨o',(hs.2 b (aw (aK (ag e) I.ok.above))).trans e1⟩
 .by_cases hj:j=i
  .subst hj;rw[aG hiσ]at e2;cases e2
  .rw [ar (Ne.symm hj)]at e2;obtain⟨u',r',q⟩:=hm j y v' e1 e2 e3;refine⟨u',r',?_⟩;rcases q with ⟨k,e⟩|⟨k,c,e,z⟩
   .refine .inl ⟨k,?_⟩;have:y≠n:=λe=>hj (Cc hN e1 (e ▸ hi))
    simp[this,e]
   .exact .inr ⟨k,c,e,z.sameBut hs (cne y c e)⟩
 .obtain ⟨w',z⟩:=I.cell y c e;exact⟨w',z.sameBut hs (cne y c e)⟩
 .obtain ⟨e,n,ne,nf,d⟩:=I.pin p hp;exact⟨(hs.2 p.1 ne).trans e,n,ne,nf,d⟩
 .refine (I.hok b ob e).stay (λc w' hc q=>(hs.2 c ?_).trans q) (λ_ q=>q) λ_ _ q=>q
  rintro rfl;rcases hc with z|hc
  .rw [←z,I.free]at e;cases e
  .rw [I.free]at hc;cases hc
end
abbrev XH:=Addr->Addr->Option Addr->tV->St->Hp->Prop
def PH(X:Cx) (hs:List ExceptHandler) (th:XH):Prop:=∀(mV:List (Addr×Obj)) (s:Shared) (σ:St) (H:Hp) (D:tV) (e C:Addr) (od:Option Addr) (o:Obj) (vs:Array Value) (T:Addr),Inv X mV σ H s->H e=some (BG e C od) ->
 s.heap.get? e=some o->o.data = .fields vs->vs[1]?=some (.ref T)->(∃oT ts,s.heap.get? T=some oT/\oT.data = .fields ts/\ts[3]?=some .none)->th e C od D σ H ->
 jb (ja X.prog X.w) X.A (lI (.ref e) X.env hs) (SP X mV D) X.xe s
def Zr(K:Frag) (C':Addr) (i:Nat) (tb:TS) (rest:XH):XH:=λe C od D σ H=>∃c M b,wO K c C M/\mroIn K C (.ref C')=some b /\
 if b=true then tb { nx:=λσ' H'=>D.nx (σ'.set i none) H',rt:=D.rt,bk:=λσ' H'=>D.bk (σ'.set i none) H',ct:=λσ' H'=>D.ct (σ'.set i none) H' } (σ.set i (some (.ref e))) H else rest e C od D σ H
def Xn:XH:=λ_ _ _ _ _ _=>False
section
variable {X:Cx}{c' n:Str}{C':Addr}{bm':List Value}{np pos:Pos}{b₀:Stmt}{suite:List Stmt}{rest:List ExceptHandler}{tb:TS}{tr:XH}{i:Nat}
theorem Xh{K:Frag}{M:jZ}{c:Str}{C Mp e:Addr}{b:Bool}{s:Shared}{o:Obj}(X:K.In s.heap) (rf:wO K c C Mp) (xc':vv K c' C' bm'=true) (hbase:bm'.contains (.type "BaseException")=true) (hb:mroIn K C (.ref C')=some b)
  (ho:s.heap.get? e=some o) (hc:o.cls = .ref C):Mt M e (.ref C') b s:=by
 obtain⟨⟨N,q',bs,sn,sub,ab,col,dd,k0,k1,k2,k3,k5,hC⟩,⟨cd,hcd,hm,_⟩,_⟩:=uU rf.xc;obtain⟨⟨N',q'',bs',sn',sub',ab',col',dd',k0',k1',k2',k3',k5',hC'⟩,_,_⟩:=uU xc';intro A Q E hq;obtain⟨hh,g,d,tk,os⟩:=s;refine GK (X _ _ hC) (X _ _ hC') hbase ho hc ?_;unfold mroIn at hb;rw[hcd,dD,hm]at hb;simp only[eW,bG,if_false,ba.injEq]at hb;rw[hb];exact hq
theorem W3(xc':vv X.K c' C' bm'=true) (hbase:bm'.contains (.type "BaseException")=true) (hm:X.mg c'=some (.ref C')) (hN:X.N.Nodup) (hi:X.N[i]?=some n) (hl:X.env.kindOf n=some .local) (hb:∀e,HR (Lx X e) (b₀::suite) tb) (hr:PH X rest tr)
  (hg:Gl X c':=by rfl) (hdb:(c' == ("__debug__" : Str))=false:=by decide):PH X (.ExceptHandler (some (.Name c' np)) (some n) (b₀::suite) pos::rest) (Zr X.K C' i tb tr):=by
 intro mV s σ H D e C od o vs T I hA ho hd h1 hT h;obtain⟨c,M,b,rf,hmro,h⟩:=h;obtain⟨o',vs',a1,a2,a3,a4⟩:=BC I.hok hA;rw[ho]at a1;cases a1;have mt:Mt (ja X.prog X.w) e (.ref C') b s:=Xh I.kIn rf xc' hbase hmro ho a2;have ev:∀Q':Value->Shared->Prop,Q' (.ref C') s->jb (ja X.prog X.w) (X.A.mark (some (.ref e))) (eval (.Name c' np) X.env) Q' (λ_ _=>False) s:=λQ' q=>vW (X:=Lx X e) (KJ I) hg hm q hdb
 cases b with
 |false =>
  rw[nQ (by decide)]at h
  exact Wz mt ev (hr mV s σ H D e C od o vs T I hA ho hd h1 hT h)
 |true =>
  rw[nP rfl]at h;obtain⟨oT,ts,t1,t2,t3⟩:=hT;refine NN mt ev ?_;refine wpAny_setFlight_none ho hd h1 t1 t2 (aJ.mp t3).1 ?_;rw[fR s.heap T oT ts 3 .none t1 t2 t3];refine zu (X:=Lx X e) (v:=.ref e) (KJ I) hN hi (.inl hl) rfl (λs3 I3=>?_) (.inr hl)
  refine qA (hb e mV s3 _ H _ I3 h) λf s4 hf=>?_
  have gone:∀{σ':St}{H':Hp}{Q:Unit->Shared->Prop},Inv (Lx X e) mV σ' H' s4->(∀s5,Inv X mV (σ'.set i none) H' s5->Q () s5)->jb (ja X.prog X.w) X.A (do bindName X.env n .none;mE X.env n pos) Q X.xe s4:=λ{σ' H' Q} J k=>by
   obtain⟨m,hn,hlk⟩:=J.loc;refine wpAny_nameGoes_keeps hl hn (by show (X.env.scope.kind == .class || (X.env.scope.kind == .module && X.env.locals != X.env.globals))=false;rw[I.ok.kind];rfl) λh' v hn' hs=>?_
   exact k _ (Inv.gone (OX I.ok J) hN hi hlk hn' hs hn)
  cases f with
  |next=>obtain⟨σ',H',J,q⟩:=hf;exact gone J λs5 J5=>⟨_,H',J5,q⟩
  |brk=>obtain⟨σ',H',J,q⟩:=hf;exact gone J λs5 J5=>⟨_,H',J5,q⟩
  |cont=>obtain⟨σ',H',J,q⟩:=hf;exact gone J λs5 J5=>⟨_,H',J5,q⟩
  |ret u=>obtain⟨v,σ',H',J,r,q⟩:=hf;exact gone J λs5 J5=>⟨v,_,H',J5,r,q⟩
theorem Ug:PH X [] Xn:=λ_ _ _ _ _ _ _ _ _ _ _ _ _ _ _ _ _ h=>h.elim
end
section
variable {X:Cx}{k:Nat}{x:Str}{st:Stmt}{ps:List Str}{sp:Sp}{f:Addr}{fd:jr}{p pos pos2 pos3:Pos}{e:Expr}{es:List Expr}{t:TA}{h₀:ExceptHandler}{hs:List ExceptHandler}{th:XH}
theorem NP{mV:List (Addr×Obj)}{σ:St}{H1:Hp}{s1:Shared}{Q:VK}{D:tV}{us:List Value}{vs:List V}{QQ:Value->Shared->Prop}(ok:yt X.prog X.w X.K X.mg X.base (S6 X.prog X.w) k f fd ps sp) (hb:uQ X.K fd ps []) (hr:rz k X.A)
  (hstk:X.stack=X.env::X.outer) (hfr:X.env.frame=some X.env.locals) (hh:PH X (h₀::hs) th) (I1:Inv X mV σ H1 s1) (r:nX vs us)
  (q:sp vs H1 Q λv _ H2=>∀e,v = .ref e->∃C od,H2 e=some (BG e C od)/\th e C od D σ H2) (hQ:∀u s',EP X mV σ Q u s'->QQ u s') :
  jb (ja X.prog X.w) X.A (call (.ref f) us) QQ (λe s₁=>jb (ja X.prog X.w) X.A (lR e X.env) (λ_ s₂=>jb (ja X.prog X.w) X.A (kY e none) (λ_ s₃ =>
   jb (ja X.prog X.w) X.A (lI e X.env (h₀::hs)) (SP X mV D) X.xe s₃) X.xe s₂) X.xe s₁) s1:=by
 have hl:us.length=ps.length:=by rw[←r.length];exact ok.len _ _ _ _ q
 refine kB (kN (ok.run X.A X.stack s1 H1 ⟨us,[]⟩ us vs Q _ hr I1.env0 (by have:=hb s1 us I1.kIn (by rw[aNq];exact hl);rw[aNq]at this;exact this) r q) λres s' hq=>?_)
 cases res with
 |ok fl =>
  cases fl with
  |ret u=>exact hQ u s' (I1.after hq)
  |next=>exact False.elim hq
  |brk=>exact False.elim hq
  |cont=>exact False.elim hq
 |error ev =>
  obtain⟨e,C,od,H',o,vs',rfl,os,bare,un,hok,hA,ho,hd,hqt,hE⟩:=hq;have I':=I1.call' os un hok bare (λb z=>nomatch z)
  obtain⟨o',vs'',a1,a2,a3,a4⟩:=BC hok hA;rw[ho]at a1;cases a1;have fr:X.A.frames=some (X.env::X.outer):=by rw[←hstk];exact I'.ok.frames
  have sk:s'.heap.FunFrames X.base (X.env::X.outer):=by rw[←hstk];exact I'.stack
  refine W4 fr sk hfr ho hd hqt λh' T Nt=>?_
  have free:∀b∈(X.env::X.outer).filterMap (·.frame),H' b=none:=by
   have z:=I'.stkFree;rw[hstk]at z;exact z
  have un2:=HA (C:=C) (od:=od) Nt hA;have ok2:=GA (P:=X.prog) (w:=X.w) Nt hA hok free a2 a3 hd;rw[BE hA]at un2 ok2;have I2:Inv X mV σ H' { s' with heap:=h' }:=I'.call' (s':={ s' with heap:=h' }) rfl (by rw[hstk];exact un2) ok2 I'.bare (λb z=>absurd z (by simp))
  obtain⟨o2,vs2,g1,g2,g3,g4⟩:=A8 Nt hd (CM hqt);obtain⟨C2,od2,hA2,hth⟩:=hE e rfl;exact hh mV _ σ H' D e C2 od2 o2 vs2 T I2 hA2 g1 g2 g3 Nt.ent hth
theorem QG{mV:List (Addr×Obj)}{σ:St}{H1:Hp}{s1:Shared}{Q:VK}{D:tV}{us:List Value}{vs:List V}{QQ:Value->Shared->Prop}(G:HM X.prog X.w X.K X.mg X.base k x st ps sp f fd) (hr:rz k X.A)
  (hstk:X.stack=X.env::X.outer) (hfr:X.env.frame=some X.env.locals) (hh:PH X (h₀::hs) th) (I1:Inv X mV σ H1 s1) (r:nX vs us)
  (q:sp vs H1 Q λv _ H2=>∀e,v = .ref e->∃C od,H2 e=some (BG e C od)/\th e C od D σ H2) (hQ:∀u s',EP X mV σ Q u s'->QQ u s') :
  jb (ja X.prog X.w) X.A (call (.ref f) us) QQ (λe s₁=>jb (ja X.prog X.w) X.A (lR e X.env) (λ_ s₂=>jb (ja X.prog X.w) X.A (kY e none) (λ_ s₃ =>
   jb (ja X.prog X.w) X.A (lI e X.env (h₀::hs)) (SP X mV D) X.xe s₃) X.xe s₂) X.xe s₁) s1:=NP G.ok G.D.b hr hstk hfr hh I1 r q hQ
def Tr(sp:Sp) (t:TA) (th:XH):TS:=λD σ H=>t σ H λvs H1=>sp vs H1 (λ_ H2=>D.nx σ H2) λv _ H2=>∀e,v = .ref e->∃C od,H2 e=some (BG e C od)/\th e C od D σ H2
theorem SN(G:HM X.prog X.w X.K X.mg X.base k x st ps sp f fd) (hr:rz k X.A) (ha:PA X.nox (e::es) t) (hh:PH X (h₀::hs) th) (hstk:X.stack=X.env::X.outer:=by rfl) (hfr:X.env.frame=some X.env.locals:=by rfl)
  (hg:Gl X x:=by rfl) (hdb:(x == ("__debug__" : Str))=false:=by decide)
  (he:jj (e::es) X.env=(false,eval e X.env)::jj es X.env:=by rfl) (hpl:(jR pos (jj es X.env)).any (·.1)=false:=by rfl)
  (hsw:kX (.Call (.Name x p) (e::es) [] pos) none pos2.line X.env=pure false:=by rfl) :
  PS X (.Try [.Expr (.Call (.Name x p) (e::es) [] pos) pos2] (h₀::hs) [] [] pos3) (Tr sp t th):=by
 intro mV s σ H D I h;refine wpAny_Try_except (lH (wpAny_Expr_any (jz (vW I hg G.D.m ?_ hdb)) I.quiet hsw));refine W.callWith_K (h₀:=X.base) I.ok.mod.kin G.D.F.kp (jo (ha pos mV s σ H _ (I.wish _) h) (λus s1 hz1=>?_) λ_ _ z=>z.elim) he hpl
 obtain⟨vs,H1,I1,r,q⟩:=hz1;refine⟨I1.kIn,?_⟩;refine QG G hr hstk hfr hh I1.unwish r q λu s' hz1=>?_
 obtain⟨v,H2,I2,rv,q2⟩:=hz1;exact jV (jV ⟨σ,H2,I2,q2⟩)
end
section
variable {X:Cx}{o:Expr}{f:Str}{pos:Pos}{ta:TE}
theorem Ga{K:Frag}{c:Str}{e C M:Addr}{od:Option Addr}(rf:wO K c C M):KitX K (.ref e) (.ref C) (λh=>∃o vs,h.get? e=some o/\o.cls = .ref C/\o.dict=od/\o.data = .fields vs):=by
 obtain⟨⟨N,q',bs,sn,sub,ab,col,dd,k0,k1,k2,k3,k5,hC⟩,⟨cd,hcd,_,_⟩,T⟩:=uU rf.xc;refine⟨λMo h X ⟨o,vs,a1,a2,_⟩=>a2 ▸ (Looks.ld a1).andThen .now,λMo h X _=>?_,λh tp dd its n sl X htp=>?_,λ{prog w A E Q s} X ⟨o,vs,a1,a2,_⟩ hq=>?_⟩
 .intro A' Q' E' s' k q;unfold isType loadHead;exact iY (wpAny_loadPart (k _ _ (X _ _ hC)) (je q))
 .refine ic.mpr λq=>?_
  have e:C=tp:=ak.inj (beq_iff_eq.mp q);subst e;have z:=congrArg (λo:Option Obj=>o.map (·.cls)) ((X _ _ hC).symm.trans htp)
  simp at z
 .have L:=rf.lks (Mo:=ja prog w) X;obtain⟨hh,g,d,t,os⟩:=s;exact IU (T _ X) (X _ _ hC) a1 a2 L.cl L.ga L.gt hq
def Eu:V->Option Value
 | .ty n=>some (.type n)
 | .ref a=>some (.ref a)
 |_=>none
def U4(K:Frag):List V->Hp->VK->Prop:=λvs H Q=>∃e c C M od cv b,vs=[.ref e,cv]/\H e=some (BG e C od)/\wO K c C M /\
 ((∃u,Eu cv=some u/\kitOne K (.ref C) u=some b)∨∃tp cvs us,cv = .ref tp/\H tp=some (.tup cvs)/\cvs.mapM Eu=some us/\kitAny K (.ref C) us=some b)/\Q (.bl b) H
theorem HF{v:V}{u u':Value}(h:Eu v=some u) (r:oK v u'):u'=u:=by
 cases v <;> simp[Eu]at h <;> (subst h;exact r)
theorem Hq:∀{cvs:List V}{us us':List Value},cvs.mapM Eu=some us->nX cvs us'->us'=us
 | [],us,us',h,r=>by cases r;simp at h;exact h.symm
 |v::cvs,us,us',h,r=>by
  cases r with
  |cons r1 r2 =>
   rw[iE]at h;cases h1:Eu v with
   |none=>rw[h1]at h;simp at h
   |some u =>
    cases h2:cvs.mapM Eu with
    |none=>rw[h1,h2]at h;simp at h
    |some us2 =>
     rw[h1,h2]at h;simp at h;rw[←h,HF h1 r1,Hq h2 r2]
theorem C5:uB X (.builtin "isinstance") (U4 X.K):=by
 intro mV s σ H vs us Q I r h;obtain⟨e,c,C,M,od,cv,b,rfl,hA,rf,hk,q⟩:=h;cases r with
 |cons r1 r2 =>
  cases r2 with
  |cons r3 r4 =>
   cases r4;obtain rfl:=(show _=ak e from r1)
   have a:=BC I.hok hA;rcases hk with ⟨u,hu,hk⟩|⟨tp,cvs,us,rfl,ht,hus,hk⟩
   .obtain rfl:=HF hu r3;exact kia_one (Ga rf) I.kIn a hk (λz=>nomatch z) λtk=>⟨.bl b,H,I.tok _,rfl,q⟩
   .obtain rfl:=(show _=ak tp from r3)
    obtain⟨_,its,rv,o,h1,h2,n,h3⟩:=(show oY X.prog X.w H s.heap tp (.tup cvs) from I.hok tp _ ht)
    obtain rfl:=Hq hus rv;obtain⟨oc,od',oda,osl⟩:=o;dsimp only at h2 h3;subst h2 h3;exact kia_tup (Ga rf) I.kIn a h1 hk (λz=>nomatch z) λtk=>⟨.bl b,H,I.tok _,rfl,q⟩
end
end Xe
namespace Z
open PySem L2 Mr
abbrev St:=L2.St
inductive D where
 |non|bl (b:Bool)|int (i:Int)|str (x:Str)|ty (n:String)|list (xs:List D)|tup (xs:List D)|dict (kvs:List (nO×D))|scr (ns:List Int)|exc (c:Str) (fs:List (Str×Int))|cls (c:Str)|fd (kvs:List (nO×D))|ins (c:Str) (fs:List (Str×D))
inductive pP (K:W.Frag) (H:Hp):D->V->Prop
 |non:pP K H .non .non
 |bl {b:Bool}:pP K H (.bl b) (.bl b)
 |int {i:Int}:pP K H (.int i) (.int i)
 |str {x:Str}:pP K H (.str x) (.str x)
 |ty {n:String}:pP K H (.ty n) (.ty n)
 |list {p:Addr}{vs:List V}{ds:List D}(h:H p=some (.lst vs)) (l:ds.length=vs.length) (e:∀(i:Nat) (d:D) (v:V),ds[i]?=some d->vs[i]?=some v->pP K H d v):pP K H (.list ds) (.ref p)
 |tup {p:Addr}{vs:List V}{ds:List D}(h:H p=some (.tup vs)) (l:ds.length=vs.length) (e:∀(i:Nat) (d:D) (v:V),ds[i]?=some d->vs[i]?=some v->pP K H d v):pP K H (.tup ds) (.ref p)
 |dict {p:Addr}{kvs:List (nO×V)}{ds:List (nO×D)}(h:H p=some (.dK kvs)) (l:ds.map (·.1)=kvs.map (·.1)) (e:∀(i:Nat) (d:nO×D) (v:nO×V),ds[i]?=some d->kvs[i]?=some v->pP K H d.2 v.2):pP K H (.dict ds) (.ref p)
 |scr {p:Addr}{ns:List Int}(h:qO K H p (ns.map V.int)):pP K H (.scr ns) (.ref p)
 |exc {c:Str}{fs:List (Str×Int)}{e C M dx:Addr}(rf:Xe.wO K c C M) (nf:∀p∈fs,W.findIn K (.ref C) p.1=some none) (h:H e=some (Xe.BG e C (some dx))) (hx:H dx=some (.xd (fs.map λp=>(p.1,V.int p.2)))):pP K H (.exc c fs) (.ref e)
 |exc0 {c:Str}{e C M:Addr}(rf:Xe.wO K c C M) (h:H e=some (Xe.BG e C none)):pP K H (.exc c []) (.ref e)
 |cls {c:Str}{C:Addr}(h:Xe.T4 K c C):pP K H (.cls c) (.ref C)
 |fd {p:Addr}{o:Obj}{kvs:List (nO×V)}{ds:List (nO×D)}(h:H p=some (.frz o (.dK kvs))) (l:ds.map (·.1)=kvs.map (·.1)) (e:∀(i:Nat) (d:nO×D) (v:nO×V),ds[i]?=some d->kvs[i]?=some v->pP K H d.2 v.2):pP K H (.fd ds) (.ref p)
 |ins {c:Str}{a C dx:Addr}{gs:List (Str×V)}{fs:List (Str×D)}(rf:W.nsIn K jh c=some (some (.ref C))) (h:H a=some (.ins C dx gs)) (l:fs.map (·.1)=gs.map (·.1)) (e:∀(i:Nat) (d:Str×D) (v:Str×V),fs[i]?=some d->gs[i]?=some v->pP K H d.2 v.2):pP K H (.ins c fs) (.ref a)
def oq(K:W.Frag) (H:Hp) (ds:List D) (vs:List V):Prop:=ds.length=vs.length/\∀(i:Nat) (d:D) (v:V),ds[i]?=some d->vs[i]?=some v->pP K H d v
def rY(K:W.Frag) (H:Hp) (ds:List (nO×D)) (kvs:List (nO×V)):Prop:=ds.map (·.1)=kvs.map (·.1)/\∀(i:Nat) (d:nO×D) (v:nO×V),ds[i]?=some d->kvs[i]?=some v->pP K H d.2 v.2
section
variable {K:W.Frag}{H H':Hp}
theorem pP.mono{d:D}{v:V}(h:pP K H d v) (s:nS H H'):pP K H' d v:=by
 induction h with
 |non=>exact .non
 |bl=>exact .bl
 |int=>exact .int
 |str=>exact .str
 |ty=>exact .ty
 |list h l _ ih=>exact .list (s _ _ h) l ih
 |tup h l _ ih=>exact .tup (s _ _ h) l ih
 |dict h l _ ih=>exact .dict (s _ _ h) l ih
 |scr h=>exact .scr (s.seq h)
 |exc rf nf h hx=>exact .exc rf nf (s _ _ h) (s _ _ hx)
 |exc0 rf h=>exact .exc0 rf (s _ _ h)
 |cls h=>exact .cls h
 |fd h l _ ih=>exact .fd (s _ _ h) l ih
 |ins rf h l _ ih=>exact .ins rf (s _ _ h) l ih
theorem oq.mono{ds:List D}{vs:List V}(h:oq K H ds vs) (s:nS H H'):oq K H' ds vs:=⟨h.1,λi d v a b=>(h.2 i d v a b).mono s⟩
theorem rY.mono{ds:List (nO×D)}{vs:List (nO×V)}(h:rY K H ds vs) (s:nS H H'):rY K H' ds vs:=⟨h.1,λi d v a b=>(h.2 i d v a b).mono s⟩
theorem oq.nil:oq K H [] []:=⟨rfl,λi d v a=>by simp at a⟩
theorem oq.cons{d:D}{v:V}{ds:List D}{vs:List V}(h:pP K H d v) (t:oq K H ds vs):oq K H (d::ds) (v::vs):=⟨by simp[t.1],λi e w a b=>by
 cases i with
 |zero =>
  simp at a b;subst a b;exact h
 |succ i=>exact t.2 i e w (by simpa using a) (by simpa using b)⟩
theorem oq.cons_iff{d:D}{v:V}{ds:List D}{vs:List V}:oq K H (d::ds) (v::vs)↔pP K H d v/\oq K H ds vs :=
 ⟨λh=>⟨h.2 0 d v rfl rfl,by have:=h.1;simpa using this,λi e w a b=>h.2 (i+1) e w (by simpa using a) (by simpa using b)⟩,λh=>.cons h.1 h.2⟩
theorem oq.nil_inv{vs:List V}(h:oq K H [] vs):vs=[]:=by
 have:=h.1;cases vs with
 |nil=>rfl
 |cons _ _=>simp at this
theorem oq.cons_inv{d:D}{ds:List D}{vs:List V}(h:oq K H (d::ds) vs):∃v ws,vs=v::ws/\pP K H d v/\oq K H ds ws:=by
 cases vs with
 |nil=>have:=h.1;simp at this
 |cons v ws=>exact⟨v,ws,rfl,oq.cons_iff.mp h⟩
theorem oq.append:∀{ds es:List D}{vs ws:List V},oq K H ds vs->oq K H es ws->oq K H (ds++es) (vs++ws)
 | [],es,vs,ws,h,g=>by rw[h.nil_inv];exact g
 |d::ds,es,vs,ws,h,g=>by
  obtain⟨v,us,rfl,h1,h2⟩:=h.cons_inv;exact .cons h1 (oq.append h2 g)
theorem oq.take{ds:List D}{vs:List V}(h:oq K H ds vs) (n:Nat):oq K H (ds.take n) (vs.take n):=⟨by rw[lTq,lTq,h.1],λi d v a b=>by
 rw[List.getElem?_take]at a b;split at a
 .rename_i hi;rw[nP hi]at b;exact h.2 i d v a b
 .cases a⟩
theorem oq.drop{ds:List D}{vs:List V}(h:oq K H ds vs) (n:Nat):oq K H (ds.drop n) (vs.drop n):=⟨by rw[aR,aR,h.1],λi d v a b=>by
 rw[cS]at a b;exact h.2 _ d v a b⟩
theorem oq.get{ds:List D}{vs:List V}(h:oq K H ds vs) {i:Nat}{d:D}(e:ds[i]?=some d):∃v,vs[i]?=some v/\pP K H d v:=by
 have hi:i<ds.length:=(gSq.mp e).1;have hj:i<vs.length:=h.1 ▸ hi;exact⟨vs[i],gEg hj,h.2 i d _ e (gEg hj)⟩
theorem oq.get'{ds:List D}{vs:List V}(h:oq K H ds vs) {i:Nat}{v:V}(e:vs[i]?=some v):∃d,ds[i]?=some d/\pP K H d v:=by
 have hi:i<vs.length:=(gSq.mp e).1;have hj:i<ds.length:=h.1.symm ▸ hi;exact⟨ds[i],gEg hj,h.2 i _ v (gEg hj) e⟩
theorem pP.list_inv{ds:List D}{v:V}(h:pP K H (.list ds) v):∃p vs,v = .ref p/\H p=some (.lst vs)/\oq K H ds vs:=by
 cases h with
 |list h l e=>exact⟨_,_,rfl,h,l,e⟩
theorem pP.tup_inv{ds:List D}{v:V}(h:pP K H (.tup ds) v):∃p vs,v = .ref p/\H p=some (.tup vs)/\oq K H ds vs:=by
 cases h with
 |tup h l e=>exact⟨_,_,rfl,h,l,e⟩
theorem pP.dict_inv{ds:List (nO×D)}{v:V}(h:pP K H (.dict ds) v):∃p kvs,v = .ref p/\H p=some (.dK kvs)/\rY K H ds kvs:=by
 cases h with
 |dict h l e=>exact⟨_,_,rfl,h,l,e⟩
theorem pP.mk_tup{ds:List D}{p:Addr}{vs:List V}(h:H p=some (.tup vs)) (r:oq K H ds vs):pP K H (.tup ds) (.ref p):=.tup h r.1 r.2
theorem pP.mk_dict{ds:List (nO×D)}{p:Addr}{vs:List (nO×V)}(h:H p=some (.dK vs)) (r:rY K H ds vs):pP K H (.dict ds) (.ref p):=.dict h r.1 r.2
end
def D.scal:D->Bool
 | .non=>true
 | .bl _=>true
 | .int _=>true
 | .str _=>true
 | .ty _=>true
 |_=>false
theorem pP.scal{K:W.Frag}{H H':Hp}{d:D}{v:V}(h:pP K H d v) (s:d.scal=true):pP K H' d v:=by
 cases h with
 |non=>exact .non
 |bl=>exact .bl
 |int=>exact .int
 |str=>exact .str
 |ty=>exact .ty
 |_=>cases s
inductive AV where
 |sh (d:D)|ow (avs:List AV)|owd (kvs:List (nO×D))|owl (kvs:List (nO×List Int))
mutual
def ny:AV->D
 | .sh d=>d
 | .ow avs=>.list (BO avs)
 | .owd kvs=>.dict kvs
 | .owl kvs=>.dict (kvs.map λx=>(x.1,.list (x.2.map .int)))
def BO:List AV->List D
 | []=>[]
 |a::as=>ny a::BO as
end
theorem DO:∀avs:List AV,BO avs=avs.map ny
 | []=>by simp[BO]
 |a::as=>by simp[BO,DO as]
@[simp] theorem si (d:D):ny (.sh d)=d:=by simp[ny]
@[simp] theorem tm (avs:List AV):ny (.ow avs) = .list (avs.map ny):=by simp[ny,DO]
@[simp] theorem AJ (kvs:List (nO×D)):ny (.owd kvs) = .dict kvs:=by simp[ny]
theorem DZ(kvs:List (nO×List Int)):ny (.owl kvs) = .dict (kvs.map λx=>(x.1,.list (x.2.map .int))):=by simp[ny]
inductive nV (K:W.Frag) (Hf H:Hp):AV->V->List Addr->Prop
 |sh {d:D}{v:V}(r:pP K Hf d v):nV K Hf H (.sh d) v []
 |ow {p:Addr}{vs:List V}{avs:List AV}{Fs:List (List Addr)}(h:H p=some (.lst vs)) (n:Hf p=none) (l:avs.length=vs.length) (lf:avs.length=Fs.length)
   (e:∀(i:Nat) (a:AV) (v:V) (F:List Addr),avs[i]?=some a->vs[i]?=some v->Fs[i]?=some F->nV K Hf H a v F):nV K Hf H (.ow avs) (.ref p) (p::Fs.flatten)
 |owd {p:Addr}{kvs:List (nO×V)}{ds:List (nO×D)}(h:H p=some (.dK kvs)) (n:Hf p=none) (r:rY K Hf ds kvs):nV K Hf H (.owd ds) (.ref p) [p]
 |owl {p:Addr}{kvs:List (nO×List Int)}{qs:List Addr}(h:H p=some (.dK (cJ (λx q=>(x.1,V.ref q)) kvs qs))) (n:Hf p=none) (l:kvs.length=qs.length) (e:∀(i:Nat) (q:Addr) (x:nO×List Int),qs[i]?=some q->kvs[i]?=some x->H q=some (.lst (x.2.map V.int))/\Hf q=none):nV K Hf H (.owl kvs) (.ref p) (p::qs)
theorem JY{K:W.Frag}{H:Hp}{p:Addr}{kvs:List (nO×List Int)}{qs:List Addr}(h:H p=some (.dK (cJ (λx q=>(x.1,V.ref q)) kvs qs))) (l:kvs.length=qs.length) (e:∀(i:Nat) (q:Addr) (x:nO×List Int),qs[i]?=some q->kvs[i]?=some x->H q=some (.lst (x.2.map V.int))):pP K H (.dict (kvs.map λx=>(x.1,.list (x.2.map .int)))) (.ref p):=by
 refine .dict h ?_ λi d v h1 h2=>?_
 .refine dW λi=>?_
  rw[gMq,gMq,gMq,dX]
  by_cases c:i<kvs.length
  .rw [gEg c,gEg (l ▸ c)];rfl
  .rw [bu (gc c)];rfl
 .rw [gMq]at h1;rw[dX]at h2;cases hk:kvs[i]? with
  |none=>rw[hk]at h1;cases h1
  |some x =>
   cases hq:qs[i]? with
   |none=>rw[hk,hq]at h2;cases h2
   |some q =>
    rw[hk]at h1 h2;rw[hq]at h2;cases h1;cases h2;refine .list (e i q x hq hk) (by rw[lMq,lMq]) λj d v e1 e2=>?_
    rw[gMq]at e1 e2;cases hj:x.2[j]? with
    |none=>rw[hj]at e1;cases e1
    |some m =>
     rw[hj]at e1 e2;cases e1;cases e2;exact .int
theorem U1{kvs:List (nO×List Int)}{qs:List Addr}(l:kvs.length=qs.length) {q:Addr}(hq:q∈qs):∃(i:Nat) (x:nO×List Int),qs[i]?=some q/\kvs[i]?=some x:=by
 obtain⟨i,hi⟩:=aV.mp hq;have hl:=(gSq.mp hi).1;exact⟨i,_,hi,gEg (l ▸ hl)⟩
section
variable {K:W.Frag}{Hf Hf' H H':Hp}{av:AV}{v:V}{F:List Addr}
theorem nV.owned(h:nV K Hf H av v F):∀q∈F,H q≠none/\Hf q=none:=by
 induction h with
 |sh _=>intro q hq;cases hq
 | @ow p vs avs Fs h n l lf e ih =>
  intro q hq;rcases ao.mp hq with rfl|hq
  .exact ⟨by rw[h];simp,n⟩
  .obtain ⟨F,hF,hq⟩:=mFq.mp hq;obtain⟨i,hi,rfl⟩:=bF.mp hF;exact ih i avs[i] vs[i] Fs[i] (by simp) (by simp) (by simp) q hq
 |owd h n r =>
  intro q hq;have:=mSq.mp hq;subst this;exact⟨by rw[h];simp,n⟩
 |owl h n l e =>
  intro q hq;rcases ao.mp hq with z|z
  .rw [z];exact⟨by rw[h];simp,n⟩
  .obtain ⟨i,x,h1,h2⟩:=U1 l z;obtain⟨e1,e2⟩:=e i q x h1 h2;exact⟨by rw[e1];simp,e2⟩
theorem nV.keep(h:nV K Hf H av v F) (s:nS Hf Hf') (hk:∀q∈F,H' q=H q) (hn:∀q∈F,Hf' q=none):nV K Hf' H' av v F:=by
 induction h with
 |sh r=>exact .sh (r.mono s)
 | @ow p vs avs Fs h n l lf e ih =>
  refine .ow (by rw[hk p (by simp)];exact h) (hn p (by simp)) l lf λi a v F h1 h2 h3=>ih i a v F h1 h2 h3 (λq hq=>hk q ?_) λq hq=>hn q ?_
  all_goals exact mCo _ (mFq.mpr ⟨F,mGq h3,hq⟩)
 |owd h n r=>exact .owd (by rw[hk _ (by simp)];exact h) (hn _ (by simp)) (r.mono s)
 | @owl p kvs qs h n l e =>
  refine .owl (by rw[hk _ (aD ..)];exact h) (hn _ (aD ..)) l λi q x h1 h2=>?_
  have m:q∈p::qs:=mCo _ (mGq h1);exact⟨by rw[hk q m];exact(e i q x h1 h2).1,hn q m⟩
theorem nV.rep(h:nV K Hf H av v F) (s:nS Hf H):pP K H (ny av) v:=by
 induction h with
 |sh r=>rw[si];exact r.mono s
 | @ow p vs avs Fs h n l lf e ih =>
  rw[tm];refine .list h (by simp[l]) λi d v h1 h2=>?_
  rw[gMq]at h1;cases ea:avs[i]? with
  |none=>rw[ea]at h1;cases h1
  |some a =>
   rw[ea]at h1;cases h1;have hi:i<Fs.length:=lf ▸ (gSq.mp ea).1;exact ih i a v Fs[i] ea h2 (gEg hi)
 |owd h n r=>rw[AJ];exact .mk_dict h (r.mono s)
 |owl h n l e=>rw[DZ];exact JY h l λi q x h1 h2=>(e i q x h1 h2).1
def frz(Hf H:Hp) (F:List Addr):Hp:=λb=>if b∈F then H b else Hf b
theorem xa{b:Addr}(h:b∈F):frz Hf H F b=H b:=nP h
theorem rF{b:Addr}(h:b∉F):frz Hf H F b=Hf b:=nQ h
theorem qv(h:∀q∈F,Hf q=none):nS Hf (frz Hf H F):=λb o e=>by
 rw[rF λm=>by rw[h b m]at e;cases e]
 exact e
theorem RJ(s:nS Hf H):nS (frz Hf H F) H:=λb o e=>by
 by_cases m:b∈F
 .rw [xa m]at e;exact e
 .rw [rF m]at e;exact s b o e
theorem nV.frozen(h:nV K Hf H av v F) (s:nS Hf Hf') (hk:∀q∈F,Hf' q=H q):pP K Hf' (ny av) v:=by
 induction h with
 |sh r=>rw[si];exact r.mono s
 | @ow p vs avs Fs h n l lf e ih =>
  rw[tm];refine .list (by rw[hk p (by simp)];exact h) (by simp[l]) λi d v h1 h2=>?_
  rw[gMq]at h1;cases ea:avs[i]? with
  |none=>rw[ea]at h1;cases h1
  |some a =>
   rw[ea]at h1;cases h1;have hi:i<Fs.length:=lf ▸ (gSq.mp ea).1;exact ih i a v Fs[i] ea h2 (gEg hi) λq hq=>hk q (mCo _ (mFq.mpr ⟨Fs[i],gRq hi,hq⟩))
 |owd h n r=>rw[AJ];exact .mk_dict (by rw[hk _ (by simp)];exact h) (r.mono s)
 |owl h n l e=>rw[DZ];exact JY (by rw[hk _ (aD ..)];exact h) l λi q x h1 h2=>by rw[hk q (mCo _ (mGq h1))];exact(e i q x h1 h2).1
end
abbrev AS:=List (Option AV)
structure og (K:W.Frag) (H₀ Hf₀ Hf:Hp) (S:AS) (σ:St) (H:Hp) (Fs:List (List Addr)):Prop where
 len:S.length=σ.length
 lenF:Fs.length=S.length
 rep:∀(i:Nat) (av:AV),S[i]?=some (some av)->∃v F,σ[i]?=some (some v)/\Fs[i]?=some F/\nV K Hf H av v F
 emp:∀i:Nat,S[i]?=some none->Fs[i]?=some []
 nd:Fs.flatten.Nodup
 fresh:∀p∈Fs.flatten,H₀ p=none
 sub:nS Hf H
 fr:nS H₀ H
 lim:∀b,Hf₀ b=none->H₀ b≠none->Hf b=none
 sf:nS Hf₀ Hf
structure wW (Hf H:Hp) (Fs:List (List Addr)) (Hf' H':Hp) (Fs':List (List Addr)):Prop where
 sf:nS Hf Hf'
 sh:nS H H'
 own:∀p∈Fs'.flatten,p∈Fs.flatten
 gr:∀b,Hf b=none->Hf' b≠none->H b=none∨b∈Fs.flatten
theorem wW.refl{Hf H:Hp}{Fs:List (List Addr)}:wW Hf H Fs Hf H Fs:=⟨.refl _,.refl _,λ_ h=>h,λb h g=>absurd h g⟩
theorem JT{H H':Hp}(s:nS H H') {b:Addr}(h:H b≠none):H' b≠none:=by
 cases e:H b with
 |none=>exact absurd e h
 |some o=>rw[s b o e];simp
theorem wW.trans{Hf H Hf1 H1 Hf2 H2:Hp}{Fs Fs1 Fs2:List (List Addr)}(a:wW Hf H Fs Hf1 H1 Fs1) (b:wW Hf1 H1 Fs1 Hf2 H2 Fs2):wW Hf H Fs Hf2 H2 Fs2 :=
 ⟨a.sf.trans b.sf,a.sh.trans b.sh,λp h=>a.own p (b.own p h),λc h g=>by
  by_cases e:Hf1 c=none
  .rcases b.gr c e g with q|q
   .exact .inl (a.sh.free q)
   .exact .inr (a.own c q)
  .exact a.gr c h e⟩
section
variable {K:W.Frag}{H₀ Hf₀ Hf Hf' H H':Hp}{S:AS}{σ:St}{Fs Fs':List (List Addr)}
theorem KP{b:Addr}(s:nS H H') (h:H b≠none):H' b=H b:=by
 cases e:H b with
 |none=>exact absurd e h
 |some o=>exact s b o e
theorem og.mem(R:og K H₀ Hf₀ Hf S σ H Fs) {q:Addr}(h:q∈Fs.flatten):H q≠none/\Hf q=none:=by
 obtain⟨F,hF,hq⟩:=mFq.mp h;obtain⟨i,hi,rfl⟩:=bF.mp hF;have hiS:i<S.length:=R.lenF ▸ hi;cases e:S[i] with
 |none =>
  have:=R.emp i (by rw[gEg hiS,e])
  rw[gEg hi]at this;rw[ba.inj this]at hq;cases hq
 |some av =>
  obtain⟨v,F,_,e2,r⟩:=R.rep i av (by rw[gEg hiS,e])
  rw[gEg hi]at e2;rw[ba.inj e2]at hq;exact r.owned q hq
theorem og.more(R:og K H₀ Hf₀ Hf S σ H Fs) (s:nS H H') (sf:nS Hf Hf') (sub:nS Hf' H') (hn:∀q∈Fs.flatten,Hf' q=none) (lim:∀b,Hf₀ b=none->H₀ b≠none->Hf' b=none):og K H₀ Hf₀ Hf' S σ H' Fs where
 len:=R.len
 lenF:=R.lenF
 rep:=λi av e=>by
  obtain⟨v,F,e1,e2,r⟩:=R.rep i av e;refine⟨v,F,e1,e2,r.keep sf (λq hq=>KP s (r.owned q hq).1) λq hq=>hn q (mFq.mpr ⟨F,mGq e2,hq⟩)⟩
 emp:=R.emp
 nd:=R.nd
 fresh:=R.fresh
 sub:=sub
 fr:=R.fr.trans s
 lim:=lim
 sf:=R.sf.trans sf
theorem og.laid(R:og K H₀ Hf₀ Hf S σ H Fs) (s:nS H H'):og K H₀ Hf₀ Hf S σ H' Fs:=R.more s (.refl _) (R.sub.trans s) (λq h=>(R.mem h).2) R.lim
theorem qH{F:List Addr}{i:Nat}{p:Addr}(h:p∈(Fs.set i F).flatten):p∈F∨p∈Fs.flatten:=by
 obtain⟨G,hG,hp⟩:=mFq.mp h;rcases List.mem_or_eq_of_mem_set hG with q|q
 .exact .inr (mFq.mpr ⟨G,q,hp⟩)
 .subst q;exact .inl hp
theorem pU:∀{Fs:List (List Addr)}{F:List Addr}(i:Nat),Fs.flatten.Nodup->F.Nodup->(∀p∈F,p∉Fs.flatten)->(Fs.set i F).flatten.Nodup
 | [],F,i,h,_,_=>by simp
 |G::Gs,F,0,h,hF,hd=>by
  rw[cT,fCq,nAq];rw[fCq,nAq]at h;refine⟨hF,h.2.1,λa ha b hb e=>hd a ha ?_⟩
  rw[fCq];exact aE _ (e ▸ hb)
 |G::Gs,F,i+1,h,hF,hd=>by
  rw[eJ,fCq,nAq];rw[fCq,nAq]at h;refine⟨h.1,pU i h.2.1 hF λp hp m=>hd p hp (by rw[fCq];exact aE _ m),λa ha b hb e=>?_⟩
  rcases qH hb with q|q
  .exact hd b q (by rw[fCq];exact aU _ (e ▸ ha))
  .exact h.2.2 a ha b q e
theorem og.set(R:og K H₀ Hf₀ Hf S σ H Fs) {av:AV}{v:V}{F:List Addr}(i:Nat) (r:nV K Hf H av v F) (nd:F.Nodup) (hf:∀q∈F,H₀ q=none/\q∉Fs.flatten) :
  og K H₀ Hf₀ Hf (S.set i (some av)) (σ.set i (some v)) H (Fs.set i F) where
 len:=by simp[R.len]
 lenF:=by simp[R.lenF]
 rep:=λj a e=>by
  rw[bh]at e
  by_cases hij:i=j
  .subst hij;rw[nP rfl]at e;split at e
   .rename_i hi;cases e;exact⟨v,F,by rw[aG (R.len ▸ hi)],by rw[aG (R.lenF.symm ▸ hi)],r⟩
   .cases e
  .rw [nQ hij]at e;obtain⟨w,G,e1,e2,q⟩:=R.rep j a e;exact⟨w,G,by rw[ar hij];exact e1,by rw[ar hij];exact e2,q⟩
 emp:=λj e=>by
  rw[bh]at e
  by_cases hij:i=j
  .subst hij;rw[nP rfl]at e;split at e <;> cases e
  .rw [nQ hij]at e;rw[ar hij];exact R.emp j e
 nd:=pU i R.nd nd λp hp=>(hf p hp).2
 fresh:=λp hp=>by
  rcases qH hp with q|q
  .exact (hf p q).1
  .exact R.fresh p q
 sub:=R.sub
 fr:=R.fr
 lim:=R.lim
 sf:=R.sf
theorem pd{i:Nat}{p:Addr}(h:p∈(Fs.set i []).flatten):p∈Fs.flatten:=by
 rcases qH h with q|q
 .cases q
 .exact q
theorem sH:∀{Fs:List (List Addr)}{F:List Addr}{i:Nat}{p:Addr},Fs.flatten.Nodup->Fs[i]?=some F->p∈F->p∉(Fs.set i []).flatten
 | [],F,i,p,_,e,_,_=>by simp at e
 |G::Gs,F,0,p,h,e,hp,m=>by
  simp at e;subst e;rw[cT,fCq,eE]at m;rw[fCq,nAq]at h;exact h.2.2 p hp p m rfl
 |G::Gs,F,i+1,p,h,e,hp,m=>by
  rw[eJ,fCq]at m;rw[fCq,nAq]at h;have e':Gs[i]?=some F:=by simpa using e
  rcases mAq.mp m with q|q
  .exact h.2.2 p q p (mFq.mpr ⟨F,mGq e',hp⟩) rfl
  .exact sH h.2.1 e' hp q
theorem og.move(R:og K H₀ Hf₀ Hf S σ H Fs) {i:Nat}{av:AV}(e:S[i]?=some (some av)):∃v F,σ[i]?=some (some v)/\Fs[i]?=some F/\nV K Hf H av v F/\F.Nodup/\(∀q∈F,H₀ q=none/\q∉(Fs.set i []).flatten) /\
  og K H₀ Hf₀ Hf (S.set i none) σ H (Fs.set i []):=by
 obtain⟨v,F,e1,e2,r⟩:=R.rep i av e;have hin:∀q∈F,q∈Fs.flatten:=λq hq=>mFq.mpr ⟨F,mGq e2,hq⟩
 refine⟨v,F,e1,e2,r,cZ.sublist (bf (mGq e2)) R.nd,λq hq=>⟨R.fresh q (hin q hq),sH R.nd e2 hq⟩,?_⟩
 refine⟨by simp[R.len],by simp[R.lenF],λj a ej=>?_,λj ej=>?_,pU i R.nd aT (λp hp=>by cases hp),λp hp=>R.fresh p (pd hp),R.sub,R.fr,R.lim,R.sf⟩
 .rw [bh]at ej
  by_cases hij:i=j
  .subst hij;rw[nP rfl]at ej;split at ej <;> cases ej
  .rw [nQ hij]at ej;obtain⟨w,G,f1,f2,q⟩:=R.rep j a ej;exact⟨w,G,f1,by rw[ar hij];exact f2,q⟩
 .rw [bh]at ej
  by_cases hij:i=j
  .subst hij;rw[nP rfl]at ej;split at ej
   .rename_i hi;rw[aG (R.lenF.symm ▸ hi)]
   .cases ej
  .rw [nQ hij]at ej;rw[ar hij];exact R.emp j ej
theorem og.frz(R:og K H₀ Hf₀ Hf S σ H Fs) {F:List Addr}(hf:∀q∈F,H₀ q=none/\q∉Fs.flatten) (hn:∀q∈F,Hf q=none):og K H₀ Hf₀ (frz Hf H F) S σ H Fs:=by
 refine R.more (.refl _) (qv hn) (RJ R.sub) (λq hq=>?_) λb h1 h2=>?_
 .rw [rF λm=>(hf q m).2 hq]
  exact(R.mem hq).2
 .rw [rF λm=>h2 (hf b m).1]
  exact R.lim b h1 h2
end
abbrev ME:=AS->Option (D×AS)
abbrev MK:=AS->Option (AV×AS)
abbrev ML:=AS->Option (List D×AS)
abbrev MT:=AS->Option (Bool×AS)
abbrev MA:=AS->Option (List AV×AS)
def nU(K:W.Frag) (Hf H:Hp) (avs:List AV) (vs:List V) (Gs:List (List Addr)):Prop :=
 avs.length=vs.length/\avs.length=Gs.length/\∀(i:Nat) (a:AV) (v:V) (F:List Addr),avs[i]?=some a->vs[i]?=some v->Gs[i]?=some F->nV K Hf H a v F
structure wV (H₀ H:Hp) (Fs Fs':List (List Addr)) (F:List Addr):Prop where
 nd:F.Nodup
 fr:∀q∈F,H₀ q=none
 out:∀q∈F,q∉Fs'.flatten
 new:∀q∈F,H q=none∨q∈Fs.flatten
theorem wV.nil{H₀ H:Hp}{Fs Fs':List (List Addr)}:wV H₀ H Fs Fs' []:=⟨aT,λq h=>(by cases h),λq h=>(by cases h),λq h=>(by cases h)⟩
section
variable (K:W.Frag)
def SR(te:TE) (m:ME):Prop:=∀{H₀ Hf₀ Hf:Hp}{S:AS}{σ:St}{H:Hp}{Fs:List (List Addr)}{d:D}{S':AS},og K H₀ Hf₀ Hf S σ H Fs->m S=some (d,S')->∀Q:VK,
 (∀Hf' H' Fs' v,wW Hf H Fs Hf' H' Fs'->og K H₀ Hf₀ Hf' S' σ H' Fs'->pP K H' d v->Q v H')->te σ H Q
def SK(te:TE) (m:MK):Prop:=∀{H₀ Hf₀ Hf:Hp}{S:AS}{σ:St}{H:Hp}{Fs:List (List Addr)}{a:AV}{S':AS},og K H₀ Hf₀ Hf S σ H Fs->m S=some (a,S')->∀Q:VK,
 (∀Hf' H' Fs' v F,wW Hf H Fs Hf' H' Fs'->og K H₀ Hf₀ Hf' S' σ H' Fs'->nV K Hf' H' a v F->wV H₀ H Fs Fs' F->Q v H')->te σ H Q
def SL(te:TE) (m:ML):Prop:=∀{H₀ Hf₀ Hf:Hp}{S:AS}{σ:St}{H:Hp}{Fs:List (List Addr)}{ds:List D}{S':AS},og K H₀ Hf₀ Hf S σ H Fs->m S=some (ds,S')->∀Q:VK,
 (∀Hf' H' Fs' p vs,wW Hf H Fs Hf' H' Fs'->og K H₀ Hf₀ Hf' S' σ H' Fs'->H' p=some (.lst vs)->oq K Hf' ds vs->Q (.ref p) H')->te σ H Q
def FF(tt:TT) (m:MT):Prop:=∀{H₀ Hf₀ Hf:Hp}{S:AS}{σ:St}{H:Hp}{Fs:List (List Addr)}{b:Bool}{S':AS},og K H₀ Hf₀ Hf S σ H Fs->m S=some (b,S')->∀Q:Bool->Hp->Prop,
 (∀Hf' H' Fs',wW Hf H Fs Hf' H' Fs'->og K H₀ Hf₀ Hf' S' σ H' Fs'->Q b H')->tt σ H Q
def SA(ta:TA) (m:MA):Prop:=∀{H₀ Hf₀ Hf:Hp}{S:AS}{σ:St}{H:Hp}{Fs:List (List Addr)}{as:List AV}{S':AS},og K H₀ Hf₀ Hf S σ H Fs->m S=some (as,S')->∀Q:List V->Hp->Prop,
 (∀Hf' H' Fs' vs Gs,wW Hf H Fs Hf' H' Fs'->og K H₀ Hf₀ Hf' S' σ H' Fs'->nU K Hf' H' as vs Gs->wV H₀ H Fs Fs' Gs.flatten->Q vs H')->ta σ H Q
def QD(ta:TA) (m:ML):Prop:=∀{H₀ Hf₀ Hf:Hp}{S:AS}{σ:St}{H:Hp}{Fs:List (List Addr)}{ds:List D}{S':AS},og K H₀ Hf₀ Hf S σ H Fs->m S=some (ds,S')->∀Q:List V->Hp->Prop,
 (∀Hf' H' Fs' vs,wW Hf H Fs Hf' H' Fs'->og K H₀ Hf₀ Hf' S' σ H' Fs'->oq K H' ds vs->Q vs H')->ta σ H Q
end
section
variable {K:W.Frag}{H₀ Hf₀ Hf Hf' H H':Hp}{S S':AS}{σ:St}{Fs Fs':List (List Addr)}
theorem nV.stp{av:AV}{v:V}{F:List Addr}(r:nV K Hf H av v F) (ho:∀q∈F,q∉Fs.flatten) (t:wW Hf H Fs Hf' H' Fs'):nV K Hf' H' av v F :=
 r.keep t.sf (λq hq=>KP t.sh (r.owned q hq).1) λq hq=>by
  by_cases e:Hf' q=none
  .exact e
  .rcases t.gr q (r.owned q hq).2 e with z|z
   .exact absurd z (r.owned q hq).1
   .exact absurd z (ho q hq)
theorem og.new(R:og K H₀ Hf₀ Hf S σ H Fs) {p:Addr}{o:HO}(hp:H p=none):wW Hf H Fs Hf (oB H p o) Fs/\og K H₀ Hf₀ Hf S σ (oB H p o) Fs/\Hf p=none/\H₀ p=none/\p∉Fs.flatten :=
 ⟨⟨.refl _,pV hp,λ_ h=>h,λb h g=>absurd h g⟩,R.laid (pV hp),R.sub.free hp,R.fr.free hp,λm=>(R.mem m).1 hp⟩
theorem qM(n:Nat):(ay n ([]:List Addr)).flatten=[]:=by
 induction n with
 |zero=>rfl
 |succ n ih=>rw[bR,fCq,ih];rfl
theorem nV.new{p:Addr}{vs:List V}{ds:List D}(h:H p=some (.lst vs)) (n:Hf p=none) (r:oq K Hf ds vs):nV K Hf H (.ow (ds.map .sh)) (.ref p) [p]:=by
 have e:[p]=p::(ay ds.length ([]:List Addr)).flatten:=by rw[qM]
 rw[e];refine .ow h n (by simp[r.1]) (by simp) λi a v F h1 h2 h3=>?_
 rw[gMq]at h1;cases q:ds[i]? with
 |none=>rw[q]at h1;cases h1
 |some d =>
  rw[q]at h1;cases h1;have:F=[]:=du (mGq h3);subst this;exact .sh (r.2 i d v q h2)
theorem nV.news{p:Addr}{vs:List V}{avs:List AV}{Gs:List (List Addr)}(h:H p=some (.lst vs)) (n:Hf p=none) (r:nU K Hf H avs vs Gs):nV K Hf H (.ow avs) (.ref p) (p::Gs.flatten):=.ow h n r.1 r.2.1 r.2.2
theorem nV.ow_inv{avs:List AV}{v:V}{F:List Addr}(h:nV K Hf H (.ow avs) v F):∃p vs Gs,v = .ref p/\F=p::Gs.flatten/\H p=some (.lst vs)/\Hf p=none/\nU K Hf H avs vs Gs:=by
 cases h with
 |ow h n l lf e=>exact⟨_,_,_,rfl,rfl,h,n,l,lf,e⟩
theorem nV.owd_inv{ds:List (nO×D)}{v:V}{F:List Addr}(h:nV K Hf H (.owd ds) v F):∃p kvs,v = .ref p/\F=[p]/\H p=some (.dK kvs)/\Hf p=none/\rY K Hf ds kvs:=by
 cases h with
 |owd h n r=>exact⟨_,_,rfl,rfl,h,n,r⟩
theorem nV.sh_inv{d:D}{v:V}{F:List Addr}(h:nV K Hf H (.sh d) v F):F=[]/\pP K Hf d v:=by
 cases h with
 |sh r=>exact⟨rfl,r⟩
theorem og.give{H1:Hp}{Fs1:List (List Addr)}(R:og K H₀ Hf₀ Hf' S σ H1 Fs1) (t:wW Hf H Fs Hf' H1 Fs1) {av:AV}{v:V}{F:List Addr}(r:nV K Hf' H1 av v F) (o:wV H₀ H Fs Fs1 F) :
  og K H₀ Hf₀ (Z.frz Hf' H1 F) S σ H1 Fs1/\pP K (Z.frz Hf' H1 F) (ny av) v/\wW Hf H Fs (Z.frz Hf' H1 F) H1 Fs1:=by
 have n:∀q∈F,Hf' q=none:=λq hq=>(r.owned q hq).2
 refine⟨R.frz (λq hq=>⟨o.fr q hq,o.out q hq⟩) n,r.frozen (qv n) λq hq=>xa hq,t.sf.trans (qv n),t.sh,t.own,λb h g=>?_⟩
 by_cases m:b∈F
 .exact o.new b m
 .rw [rF m]at g;exact t.gr b h g
theorem nU.nil:nU K Hf H [] [] []:=⟨rfl,rfl,λi a v F h=>by simp at h⟩
theorem nU.cons{a:AV}{v:V}{F:List Addr}{as:List AV}{vs:List V}{Gs:List (List Addr)}(h:nV K Hf H a v F) (t:nU K Hf H as vs Gs):nU K Hf H (a::as) (v::vs) (F::Gs) :=
 ⟨by simp[t.1],by simp[t.2.1],λi b w G h1 h2 h3=>by
  cases i with
  |zero =>
   simp at h1 h2 h3;subst h1 h2 h3;exact h
  |succ i=>exact t.2.2 i b w G (by simpa using h1) (by simpa using h2) (by simpa using h3)⟩
theorem nU.nil_inv{vs:List V}{Gs:List (List Addr)}(h:nU K Hf H [] vs Gs):vs=[]/\Gs=[]:=by
 obtain⟨a,b,_⟩:=h;exact⟨cI.mp a.symm,cI.mp b.symm⟩
theorem nU.cons_inv{a:AV}{as:List AV}{vs:List V}{Gs:List (List Addr)}(h:nU K Hf H (a::as) vs Gs):∃v ws F Gs',vs=v::ws/\Gs=F::Gs'/\nV K Hf H a v F/\nU K Hf H as ws Gs':=by
 obtain⟨h1,h2,h3⟩:=h;cases vs with
 |nil=>simp at h1
 |cons v ws =>
  cases Gs with
  |nil=>simp at h2
  |cons F Gs'=>exact⟨v,ws,F,Gs',rfl,rfl,h3 0 a v F rfl rfl rfl,by simpa using h1,by simpa using h2,λi b w G q1 q2 q3=>h3 (i+1) b w G (by simpa using q1) (by simpa using q2) (by simpa using q3)⟩
theorem nU.frozen(h:nU K Hf H as vs Gs) (s:nS Hf Hf') (hk:∀q∈Gs.flatten,Hf' q=H q):oq K Hf' (as.map ny) vs :=
 ⟨by simp[h.1],λi d v h1 h2=>by
  rw[gMq]at h1;cases ea:as[i]? with
  |none=>rw[ea]at h1;cases h1
  |some a =>
   rw[ea]at h1;cases h1;have hi:i<Gs.length:=h.2.1 ▸ (gSq.mp ea).1;exact(h.2.2 i a v Gs[i] ea h2 (gEg hi)).frozen s λq hq=>hk q (mFq.mpr ⟨Gs[i],gRq hi,hq⟩)⟩
theorem nU.owned(h:nU K Hf H as vs Gs):∀q∈Gs.flatten,H q≠none/\Hf q=none:=λq hq=>by
 obtain⟨F,hF,hq⟩:=mFq.mp hq;obtain⟨i,hi,rfl⟩:=bF.mp hF;have h1:i<as.length:=h.2.1.symm ▸ hi;have h2:i<vs.length:=h.1 ▸ h1;exact(h.2.2 i as[i] vs[i] Gs[i] (gEg h1) (gEg h2) (gEg hi)).owned q hq
theorem og.gives{H1:Hp}{Fs1:List (List Addr)}(R:og K H₀ Hf₀ Hf' S σ H1 Fs1) (t:wW Hf H Fs Hf' H1 Fs1) {as:List AV}{vs:List V}{Gs:List (List Addr)}(r:nU K Hf' H1 as vs Gs) (o:wV H₀ H Fs Fs1 Gs.flatten) :
  og K H₀ Hf₀ (Z.frz Hf' H1 Gs.flatten) S σ H1 Fs1/\oq K (Z.frz Hf' H1 Gs.flatten) (as.map ny) vs/\wW Hf H Fs (Z.frz Hf' H1 Gs.flatten) H1 Fs1:=by
 have n:∀q∈Gs.flatten,Hf' q=none:=λq hq=>(r.owned q hq).2
 refine⟨R.frz (λq hq=>⟨o.fr q hq,o.out q hq⟩) n,r.frozen (qv n) λq hq=>xa hq,t.sf.trans (qv n),t.sh,t.own,λb h g=>?_⟩
 by_cases m:b∈Gs.flatten
 .exact o.new b m
 .rw [rF m]at g;exact t.gr b h g
theorem wV.stp{Hf1 H1 Hf2 H2:Hp}{Fs1 Fs2:List (List Addr)}{F:List Addr}(o:wV H₀ H Fs Fs1 F) (t:wW Hf1 H1 Fs1 Hf2 H2 Fs2):wV H₀ H Fs Fs2 F:=⟨o.nd,o.fr,λq h m=>o.out q h (t.own q m),o.new⟩
theorem wV.back{Hf1 H1:Hp}{Fs1 Fs2:List (List Addr)}{F:List Addr}(t:wW Hf H Fs Hf1 H1 Fs1) (o:wV H₀ H1 Fs1 Fs2 F):wV H₀ H Fs Fs2 F:=⟨o.nd,o.fr,o.out,λq h=>(o.new q h).elim (λe=>.inl (t.sh.free e)) λm=>.inr (t.own q m)⟩
theorem wV.app{F G:List Addr}(a:wV H₀ H Fs Fs' F) (b:wV H₀ H Fs Fs' G) (d:∀q∈F,q∉G):wV H₀ H Fs Fs' (F++G) :=
 ⟨nAq.mpr ⟨a.nd,b.nd,λx hx y hy e=>d x hx (e ▸ hy)⟩,λq h=>(mAq.mp h).elim (a.fr q) (b.fr q),λq h=>(mAq.mp h).elim (a.out q) (b.out q),λq h=>(mAq.mp h).elim (a.new q) (b.new q)⟩
theorem wV.apart{Hf1 H1:Hp}{Fs1 Fs2:List (List Addr)}{F G:List Addr}(a:wV H₀ H Fs Fs1 F) (ha:∀q∈F,H1 q≠none) (b:wV H₀ H1 Fs1 Fs2 G):∀q∈F,q∉G:=λq h m=>by
 rcases b.new q m with e|e
 .exact ha q h e
 .exact a.out q h e
theorem wV.one(R:og K H₀ Hf₀ Hf S σ H Fs) {p:Addr}(hp:H p=none):wV H₀ H Fs Fs [p] :=
 ⟨by simp,λq h=>by rw[mSq.mp h];exact R.fr.free hp,λq h m=>by rw[mSq.mp h]at m;exact(R.mem m).1 hp,λq h=>by rw[mSq.mp h];exact .inl hp⟩
end
def nj(i:Nat):ME:=λS=>(S[i]?.join).map λa=>(ny a,S)
def ot(i:Nat):MK:=λS=>(S[i]?.join).map λa=>(.sh (ny a),S.set i (some (.sh (ny a))))
def Cs(i:Nat):MK:=λS=>(S[i]?.join).map λa=>(a,S.set i none)
def G9(i:Nat):ML:=λS=>match S[i]?.join with
 |some (.sh (.list ds))=>some (ds,S)
 |some (.ow avs)=>some (avs.map ny,S.set i (some (.ow ((avs.map ny).map .sh))))
 |_=>none
def rOf(k:MK):ME:=λS=>(k S).map λx=>(ny x.1,x.2)
def kSc(m:ME):MK:=λS=>(m S).bind λx=>if x.1.scal then some (.sh x.1,x.2) else none
def lOf(k:MK):ML:=λS=>(k S).bind λx=>match x.1 with
 | .sh (.list ds)=>some (ds,x.2)
 | .ow avs=>some (avs.map ny,x.2)
 |_=>none
def uK(k:MK):MK:=λS=>(k S).map λx=>(.sh (ny x.1),x.2)
def rC(d:D):ME:=λS=>if d.scal then some (d,S) else none
section
variable {K:W.Frag}
theorem ou{S:AS}{i:Nat}{a:AV}(h:S[i]?.join=some a):S[i]?=some (some a):=by
 cases e:S[i]? with
 |none=>rw[e]at h;cases h
 |some z=>rw[e]at h;exact congrArg some h
theorem mX(i:Nat):SR K (uI i) (nj i):=by
 intro H₀ Hf₀ Hf S σ H Fs d S' R e Q q;obtain⟨a,ea,e⟩:=oMq.mp e;cases e;obtain⟨v,F,s1,s2,r⟩:=R.rep i a (ou ea);exact⟨v,s1,q _ _ _ v .refl R (r.rep R.sub)⟩
theorem wH(i:Nat):SK K (uI i) (Cs i):=by
 intro H₀ Hf₀ Hf S σ H Fs a S' R e Q q;obtain⟨b,ea,e⟩:=oMq.mp e;cases e;obtain⟨v,F,s1,s2,r,nd,o,R1⟩:=R.move (ou ea);exact⟨v,s1,q _ _ _ v F ⟨.refl _,.refl _,λp hp=>pd hp,λb h g=>absurd h g⟩ R1 r ⟨nd,λq hq=>(o q hq).1,λq hq=>(o q hq).2,λq hq=>.inr (mFq.mpr ⟨F,mGq s2,hq⟩)⟩⟩
theorem og.again{H₀ Hf₀ Hf H:Hp}{S:AS}{σ:St}{Fs:List (List Addr)}{i:Nat}{av:AV}{v:V}{F G:List Addr}(R:og K H₀ Hf₀ Hf (S.set i none) σ H (Fs.set i [])) (s1:σ[i]?=some (some v)) (r:nV K Hf H av v G) (nd:G.Nodup) (hf:∀q∈G,H₀ q=none/\q∉(Fs.set i []).flatten) :
  og K H₀ Hf₀ Hf (S.set i (some av)) σ H (Fs.set i G):=by
 have R2:=R.set i r nd hf;rw[eQ,eQ]at R2;have e:σ.set i (some v)=σ:=by
  obtain⟨hk,ev⟩:=gSq.mp s1;rw[←ev];exact dY hk
 rw[e]at R2;exact R2
theorem nD(i:Nat):SK K (uI i) (ot i):=by
 intro H₀ Hf₀ Hf S σ H Fs a S' R e Q q;obtain⟨b,ea,e⟩:=oMq.mp e;cases e;obtain⟨v,F,s1,s2,r,nd,o,R1⟩:=R.move (ou ea);have n:∀q∈F,Hf q=none:=λq hq=>(r.owned q hq).2
 have R2:=R1.frz o n;have r2:=r.frozen (qv (H:=H) n) λq hq=>xa hq
 have R3:=R2.again (F:=F) (G:=[]) s1 (.sh r2) aT λq h=>(by cases h)
 refine⟨v,s1,q _ _ _ v [] ⟨qv n,.refl _,λp hp=>pd hp,λb h g=>?_⟩ R3 (.sh r2) .nil⟩
 by_cases m:b∈F
 .exact .inr (mFq.mpr ⟨F,mGq s2,m⟩)
 .rw [rF m]at g;exact absurd h g
theorem EM(i:Nat):SL K (uI i) (G9 i):=by
 intro H₀ Hf₀ Hf S σ H Fs ds S' R e Q q;unfold G9 at e;split at e
 .rename_i ds' ea;cases e;obtain⟨v,F,s1,s2,r⟩:=R.rep i _ (ou ea);obtain⟨p,vs,rfl,h1,h2⟩:=r.sh_inv.2.list_inv;exact⟨_,s1,q _ _ _ p vs .refl R (R.sub _ _ h1) h2⟩
 .rename_i avs ea;cases e;obtain⟨v,F,s1,s2,r,nd,o,R1⟩:=R.move (ou ea);obtain⟨p,vs,Gs,rfl,rfl,h1,h2,h3⟩:=r.ow_inv;have n:∀q∈Gs.flatten,Hf q=none:=λq hq=>(h3.owned q hq).2
  have R2:=R1.frz (F:=Gs.flatten) (λq hq=>o q (mCo _ hq)) n
  have r2:=h3.frozen (qv (H:=H) n) λq hq=>xa hq
  have np:p∉Gs.flatten:=(aA.mp nd).1;have r3:nV K (Z.frz Hf H Gs.flatten) H (.ow ((avs.map ny).map .sh)) (.ref p) [p]:=nV.new h1 (by rw[rF np];exact h2) r2
  have R3:=R2.again (F:=p::Gs.flatten) (G:=[p]) s1 r3 (by simp) λq hq=>by rw[mSq.mp hq];exact o p (by simp)
  refine⟨_,s1,q _ _ _ p vs ⟨qv n,.refl _,λb hb=>?_,λb h g=>?_⟩ R3 h1 r2⟩
  .rcases qH hb with z|z
   .rw [mSq.mp z];exact mFq.mpr ⟨_,mGq s2,by simp⟩
   .exact z
  .by_cases m:b∈Gs.flatten
   .exact .inr (mFq.mpr ⟨_,mGq s2,mCo _ m⟩)
   .rw [rF m]at g;exact absurd h g
 .cases e
theorem SK.rOf{te:TE}{k:MK}(h:SK K te k):SR K te (rOf k):=by
 intro H₀ Hf₀ Hf S σ H Fs d S' R e Q q;obtain⟨x,ea,e⟩:=oMq.mp e;cases e;exact h R (a:=x.1) (S':=x.2) ea Q λHf' H' Fs' v F t R' r o=>q _ _ _ v t R' (r.rep R'.sub)
theorem SR.kSc{te:TE}{m:ME}(h:SR K te m):SK K te (kSc m):=by
 intro H₀ Hf₀ Hf S σ H Fs a S' R e Q q;obtain⟨x,ea,e⟩:=oBq.mp e;split at e
 .rename_i hs;cases e;exact h R (d:=x.1) (S':=x.2) ea Q λHf' H' Fs' v t R' r=>q _ _ _ v [] t R' (.sh (r.scal hs)) .nil
 .cases e
theorem SK.frz{te:TE}{k:MK}(h:SK K te k):SK K te (uK k):=by
 intro H₀ Hf₀ Hf S σ H Fs a S' R e Q q;obtain⟨x,ea,e⟩:=oMq.mp e;cases e;refine h R (a:=x.1) (S':=x.2) ea Q λHf' H' Fs' v F t R' r o=>?_
 obtain⟨R2,r2,t2⟩:=R'.give t r o;exact q _ _ _ v [] t2 R2 (.sh r2) .nil
theorem SK.lOf{te:TE}{k:MK}(h:SK K te k):SL K te (lOf k):=by
 intro H₀ Hf₀ Hf S σ H Fs ds S' R e Q q;obtain⟨x,ea,e⟩:=oBq.mp e;refine h R (a:=x.1) (S':=x.2) ea Q λHf' H' Fs' v F t R' r o=>?_
 split at e
 .rename_i ds' hx;cases e;rw[hx]at r;obtain⟨p,vs,rfl,h1,h2⟩:=r.sh_inv.2.list_inv;exact q _ _ _ p vs t R' (R'.sub _ _ h1) h2
 .rename_i avs hx;cases e;obtain⟨R2,r2,t2⟩:=R'.give t r o;rw[hx,tm]at r2;obtain⟨p,vs,rfl,h1,h2⟩:=r2.list_inv;exact q _ _ _ p vs t2 R2 (R2.sub _ _ h1) h2
 .cases e
theorem Sm{v:V}{d:D}(h:∀H,pP K H d v):SR K (tC v) (rC d):=by
 intro H₀ Hf₀ Hf S σ H Fs d' S' R e Q q;unfold rC at e;split at e
 .cases e;exact q _ _ _ v .refl R (h _)
 .cases e
theorem nr{i:Int}:SR K (tC (.int i)) (rC (.int i)):=Sm λ_=>.int
theorem vF{i:Bool}:SR K (tC (.bl i)) (rC (.bl i)):=Sm λ_=>.bl
theorem Jn:SR K (tC .non) (rC .non):=Sm λ_=>.non
theorem D3{T:String}:SR K (tC (.ty T)) (rC (.ty T)):=Sm λ_=>.ty
end
def tM{α:Type}(p:Prop) (x:Option α):Option α:=@ite (Option α) p (cK p) x none
theorem tZ{α:Type}{p:Prop}(h:p) (x:Option α):tM p x=x:=nP h
theorem vt{α:Type}(x:Option α):tM True x=x:=nP trivial
theorem nT{α:Type}{p:Prop}{x y:Option α}(h:tM p x=y):(p/\x=y)∨none=y:=by
 by_cases c:p
 .rw [tZ c]at h;exact .inl ⟨c,h⟩
 .exact .inr ((@if_neg p (cK p) c _ x none).symm.trans h)
def oU(f:D->D->Option D) (a b:ME):ME:=λS=>(a S).bind λx=>(b x.2).bind λy=>(f x.1 y.1).map λd=>(d,y.2)
def Kg(f:D->Option D) (a:ME):ME:=λS=>(a S).bind λx=>(f x.1).map λd=>(d,x.2)
def FC(K:W.Frag) (r:R2) (f:D->D->Option D):Prop:=∀{x y:V}{H:Hp}{Q:VK}{dx dy d:D},pP K H dx x->pP K H dy y->f dx dy=some d->(∀v,pP K H d v->Q v H)->r x y H Q
def Zz(K:W.Frag) (r:V->Hp->VK->Prop) (f:D->Option D):Prop:=∀{x:V}{H:Hp}{Q:VK}{dx d:D},pP K H dx x->f dx=some d->(∀v,pP K H d v->Q v H)->r x H Q
section
variable {K:W.Frag}{r:R2}{f:D->D->Option D}{ta tb:TE}{a b:ME}
theorem nC(hr:FC K r f) (ha:SR K ta a) (hb:SR K tb b):SR K (QF r ta tb) (oU f a b):=by
 intro H₀ Hf₀ Hf S σ H Fs d S' R e Q q;obtain⟨x,e1,e⟩:=oBq.mp e;obtain⟨y,e2,e⟩:=oBq.mp e;obtain⟨z,e3,e⟩:=oMq.mp e;cases e;refine ha R (d:=x.1) (S':=x.2) e1 _ λHf1 H1 Fs1 v1 t1 R1 r1=>hb R1 (d:=y.1) (S':=y.2) e2 _ λHf2 H2 Fs2 v2 t2 R2 r2=>?_
 exact hr (r1.mono t2.sh) r2 e3 λv rv=>q _ _ _ v (t1.trans t2) R2 rv
theorem AN{r:V->Hp->VK->Prop}{f:D->Option D}(hr:Zz K r f) (ha:SR K ta a):SR K (ZM r ta) (Kg f a):=by
 intro H₀ Hf₀ Hf S σ H Fs d S' R e Q q;obtain⟨x,e1,e⟩:=oBq.mp e;obtain⟨z,e3,e⟩:=oMq.mp e;cases e;exact ha R (d:=x.1) (S':=x.2) e1 _ λHf1 H1 Fs1 v1 t1 R1 r1=>hr r1 e3 λv rv=>q _ _ _ v t1 R1 rv
end
def Kd(c:Int->Int->Prop) (g:Int->Int->D):D->D->Option D
 | .int i,.int j=>tM (c i j) (some (g i j))
 |_,_=>none
def ZY(g:Int->D):D->Option D
 | .int i=>some (g i)
 |_=>none
abbrev BJ:=Kd (λ_ _=>True) λi j=>.int (i+j)
abbrev B2:=Kd (λ_ _=>True) λi j=>.int (i-j)
abbrev Bk:=Kd N5 λi j=>.int (i*j)
abbrev vf:=Kd (λ_ j=>0<j) λi j=>.int (i % j)
abbrev Bi:=Kd Ud λi j=>.int (i / j)
abbrev QT:=Kd Vz λi j=>.int (i ^ j.toNat)
abbrev V4:=Kd (λ_ _=>True) λi j=>.bl (decide (i<j))
abbrev dLe:=Kd (λ_ _=>True) λi j=>.bl (decide (i<=j))
abbrev GI:=Kd (λ_ _=>True) λi j=>.bl (decide (j<i))
abbrev dGe:=Kd (λ_ _=>True) λi j=>.bl (decide (j<=i))
abbrev Ap:=ZY λi=>.int (-i)
def M8(b:Bool):Option D:=some (.bl b)
def Jx(x y:D):Option D:=match x with
 | .int i=>(match y with|.int j=>M8 (decide (i=j))|.non=>M8 false|.str _=>M8 false|_=>none)
 | .str i=>(match y with|.str j=>M8 (decide (i=j))|.non=>M8 false|.int _=>M8 false|_=>none)
 | .bl i=>(match y with|.bl j=>M8 (decide (i=j))|.non=>M8 false|_=>none)
 | .non=>(match y with|.non=>M8 true|.int _=>M8 false|.str _=>M8 false|.bl _=>M8 false|_=>none)
 |_=>none
def Mg:D->Option D
 | .bl b=>some (.bl (!b))
 |_=>none
def V6(x y:D):Option D:=(Jx x y).bind Mg
section
variable {K:W.Frag}
theorem Ki{C:Int->Int->Prop}{g:Int->Int->V}{g':Int->Int->D}(hg:∀H i j,pP K H (g' i j) (g i j)):FC K (rI C g) (Kd C g'):=by
 intro x y H Q dx dy d rx ry e q;unfold Kd at e;split at e
 .rename_i i j;cases rx;cases ry;rcases nT e with ⟨h,e⟩|e
  .cases e;exact⟨i,j,rfl,rfl,h,q _ (hg H i j)⟩
  .cases e
 .cases e
theorem EU{g:Int->Int->V}{g':Int->Int->D}(hg:∀H i j,pP K H (g' i j) (g i j)):FC K (Qd g) (Kd (λ_ _=>True) g'):=by
 intro x y H Q dx dy d rx ry e q;unfold Kd at e;split at e
 .rename_i i j;cases rx;cases ry;rw[vt]at e;cases e;exact⟨i,j,rfl,rfl,q _ (hg H i j)⟩
 .cases e
theorem xJ:FC K (Qd λi j=>.int (i+j)) BJ:=EU λ_ _ _=>.int
theorem Co:FC K (Qd λi j=>.int (i-j)) B2:=EU λ_ _ _=>.int
theorem C9:FC K (rI N5 λi j=>.int (i*j)) Bk:=Ki λ_ _ _=>.int
theorem sC:FC K (rI (λ_ j=>0<j) λi j=>.int (i % j)) vf:=Ki λ_ _ _=>.int
theorem yO:FC K (rI Ud λi j=>.int (i / j)) Bi:=Ki λ_ _ _=>.int
theorem Qa:FC K (rI Vz λi j=>.int (i ^ j.toNat)) QT:=Ki λ_ _ _=>.int
theorem S9:FC K (Qd λi j=>.bl (decide (i<j))) V4:=EU λ_ _ _=>.bl
theorem B3:FC K (Qd λi j=>.bl (decide (j<i))) GI:=EU λ_ _ _=>.bl
theorem xD:Zz K (rU λi=>.int (-i)) Ap:=by
 intro x H Q dx d rx e q;cases rx <;> simp only[ZY]at e
 all_goals first|(exfalso;simp at e;done)|skip
 rename_i i;cases e;exact⟨i,rfl,q _ .int⟩
theorem zj:FC K ZR Jx:=by
 intro x y H Q dx dy d rx ry e q;unfold Jx at e;cases rx <;> first|(cases e;done)|(cases ry <;> first|(cases e;done)|skip)
 all_goals (cases e;refine⟨rfl,q _ ?_⟩;simp only[reduceCtorEq,decide_false,decide_true,V.int.injEq,V.str.injEq,V.bl.injEq];exact .bl)
theorem N4:FC K Zu V6:=by
 intro x y H Q dx dy d rx ry e q;obtain⟨b,e1,e2⟩:=oBq.mp e;obtain⟨h1,h2⟩:=zj rx ry e1 (Q:=λv _=>pP K H b v) λv h=>h
 cases h2;cases e2;exact⟨h1,q _ .bl⟩
end
def LH(a b:ME):ME:=λS=>(a S).bind λx=>match x.1 with
 | .bl true=>b x.2
 | .bl false=>some (.bl false,x.2)
 |_=>none
def rOr(a b:ME):ME:=λS=>(a S).bind λx=>match x.1 with
 | .bl true=>some (.bl true,x.2)
 | .bl false=>b x.2
 |_=>none
def SI(a:ME):ME:=Kg Mg a
def sI(a:ME):MT:=λS=>(a S).bind λx=>match x.1 with
 | .bl b=>some (b,x.2)
 |_=>none
def CI(a b:MT):MT:=λS=>(a S).bind λx=>if x.1=true then b x.2 else some (false,x.2)
def Lm(a b:MT):MT:=λS=>(a S).bind λx=>if x.1=true then some (true,x.2) else b x.2
def yx(a:MT):MT:=λS=>(a S).map λx=>(!x.1,x.2)
def rIf(c:MT) (a b:ME):ME:=λS=>(c S).bind λx=>if x.1=true then a x.2 else b x.2
def kIf(c:MT) (a b:MK):MK:=λS=>(c S).bind λx=>if x.1=true then a x.2 else b x.2
section
variable {K:W.Frag}{ta tb:TE}{a b:ME}{ca cb:TT}{ma mb:MT}
theorem Fg(ha:SR K ta a) (hb:SR K tb b):SR K (TV ta tb) (LH a b):=by
 intro H₀ Hf₀ Hf S σ H Fs d S' R e Q q;obtain⟨x,e1,e⟩:=oBq.mp e;refine ha R (d:=x.1) (S':=x.2) e1 _ λHf1 H1 Fs1 v1 t1 R1 r1=>?_
 split at e
 .rename_i hx;rw[hx]at r1;cases r1;exact⟨true,rfl,GR (hb R1 e Q λHf2 H2 Fs2 v2 t2 R2 r2=>q _ _ _ v2 (t1.trans t2) R2 r2)⟩
 .rename_i hx;rw[hx]at r1;cases r1;cases e;exact⟨false,rfl,Gf (q _ _ _ _ t1 R1 .bl)⟩
 .cases e
theorem Og(ha:SR K ta a):SR K (Tu ta) (SI a):=by
 intro H₀ Hf₀ Hf S σ H Fs d S' R e Q q;obtain⟨x,e1,e⟩:=oBq.mp e;obtain⟨z,e3,e⟩:=oMq.mp e;cases e;refine ha R (d:=x.1) (S':=x.2) e1 _ λHf1 H1 Fs1 v1 t1 R1 r1=>?_
 cases hx:x.1 <;> rw[hx]at e3 r1 <;> simp only[Mg]at e3
 all_goals first|(exfalso;simp at e3;done)|skip
 cases r1;cases e3;exact⟨_,rfl,q _ _ _ _ t1 R1 .bl⟩
theorem uo(ha:SR K ta a):FF K (tB ta) (sI a):=by
 intro H₀ Hf₀ Hf S σ H Fs d S' R e Q q;obtain⟨x,e1,e⟩:=oBq.mp e;refine ha R (d:=x.1) (S':=x.2) e1 _ λHf1 H1 Fs1 v1 t1 R1 r1=>?_
 split at e
 .rename_i b hx;rw[hx]at r1;cases r1;cases e;exact⟨_,rfl,q _ _ _ t1 R1⟩
 .cases e
theorem oP(ha:SR K ta a):FF K (Tf ta) (sI a):=uo ha
theorem Iq(ha:FF K ca ma) (hb:FF K cb mb):FF K (XO ca cb) (CI ma mb):=by
 intro H₀ Hf₀ Hf S σ H Fs d S' R e Q q;obtain⟨x,e1,e⟩:=oBq.mp e;refine ha R (b:=x.1) (S':=x.2) e1 _ λHf1 H1 Fs1 t1 R1=>?_
 split at e
 .rename_i hx;rw[hx];exact GR (hb R1 e Q λHf2 H2 Fs2 t2 R2=>q _ _ _ (t1.trans t2) R2)
 .rename_i hx;cases e;rw[cO]at hx;rw[hx];exact Gf (q _ _ _ t1 R1)
theorem JM(ha:FF K ca ma) (hb:FF K cb mb):FF K (ZK ca cb) (Lm ma mb):=by
 intro H₀ Hf₀ Hf S σ H Fs d S' R e Q q;obtain⟨x,e1,e⟩:=oBq.mp e;refine ha R (b:=x.1) (S':=x.2) e1 _ λHf1 H1 Fs1 t1 R1=>?_
 split at e
 .rename_i hx;cases e;rw[hx];exact GR (q _ _ _ t1 R1)
 .rename_i hx;rw[cO]at hx;rw[hx];exact Gf (hb R1 e Q λHf2 H2 Fs2 t2 R2=>q _ _ _ (t1.trans t2) R2)
theorem xv(ha:FF K ca ma):FF K (XX ca) (yx ma):=by
 intro H₀ Hf₀ Hf S σ H Fs d S' R e Q q;obtain⟨x,e1,e⟩:=oMq.mp e;cases e;exact ha R (b:=x.1) (S':=x.2) e1 _ λHf1 H1 Fs1 t1 R1=>q _ _ _ t1 R1
end
abbrev qp:Nat:=16777216
theorem rX:jf=qp:=jq
def SQ(K:W.Frag) (te:TE) (m:ML):Prop:=∀{H₀ Hf₀ Hf:Hp}{S:AS}{σ:St}{H:Hp}{Fs:List (List Addr)}{ds:List D}{S':AS},og K H₀ Hf₀ Hf S σ H Fs->m S=some (ds,S')->∀Q:VK,
 (∀Hf' H' Fs' p vs,wW Hf H Fs Hf' H' Fs'->og K H₀ Hf₀ Hf' S' σ H' Fs'->qO K H' p vs->oq K Hf' ds vs->Q (.ref p) H')->te σ H Q
theorem SL.q{K:W.Frag}{te:TE}{m:ML}(h:SL K te m):SQ K te m:=by
 intro H₀ Hf₀ Hf S σ H Fs ds S' R e Q q;exact h R e Q λHf' H' Fs' p vs t R' hp r=>q _ _ _ p vs t R' (qO.of hp) r
def uJ(i:Nat):ML:=λS=>match S[i]?.join with
 |some (.sh (.scr ns))=>some (ns.map .int,S)
 |some (.sh (.list ds))=>some (ds,S)
 |some (.ow avs)=>some (avs.map ny,S.set i (some (.ow ((avs.map ny).map .sh))))
 |_=>none
theorem rR{K:W.Frag}{H:Hp}:∀ns:List Int,oq K H (ns.map .int) (ns.map V.int)
 | []=>.nil
 |n::ns=>.cons .int (rR ns)
theorem rG{K:W.Frag}(i:Nat):SQ K (uI i) (uJ i):=by
 intro H₀ Hf₀ Hf S σ H Fs ds S' R e Q q;unfold uJ at e;split at e
 .rename_i ns ea;cases e;obtain⟨v,F,s1,s2,r⟩:=R.rep i _ (ou ea);cases r.sh_inv.2 with
  |scr h=>exact⟨_,s1,q _ _ _ _ _ .refl R (R.sub.seq h) (rR ns)⟩
 .rename_i ds' ea;cases e;refine EM i R (ds:=ds) (S':=S) ?_ Q λHf' H' Fs' p vs t R' hp r=>q _ _ _ p vs t R' (qO.of hp) r
  unfold G9;rw[ea]
 .rename_i avs ea;refine EM i R (ds:=ds) (S':=S') ?_ Q λHf' H' Fs' p vs t R' hp r=>q _ _ _ p vs t R' (qO.of hp) r
  unfold G9;rw[ea];exact e
 .cases e
section
variable {K:W.Frag}{H₀ Hf₀ Hf Hf' H H':Hp}{S S':AS}{σ:St}{Fs Fs':List (List Addr)}
theorem nU.stp{as:List AV}{vs:List V}{Gs:List (List Addr)}(r:nU K Hf H as vs Gs) (ho:∀q∈Gs.flatten,q∉Fs.flatten) (t:wW Hf H Fs Hf' H' Fs'):nU K Hf' H' as vs Gs :=
 ⟨r.1,r.2.1,λi a v F h1 h2 h3=>(r.2.2 i a v F h1 h2 h3).stp (λq hq=>ho q (mFq.mpr ⟨F,mGq h3,hq⟩)) t⟩
theorem og.layF(R:og K H₀ Hf₀ Hf S σ H Fs) {p:Addr}{o:HO}(hp:H p=none):wW Hf H Fs (oB Hf p o) (oB H p o) Fs/\og K H₀ Hf₀ (oB Hf p o) S σ (oB H p o) Fs:=by
 have hf:Hf p=none:=R.sub.free hp;refine⟨⟨pV hf,pV hp,λ_ h=>h,λb h g=>?_⟩,R.more (pV hp) (pV hf) (λb u e=>?_) (λq hq=>?_) λb h1 h2=>?_⟩
 .by_cases m:b=p
  .subst m;exact .inl hp
  .rw [ni m]at g;exact absurd h g
 .by_cases m:b=p
  .subst m;rw[nB]at e ⊢;exact e
  .rw [ni m]at e ⊢;exact R.sub b u e
 .rw [ni λe=>(R.mem hq).1 (by rw[e];exact hp)]
  exact(R.mem hq).2
 .rw [ni λe=>h2 (by rw[e];exact R.fr.free hp)]
  exact R.lim b h1 h2
end
def oM:MA:=λS=>some ([],S)
def nH(k:MK) (r:MA):MA:=λS=>(k S).bind λx=>(r x.2).map λy=>(x.1::y.1,y.2)
def nI:ML:=λS=>some ([],S)
def nh(k:ME) (r:ML):ML:=λS=>(k S).bind λx=>(r x.2).map λy=>(x.1::y.1,y.2)
section
variable {K:W.Frag}{te ta tb:TE}{tr:TA}
theorem nK:SA K uZ oM:=by
 intro H₀ Hf₀ Hf S σ H Fs as S' R e Q q;cases e;exact q _ _ _ [] [] .refl R .nil .nil
theorem nu{k:MK}{r:MA}(hk:SK K te k) (hr:SA K tr r):SA K (ri te tr) (nH k r):=by
 intro H₀ Hf₀ Hf S σ H Fs as S' R e Q q;obtain⟨x,e1,e⟩:=oBq.mp e;obtain⟨y,e2,e⟩:=oMq.mp e;cases e;refine hk R (a:=x.1) (S':=x.2) e1 _ λHf1 H1 Fs1 v F t1 R1 r1 o1=>hr R1 (as:=y.1) (S':=y.2) e2 _ λHf2 H2 Fs2 vs Gs t2 R2 r2 o2=>?_
 refine q _ _ _ (v::vs) (F::Gs) (t1.trans t2) R2 (.cons (r1.stp o1.out t2) r2) ?_;rw[fCq];exact(o1.stp t2).app (o2.back t1) (o1.apart (Hf1:=Hf1) (λq hq=>(r1.owned q hq).1) o2)
theorem nz:QD K uZ nI:=by
 intro H₀ Hf₀ Hf S σ H Fs as S' R e Q q;cases e;exact q _ _ _ [] .refl R .nil
theorem nc{k:ME}{r:ML}(hk:SR K te k) (hr:QD K tr r):QD K (ri te tr) (nh k r):=by
 intro H₀ Hf₀ Hf S σ H Fs as S' R e Q q;obtain⟨x,e1,e⟩:=oBq.mp e;obtain⟨y,e2,e⟩:=oMq.mp e;cases e;refine hk R (d:=x.1) (S':=x.2) e1 _ λHf1 H1 Fs1 v t1 R1 r1=>hr R1 (ds:=y.1) (S':=y.2) e2 _ λHf2 H2 Fs2 vs t2 R2 r2=>?_
 exact q _ _ _ (v::vs) (t1.trans t2) R2 (.cons (r1.mono t2.sh) r2)
end
def tH(a:MA):MK:=λS=>(a S).bind λx=>tM (x.1.length<=qp) (some (.ow x.1,x.2))
def QS(a:MA):MK:=λS=>(a S).bind λx=>tM (x.1.length<=qp) (some (.sh (.tup (x.1.map ny)),x.2))
section
variable {K:W.Frag}{ta:TA}{a:MA}
theorem pY(ha:SA K ta a):SK K (Ww ta) (tH a):=by
 intro H₀ Hf₀ Hf S σ H Fs av S' R e Q q;obtain⟨x,e1,e⟩:=oBq.mp e;rcases nT e with ⟨hl,e⟩|e
 .skip
  cases e;refine ha R (as:=x.1) (S':=x.2) e1 _ λHf1 H1 Fs1 vs Gs t1 R1 r1 o1=>⟨by rw[rX,←r1.1];exact hl,λp hp=>?_⟩
  obtain⟨t2,R2,n1,n2,n3⟩:=R1.new (o:=.lst vs) hp;refine q _ _ _ (.ref p) (p::Gs.flatten) (t1.trans t2) R2 (nV.news nB n1 (r1.stp o1.out t2)) ?_;have o2:=(wV.one R1 hp).back t1;refine(show wV _ _ _ _ ([p]++Gs.flatten) from o2.app o1 λq hq m=>?_)
  rw[mSq.mp hq]at m;exact(r1.owned p m).1 hp
 .cases e
theorem Ol(ha:SA K ta a):SK K (VP ta) (QS a):=by
 intro H₀ Hf₀ Hf S σ H Fs av S' R e Q q;obtain⟨x,e1,e⟩:=oBq.mp e;rcases nT e with ⟨hl,e⟩|e
 .skip
  cases e;refine ha R (as:=x.1) (S':=x.2) e1 _ λHf1 H1 Fs1 vs Gs t1 R1 r1 o1=>⟨by rw[rX,←r1.1];exact hl,λp hp=>?_⟩
  obtain⟨R2,r2,t2⟩:=R1.gives t1 r1 o1;obtain⟨t3,R3⟩:=R2.layF (o:=.tup vs) hp;exact q _ _ _ (.ref p) [] (t2.trans t3) R3 (.sh (.mk_tup nB (r2.mono t3.sf))) .nil
 .cases e
end
def Pt(a b:ML):MK:=λS=>(a S).bind λx=>(b x.2).bind λy=>tM (x.1.length+y.1.length<=qp) (some (.ow ((x.1++y.1).map .sh),y.2))
section
variable {K:W.Frag}{ta tb:TE}{a b:ML}
theorem HP(ha:SL K ta a) (hb:SL K tb b):SK K (QF W0 ta tb) (Pt a b):=by
 intro H₀ Hf₀ Hf S σ H Fs av S' R e Q q;obtain⟨x,e1,e⟩:=oBq.mp e;obtain⟨y,e2,e⟩:=oBq.mp e;rcases nT e with ⟨hl,e⟩|e
 .skip
  cases e;refine ha R (ds:=x.1) (S':=x.2) e1 _ λHf1 H1 Fs1 p1 vs1 t1 R1 h1 r1=>hb R1 (ds:=y.1) (S':=y.2) e2 _ λHf2 H2 Fs2 p2 vs2 t2 R2 h2 r2=>?_
  refine⟨p1,p2,vs1,vs2,rfl,rfl,t2.sh _ _ h1,h2,by rw[rX,←r1.1,←r2.1];exact hl,λp hp=>?_⟩
  obtain⟨t3,R3,n1,n2,n3⟩:=R2.new (o:=.lst (vs1++vs2)) hp;exact q _ _ _ (.ref p) [p] ((t1.trans t2).trans t3) R3 (nV.new nB n1 ((r1.mono t2.sf).append r2)) ((wV.one R2 hp).back (t1.trans t2))
 .cases e
end
abbrev MO:=AS->Option (Option Int×AS)
def SO(K:W.Frag) (to:TO) (m:MO):Prop:=∀{H₀ Hf₀ Hf:Hp}{S:AS}{σ:St}{H:Hp}{Fs:List (List Addr)}{o:Option Int}{S':AS},og K H₀ Hf₀ Hf S σ H Fs->m S=some (o,S')->∀Q:Option Int->Hp->Prop,
 (∀Hf' H' Fs',wW Hf H Fs Hf' H' Fs'->og K H₀ Hf₀ Hf' S' σ H' Fs'->Q o H')->to σ H Q
def C3:MO:=λS=>some (none,S)
def zR(m:ME):MO:=λS=>(m S).bind λx=>match x.1 with
 | .int i=>some (some i,x.2)
 |_=>none
def yP{α:Type}(xs:List α) (lo hi:Option Int):List α:=(xs.drop (HT.DV xs.length 0 lo)).take (HT.DV xs.length xs.length hi-HT.DV xs.length 0 lo)
def Tt(l:ML) (lo hi:MO):MK:=λS=>(l S).bind λx=>(lo x.2).bind λy=>(hi y.2).map λz=>(.ow ((yP x.1 y.1 z.1).map .sh),z.2)
section
variable {K:W.Frag}{te:TE}{tl th:TO}{l:ML}{lo hi:MO}{m:ME}
theorem zf:SO K Kv C3:=by
 intro H₀ Hf₀ Hf S σ H Fs o S' R e Q q;cases e;exact q _ _ _ .refl R
theorem vX(h:SR K te m):SO K (Tw te) (zR m):=by
 intro H₀ Hf₀ Hf S σ H Fs o S' R e Q q;obtain⟨x,e1,e⟩:=oBq.mp e;refine h R (d:=x.1) (S':=x.2) e1 _ λHf1 H1 Fs1 v t1 R1 r1=>?_
 split at e
 .rename_i i hx;rw[hx]at r1;cases r1;cases e;exact⟨i,rfl,q _ _ _ t1 R1⟩
 .cases e
theorem oq.cut{H:Hp}{ds:List D}{vs:List V}(r:oq K H ds vs) (lo hi:Option Int):oq K H (yP ds lo hi) (Jo vs lo hi):=by
 unfold yP Jo;rw[r.1];exact(r.drop _).take _
theorem DU(hl:SQ K te l) (hlo:SO K tl lo) (hhi:SO K th hi):SK K (ZO (Xi K) te tl th) (Tt l lo hi):=by
 intro H₀ Hf₀ Hf S σ H Fs av S' R e Q q;obtain⟨x,e1,e⟩:=oBq.mp e;obtain⟨y,e2,e⟩:=oBq.mp e;obtain⟨z,e3,e⟩:=oMq.mp e;cases e;refine hl R (ds:=x.1) (S':=x.2) e1 _ λHf1 H1 Fs1 p1 vs1 t1 R1 h1 r1=>hlo R1 (o:=y.1) (S':=y.2) e2 _ λHf2 H2 Fs2 t2 R2=>hhi R2 (o:=z.1) (S':=z.2) e3 _ λHf3 H3 Fs3 t3 R3=>?_
 refine⟨p1,vs1,rfl,(t2.sh.trans t3.sh).seq h1,λp hp=>?_⟩
 obtain⟨t4,R4,n1,n2,n3⟩:=R3.new (o:=.lst (Jo vs1 y.1 z.1)) hp;exact q _ _ _ (.ref p) [p] (((t1.trans t2).trans t3).trans t4) R4 (nV.new nB n1 ((r1.mono (t2.sf.trans t3.sf)).cut _ _)) ((wV.one R3 hp).back ((t1.trans t2).trans t3))
end
def FP:D->D->Option D
 | .list ds,.int i=>atI ds i
 | .scr ns,.int i=>(atI ns i).map .int
 |_,_=>none
def Ab:D->D->Option D
 | .tup ds,.int i=>atI ds i
 |_,_=>none
def OW(l:ML) (b:ME):MK:=λS=>(l S).bind λx=>(b x.2).bind λy=>match y.1 with
 | .int i=>(atI x.1 i).map λd=>(.sh d,y.2)
 |_=>none
section
variable {K:W.Frag}{ta tb:TE}
theorem oq.atI{H:Hp}{ds:List D}{vs:List V}{i:Int}{d:D}(r:oq K H ds vs) (h:L2.atI ds i=some d):∃v,L2.atI vs i=some v/\pP K H d v:=by
 unfold L2.atI at h ⊢;rw[r.1]at h;obtain⟨j,h1,h2⟩:=oBq.mp h;rw[h1];exact r.get h2
theorem yu:FC K (RZ K) FP:=by
 intro x y H Q dx dy d rx ry e q;unfold FP at e;split at e
 .rename_i ds i;cases ry;obtain⟨p,vs,rfl,h,r⟩:=rx.list_inv;obtain⟨l,e'⟩:=r;obtain⟨v,h1,h2⟩:=oq.atI (K:=K) (H:=H) (ds:=ds) (vs:=vs) ⟨l,e'⟩ e;exact⟨p,vs,i,v,rfl,rfl,qO.of h,h1,q v h2⟩
 .rename_i ns i;cases ry;cases rx;rename_i p h;obtain⟨n,h1,h2⟩:=oMq.mp e;subst h2;obtain⟨v,h3,h4⟩:=oq.atI (K:=K) (H:=H) (rR ns) (i:=i) (d:=.int n) (by
   unfold L2.atI at h1 ⊢;rw[lMq];obtain⟨j,g1,g2⟩:=oBq.mp h1;rw[g1];show (ns.map D.int)[j]?=_;rw[gMq,g2];rfl)
  exact⟨p,_,i,v,rfl,rfl,h,h3,q v h4⟩
 .cases e
theorem wZ:FC K (WS K) Ab:=by
 intro x y H Q dx dy d rx ry e q;unfold Ab at e;split at e
 .rename_i ds i;cases ry;obtain⟨p,vs,rfl,h,r⟩:=rx.tup_inv;obtain⟨v,h1,h2⟩:=oq.atI (K:=K) (H:=H) (ds:=ds) (vs:=vs) r e;exact⟨p,vs,i,v,rfl,rfl,FS.of h,h1,q v h2⟩
 .cases e
theorem Cv{l:ML}{b:ME}(hl:SQ K ta l) (hb:SR K tb b):SK K (QF (RZ K) ta tb) (OW l b):=by
 intro H₀ Hf₀ Hf S σ H Fs av S' R e Q q;obtain⟨x,e1,e⟩:=oBq.mp e;obtain⟨y,e2,e⟩:=oBq.mp e;refine hl R (ds:=x.1) (S':=x.2) e1 _ λHf1 H1 Fs1 p1 vs1 t1 R1 h1 r1=>hb R1 (d:=y.1) (S':=y.2) e2 _ λHf2 H2 Fs2 v2 t2 R2 r2=>?_
 split at e
 .rename_i i hy;rw[hy]at r2;cases r2;obtain⟨d,e3,e⟩:=oMq.mp e;cases e;obtain⟨v,g1,g2⟩:=(r1.mono t2.sf).atI e3;exact⟨p1,vs1,i,v,rfl,rfl,t2.sh.seq h1,g1,q _ _ _ v [] (t1.trans t2) R2 (.sh g2) .nil⟩
 .cases e
end
def Sf(K:W.Frag) (r:List V->Hp->VK->Prop) (f:List D->Option D):Prop:=∀{vs:List V}{H:Hp}{Q:VK}{ds:List D}{d:D},oq K H ds vs->f ds=some d->(∀v,pP K H d v->Q v H)->r vs H Q
def tO(f:List D->Option D) (a:ML):ME:=λS=>(a S).bind λx=>(f x.1).map λd=>(d,x.2)
theorem pJ{K:W.Frag}{r:List V->Hp->VK->Prop}{f:List D->Option D}{ta:TA}{a:ML}(hr:Sf K r f) (ha:QD K ta a):SR K (QC r ta) (tO f a):=by
 intro H₀ Hf₀ Hf S σ H Fs d S' R e Q q;obtain⟨x,e1,e⟩:=oBq.mp e;obtain⟨z,e3,e⟩:=oMq.mp e;cases e;exact ha R (ds:=x.1) (S':=x.2) e1 _ λHf1 H1 Fs1 vs t1 R1 r1=>hr r1 e3 λv rv=>q _ _ _ v t1 R1 rv
def qu:List D->Option D
 | [.list ds]=>some (.int ds.length)
 | [.tup ds]=>some (.int ds.length)
 | [.scr ns]=>some (.int ns.length)
 | [.str x]=>tM (x.length<=qp) (some (.int x.length))
 |_=>none
def CO:List D->Option D
 | [.dict ds]=>some (.int ds.length)
 |_=>none
def Z4:List D->Option D
 | [.int i]=>some (.int (if i<0 then -i else i))
 |_=>none
def Zs:List D->Option D
 | [.int i,.int j]=>some (.int (if j>i then j else i))
 |_=>none
def Zy:List D->Option D
 | [.int i,.int j]=>some (.int (if j<i then j else i))
 |_=>none
def ZH:List D->Option D
 | [.int i]=>some (.int i)
 | [.bl k]=>some (.int (if k then 1 else 0))
 |_=>none
def W6:D->String->Option D
 | .int _,T=>if T = "int" then some (.bl true) else if T = "bool" then some (.bl false) else none
 | .bl _,T=>if T = "bool" ∨ T = "int" then some (.bl true) else none
 | .str _,T=>if T = "str" then some (.bl true) else none
 | .list _,T=>if T = "list" then some (.bl true) else none
 | .tup _,T=>if T = "tuple" then some (.bl true) else none
 | .dict _,T=>if T = "dict" then some (.bl true) else none
 |_,_=>none
def yM:List D->Option D
 | [x,.ty T]=>W6 x T
 |_=>none
def qi:List D->Option (List Int)
 | []=>some []
 | .int i::ds=>(qi ds).map (i :: ·)
 |_=>none
theorem ud:∀{ds:List D}{ns:List Int},qi ds=some ns->ds=ns.map .int
 | [],ns,h=>by cases h;rfl
 |d::ds,ns,h=>by
  cases d with
  |int i =>
   obtain⟨ms,h1,h2⟩:=oMq.mp (show (qi ds).map (i :: ·)=some ns from h)
   subst h2;rw[ud h1];rfl
  |_=>cases h
@[simp] theorem rH (ns:List Int):qi (ns.map .int)=some ns:=by
 induction ns with
 |nil=>rfl
 |cons n ns ih=>show (qi (ns.map .int)).map (n :: ·)=_;rw[ih];rfl
theorem qP{K:W.Frag}{H:Hp}:∀{ns:List Int}{vs:List V},oq K H (ns.map .int) vs->vs=ns.map V.int
 | [],vs,h=>h.nil_inv
 |n::ns,vs,h=>by
  obtain⟨v,ws,rfl,h1,h2⟩:=oq.cons_inv (d:=.int n) (ds:=ns.map .int) h;cases h1;rw[qP h2];rfl
def zM:List Int->Option Int
 | []=>none
 |n::ns=>some (ns.foldl min n)
theorem qN:∀(ns:List Int) (n:Int),ns.foldl min n∈n::ns
 | [],n=>by simp
 |m::ns,n=>by
  have h:=qN ns (min n m);rw[bV];rcases ao.mp h with e|e
  .rw [e]
   by_cases c:n<=m
   .rw [Int.min_eq_left c];simp
   .rw [Int.min_eq_right (by lia)];simp
  .exact mCo _ (mCo _ e)
theorem qD:∀(ns:List Int) (n:Int),(ns.foldl min n<=n)/\∀x∈ns,ns.foldl min n<=x
 | [],n=>⟨gE _,λx h=>by cases h⟩
 |m::ns,n=>by
  obtain⟨h1,h2⟩:=qD ns (min n m);rw[bV];refine⟨by lia,λx hx=>?_⟩
  rcases ao.mp hx with e|e
  .subst e;lia
  .exact h2 x e
def Se:List D->Option D
 | [.list ds]=>(qi ds).bind λns=>(zM ns).map .int
 |_=>none
section
variable {K:W.Frag}
theorem qt:Sf K (λxs H Q=>∃x n,xs=[x]/\Wf K x H n/\Q (.int n) H) qu:=by
 intro vs H Q ds d r e q;unfold qu at e;split at e
 .obtain ⟨v,ws,rfl,h1,h2⟩:=r.cons_inv;rw[h2.nil_inv];obtain⟨p,us,rfl,h3,h4⟩:=h1.list_inv;cases e;exact⟨_,_,rfl,.inl ⟨us,qO.of h3,h4.1⟩,q _ .int⟩
 .obtain ⟨v,ws,rfl,h1,h2⟩:=r.cons_inv;rw[h2.nil_inv];obtain⟨p,us,rfl,h3,h4⟩:=h1.tup_inv;cases e;exact⟨_,_,rfl,.inr ⟨us,FS.of h3,h4.1⟩,q _ .int⟩
 .obtain ⟨v,ws,rfl,h1,h2⟩:=r.cons_inv;rw[h2.nil_inv];cases e;cases h1 with
  |scr h=>exact⟨_,_,rfl,.inl ⟨_,h,(lMq _).symm⟩,q _ .int⟩
 .rcases nT e with ⟨hl,e⟩|e
  .skip
   obtain⟨v,ws,rfl,h1,h2⟩:=r.cons_inv;rw[h2.nil_inv];cases e;cases h1;exact⟨_,_,rfl,⟨by rw[rX];exact hl,rfl⟩,q _ .int⟩
  .cases e
 .cases e
theorem JK:Sf K (λxs H Q=>∃a kvs,xs=[V.ref a]/\H a=some (.dK kvs)/\Q (.int kvs.length) H) CO:=by
 intro vs H Q ds d r e q;unfold CO at e;split at e
 .obtain ⟨v,ws,rfl,h1,h2⟩:=r.cons_inv;rw[h2.nil_inv];obtain⟨p,us,rfl,h3,h4⟩:=h1.dict_inv;cases e;have hl:=congrArg bb h4.1;rw[lMq,lMq]at hl;rw[hl]at q;exact⟨_,_,rfl,h3,q _ .int⟩
 .cases e
theorem UU:Sf K (λxs H Q=>∃(a:Addr) (ns:List Int),xs=[.ref a]/\qO K H a (ns.map V.int)/\0<ns.length/\∀M,M∈ns->(∀x,x∈ns->M<=x)->Q (.int M) H) Se:=by
 intro vs H Q ds d r e q;unfold Se at e;split at e
 .obtain ⟨v,ws,rfl,h1,h2⟩:=r.cons_inv;rw[h2.nil_inv];obtain⟨ns,e1,e⟩:=oBq.mp e;obtain⟨m,e2,e⟩:=oMq.mp e;cases e;rw[ud e1]at h1;obtain⟨p,us,rfl,h3,h4⟩:=h1.list_inv;rw[qP h4]at h3;cases ns with
  |nil=>cases e2
  |cons n ns =>
   cases e2;refine⟨p,_,rfl,qO.of h3,by simp,λM hM hm=>?_⟩
   have e3:M=ns.foldl min n:=by
    have a1:=hm _ (qN ns n);have a2:=qD ns n;have a3:ns.foldl min n<=M:=by
     rcases ao.mp hM with z|z
     .subst z;exact a2.1
     .exact a2.2 M z
    lia
   rw[e3];exact q _ .int
 .cases e
theorem De:Sf K (λxs H Q=>∃x T b,xs=[x,.ty T]/\Wv K x H T b/\Q (.bl b) H) yM:=by
 intro vs H Q ds d r e q;unfold yM at e;split at e
 rotate_left
 .cases e
 rename_i x T;obtain⟨v,ws,rfl,h1,h2⟩:=r.cons_inv;obtain⟨u,zs,rfl,h3,h4⟩:=h2.cons_inv;rw[h4.nil_inv];cases h3;unfold W6 at e;cases x <;> first|(cases e;done)|dsimp only at e
 case int =>
  cases h1;split at e
  .rename_i hT;cases e;exact⟨_,_,_,rfl,.inl ⟨hT,rfl⟩,q _ .bl⟩
  .split at e
   .rename_i hT;cases e;exact⟨_,_,_,rfl,.inr ⟨hT,rfl⟩,q _ .bl⟩
   .cases e
 case bl =>
  cases h1;split at e
  .rename_i hT;cases e;rcases hT with hT|hT
   .exact ⟨_,_,_,rfl,.inl ⟨hT,rfl⟩,q _ .bl⟩
   .exact ⟨_,_,_,rfl,.inr ⟨hT,rfl⟩,q _ .bl⟩
  .cases e
 case str =>
  cases h1;split at e
  .rename_i hT;cases e;exact⟨_,_,_,rfl,⟨hT,rfl⟩,q _ .bl⟩
  .cases e
 case list =>
  obtain⟨p,us,rfl,g3,g4⟩:=h1.list_inv;split at e
  .rename_i hT;cases e;exact⟨_,_,_,rfl,.inl ⟨hT,rfl,us,qO.of g3⟩,q _ .bl⟩
  .cases e
 case tup =>
  obtain⟨p,us,rfl,g3,g4⟩:=h1.tup_inv;split at e
  .rename_i hT;cases e;exact⟨_,_,_,rfl,.inr (.inr ⟨hT,rfl,us,FS.of g3⟩),q _ .bl⟩
  .cases e
 case dict =>
  obtain⟨p,us,rfl,g3,g4⟩:=h1.dict_inv;split at e
  .rename_i hT;cases e;exact⟨_,_,_,rfl,.inr (.inl ⟨hT,rfl,us,g3⟩),q _ .bl⟩
  .cases e
end
abbrev MF:=List D->Option AV
def pE(K:W.Frag) (f:MF):Sp:=λvs H Q _=>∃(Hf:Hp) (ds:List D) (a:AV),nS Hf H/\oq K Hf ds vs/\f ds=some a /\
 ∀Hf' H' v F,nS Hf Hf'->nS H H'->nS Hf' H'->(∀b,Hf b=none->H b≠none->Hf' b=none)->nV K Hf' H' a v F->F.Nodup->(∀q∈F,H q=none)->Q v H'
def qo(f:MF) (a:MA):MK:=λS=>(a S).bind λx=>(f (x.1.map ny)).map λr=>(r,x.2)
theorem oW{K:W.Frag}{f:MF}{ta:TA}{a:MA}(ha:SA K ta a):SK K (yy (pE K f) [] E0 ta) (qo f a):=by
 intro H₀ Hf₀ Hf S σ H Fs av S' R e Q q;obtain⟨x,e1,e⟩:=oBq.mp e;obtain⟨z,e3,e⟩:=oMq.mp e;cases e;refine ha R (as:=x.1) (S':=x.2) e1 _ λHf1 H1 Fs1 vs Gs t1 R1 r1 o1=>?_
 obtain⟨R2,r2,t2⟩:=R1.gives t1 r1 o1;rw[aNq];refine⟨_,_,av,R2.sub,r2,e3,λHf' H' v F s1 s2 s3 l r nd fr=>?_⟩
 have t3:wW (Z.frz Hf1 H1 Gs.flatten) H1 Fs1 Hf' H' Fs1:=⟨s1,s2,λ_ h=>h,λb h g=>.inl (by
  by_cases e:H1 b=none
  .exact e
  .exact absurd (l b h e) g)⟩
 have hn:∀q∈Fs1.flatten,Hf' q=none:=λq hq=>l q (R2.mem hq).2 (R2.mem hq).1
 have R3:og K H₀ Hf₀ Hf' x.2 σ H' Fs1:=R2.more s2 s1 s3 hn λb h1 h2=>l b (R2.lim b h1 h2) (JT R2.fr h2)
 refine q _ _ _ v F (t2.trans t3) R3 r ⟨nd,λq hq=>R2.fr.free (fr q hq),λq hq m=>(R2.mem m).1 (fr q hq),λq hq=>.inl (t1.sh.free (fr q hq))⟩
inductive DS where
 |nx (S:AS)|rt (a:AV)|bk (S:AS)|ct (S:AS)
abbrev MS:=AS->Option DS
def zQ(K:W.Frag) (H₀ Hf₀ Hf:Hp) (D:tV):DS->Prop
 | .nx S=>∀Hf' σ' H' Fs',nS Hf Hf'->og K H₀ Hf₀ Hf' S σ' H' Fs'->D.nx σ' H'
 | .bk S=>∀Hf' σ' H' Fs',nS Hf Hf'->og K H₀ Hf₀ Hf' S σ' H' Fs'->D.bk σ' H'
 | .ct S=>∀Hf' σ' H' Fs',nS Hf Hf'->og K H₀ Hf₀ Hf' S σ' H' Fs'->D.ct σ' H'
 | .rt a=>∀Hf' H' v F,nS Hf₀ Hf'->nS H₀ H'->nS Hf' H'->(∀b,Hf₀ b=none->H₀ b≠none->Hf' b=none)->nV K Hf' H' a v F->F.Nodup->(∀q∈F,H₀ q=none)->D.rt v H'
def SS(K:W.Frag) (t:TS) (m:MS):Prop:=∀{H₀ Hf₀ Hf:Hp}{S:AS}{σ:St}{H:Hp}{Fs:List (List Addr)}{o:DS},og K H₀ Hf₀ Hf S σ H Fs->m S=some o->∀D:tV,zQ K H₀ Hf₀ Hf D o->t D σ H
theorem zQ.mono{K:W.Frag}{H₀ Hf₀ Hf Hf':Hp}{D:tV}{o:DS}(s:nS Hf Hf') (h:zQ K H₀ Hf₀ Hf D o):zQ K H₀ Hf₀ Hf' D o:=by
 cases o with
 |nx S=>exact λHf2 σ' H' Fs' s2 R=>h Hf2 σ' H' Fs' (s.trans s2) R
 |bk S=>exact λHf2 σ' H' Fs' s2 R=>h Hf2 σ' H' Fs' (s.trans s2) R
 |ct S=>exact λHf2 σ' H' Fs' s2 R=>h Hf2 σ' H' Fs' (s.trans s2) R
 |rt a=>exact h
def qC:MS:=λS=>some (.nx S)
def YR:MS:=λS=>some (.bk S)
def Z3:MS:=λS=>some (.ct S)
def YV:MS:=λ_=>none
def nY(a b:MS):MS:=λS=>(a S).bind λo=>match o with
 | .nx S'=>b S'
 |o=>some o
def pI(i:Nat) (k:MK):MS:=λS=>(k S).map λx=>.nx (x.2.set i (some x.1))
def Zw(k:MK):MS:=λS=>(k S).map λx=>.nx x.2
def qR(k:MK):MS:=λS=>(k S).map λx=>.rt x.1
def Be(c:MT) (a b:MS):MS:=λS=>(c S).bind λx=>if x.1=true then a x.2 else b x.2
section
variable {K:W.Frag}{t u:TS}{a b:MS}{te:TE}{k:MK}
theorem pL:SS K TX qC:=by
 intro H₀ Hf₀ Hf S σ H Fs o R e D h;cases e;exact h _ _ _ _ (.refl _) R
theorem nv(ha:SS K t a) (hb:SS K u b):SS K (Js t u) (nY a b):=by
 intro H₀ Hf₀ Hf S σ H Fs o R e D h;obtain⟨x,e1,e⟩:=oBq.mp e;refine ha R e1 _ ?_;cases x with
 |nx S'=>exact λHf' σ' H' Fs' s R'=>hb R' e D (h.mono s)
 |rt a=>cases e;exact h
 |bk a=>cases e;exact h
 |ct a=>cases e;exact h
theorem nR{i:Nat}(hk:SK K te k):SS K (Gn te (rh i)) (pI i k):=by
 intro H₀ Hf₀ Hf S σ H Fs o R e D h;obtain⟨x,e1,e⟩:=oMq.mp e;cases e;refine hk R (a:=x.1) (S':=x.2) e1 _ λHf1 H1 Fs1 v F t1 R1 r1 o1=>?_
 exact h _ _ _ _ t1.sf (R1.set i r1 o1.nd λq hq=>⟨o1.fr q hq,o1.out q hq⟩)
theorem oi(hk:SK K te k):SS K (VR te) (qR k):=by
 intro H₀ Hf₀ Hf S σ H Fs o R e D h;obtain⟨x,e1,e⟩:=oMq.mp e;cases e;exact hk R (a:=x.1) (S':=x.2) e1 _ λHf1 H1 Fs1 v F t1 R1 r1 o1=>h _ _ v F R1.sf R1.fr R1.sub R1.lim r1 o1.nd o1.fr
theorem se{c:TT}{m:MT}(hc:FF K c m) (ha:SS K t a) (hb:SS K u b):SS K (P1 c t u) (Be m a b):=by
 intro H₀ Hf₀ Hf S σ H Fs o R e D h;obtain⟨x,e1,e⟩:=oBq.mp e;refine hc R (b:=x.1) (S':=x.2) e1 _ λHf1 H1 Fs1 t1 R1=>?_
 split at e
 .rename_i hx;rw[hx];exact GR (ha R1 e D (h.mono t1.sf))
 .rename_i hx;rw[cO]at hx;rw[hx];exact Gf (hb R1 e D (h.mono t1.sf))
end
def pS(S:AS) (i:Nat):Option (List AV):=match S[i]?.join with
 |some (.ow avs)=>some avs
 |_=>none
def uM(S:AS) (i:Nat):Option (List (nO×D)):=match S[i]?.join with
 |some (.owd kvs)=>some kvs
 |_=>none
def Aw(i:Nat) (k:MK):MS:=λS=>(pS S i).bind λ_=>(k S).bind λx=>(pS x.2 i).bind λavs =>
 tM (avs.length<qp) (some (.nx (x.2.set i (some (.ow (avs++[x.1]))))))
def P7(i:Nat) (l:ML):MS:=λS=>(pS S i).bind λ_=>(l S).bind λx=>(pS x.2 i).bind λavs =>
 tM (avs.length+x.1.length<=qp) (some (.nx (x.2.set i (some (.ow (avs++x.1.map .sh))))))
def intOf:D->Option Int
 | .int i=>some i
 |_=>none
def aal(i:Nat) (b:ME) (k:MK):MS:=λS=>(uK k S).bind λx=>(pS x.2 i).bind λ_=>(b x.2).bind λy=>(pS y.2 i).bind λavs=>(intOf y.1).bind λj=>(FQ avs.length j).map λn =>
 .nx (y.2.set i (some (.ow (((avs.map ny).set n (ny x.1)).map .sh))))
def tQ:D->Option nO
 | .int i=>some (.inl i)
 | .str x=>some (.inr x)
 |_=>none
def vh(kvs:List (nO×D)) (k:nO) (d:D):List (nO×D):=if kvs.any (λkv=>decide (kv.1=k)) then kvs.map (λkv=>if kv.1=k then (kv.1,d) else kv) else kvs++[(k,d)]
def getD(kvs:List (nO×D)) (k:nO):Option D:=(kvs.find? λkv=>decide (kv.1=k)).map (·.2)
def zI(i:Nat) (b:ME) (k:MK):MS:=λS=>(uK k S).bind λx=>(uM x.2 i).bind λ_=>(b x.2).bind λy=>(uM y.2 i).bind λkvs=>(tQ y.1).bind λkey =>
 tM (kvs.length<qp) (some (.nx (y.2.set i (some (.owd (vh kvs key (ny x.1)))))))
section
variable {K:W.Frag}{H₀ Hf₀ Hf H:Hp}{S:AS}{σ:St}{Fs:List (List Addr)}
theorem og.turn(R:og K H₀ Hf₀ Hf S σ H Fs) {i:Nat}{av:AV}{p:Addr}{o:HO}{F F':List Addr}(s1:σ[i]?=some (some (.ref p))) (s2:Fs[i]?=some F) (hp:p∈F) (r:nV K Hf (oB H p o) av (.ref p) F') (nd:F'.Nodup)
  (hf:∀q∈F',H₀ q=none/\q∉(Fs.set i []).flatten):og K H₀ Hf₀ Hf (S.set i (some av)) σ (oB H p o) (Fs.set i F'):=by
 have hin:p∈Fs.flatten:=mFq.mpr ⟨F,mGq s2,hp⟩;have pn:Hf p=none:=(R.mem hin).2;have p0:H₀ p=none:=R.fresh p hin;have out:=sH R.nd s2 hp;have R1:og K H₀ Hf₀ Hf (S.set i none) σ (oB H p o) (Fs.set i []):=by
  refine⟨by simp[R.len],by simp[R.lenF],λj a ej=>?_,λj ej=>?_,pU i R.nd aT (λp hp=>by cases hp),λp hp=>R.fresh p (pd hp),λb u e=>?_,λb u e=>?_,R.lim,R.sf⟩
  .rw [bh]at ej
   by_cases hij:i=j
   .subst hij;rw[nP rfl]at ej;split at ej <;> cases ej
   .rw [nQ hij]at ej;obtain⟨w,G,f1,f2,q⟩:=R.rep j a ej;refine⟨w,G,f1,by rw[ar hij];exact f2,q.keep (.refl _) (λc hc=>ni λe=>out ?_) λc hc=>(q.owned c hc).2⟩
    subst e;exact mFq.mpr ⟨G,mGq (i:=j) (by rw[ar hij];exact f2),hc⟩
  .rw [bh]at ej
   by_cases hij:i=j
   .subst hij;rw[nP rfl]at ej;split at ej
    .rename_i hi;rw[aG (R.lenF.symm ▸ hi)]
    .cases ej
   .rw [nQ hij]at ej;rw[ar hij];exact R.emp j ej
  .rw [ni λz=>by rw[z,pn]at e;cases e]
   exact R.sub b u e
  .rw [ni λz=>by rw[z,p0]at e;cases e]
   exact R.fr b u e
 exact R1.again (F:=F) s1 r nd hf
theorem oA{i:Nat}{F:List Addr}{q:Addr}(s2:Fs[i]?=some F) (h:q∈F):q∈Fs.flatten:=mFq.mpr ⟨F,mGq s2,h⟩
theorem nU.snoc{as:List AV}{vs:List V}{Gs:List (List Addr)}{a:AV}{v:V}{F:List Addr}(r:nU K Hf H as vs Gs) (s:nV K Hf H a v F):nU K Hf H (as++[a]) (vs++[v]) (Gs++[F]):=by
 obtain⟨h1,h2,h3⟩:=r;refine⟨by simp[h1],by simp[h2],λi b w G e1 e2 e3=>?_⟩
 by_cases hi:i<as.length
 .rw [gZq hi]at e1;rw[gZq (h1 ▸ hi)]at e2;rw[gZq (h2 ▸ hi)]at e3;exact h3 i b w G e1 e2 e3
 .have hi':i=as.length:=by
   have:=(gSq.mp e1).1;rw[lAq,lSq]at this;lia
  subst hi';rw[gYq (ai _),cf]at e1;rw[h1,gYq (ai _),cf]at e2;rw[h2,gYq (ai _),cf]at e3;cases e1;cases e2;cases e3;exact s
theorem nU.keepUpd{as:List AV}{vs:List V}{Gs:List (List Addr)}{p:Addr}{o:HO}(r:nU K Hf H as vs Gs) (hp:p∉Gs.flatten):nU K Hf (oB H p o) as vs Gs :=
 ⟨r.1,r.2.1,λi a v F h1 h2 h3=>by
  have q:=r.2.2 i a v F h1 h2 h3;refine q.keep (.refl _) (λc hc=>ni λe=>hp ?_) λc hc=>(q.owned c hc).2
  subst e;exact mFq.mpr ⟨F,mGq h3,hc⟩⟩
theorem nV.keepUpd{a:AV}{v:V}{F:List Addr}{p:Addr}{o:HO}(q:nV K Hf H a v F) (hp:p∉F):nV K Hf (oB H p o) a v F :=
 q.keep (.refl _) (λc hc=>ni λe=>hp (e ▸ hc)) λc hc=>(q.owned c hc).2
theorem KO{ds:List D}{vs:List V}(r:oq K Hf ds vs):nU K Hf H (ds.map .sh) vs (ay ds.length []) :=
 ⟨by simp[r.1],by simp,λi a v F h1 h2 h3=>by
  rw[gMq]at h1;cases q:ds[i]? with
  |none=>rw[q]at h1;cases h1
  |some d =>
   rw[q]at h1;cases h1;have:F=[]:=du (mGq h3);subst this;exact .sh (r.2 i d v q h2)⟩
theorem nU.append{as bs:List AV}{vs ws:List V}{Gs Es:List (List Addr)}(r:nU K Hf H as vs Gs) (s:nU K Hf H bs ws Es):nU K Hf H (as++bs) (vs++ws) (Gs++Es):=by
 obtain⟨h1,h2,h3⟩:=r;refine⟨by simp[h1,s.1],by simp[h2,s.2.1],λi b w G e1 e2 e3=>?_⟩
 by_cases hi:i<as.length
 .rw [gZq hi]at e1;rw[gZq (h1 ▸ hi)]at e2;rw[gZq (h2 ▸ hi)]at e3;exact h3 i b w G e1 e2 e3
 .rw [gYq (by lia)]at e1
  rw[gYq (by lia),←h1]at e2
  rw[gYq (by lia),←h2]at e3
  exact s.2.2 _ b w G e1 e2 e3
end
section
variable {K:W.Frag}{te ta tb:TE}{k:MK}{b:ME}{l:ML}
theorem nZ{S:AS}{i:Nat}{avs:List AV}(h:pS S i=some avs):S[i]?=some (some (.ow avs)):=by
 unfold pS at h;split at h
 .rename_i z e;cases h;exact ou e
 .cases h
theorem yS{S:AS}{i:Nat}{kvs:List (nO×D)}(h:uM S i=some kvs):S[i]?=some (some (.owd kvs)):=by
 unfold uM at h;split at h
 .rename_i z e;cases h;exact ou e
 .cases h
theorem og.ow{H₀ Hf₀ Hf H:Hp}{S:AS}{σ:St}{Fs:List (List Addr)}(R:og K H₀ Hf₀ Hf S σ H Fs) {i:Nat}{avs:List AV}(h:S[i]?=some (some (.ow avs))):∃p vs Gs,σ[i]?=some (some (.ref p))/\Fs[i]?=some (p::Gs.flatten)/\H p=some (.lst vs)/\Hf p=none/\nU K Hf H avs vs Gs /\
  p∉Gs.flatten/\Gs.flatten.Nodup/\∀q∈p::Gs.flatten,H₀ q=none/\q∉(Fs.set i []).flatten:=by
 obtain⟨v,F,s1,s2,r,nd,o,_⟩:=R.move h;obtain⟨p,vs,Gs,rfl,rfl,h1,h2,h3⟩:=r.ow_inv;exact⟨p,vs,Gs,s1,s2,h1,h2,h3,(aA.mp nd).1,(aA.mp nd).2,o⟩
theorem xX{i:Nat}(hk:SK K te k):SS K (xH (NU K "list" yd (uI i) (ri te uZ))) (Aw i k):=by
 intro H₀ Hf₀ Hf S σ H Fs o R e D h;obtain⟨a0,e0,e⟩:=oBq.mp e;obtain⟨x,e1,e⟩:=oBq.mp e;obtain⟨avs,e2,e⟩:=oBq.mp e;rcases nT e with ⟨hl,e⟩|e
 .skip
  cases e;obtain⟨p,vs,Gs,s1,_,h1,_⟩:=R.ow (nZ e0);refine⟨.ref p,s1,.inl ⟨rfl,vs,qO.of h1⟩,hk R (a:=x.1) (S':=x.2) e1 _ λHf1 H1 Fs1 v F t1 R1 r1 o1=>?_⟩
  obtain⟨p',vs',Gs',s1',s2',h1',h2',h3',h4',h5',h6'⟩:=R1.ow (nZ e2);rw[s1]at s1';cases s1';have pF:p∉F:=λm=>o1.out p m (oA s2' (by simp))
  refine⟨p,vs',v,rfl,rfl,h1',by rw[rX,←h3'.1];exact hl,h _ _ _ _ t1.sf (R1.turn s1 s2' (by simp) (F':=p::(Gs'++[F]).flatten) (nV.news nB h2' ((h3'.keepUpd h4').snoc (r1.keepUpd pF))) ?_ λq hq=>?_)⟩
  .rw [fAq,aZ];refine aA.mpr ⟨λm=>(mAq.mp m).elim h4' pF,nAq.mpr ⟨h5',o1.nd,λa ha b hb e=>o1.out b hb (oA s2' (mCo _ (e ▸ ha)))⟩⟩
  .rw [fAq,aZ]at hq;rcases ao.mp hq with z|z
   .exact h6' q (by rw[z];simp)
   .rcases mAq.mp z with z|z
    .exact h6' q (mCo _ z)
    .exact ⟨o1.fr q z,λm=>o1.out q z (pd m)⟩
 .cases e
theorem Ii{i:Nat}(hl:SL K te l):SS K (xH (NU K "list" FM (uI i) (ri te uZ))) (P7 i l):=by
 intro H₀ Hf₀ Hf S σ H Fs o R e D h;obtain⟨a0,e0,e⟩:=oBq.mp e;obtain⟨x,e1,e⟩:=oBq.mp e;obtain⟨avs,e2,e⟩:=oBq.mp e;rcases nT e with ⟨hle,e⟩|e
 .skip
  cases e;obtain⟨p,vs,Gs,s1,_,h1,_⟩:=R.ow (nZ e0);refine⟨.ref p,s1,.inl ⟨rfl,vs,qO.of h1⟩,hl R (ds:=x.1) (S':=x.2) e1 _ λHf1 H1 Fs1 b ws t1 R1 hb r1=>?_⟩
  obtain⟨p',vs',Gs',s1',s2',h1',h2',h3',h4',h5',h6'⟩:=R1.ow (nZ e2);rw[s1]at s1';cases s1';refine⟨p,b,vs',ws,rfl,rfl,h1',hb,by rw[rX,←h3'.1,←r1.1];exact hle,h _ _ _ _ t1.sf (R1.turn s1 s2' (by simp) (F':=p::(Gs'++ay x.1.length []).flatten) (nV.news nB h2' ((h3'.keepUpd h4').append (KO r1))) ?_ λq hq=>?_)⟩
  .rw [fAq,qM,aNq];exact aA.mpr ⟨h4',h5'⟩
  .rw [fAq,qM,aNq]at hq;exact h6' q hq
 .cases e
theorem zT{H:Hp}:∀{ds:List (nO×D)}{kvs:List (nO×V)}{key:nO},rY K H ds kvs->match getD ds key with
  |some d=>∃v,zO kvs key=some v/\pP K H d v
  |none=>zO kvs key=none
 | [],kvs,key,h=>by
  have:kvs=[]:=by
   have:=congrArg bb h.1;simpa using this.symm
  subst this;rfl
 |d::ds,[],key,h=>by
  have:=congrArg bb h.1;simp at this
 |d::ds,v::kvs,key,h=>by
  have h1:d.1=v.1/\ds.map (·.1)=kvs.map (·.1):=by
   have:=h.1;simpa using this
  have h2:pP K H d.2 v.2:=h.2 0 d v rfl rfl;have ht:rY K H ds kvs:=⟨h1.2,λi a b e1 e2=>h.2 (i+1) a b (by simpa using e1) (by simpa using e2)⟩
  unfold getD zO
  by_cases c:d.1=key
  .rw [cP (by simp[c]),cP (by simp[←h1.1,c])]
   exact⟨v.2,rfl,h2⟩
  .rw [cg (by simp[c]),cg (by simp[←h1.1,c])]
   exact zT ht
theorem vI{H:Hp}{d:D}{v:V}{key:nO}(h:tQ d=some key) (r:pP K H d v):v=kV key:=by
 cases r <;> simp only[tQ]at h
 all_goals first|(exfalso;simp at h;done)|skip
 all_goals (cases h;rfl)
theorem rY.key{H:Hp}{ds:List (nO×D)}{kvs:List (nO×V)}(h:rY K H ds kvs) {i:Nat}{d:nO×D}{v:nO×V}(e1:ds[i]?=some d) (e2:kvs[i]?=some v):d.1=v.1:=by
 have:=congrArg (λl=>l[i]?) h.1
 simp only[gMq,e1,e2,dQ]at this;exact ba.inj this
theorem rY.len{H:Hp}{ds:List (nO×D)}{kvs:List (nO×V)}(h:rY K H ds kvs):ds.length=kvs.length:=by
 have:=congrArg bb h.1;simpa using this
theorem Py{H:Hp}{ds:List (nO×D)}{kvs:List (nO×V)}{key:nO}{d:D}{v:V}(h:rY K H ds kvs) (r:pP K H d v):rY K H (vh ds key d) (xI kvs key v):=by
 have ha:(ds.any λkv=>decide (kv.1=key))=kvs.any λkv=>decide (kv.1=key):=by
  have e1:(ds.any λkv=>decide (kv.1=key))=(ds.map (·.1)).any λk=>decide (k=key):=by rw[iO];rfl
  have e2:(kvs.any λkv=>decide (kv.1=key))=(kvs.map (·.1)).any λk=>decide (k=key):=by rw[iO];rfl
  rw[e1,e2,h.1]
 unfold vh xI;rw[ha];split
 .refine ⟨?_,λi a b e1 e2=>?_⟩
  .rw [mPq,mPq];have e1:((λkv:nO×D=>kv.1)∘λkv:nO×D=>if kv.1=key then (kv.1,d) else kv)=λkv=>kv.1:=by
    funext kv;show (if kv.1=key then (kv.1,d) else kv).1=kv.1
    split <;> rfl
   have e2:((λkv:nO×V=>kv.1)∘λkv:nO×V=>if kv.1=key then (kv.1,v) else kv)=λkv=>kv.1:=by
    funext kv;show (if kv.1=key then (kv.1,v) else kv).1=kv.1
    split <;> rfl
   rw[e1,e2];exact h.1
  .rw [gMq]at e1 e2;obtain⟨a',f1,rfl⟩:=oMq.mp e1;obtain⟨b',f2,rfl⟩:=oMq.mp e2;have hk:=h.key f1 f2
   by_cases c:a'.1=key
   .rw [nP c,nP (hk ▸ c)];exact r
   .rw [nQ c,nQ (hk ▸ c)];exact h.2 i a' b' f1 f2
 .refine ⟨by rw[mBq,mBq,h.1];rfl,λi a b e1 e2=>?_⟩
  by_cases hi:i<ds.length
  .rw [gZq hi]at e1;rw[gZq (h.len ▸ hi)]at e2;exact h.2 i a b e1 e2
  .have hi':i=ds.length:=by
    have:=(gSq.mp e1).1;rw[lAq,lSq]at this;lia
   subst hi';rw[gYq (ai _),cf]at e1;rw[h.len,gYq (ai _),cf]at e2;cases e1;cases e2;exact r
def En:MK:=λS=>some (.owd [],S)
theorem Br:SK K Qv En:=by
 intro H₀ Hf₀ Hf S σ H Fs av S' R e Q q;cases e;intro p hp;obtain⟨t,R2,n1,n2,n3⟩:=R.new (o:=.dK []) hp;exact q _ _ _ (.ref p) [p] t R2 (.owd nB n1 ⟨rfl,λi d v h=>by simp at h⟩) (wV.one R hp)
theorem og.owd{H₀ Hf₀ Hf H:Hp}{S:AS}{σ:St}{Fs:List (List Addr)}(R:og K H₀ Hf₀ Hf S σ H Fs) {i:Nat}{ds:List (nO×D)}(h:S[i]?=some (some (.owd ds))):∃p kvs,σ[i]?=some (some (.ref p))/\Fs[i]?=some [p]/\H p=some (.dK kvs)/\Hf p=none/\rY K Hf ds kvs /\
  H₀ p=none/\p∉(Fs.set i []).flatten:=by
 obtain⟨v,F,s1,s2,r,nd,o,_⟩:=R.move h;obtain⟨p,kvs,rfl,rfl,h1,h2,h3⟩:=r.owd_inv;exact⟨p,kvs,s1,s2,h1,h2,h3,(o p (by simp)).1,(o p (by simp)).2⟩
theorem wM{i:Nat}(hk:SK K te k) (hb:SR K tb b):SS K (T2 (uI i) tb te) (zI i b k):=by
 intro H₀ Hf₀ Hf S σ H Fs o R e D h;obtain⟨x,e1,e⟩:=oBq.mp e;obtain⟨a0,e0,e⟩:=oBq.mp e;obtain⟨y,e2,e⟩:=oBq.mp e;obtain⟨kvs,e3,e⟩:=oBq.mp e;obtain⟨key,e4,e⟩:=oBq.mp e;rcases nT e with ⟨hl,e⟩|e
 .skip
  cases e;have hk':SK K te (uK k):=SK.frz hk;refine hk' R (a:=x.1) (S':=x.2) e1 _ λHf1 H1 Fs1 v F t1 R1 r1 o1=>?_
  obtain⟨p',_,s1,_⟩:=R1.owd (yS e0);refine⟨_,s1,hb R1 (d:=y.1) (S':=y.2) e2 _ λHf2 H2 Fs2 w t2 R2 r2=>?_⟩
  obtain⟨q',kv,s1',s2',h1',h2',h3',h4',h5'⟩:=R2.owd (yS e3);rw[s1]at s1';cases s1';obtain⟨x1,hx1⟩:∃d,x.1 = .sh d:=by
   obtain⟨w,_,e⟩:=oMq.mp e1;rw[←e];exact⟨_,rfl⟩
  rw[hx1]at r1;have rv:=(r1.sh_inv.2).mono t2.sf;have hw:=vI e4 r2;subst hw;refine⟨p',_,rfl,NG.k h1' (by rw[rX,←h3'.len];exact hl),h _ _ _ _ (t1.sf.trans t2.sf) (R2.turn s1 s2' (by simp) (F':=[p']) (.owd nB h2' ?_) (by simp) λq hq=>by rw[mSq.mp hq];exact⟨h4',h5'⟩)⟩
  rw[hx1,si];exact Py h3' rv
 .cases e
def aak(a b:ME):ME:=λS=>(a S).bind λx=>(b x.2).bind λy=>match y.1 with
 | .dict kvs=>(tQ x.1).map λkey=>(.bl (getD kvs key).isSome,y.2)
 |_=>none
def wA(a b:ME):ME:=λS=>(a S).bind λx=>(b x.2).bind λy=>match y.1 with
 | .dict kvs=>(tQ x.1).map λkey=>(.bl (!(getD kvs key).isSome),y.2)
 |_=>none
def xZ(a b:ME):ME:=λS=>(a S).bind λx=>(b x.2).bind λy=>match x.1 with
 | .dict kvs=>(tQ y.1).bind λkey=>(getD kvs key).map λd=>(d,y.2)
 |_=>none
theorem M5{H:Hp}{kvs:List (nO×D)}{x:V}{key:nO}{d:D}(r:pP K H (.dict kvs) x) (e:getD kvs key=some d):∃a v,x = .ref a/\B4 H a (kV key) (some v)/\pP K H d v:=by
 obtain⟨p,vs,rfl,h1,h2⟩:=r.dict_inv;have g:=zT (key:=key) h2;rw[e]at g;obtain⟨v,g1,g2⟩:=g;exact⟨p,v,rfl,by rw[←g1];exact B4.k h1,g2⟩
theorem Qp{H:Hp}{kvs:List (nO×D)}{x:V}{key:nO}(r:pP K H (.dict kvs) x):∃a o,x = .ref a/\B4 H a (kV key) o/\o.isSome=(getD kvs key).isSome:=by
 obtain⟨p,vs,rfl,h1,h2⟩:=r.dict_inv;have g:=zT (key:=key) h2;refine⟨p,_,rfl,B4.k h1,?_⟩;cases e:getD kvs key with
 |none=>rw[e]at g;rw[g];rfl
 |some d=>rw[e]at g;obtain⟨v,g1,_⟩:=g;rw[g1];rfl
theorem vR{a:ME}(ha:SR K ta a) (hb:SR K tb b):SR K (J0 ta tb) (wA a b):=by
 intro H₀ Hf₀ Hf S σ H Fs d S' R e Q q;obtain⟨x,e1,e⟩:=oBq.mp e;obtain⟨y,e2,e⟩:=oBq.mp e;refine ha R (d:=x.1) (S':=x.2) e1 _ λHf1 H1 Fs1 v1 t1 R1 r1=>hb R1 (d:=y.1) (S':=y.2) e2 _ λHf2 H2 Fs2 v2 t2 R2 r2=>?_
 split at e
 .rename_i kvs hy;rw[hy]at r2;obtain⟨key,e3,e⟩:=oMq.mp e;cases e;obtain⟨p,o,rfl,g1,g2⟩:=Qp (key:=key) r2;refine⟨p,o,rfl,by rw[vI e3 r1];exact g1,?_⟩
  rw[g2];exact q _ _ _ _ (t1.trans t2) R2 .bl
 .cases e
theorem uS{a:ME}(ha:SR K ta a) (hb:SR K tb b):SR K (NQ ta tb) (xZ a b):=by
 intro H₀ Hf₀ Hf S σ H Fs d S' R e Q q;obtain⟨x,e1,e⟩:=oBq.mp e;obtain⟨y,e2,e⟩:=oBq.mp e;refine ha R (d:=x.1) (S':=x.2) e1 _ λHf1 H1 Fs1 v1 t1 R1 r1=>hb R1 (d:=y.1) (S':=y.2) e2 _ λHf2 H2 Fs2 v2 t2 R2 r2=>?_
 split at e
 .rename_i kvs hy;rw[hy]at r1;obtain⟨key,e3,e⟩:=oBq.mp e;obtain⟨d',e4,e⟩:=oMq.mp e;cases e;obtain⟨p,v,rfl,g1,g2⟩:=M5 (r1.mono t2.sh) e4;exact⟨p,v,rfl,by rw[vI e3 r2];exact g1,q _ _ _ _ (t1.trans t2) R2 g2⟩
 .cases e
end
def qJ(x:Nat) (body:MS):List D->AS->Option DS
 | [],S=>some (.nx S)
 |d::ds,S=>(body (S.set x (some (.sh d)))).bind λo=>match o with
  | .nx S'=>qJ x body ds S'
  | .ct S'=>qJ x body ds S'
  | .bk S'=>some (.nx S')
  | .rt a=>some (.rt a)
def sD:D->Option (List D)
 | .list ds=>some ds
 | .scr ns=>some (ns.map .int)
 |_=>none
def Do(x:Nat) (k:MK) (body:MS):MS:=λS=>(uK k S).bind λy=>(sD (ny y.1)).bind λds=>qJ x body ds y.2
def pD(lo:Int) (n:Nat):List D:=(cL n).map λi:Nat=>.int (lo+i)
def CA:List D->Option (List D)
 | [.int j]=>tM (-(2 ^ 62)<=j/\j<2 ^ 62) (some (pD 0 j.toNat))
 |_=>none
def YD:List D->Option (List D)
 | [.int i,.int j]=>tM (-(2 ^ 62)<=i/\i<2 ^ 62/\-(2 ^ 62)<=j/\j<2 ^ 62) (some (pD i (j-i).toNat))
 |_=>none
def CV(x:Nat) (a:ML) (body:MS):MS:=λS=>(a S).bind λy=>(CA y.1).bind λds=>qJ x body ds y.2
def YG(x:Nat) (a:ML) (body:MS):MS:=λS=>(a S).bind λy=>(YD y.1).bind λds=>qJ x body ds y.2
def AA(x y:Nat) (body:MS):Nat->List D->AS->Option DS
 |_,[],S=>some (.nx S)
 |i,d::ds,S=>(body ((S.set x (some (.sh (.int i)))).set y (some (.sh d)))).bind λo=>match o with
  | .nx S'=>AA x y body (i+1) ds S'
  | .ct S'=>AA x y body (i+1) ds S'
  | .bk S'=>some (.nx S')
  | .rt a=>some (.rt a)
def Kh(x y:Nat) (k:MK) (body:MS):MS:=λS=>(uK k S).bind λz=>(sD (ny z.1)).bind λds=>AA x y body 0 ds z.2
def JG(x y:Nat) (body:MS):List D->List D->AS->Option DS
 |d::ds,e::es,S=>(body ((S.set x (some (.sh d))).set y (some (.sh e)))).bind λo=>match o with
  | .nx S'=>JG x y body ds es S'
  | .ct S'=>JG x y body ds es S'
  | .bk S'=>some (.nx S')
  | .rt a=>some (.rt a)
 |_,_,S=>some (.nx S)
def ZT(x y:Nat) (k l:MK) (body:MS):MS:=λS=>(uK k S).bind λz=>(uK l z.2).bind λw=>(sD (ny z.1)).bind λds=>(sD (ny w.1)).bind λes =>
 if ds.length=es.length then JG x y body ds es w.2 else none
def qS(c:MT) (body:MS):Nat->MS
 |0,_=>none
 |n+1,S=>(c S).bind λx=>if x.1=true then (body x.2).bind λo=>match o with
   | .nx S'=>qS c body n S'
   | .ct S'=>qS c body n S'
   | .bk S'=>some (.nx S')
   | .rt a=>some (.rt a)
  else some (.nx x.2)
section
variable {K:W.Frag}{te tf:TE}{k l:MK}{tb:TS}{body:MS}{x y:Nat}
theorem AC{H:Hp}{d:D}{ds:List D}{v:V}(e:sD d=some ds) (r:pP K H d v):∃a vs,v = .ref a/\qO K H a vs/\oq K H ds vs:=by
 cases d with
 |list es =>
  cases e;obtain⟨p,vs,rfl,h1,h2⟩:=r.list_inv;exact⟨p,vs,rfl,qO.of h1,h2⟩
 |scr ns =>
  cases e;cases r with
  |scr h=>exact⟨_,_,rfl,h,rR ns⟩
 |_=>cases e
theorem BH{te:TE}{S:AS}{z:AV×AS}(e:uK k S=some z):∃d,z.1 = .sh d:=by
 obtain⟨w,_,e⟩:=oMq.mp e;rw[←e];exact⟨_,rfl⟩
theorem og.setD{H₀ Hf₀ Hf H:Hp}{S:AS}{σ:St}{Fs:List (List Addr)}{d:D}{v:V}(R:og K H₀ Hf₀ Hf S σ H Fs) (i:Nat) (r:pP K Hf d v):og K H₀ Hf₀ Hf (S.set i (some (.sh d))) (σ.set i (some v)) H (Fs.set i []) :=
 R.set i (.sh r) aT λq h=>(by cases h)
theorem xS(hk:SK K te k) (hb:SS K tb body):SS K (LC (JJ K te) (rh x) tb) (Do x k body):=by
 intro H₀ Hf₀ Hf S σ H Fs o R e D h;obtain⟨z,e1,e⟩:=oBq.mp e;obtain⟨ds,e2,e⟩:=oBq.mp e;have hk':SK K te (uK k):=SK.frz hk;refine hk' R (a:=z.1) (S':=z.2) e1 _ λHf1 H1 Fs1 v F t1 R1 r1 o1=>?_
 obtain⟨d,hd⟩:=BH (te:=te) e1;rw[hd]at r1;rw[hd,si]at e2;obtain⟨a,vs,rfl,g1,g2⟩:=AC e2 r1.sh_inv.2;refine⟨a,rfl,⟨vs,R1.sub.seq g1⟩,HB (xs:=vs) (λi σ' H'=>∃Hf' S' Fs',og K H₀ Hf₀ Hf' S' σ' H' Fs'/\nS Hf1 Hf'/\qJ x body (ds.drop i) S'=some o) ⟨Hf1,z.2,Fs1,R1,.refl _,e⟩
  (λi σ' H' _ ⟨Hf',S',Fs',R',s',_⟩=>R'.sub.seq (s'.seq g1)) ?_ ?_⟩
 .rintro i w σ' H' hw ⟨Hf',S',Fs',R',s',e'⟩;obtain⟨di,hdi,rw'⟩:=g2.get' hw;have hlt:i<ds.length:=(gSq.mp hdi).1;rw[aL hlt]at e';have hdi':ds[i]=di:=(gSq.mp hdi).2;rw[hdi']at e';obtain⟨ob,e3,e4⟩:=oBq.mp e';refine hb (R'.setD x (rw'.mono s')) e3 _ ?_;cases ob with
  |nx S2=>exact λHf2 σ2 H2 Fs2 s2 R2=>⟨Hf2,S2,Fs2,R2,s'.trans s2,e4⟩
  |ct S2=>exact λHf2 σ2 H2 Fs2 s2 R2=>⟨Hf2,S2,Fs2,R2,s'.trans s2,e4⟩
  |bk S2=>cases e4;exact λHf2 σ2 H2 Fs2 s2 R2=>h _ _ _ _ ((t1.sf.trans s').trans s2) R2
  |rt a=>cases e4;exact h
 .rintro σ' H' ⟨Hf',S',Fs',R',s',e'⟩;rw[←g2.1,cM]at e';cases e';exact h _ _ _ _ (t1.sf.trans s') R'
theorem LD{H₀ Hf₀ Hf1 H1:Hp}{S1:AS}{σ:St}{Fs1:List (List Addr)}{o:DS}{D:tV}{lo:Int}{n:Nat}(hb:SS K tb body) (R1:og K H₀ Hf₀ Hf1 S1 σ H1 Fs1) (e:qJ x body (pD lo n) S1=some o) (h:zQ K H₀ Hf₀ Hf1 D o) :
  ∃W:Nat->Nat->St->Hp->Prop,(∃m,W 0 m σ H1)/\∀i m σ H,W i m σ H ->
   ((S7 lo n).stop i H/\D.nx σ H)∨((S7 lo n).go i H/\∃N:St->Hp->Prop,(∀σ' H',N σ' H'->∃m',m'<m/\W (i+1) m' σ' H')/\∀v H',(S7 lo n).yld i H v H'->rh x v σ H' λσ2 H2=>tb { D with nx:=N,ct:=N,bk:=D.nx } σ2 H2):=by
 refine MU (λi σ' H'=>∃Hf' S' Fs',og K H₀ Hf₀ Hf' S' σ' H' Fs'/\nS Hf1 Hf'/\qJ x body ((pD lo n).drop i) S'=some o) ⟨Hf1,S1,Fs1,R1,.refl _,e⟩ ?_ ?_
 .rintro i σ' H' hi ⟨Hf',S',Fs',R',s',e'⟩;have hlt:i<(pD lo n).length:=by unfold pD;rw[lMq,bz];exact hi
  rw[aL hlt]at e';have hdi:(pD lo n)[i] = .int (lo+i):=by simp[pD]
  rw[hdi]at e';obtain⟨ob,e3,e4⟩:=oBq.mp e';refine hb (R'.setD x .int) e3 _ ?_;cases ob with
  |nx S2=>exact λHf2 σ2 H2 Fs2 s2 R2=>⟨Hf2,S2,Fs2,R2,s'.trans s2,e4⟩
  |ct S2=>exact λHf2 σ2 H2 Fs2 s2 R2=>⟨Hf2,S2,Fs2,R2,s'.trans s2,e4⟩
  |bk S2=>cases e4;exact λHf2 σ2 H2 Fs2 s2 R2=>h _ _ _ _ (s'.trans s2) R2
  |rt a=>cases e4;exact h
 .rintro σ' H' ⟨Hf',S',Fs',R',s',e'⟩;have hl:(pD lo n).length=n:=by unfold pD;rw[lMq,bz]
  rw[bP (eN hl)]at e';cases e';exact h _ _ _ _ s' R'
theorem B9{ta:TA}{a:ML}(ha:QD K ta a) (hb:SS K tb body):SS K (LC (OY ta) (rh x) tb) (CV x a body):=by
 intro H₀ Hf₀ Hf S σ H Fs o R e D h;obtain⟨z,e1,e⟩:=oBq.mp e;obtain⟨ds,e2,e⟩:=oBq.mp e;refine ha R (ds:=z.1) (S':=z.2) e1 _ λHf1 H1 Fs1 vs t1 R1 r1=>?_
 unfold CA at e2;split at e2
 .rename_i j hz;rcases nT e2 with ⟨hj,e2⟩|e2
  .skip
   cases e2;rw[hz]at r1;obtain⟨v,ws,rfl,h1,h2⟩:=r1.cons_inv;rw[h2.nil_inv];cases h1;exact⟨j,rfl,hj.1,hj.2,LD hb R1 e (h.mono t1.sf)⟩
  .cases e2
 .cases e2
theorem Kl(hk:SK K te k) (hb:SS K tb body):SS K (LC (TZ K (ri te uZ)) (RB K 2 (B5 (rh x) (B5 (rh y) Rl))) tb) (Kh x y k body):=by
 intro H₀ Hf₀ Hf S σ H Fs o R e D h;obtain⟨z,e1,e⟩:=oBq.mp e;obtain⟨ds,e2,e⟩:=oBq.mp e;have hk':SK K te (uK k):=SK.frz hk;refine hk' R (a:=z.1) (S':=z.2) e1 _ λHf1 H1 Fs1 v F t1 R1 r1 o1=>?_
 obtain⟨d,hd⟩:=BH (te:=te) e1;rw[hd]at r1;rw[hd,si]at e2;obtain⟨a,vs,rfl,g1,g2⟩:=AC e2 r1.sh_inv.2;refine⟨a,rfl,⟨vs,R1.sub.seq g1⟩,O8 (xs:=vs) (λi σ' H'=>∃Hf' S' Fs',og K H₀ Hf₀ Hf' S' σ' H' Fs'/\nS Hf1 Hf'/\AA x y body i (ds.drop i) S'=some o) ⟨Hf1,z.2,Fs1,R1,.refl _,e⟩
  (λi σ' H' _ ⟨Hf',S',Fs',R',s',_⟩=>R'.sub.seq (s'.seq g1)) ?_ ?_⟩
 .rintro i w σ' H' T hw ⟨Hf',S',Fs',R',s',e'⟩ hT;obtain⟨di,hdi,rw'⟩:=g2.get' hw;have hlt:i<ds.length:=(gSq.mp hdi).1;rw[aL hlt]at e';have hdi':ds[i]=di:=(gSq.mp hdi).2;rw[hdi']at e';obtain⟨ob,e3,e4⟩:=oBq.mp e';have R2:=(R'.new (o:=.tup [.int i,w]) hT).2.1;refine hb ((R2.setD x .int).setD y (rw'.mono s')) e3 _ ?_;cases ob with
  |nx S2=>exact λHf2 σ2 H2 Fs2 s2 R2=>⟨Hf2,S2,Fs2,R2,s'.trans s2,e4⟩
  |ct S2=>exact λHf2 σ2 H2 Fs2 s2 R2=>⟨Hf2,S2,Fs2,R2,s'.trans s2,e4⟩
  |bk S2=>cases e4;exact λHf2 σ2 H2 Fs2 s2 R2=>h _ _ _ _ ((t1.sf.trans s').trans s2) R2
  |rt a=>cases e4;exact h
 .rintro σ' H' ⟨Hf',S',Fs',R',s',e'⟩;rw[←g2.1,cM]at e';cases e';exact h _ _ _ _ (t1.sf.trans s') R'
theorem Ac{c:TT}{m:MT}(n:Nat) (hc:FF K c m) (hb:SS K tb body):SS K (Np c tb) (qS m body n):=by
 intro H₀ Hf₀ Hf S σ H Fs o R e D h;refine⟨λn σ' H'=>∃Hf' S' Fs',og K H₀ Hf₀ Hf' S' σ' H' Fs'/\nS Hf Hf'/\qS m body n S'=some o,⟨n,Hf,S,Fs,R,.refl _,e⟩,?_⟩
 rintro n σ' H' ⟨Hf',S',Fs',R',s',e'⟩;cases n with
 |zero=>cases e'
 |succ n =>
  obtain⟨z,e1,e2⟩:=oBq.mp e';refine hc R' (b:=z.1) (S':=z.2) e1 _ λHf1 H1 Fs1 t1 R1=>?_
  split at e2
  .rename_i hz;rw[hz];refine GR ⟨λσ2 H2=>∃Hf' S' Fs',og K H₀ Hf₀ Hf' S' σ2 H2 Fs'/\nS Hf Hf'/\qS m body n S'=some o,λσ2 H2 w=>⟨n,eh n,w⟩,?_⟩
   obtain⟨ob,e3,e4⟩:=oBq.mp e2;refine hb R1 e3 _ ?_;cases ob with
   |nx S2=>exact λHf2 σ2 H2 Fs2 s2 R2=>⟨Hf2,S2,Fs2,R2,(s'.trans t1.sf).trans s2,e4⟩
   |ct S2=>exact λHf2 σ2 H2 Fs2 s2 R2=>⟨Hf2,S2,Fs2,R2,(s'.trans t1.sf).trans s2,e4⟩
   |bk S2=>cases e4;exact λHf2 σ2 H2 Fs2 s2 R2=>h _ _ _ _ ((s'.trans t1.sf).trans s2) R2
   |rt a=>cases e4;exact h
  .rename_i hz;rw[cO]at hz;rw[hz];cases e2;exact Gf (h _ _ _ _ (s'.trans t1.sf) R1)
end
def tw(np n:Nat) (m:MS):MF:=λds=>if ds.length=np then (m (ds.map (λd=>some (.sh d))++ay (n-ds.length) none)).bind λo=>match o with
  | .rt a=>some a
  | .nx _=>some (.sh .non)
  |_=>none
 else none
theorem DW{K:W.Frag}{Hf H:Hp}{ds:List D}{vs:List V}(N:List Str) (s:nS Hf H) (r:oq K Hf ds vs) :
  og K H Hf Hf (ds.map (λd=>some (.sh d))++ay (N.length-ds.length) none) (L2.uF N vs) H (ay (ds.length+(N.length-ds.length)) []):=by
 have fl:=qM (ds.length+(N.length-ds.length));refine⟨by simp[L2.uF,r.1],by simp,λi av e=>?_,λi e=>?_,by rw[fl];exact aT,λp hp=>(by rw[fl]at hp;cases hp),s,nS.refl _,λb h _=>h,nS.refl _⟩
 .by_cases hi:i<ds.length
  .rw [gZq (by simpa using hi),gMq]at e
   obtain⟨d,e1,e2⟩:=oMq.mp e;cases e2;obtain⟨v,e3,rv⟩:=r.get e1;refine⟨v,[],?_,?_,.sh rv⟩
   .unfold L2.uF;rw[gZq (by simpa [←r.1] using hi),gMq,e3]
    rfl
   .rw [cc,nP (by lia)]
  .rw [gYq (by simpa using hi)]at e
   have:=mGq e;rw[du this]at e;have h2:=du this;cases h2
 .rw [cc];have hi:=(gSq.mp e).1;rw[lAq,lMq,fb]at hi;rw[nP hi]
theorem oC{K:W.Frag}{t:TS}{m:MS}{np:Nat}(N:List Str) (h:SS K t m) {vs:List V}{H:Hp}{Q:VK}{E:XK}(hs:pE K (tw np N.length m) vs H Q E):t { nx:=λ_ H'=>Q .non H',rt:=Q } (L2.uF N vs) H:=by
 obtain⟨Hf,ds,a,s,r,e,q⟩:=hs;unfold tw at e;split at e
 .obtain ⟨o,e1,e2⟩:=oBq.mp e;refine h (DW N s r) e1 _ ?_;cases o with
  |rt a' =>
   cases e2;exact λHf' H' v F s1 s2 s3 l r nd fr=>q Hf' H' v F s1 s2 s3 l r nd fr
  |nx S' =>
   cases e2;exact λHf' σ' H' Fs' s1 R=>q Hf' H' .non [] R.sf R.fr R.sub R.lim (.sh .non) aT λq h=>(by cases h)
  |bk S'=>cases e2
  |ct S'=>cases e2
 .cases e
theorem qj{K:W.Frag}{m:MS}{np n:Nat}{vs:List V}{H:Hp}{Q:VK}{E:XK}(hs:pE K (tw np n m) vs H Q E):vs.length=np:=by
 obtain⟨Hf,ds,a,s,r,e,q⟩:=hs;unfold tw at e;split at e
 .rename_i h;rw[←r.1,h]
 .cases e
def fzAll:List Nat->AS->Option AS
 | [],S=>some S
 |j::js,S=>(S[j]?.join).bind λa=>fzAll js (S.set j (some (.sh (ny a))))
def UH:Option AV->Option AV
 |some (.sh d)=>some (.sh d)
 |_=>none
def EA(S:AS):List Nat->Option AS
 | []=>some []
 |j::js=>(UH S[j]?.join).bind λa=>(EA S js).map (some a :: ·)
def qX(tf:MT) (te:MK) (cap:AS):List D->Option (List AV)
 | []=>some []
 |d::ds=>(tf (some (.sh d)::cap)).bind λb=>if b.1=true then (te b.2).bind λa=>(qX tf te cap ds).map (a.1 :: ·) else qX tf te cap ds
abbrev MI:=AS->Option (List D×AS)
def EC(k:MK):MI:=λS=>(uK k S).bind λy=>(sD (ny y.1)).map λds=>(ds,y.2)
def Zc(a:ML):MI:=λS=>(a S).bind λy=>(CA y.1).map λds=>(ds,y.2)
def xO(src:MI) (fr:List Nat) (tf:MT) (te:MK):MK:=λS=>(src S).bind λy=>(fzAll fr y.2).bind λS2=>(EA S2 fr).bind λcap=>tM (y.1.length<=qp) ((qX tf te cap y.1).map λavs=>(.ow avs,S2))
def tL:MT:=λS=>some (true,S)
section
variable {K:W.Frag}{H₀ Hf₀ Hf Hf' H H':Hp}{S S':AS}{σ:St}{Fs Fs':List (List Addr)}
theorem og.fz(R:og K H₀ Hf₀ Hf S σ H Fs) {j:Nat}{a:AV}(e:S[j]?.join=some a):∃Hf' Fs',wW Hf H Fs Hf' H Fs'/\og K H₀ Hf₀ Hf' (S.set j (some (.sh (ny a)))) σ H Fs':=by
 obtain⟨v,F,s1,s2,r,nd,o,R1⟩:=R.move (ou e);have n:∀q∈F,Hf q=none:=λq hq=>(r.owned q hq).2
 have R2:=R1.frz o n;have r2:=r.frozen (qv (H:=H) n) λq hq=>xa hq
 have R3:=R2.again (F:=F) (G:=[]) s1 (.sh r2) aT λq h=>(by cases h)
 refine⟨_,_,⟨qv n,.refl _,λp hp=>pd hp,λb h g=>?_⟩,R3⟩
 by_cases m:b∈F
 .exact .inr (mFq.mpr ⟨F,mGq s2,m⟩)
 .rw [rF m]at g;exact absurd h g
theorem og.fzAll:∀{fr:List Nat}{Hf:Hp}{S S':AS}{Fs:List (List Addr)},og K H₀ Hf₀ Hf S σ H Fs->fzAll fr S=some S'->∃Hf' Fs',wW Hf H Fs Hf' H Fs'/\og K H₀ Hf₀ Hf' S' σ H Fs'
 | [],Hf,S,S',Fs,R,e=>by
  cases e;exact⟨Hf,Fs,.refl,R⟩
 |j::js,Hf,S,S',Fs,R,e=>by
  obtain⟨a,e1,e2⟩:=oBq.mp e;obtain⟨Hf1,Fs1,t1,R1⟩:=R.fz e1;obtain⟨Hf2,Fs2,t2,R2⟩:=og.fzAll R1 e2;exact⟨Hf2,Fs2,t1.trans t2,R2⟩
theorem FY(R:og K H₀ Hf₀ Hf S σ H Fs):∀{fr:List Nat}{cap:AS},EA S fr=some cap->cap.length=fr.length/\∀(k:Nat) (a:AV),cap[k]?=some (some a)->∃d v,a = .sh d/\(slots σ fr)[k]?=some (some v)/\pP K Hf d v
 | [],cap,e=>by
  cases e;exact⟨rfl,λk a h=>by simp at h⟩
 |j::js,cap,e=>by
  obtain⟨a,e1,e2⟩:=oBq.mp e;obtain⟨cap',e3,e4⟩:=oMq.mp e2;subst e4;obtain⟨h1,h2⟩:=FY R e3;refine⟨by simp[h1],λk b hk=>?_⟩
  cases k with
  |zero =>
   cases hk;cases ej:S[j]?.join with
   |none=>rw[ej]at e1;cases e1
   |some c =>
    rw[ej]at e1;cases c with
    |sh d =>
     cases e1;obtain⟨v,F,s1,s2,r⟩:=R.rep j _ (ou ej);refine⟨d,v,rfl,?_,r.sh_inv.2⟩;show some ((σ[j]?).join)=_;rw[s1];rfl
    |_=>cases e1
  |succ k=>exact h2 k b (by simpa using hk)
theorem Mv(R:og K H₀ Hf₀ Hf S σ H Fs) {fr:List Nat}{cap:AS}(e:EA S fr=some cap) {d:D}{x:V}(rx:pP K Hf d x) :
  og K H₀ Hf₀ Hf (some (.sh d)::cap) (some x::slots σ fr) H (ay (cap.length+1) []):=by
 obtain⟨h1,h2⟩:=FY R e;have fl:=qM (cap.length+1);refine⟨by simp[slots,h1],by simp,λi av ei=>?_,λi ei=>?_,by rw[fl];exact aT,λp hp=>(by rw[fl]at hp;cases hp),R.sub,R.fr,R.lim,R.sf⟩
 .cases i with
  |zero =>
   cases ei;exact⟨x,[],rfl,by simp,.sh rx⟩
  |succ k =>
   have hk:k<cap.length:=(gSq.mp (by simpa using ei)).1
   obtain⟨d',v,rfl,s1,r⟩:=h2 k av (by simpa using ei)
   exact⟨v,[],by simpa using s1,by rw[cc,nP (by lia)],.sh r⟩
 .rw [cc];have hi:=(gSq.mp ei).1;rw[nP (by simpa using hi)]
theorem og.updOut(R:og K H₀ Hf₀ Hf S σ H Fs) {p:Addr}{o:HO}(h1:p∉Fs.flatten) (h2:Hf p=none) (h3:H₀ p=none):og K H₀ Hf₀ Hf S σ (oB H p o) Fs where
 len:=R.len
 lenF:=R.lenF
 rep:=λi av e=>by
  obtain⟨v,F,s1,s2,r⟩:=R.rep i av e;exact⟨v,F,s1,s2,r.keepUpd λm=>h1 (oA s2 m)⟩
 emp:=R.emp
 nd:=R.nd
 fresh:=R.fresh
 sub:=λb u e=>by
  rw[ni λz=>by rw[z,h2]at e;cases e]
  exact R.sub b u e
 fr:=λb u e=>by
  rw[ni λz=>by rw[z,h3]at e;cases e]
  exact R.fr b u e
 lim:=R.lim
 sf:=R.sf
theorem og.outer{σ2:St}{Fs2 Fs3:List (List Addr)}{Hf3 H3:Hp}{S3:AS}(R:og K H₀ Hf₀ Hf S σ H Fs) (R3:og K H₀ Hf₀ Hf3 S3 σ2 H3 Fs3) (t:wW Hf H Fs2 Hf3 H3 Fs3) (h0:Fs2.flatten=[]):wW Hf H Fs Hf3 H3 Fs/\og K H₀ Hf₀ Hf3 S σ H3 Fs:=by
 have g:∀b,Hf b=none->H b≠none->Hf3 b=none:=λb h1 h2=>by
  by_cases e:Hf3 b=none
  .exact e
  .rcases t.gr b h1 e with z|z
   .exact absurd z h2
   .rw [h0]at z;cases z
 exact⟨⟨t.sf,t.sh,λ_ h=>h,λb h1 h2=>.inl (by
  by_cases e:H b=none
  .exact e
  .exact absurd (g b h1 e) h2)⟩,R.more t.sh t.sf R3.sub (λq hq=>g q (R.mem hq).2 (R.mem hq).1) R3.lim⟩
end
section
variable {K:W.Frag}{tf:TT}{te:TE}{mf:MT}{me:MK}{fr:List Nat}
theorem DI{H₀ Hf₀ Hf1 H1:Hp}{S1:AS}{σ:St}{Fs1:List (List Addr)}{cap:AS}{ds:List D}{avs:List AV}{J:It}{Q:VK}(hf:FF K tf mf) (he:SK K te me)
  (R1:og K H₀ Hf₀ Hf1 S1 σ H1 Fs1) (ec:EA S1 fr=some cap) (hl:ds.length<=qp) (e:qX mf me cap ds=some avs)
  (hgo:∀i H,nS Hf1 H->i<ds.length->J.go i H) (hst:∀H,nS Hf1 H->J.stop ds.length H) (hy:∀i H x H',nS Hf1 H->i<ds.length->J.yld i H x H'->H'=H/\∃d,ds[i]?=some d/\pP K Hf1 d x)
  (q:∀Hf' H' v F,wW Hf1 H1 Fs1 Hf' H' Fs1->og K H₀ Hf₀ Hf' S1 σ H' Fs1->nV K Hf' H' (.ow avs) v F->wV H₀ H1 Fs1 Fs1 F->Q v H') :
  ∀acc,H1 acc=none->∃W:Nat->Nat->Hp->Prop,(∃m,W 0 m (oB H1 acc (.lst [])))/\∀i m H,W i m H ->
   (J.stop i H/\Q (.ref acc) H) ∨
   (J.go i H/\∃N:Hp->Prop,(∀H',N H'->∃m',m'<m/\W (i+1) m' H')/\∀x H',J.yld i H x H'->tf (some x::slots σ fr) H' λb H2 =>
    if b=true then te (some x::slots σ fr) H2 λy H3=>∃ys,H3 acc=some (.lst ys)/\ys.length<jf/\N (oB H3 acc (.lst (ys++[y]))) else N H2):=by
 intro acc hacc;obtain⟨t0,R0,n1,n2,n3⟩:=R1.new (o:=.lst []) hacc
 let P:Nat->Hp->Prop:=λi H=>∃Hf as vs Gs rest,og K H₀ Hf₀ Hf S1 σ H Fs1/\wW Hf1 H1 Fs1 Hf H Fs1/\H acc=some (.lst vs)/\Hf acc=none/\nU K Hf H as vs Gs/\wV H₀ H1 Fs1 Fs1 (acc::Gs.flatten)/\as.length<=i /\
  qX mf me cap (ds.drop i)=some rest/\avs=as++rest
 refine⟨λi m H=>m=ds.length-i/\i<=ds.length/\P i H,⟨ds.length,by simp,aY _,Hf1,[],[],[],avs,R0,t0,nB,n1,.nil,wV.one R1 hacc,aY _,e,rfl⟩,?_⟩
 rintro i m H ⟨rfl,hi,Hf,as,vs,Gs,rest,R,t,ha,hfa,ra,ow,la,er,ea⟩;have hs:nS Hf1 H:=t.sf.trans R.sub
 by_cases hlt:i<ds.length
 .refine .inr ⟨hgo i H hs hlt,P (i+1),λH' p=>⟨ds.length-(i+1),by lia,rfl,hlt,p⟩,λx H' y=>?_⟩
  obtain⟨rfl,d,hd,rx⟩:=hy i H x H' hs hlt y;rw[aL hlt,(gSq.mp hd).2]at er;obtain⟨b,e1,e2⟩:=oBq.mp er;have fl:=qM (cap.length+1);refine hf (Mv R ec (rx.mono t.sf)) (b:=b.1) (S':=b.2) e1 _ λHf2 H2 Fs2 t2 R2=>?_
  obtain⟨t2',R2'⟩:=R.outer R2 t2 fl;have ha2:H2 acc=some (.lst vs):=t2.sh _ _ ha;have hfa2:Hf2 acc=none:=by
   by_cases z:Hf2 acc=none
   .exact z
   .rcases t2.gr acc hfa z with z|z
    .rw [ha]at z;cases z
    .rw [fl]at z;cases z
  have ra2:=ra.stp (λq hq=>ow.out q (mCo _ hq)) t2'
  split at e2
  .rename_i hb;rw[hb];refine GR ?_;obtain⟨a,e3,e4⟩:=oBq.mp e2;obtain⟨rest',e5,e6⟩:=oMq.mp e4;subst e6;refine he R2 (a:=a.1) (S':=a.2) e3 _ λHf3 H3 Fs3 v F t3 R3 r3 o3=>?_
   have fl2:Fs2.flatten=[]:=by
    cases hz:Fs2.flatten with
    |nil=>rfl
    |cons z zs =>
     have:=t2.own z (by rw[hz];simp)
     rw[fl]at this;cases this
   obtain⟨t3',R3'⟩:=R2'.outer R3 t3 fl2;have ha3:H3 acc=some (.lst vs):=t3.sh _ _ ha2;have hfa3:Hf3 acc=none:=by
    by_cases z:Hf3 acc=none
    .exact z
    .rcases t3.gr acc hfa2 z with z|z
     .rw [ha2]at z;cases z
     .rw [fl2]at z;cases z
   have ra3:=ra2.stp (λq hq=>ow.out q (mCo _ hq)) t3'
   have newF:∀q∈F,H2 q=none:=λq hq=>(o3.new q hq).elim id λz=>by rw[fl2]at z;cases z
   have accF:acc∉F:=λm=>by rw[newF acc m]at ha2;cases ha2
   have accG:acc∉Gs.flatten:=(aA.mp ow.nd).1;have tt:=(t.trans t2').trans t3';refine⟨vs,ha3,?_,?_⟩
   .rw [rX,←ra.1];lia
   .refine ⟨Hf3,as++[a.1],vs++[v],Gs++[F],rest',R3'.updOut n3 hfa3 n2,⟨tt.sf,λb o eb=>?_,λ_ h=>h,tt.gr⟩,nB,hfa3,(ra3.keepUpd accG).snoc (r3.keepUpd accF),?_,by rw[lAq,lSq];lia,e5,by rw[ea];simp⟩
    .rw [ni λz=>by rw[z,hacc]at eb;cases eb]
     exact tt.sh b o eb
    .rw [fAq,aZ];have oF:wV H₀ H1 Fs1 Fs1 F:=⟨o3.nd,o3.fr,λq hq m=>(R2'.mem m).1 (newF q hq),λq hq=>.inl ((t.trans t2').sh.free (newF q hq))⟩
     refine(show wV H₀ H1 Fs1 Fs1 ((acc::Gs.flatten)++F) from ow.app oF λq hq m=>?_)
     rcases ao.mp hq with z|z
     .rw [z]at m;exact accF m
     .exact (ra2.owned q z).1 (newF q m)
  .rename_i hb;rw[cO]at hb;rw[hb];exact Gf ⟨Hf2,as,vs,Gs,rest,R2',t.trans t2',ha2,hfa2,ra2,ow,by lia,e2,ea⟩
 .have e0:i=ds.length:=by lia
  subst e0;rw[cM]at er;cases er;rw[aNq]at ea;subst ea;exact .inl ⟨hst H hs,q Hf H (.ref acc) _ t R (nV.news ha hfa ra) ow⟩
theorem uk{tl:TE}{k:MK}(hk:SK K tl k) (hf:FF K tf mf) (he:SK K te me):SK K (JU (JJ K tl) fr tf te) (xO (EC k) fr mf me):=by
 intro H₀ Hf₀ Hf S σ H Fs av S' R e Q q;obtain⟨y,e1,e⟩:=oBq.mp e;obtain⟨z,e0,e1⟩:=oBq.mp e1;obtain⟨ds,e2,e1⟩:=oMq.mp e1;subst e1;obtain⟨S2,e3,e⟩:=oBq.mp e;obtain⟨cap,e4,e⟩:=oBq.mp e;rcases nT e with ⟨hl,e⟩|e
 .obtain ⟨avs,e5,e⟩:=oMq.mp e;cases e;have hk':SK K tl (uK k):=SK.frz hk;refine hk' R (a:=z.1) (S':=z.2) e0 _ λHf1 H1 Fs1 v F t1 R1 r1 o1=>?_
  obtain⟨d,hd⟩:=BH (te:=tl) e0;rw[hd]at r1;rw[hd,si]at e2;obtain⟨Hf2,Fs2,t2,R2⟩:=R1.fzAll e3;obtain⟨a,vs,rfl,g1,g2⟩:=AC e2 (r1.sh_inv.2.mono t2.sf);refine⟨a,rfl,⟨vs,R2.sub.seq g1⟩,DI (K:=K) hf he R2 e4 hl e5 (λi H s hi=>⟨vs,vs[i]'(g2.1 ▸ hi),s.seq g1,gEg (g2.1 ▸ hi)⟩) (λH s=>⟨vs,s.seq g1,eN g2.1.symm⟩) (λi H x H' s hi y=>?_) λHf' H' v F t R' r o=>q _ _ _ v F ((t1.trans t2).trans t) R' r (o.back (t1.trans t2))⟩
  obtain⟨y1,y2⟩:=y;obtain⟨di,h1,h2⟩:=g2.get' (y2 vs (s.seq g1));exact⟨y1,di,h1,h2⟩
 .cases e
theorem yW{lo:Int}{n i:Nat}(h:i<n):(pD lo n)[i]?=some (.int (lo+i)):=by
 unfold pD;rw[gMq,gQ h];rfl
theorem qG(lo:Int) (n:Nat):(pD lo n).length=n:=by unfold pD;rw[lMq,bz]
theorem Lb{ta:TA}{a:ML}(ha:QD K ta a) (hf:FF K tf mf) (he:SK K te me):SK K (JU (OY ta) fr tf te) (xO (Zc a) fr mf me):=by
 intro H₀ Hf₀ Hf S σ H Fs av S' R e Q q;obtain⟨y,e1,e⟩:=oBq.mp e;obtain⟨z,e0,e1⟩:=oBq.mp e1;obtain⟨ds,e2,e1⟩:=oMq.mp e1;subst e1;obtain⟨S2,e3,e⟩:=oBq.mp e;obtain⟨cap,e4,e⟩:=oBq.mp e;rcases nT e with ⟨hl,e⟩|e
 .obtain ⟨avs,e5,e⟩:=oMq.mp e;cases e;refine ha R (ds:=z.1) (S':=z.2) e0 _ λHf1 H1 Fs1 vs t1 R1 r1=>?_
  unfold CA at e2;split at e2
  .rename_i j hz;rcases nT e2 with ⟨hj,e2⟩|e2
   .skip
    cases e2;rw[hz]at r1;obtain⟨v,ws,rfl,h1,h2⟩:=r1.cons_inv;rw[h2.nil_inv];cases h1;obtain⟨Hf2,Fs2,t2,R2⟩:=R1.fzAll e3;refine⟨j,rfl,hj.1,hj.2,DI (K:=K) hf he R2 e4 hl e5 (λi H s hi=>(by rw[qG]at hi;exact hi)) (λH s=>(by rw[qG];exact ai _)) (λi H x H' s hi y=>?_) λHf' H' v F t R' r o=>q _ _ _ v F ((t1.trans t2).trans t) R' r (o.back (t1.trans t2))⟩
    obtain⟨y1,y2⟩:=y;rw[qG]at hi;exact⟨y1,_,yW hi,by rw[y2];exact .int⟩
   .cases e2
  .cases e2
 .cases e
theorem yI:FF K XR tL:=by
 intro H₀ Hf₀ Hf S σ H Fs b S' R e Q q;cases e;exact q _ _ _ .refl R
end
mutual
def py:D->Option PyData
 | .non=>some .none
 | .bl b=>some (.bool b)
 | .int i=>some (.int i)
 | .str x=>some (.str x)
 | .list ds=>(DR ds).map .list
 | .tup ds=>(DR ds).map .tuple
 |_=>none
def DR:List D->Option (List PyData)
 | []=>some []
 |d::ds=>(py d).bind λx=>(DR ds).map (x :: ·)
end
section
variable {X:Cx}
theorem xR{h:Heap}:∀{ds:List D}{vs:List V}{its:List Value}{xs:List PyData},(∀(i:Nat) (d:D) (v:V),ds[i]?=some d->vs[i]?=some v->∀u x,oK v u->py d=some x->∃as,Reads h u x as)->ds.length=vs.length->nX vs its->DR ds=some xs->∃as,ReadsAll h its xs as
 | [],vs,its,xs,_,hl,hv,e=>by
  have:vs=[]:=cI.mp hl.symm;subst this;cases hv;simp only[DR]at e;cases e;exact⟨_,.nil⟩
 |d::ds,vs,its,xs,ih,hl,hv,e=>by
  cases vs with
  |nil=>simp at hl
  |cons v vs =>
   cases hv with
   |cons r t =>
    simp only[DR]at e;obtain⟨x,e1,e2⟩:=oBq.mp e;obtain⟨ys,e3,e4⟩:=oMq.mp e2;subst e4;obtain⟨as,h1⟩:=ih 0 d v rfl rfl _ x r e1;obtain⟨bs,h2⟩:=xR (λi d' v' q1 q2=>ih (i+1) d' v' (by simpa using q1) (by simpa using q2)) (by simpa using hl) t e3
    exact⟨_,.cons h1 h2⟩
theorem zh{mV:List (Addr×Obj)}{σ:St}{H:Hp}{s:Shared}(I:Inv X mV σ H s) {d:D}{v:V}(r:pP X.K H d v):∀(u:Value) (x:PyData),oK v u->py d=some x->∃as,Reads s.heap u x as:=by
 induction r with
 |non=>intro u x ru e;cases ru;simp only[py]at e;cases e;exact⟨_,.none⟩
 |bl=>intro u x ru e;cases ru;simp only[py]at e;cases e;exact⟨_,.bool _⟩
 |int=>intro u x ru e;obtain⟨t,rfl⟩:=ru;simp only[py]at e;cases e;exact⟨_,.int _ _⟩
 |str=>intro u x ru e;obtain⟨t,rfl⟩:=ru;simp only[py]at e;cases e;exact⟨_,.str _ _⟩
 |ty=>intro u x ru e;simp only[py]at e;cases e
 |list h l _ ih =>
  intro u x ru e;cases ru;simp only[py]at e;obtain⟨xs,e1,rfl⟩:=oMq.mp e;obtain⟨its,rv,hl,hz⟩:=I.list (qO.of h);obtain⟨o,ho,hc,n,hd⟩:=hl.isList;obtain⟨as,e2⟩:=xR ih l rv e1;exact⟨_,Reads.list ho hc hd (by simpa using e2)⟩
 |tup h l _ ih =>
  intro u x ru e;cases ru;simp only[py]at e;obtain⟨xs,e1,rfl⟩:=oMq.mp e;obtain⟨its,rv,⟨o,ho,hc,n,hd⟩,hz⟩:=I.tuple (FS.of h);obtain⟨as,e2⟩:=xR ih l rv e1;exact⟨_,Reads.tuple ho hc hd (by simpa using e2)⟩
 |dict h l _ ih=>intro u x ru e;simp only[py]at e;cases e
 |fd h l _ ih=>intro u x ru e;simp only[py]at e;cases e
 |scr h=>intro u x ru e;simp only[py]at e;cases e
 |exc rf nf h hx=>intro u x ru e;simp only[py]at e;cases e
 |exc0 rf h=>intro u x ru e;simp only[py]at e;cases e
 |cls h=>intro u x ru e;simp only[py]at e;cases e
 |ins rf h l _ ih=>intro u x ru e;simp only[py]at e;cases e
def SD(K:W.Frag) (neg:Bool):R2:=λx y H Q=>∃(d e:D) (a b:PyData),pP K H d x/\pP K H e y/\py d=some a/\py e=some b/\SeqAt.shaped a=true/\SeqAt.shaped b=true/\SeqAt.noMix a b=true /\
 Q (.bl (if neg then !(PySem.Spec.same a b) else PySem.Spec.same a b)) H
theorem Iy(hu:X.A.units+64<jB):Ds X (jI .Eq) (SD X.K false):=by
 intro mV s σ H x y v u Q I rx ry h;obtain⟨d,e,a,b,h1,h2,p1,p2,s1,s2,nm,q⟩:=h;obtain⟨as,r1⟩:=zh I h1 _ _ rx p1;obtain⟨bs,r2⟩:=zh I h2 _ _ ry p2;exact iI r1 r2 s1 s2 hu nm (oz I q rfl)
theorem N7(hu:X.A.units+64<jB):Ds X (jI .NotEq) (SD X.K true):=by
 intro mV s σ H x y v u Q I rx ry h;obtain⟨d,e,a,b,h1,h2,p1,p2,s1,s2,nm,q⟩:=h;obtain⟨as,r1⟩:=zh I h1 _ _ rx p1;obtain⟨bs,r2⟩:=zh I h2 _ _ ry p2;exact iJ r1 r2 s1 s2 hu nm (oz I q rfl)
end
def yN(d e:D):Option D:=(py d).bind λa=>(py e).bind λb=>if SeqAt.shaped a=true/\SeqAt.shaped b=true/\SeqAt.noMix a b=true then some (.bl (PySem.Spec.same a b)) else none
def Je(d e:D):Option D:=(yN d e).bind Mg
section
variable {K:W.Frag}
theorem Jb:FC K (SD K false) yN:=by
 intro x y H Q dx dy d rx ry e q;obtain⟨a,e1,e⟩:=oBq.mp e;obtain⟨b,e2,e⟩:=oBq.mp e;split at e
 .rename_i h;cases e;exact⟨dx,dy,a,b,rx,ry,e1,e2,h.1,h.2.1,h.2.2,q _ .bl⟩
 .cases e
theorem Pi:FC K (SD K true) Je:=by
 intro x y H Q dx dy d rx ry e q;obtain⟨c,e,e'⟩:=oBq.mp e;obtain⟨a,e1,e⟩:=oBq.mp e;obtain⟨b,e2,e⟩:=oBq.mp e;split at e
 .rename_i h;cases e;cases e';exact⟨dx,dy,a,b,rx,ry,e1,e2,h.1,h.2.1,h.2.2,q _ .bl⟩
 .cases e
end
abbrev dI(ns:List Int):D:=.list (ns.map .int)
abbrev dM(rs:List (List Int)):D:=.list (rs.map dI)
theorem Gy(ns:List Int):DR (ns.map .int)=some (ns.map PyData.int):=by
 induction ns with
 |nil=>simp[DR]
 |cons n ns ih=>simp[DR,py,ih]
theorem Vr(ns:List Int):py (dI ns)=some (uX ns):=by
 show py (.list _)=_;simp only[py,Gy];rfl
theorem Qb(rs:List (List Int)):DR (rs.map dI)=some (rs.map uX):=by
 induction rs with
 |nil=>simp[DR]
 |cons r rs ih =>
  show DR (dI r::rs.map dI)=_;simp only[DR,Vr,ih];rfl
theorem WB(rs:List (List Int)):py (dM rs)=some (zE rs):=by
 show py (.list _)=_;simp only[py,Qb];rfl
theorem Ce(r:List Int):SeqAt.shaped (uX r)=true:=by
 have h2:=W.depthAll_ints r;have h3:PyData.depth (uX r)<=64:=by simp only[uX,PyData.depth];lia
 show (PyData.canLay0 (uX r) && decide (PyData.depth (uX r)<=64))=true;rw[dC];exact⟨by simp only[uX,PyData.canLay0];exact W.canLayAll0_ints r,decide_eq_true h3⟩
@[simp] theorem Zm (ns ms:List Int):yN (dI ns) (dI ms)=some (.bl (decide (ns=ms))):=by
 unfold yN;rw[Vr,Vr];show (if _ then _ else _)=_
 rw[nP ⟨Ce ns,Ce ms,by simp only[uX,SeqAt.noMix];exact W.noMix_ints ns ms⟩]
 simp only[uX,PySem.Spec.same,W.same_ints]
@[simp] theorem NI (rs ts:List (List Int)):yN (dM rs) (dM ts)=some (.bl (decide (rs=ts))):=by
 unfold yN;rw[WB,WB];show (if _ then _ else _)=_
 rw[nP ⟨Ba rs,Ba ts,by simp only[zE,SeqAt.noMix];exact CG rs ts⟩]
 simp only[zE,PySem.Spec.same,El]
@[simp] theorem U6 (rs ts:List (List Int)):Je (dM rs) (dM ts)=some (.bl (!decide (rs=ts))):=by unfold Je;rw[NI];rfl
def zP(l:ML):MK:=λS=>(l S).map λx=>(.ow (x.1.map .sh),x.2)
def Zp(l:ML):MK:=λS=>(l S).bind λx=>(qi x.1).map λns=>(.ow ((wu ns).map λn=>.sh (.int n)),x.2)
def HZ:List D->Option (List (List Int))
 | []=>some []
 | .list ds::es=>(qi ds).bind λr=>(HZ es).map (r :: ·)
 |_=>none
def Y6(l:ML):MK:=λS=>(l S).bind λx=>(HZ x.1).map λrs=>(.ow ((yZ rs).map λr=>.sh (dI r)),x.2)
section
variable {K:W.Frag}{te:TE}{l:ML}
theorem Bw(hl:SQ K te l):SK K (QC (λxs H Q=>∃p ys,xs=[.ref p]/\(qO K H p ys∨FS K H p ys)/\∀l,H l=none->Q (.ref l) (oB H l (.lst ys))) (ri te uZ)) (zP l):=by
 intro H₀ Hf₀ Hf S σ H Fs av S' R e Q q;obtain⟨x,e1,e⟩:=oMq.mp e;cases e;refine hl R (ds:=x.1) (S':=x.2) e1 _ λHf1 H1 Fs1 p1 vs1 t1 R1 h1 r1=>⟨p1,vs1,rfl,.inl h1,λp hp=>?_⟩
 obtain⟨t4,R4,n1,n2,n3⟩:=R1.new (o:=.lst vs1) hp;exact q _ _ _ (.ref p) [p] (t1.trans t4) R4 (nV.new nB n1 r1) ((wV.one R1 hp).back t1)
theorem Bb(ns:List Int):(ns.map λn=>AV.sh (.int n))=(ns.map D.int).map .sh:=by rw[mPq];rfl
end
def Xw:String->D->Bool
 |T,.list _=>T == "list"
 |T,.scr _=>T == "list"
 |T,.str _=>T == "str"
 |_,_=>false
def Yi(T:String) (f:D->List D->Option D) (a:ME) (as:ML):ME:=λS=>(a S).bind λx=>if Xw T x.1=true then (as x.2).bind λy=>(f x.1 y.1).map λd=>(d,y.2) else none
def Zv(K:W.Frag) (r:V->List V->Hp->VK->Prop) (f:D->List D->Option D):Prop:=∀{x:V}{vs:List V}{H:Hp}{Q:VK}{dx:D}{ds:List D}{d:D},pP K H dx x->oq K H ds vs->f dx ds=some d->(∀v,pP K H d v->Q v H)->r x vs H Q
section
variable {K:W.Frag}{te:TE}{ta:TA}{a:ME}{as:ML}{r:V->List V->Hp->VK->Prop}{f:D->List D->Option D}{T:String}
theorem Ui{H:Hp}{d:D}{v:V}(h:Xw T d=true) (rv:pP K H d v):X6 K T v H:=by
 cases rv <;> simp only[Xw]at h
 all_goals first|(exfalso;simp at h;done)|skip
 .exact eq_of_beq h
 .rename_i p vs ds h1 l e;exact .inl ⟨eq_of_beq h,vs,qO.of h1⟩
 .rename_i p ns h1;exact .inl ⟨eq_of_beq h,_,h1⟩
theorem Tc(hr:Zv K r f) (ha:SR K te a) (hs:QD K ta as):SR K (NU K T r te ta) (Yi T f a as):=by
 intro H₀ Hf₀ Hf S σ H Fs d S' R e Q q;obtain⟨x,e1,e⟩:=oBq.mp e;split at e
 .rename_i hT;obtain⟨y,e2,e⟩:=oBq.mp e;obtain⟨z,e3,e⟩:=oMq.mp e;cases e;refine ha R (d:=x.1) (S':=x.2) e1 _ λHf1 H1 Fs1 v t1 R1 r1=>⟨Ui hT r1,hs R1 (ds:=y.1) (S':=y.2) e2 _ λHf2 H2 Fs2 vs t2 R2 r2=>?_⟩
  exact hr (r1.mono t2.sh) r2 e3 λv rv=>q _ _ _ v (t1.trans t2) R2 rv
 .cases e
def AB:D->List D->Option D
 | .list ds,[.int k]=>(qi ds).bind λns=>if k∈ns then some (.int (ns.idxOf k:Nat)) else none
 |_,_=>none
theorem Hh:Zv K (Nu K) AB:=by
 intro x vs H Q dx ds d rx rs e q;unfold AB at e;split at e
 .rename_i es k;obtain⟨ns,e1,e⟩:=oBq.mp e;split at e
  .rename_i hk;cases e;obtain⟨v,ws,rfl,h1,h2⟩:=rs.cons_inv;rw[h2.nil_inv];cases h1;rw[ud e1]at rx;obtain⟨p,us,rfl,h3,h4⟩:=rx.list_inv;rw[qP h4]at h3;exact⟨p,ns,k,rfl,rfl,qO.of h3,hk,q _ .int⟩
  .cases e
 .cases e
def Z2(a:ME):ME:=λS=>(a S).bind λx=>match x.1 with
 | .list ds=>(HZ ds).map λrs=>(.int (rs.countP (·=([]:List Int)):Nat),x.2)
 |_=>none
def Zk:D->Option Bool
 | .non=>some false
 | .bl b=>some b
 | .int i=>some (i != 0)
 | .list ds=>some (!ds.isEmpty)
 | .tup ds=>some (!ds.isEmpty)
 | .dict ds=>some (!ds.isEmpty)
 |_=>none
def aac(a:ME):MT:=λS=>(a S).bind λx=>(Zk x.1).map λb=>(b,x.2)
end
def oy:AV->List Nat->Option (List AV)
 | .ow avs,[]=>some avs
 | .ow avs,j::js=>(avs[j]?).bind λa=>oy a js
 |_,_=>none
def putAt:AV->List Nat->List AV->AV
 | .ow _,[],as=>.ow as
 | .ow avs,j::js,as=>match avs[j]? with
  |some a=>.ow (avs.set j (putAt a js as))
  |none=>.ow avs
 |a,_,_=>a
def FL(H:Hp):V->List Nat->V->Prop
 |v,[],w=>v=w
 |v,j::js,w=>∃p vs u,v = .ref p/\H p=some (.lst vs)/\vs[j]?=some u/\FL H u js w
section
variable {K:W.Frag}{H₀ Hf₀ Hf Hf' H H':Hp}{S S':AS}{σ:St}{Fs Fs':List (List Addr)}
theorem wQ:∀{Fs:List (List Addr)}{F G:List Addr}(i:Nat),Fs.flatten.Nodup->Fs[i]?=some G->F.Nodup->(∀p∈F,p∈G∨p∉Fs.flatten)->(Fs.set i F).flatten.Nodup
 | [],F,G,i,h,e,_,_=>by simp at e
 |E::Gs,F,G,0,h,e,hF,hd=>by
  simp at e;subst e;rw[cT,fCq,nAq];rw[fCq,nAq]at h;refine⟨hF,h.2.1,λa ha b hb e=>?_⟩
  subst e;rcases hd a ha with z|z
  .exact h.2.2 a z a hb rfl
  .exact z (by rw[fCq];exact aE _ hb)
 |E::Gs,F,G,i+1,h,e,hF,hd=>by
  rw[eJ,fCq,nAq];rw[fCq,nAq]at h;have e':Gs[i]?=some G:=by simpa using e
  refine⟨h.1,wQ i h.2.1 e' hF λp hp=>(hd p hp).imp id λz m=>z (by rw[fCq];exact aE _ m),λa ha b hb e=>?_⟩
  subst e;rcases qH hb with q|q
  .rcases hd a q with z|z
   .exact h.2.2 a ha a (mFq.mpr ⟨G,mGq e',z⟩) rfl
   .exact z (by rw[fCq];exact aU _ ha)
  .exact h.2.2 a ha a q rfl
theorem CK:∀{Fs:List (List Addr)}{F G:List Addr}{i j:Nat}{p:Addr},Fs.flatten.Nodup->Fs[i]?=some F->Fs[j]?=some G->i≠j->p∈F->p∉G
 | [],F,G,i,j,p,_,e,_,_,_,_=>by simp at e
 |E::Es,F,G,0,0,p,h,e,f,n,_,_=>n rfl
 |E::Es,F,G,0,j+1,p,h,e,f,n,hp,m=>by
  simp at e;subst e;rw[fCq,nAq]at h;exact h.2.2 p hp p (mFq.mpr ⟨G,mGq (i:=j) (by simpa using f),m⟩) rfl
 |E::Es,F,G,i+1,0,p,h,e,f,n,hp,m=>by
  simp at f;subst f;rw[fCq,nAq]at h;exact h.2.2 p m p (mFq.mpr ⟨F,mGq (i:=i) (by simpa using e),hp⟩) rfl
 |E::Es,F,G,i+1,j+1,p,h,e,f,n,hp,m=>by
  rw[fCq,nAq]at h;exact CK h.2.1 (i:=i) (j:=j) (by simpa using e) (by simpa using f) (λz=>n (by rw[z])) hp m
theorem nV.path:∀{path:List Nat}{av:AV}{v:V}{F:List Addr}{as:List AV},nV K Hf H av v F->F.Nodup->oy av path=some as->∃p vs Gs,FL H v path (.ref p)/\H p=some (.lst vs)/\Hf p=none/\nU K Hf H as vs Gs/\p∈F/\p∉Gs.flatten/\Gs.flatten.Nodup/\(∀q∈Gs.flatten,q∈F) /\
  ∀as' vs' Gs',nU K Hf (oB H p (.lst vs')) as' vs' Gs'->(p::Gs'.flatten).Nodup->(∀q∈Gs'.flatten,q∈Gs.flatten∨q∉F)->∃F',nV K Hf (oB H p (.lst vs')) (putAt av path as') v F'/\F'.Nodup/\∀q∈F',q∈F∨q∈Gs'.flatten
 | [],av,v,F,as,r,nd,e=>by
  cases av with
  |ow avs =>
   cases e;obtain⟨p,vs,Gs,rfl,rfl,h1,h2,h3⟩:=r.ow_inv;have n:=aA.mp nd;refine⟨p,vs,Gs,rfl,h1,h2,h3,by simp,n.1,n.2,λq hq=>mCo _ hq,λas' vs' Gs' r' nd' _=>⟨p::Gs'.flatten,nV.news nB h2 r',nd',λq hq=>?_⟩⟩
   rcases ao.mp hq with z|z
   .exact .inl (by rw[z];simp)
   .exact .inr z
  |_=>cases e
 |j::js,av,v,F,as,r,nd,e=>by
  cases av with
  |ow avs =>
   obtain⟨a,e1,e2⟩:=oBq.mp (show (avs[j]?).bind (λa=>oy a js)=some as from e)
   obtain⟨p0,vs0,Gs0,rfl,rfl,h1,h2,h3⟩:=r.ow_inv;have n:=aA.mp nd;have hj:j<avs.length:=(gSq.mp e1).1;have hv:vs0[j]?=some (vs0[j]'(h3.1 ▸ hj)):=gEg _;have hg:Gs0[j]?=some (Gs0[j]'(h3.2.1 ▸ hj)):=gEg _;generalize vs0[j]'(h3.1 ▸ hj)=vj at hv;generalize Gs0[j]'(h3.2.1 ▸ hj)=Fj at hg;have rj:=h3.2.2 j a vj Fj e1 hv hg;have ndj:Fj.Nodup:=cZ.sublist (bf (mGq hg)) n.2;have sub:∀q∈Fj,q∈Gs0.flatten:=λq hq=>oA hg hq
   obtain⟨p,vs,Gs,g1,g2,g3,g4,g5,g6,g6',g7,g8⟩:=nV.path rj ndj e2;have pne:p0≠p:=λz=>n.1 (z ▸ sub p g5)
   refine⟨p,vs,Gs,⟨p0,vs0,vj,rfl,h1,hv,g1⟩,g2,g3,g4,mCo _ (sub p g5),g6,g6',λq hq=>mCo _ (sub q (g7 q hq)),λas' vs' Gs' r' nd' hd=>?_⟩
   obtain⟨F',k1,k2,k3⟩:=g8 as' vs' Gs' r' nd' λq hq=>(hd q hq).imp id λz m=>z (mCo _ (sub q m))
   have hF':∀q∈F',q∈Fj∨q∉Gs0.flatten:=λq hq=>by
    rcases k3 q hq with z|z
    .exact .inl z
    .rcases hd q z with y|y
     .exact .inl (g7 q y)
     .exact .inr λm=>y (mCo _ m)
   refine⟨p0::(Gs0.set j F').flatten,?_,aA.mpr ⟨λm=>?_,wQ j n.2 hg k2 hF'⟩,λq hq=>?_⟩
   .show nV K Hf (oB H p (.lst vs')) (match avs[j]? with|some a=>.ow (avs.set j (putAt a js as'))|none=>.ow avs) (.ref p0) _
    rw[e1];refine .ow (vs:=vs0) (by rw[ni pne];exact h1) h2 (by rw[lZq];exact h3.1) (by rw[lZq,lZq];exact h3.2.1) λi b w G q1 q2 q3=>?_
    rw[bh]at q1 q3
    by_cases hij:j=i
    .subst hij;rw[nP rfl,nP hj]at q1;rw[nP rfl,nP (h3.2.1 ▸ hj)]at q3;rw[hv]at q2;cases q1;cases q2;cases q3;exact k1
    .rw [nQ hij]at q1 q3;exact(h3.2.2 i b w G q1 q2 q3).keepUpd λm=>CK n.2 hg q3 hij g5 m
   .rcases qH m with z|z
    .rcases k3 p0 z with y|y
     .exact n.1 (sub p0 y)
     .rcases hd p0 y with x|x
      .exact n.1 (sub p0 (g7 p0 x))
      .exact x (by simp)
    .exact n.1 z
   .rcases ao.mp hq with z|z
    .exact .inl (by rw[z];simp)
    .rcases qH z with z|z
     .exact (k3 q z).imp (λy=>mCo _ (sub q y)) id
     .exact .inl (mCo _ z)
  |_=>cases e
theorem og.turnAny(R:og K H₀ Hf₀ Hf S σ H Fs) {i:Nat}{av:AV}{p:Addr}{o:HO}{v:V}{F F':List Addr}(s1:σ[i]?=some (some v)) (s2:Fs[i]?=some F) (hp:p∈F) (r:nV K Hf (oB H p o) av v F') (nd:F'.Nodup)
  (hf:∀q∈F',H₀ q=none/\q∉(Fs.set i []).flatten):og K H₀ Hf₀ Hf (S.set i (some av)) σ (oB H p o) (Fs.set i F'):=by
 have hin:p∈Fs.flatten:=mFq.mpr ⟨F,mGq s2,hp⟩;have pn:Hf p=none:=(R.mem hin).2;have p0:H₀ p=none:=R.fresh p hin;have out:=sH R.nd s2 hp;have R1:og K H₀ Hf₀ Hf (S.set i none) σ (oB H p o) (Fs.set i []):=by
  refine⟨by simp[R.len],by simp[R.lenF],λj a ej=>?_,λj ej=>?_,pU i R.nd aT (λp hp=>by cases hp),λp hp=>R.fresh p (pd hp),λb u e=>?_,λb u e=>?_,R.lim,R.sf⟩
  .rw [bh]at ej
   by_cases hij:i=j
   .subst hij;rw[nP rfl]at ej;split at ej <;> cases ej
   .rw [nQ hij]at ej;obtain⟨w,G,f1,f2,q⟩:=R.rep j a ej;refine⟨w,G,f1,by rw[ar hij];exact f2,q.keep (.refl _) (λc hc=>ni λe=>out ?_) λc hc=>(q.owned c hc).2⟩
    subst e;exact mFq.mpr ⟨G,mGq (i:=j) (by rw[ar hij];exact f2),hc⟩
  .rw [bh]at ej
   by_cases hij:i=j
   .subst hij;rw[nP rfl]at ej;split at ej
    .rename_i hi;rw[aG (R.lenF.symm ▸ hi)]
    .cases ej
   .rw [nQ hij]at ej;rw[ar hij];exact R.emp j ej
  .rw [ni λz=>by rw[z,pn]at e;cases e]
   exact R.sub b u e
  .rw [ni λz=>by rw[z,p0]at e;cases e]
   exact R.fr b u e
 exact R1.again (F:=F) s1 r nd hf
theorem og.kill(R:og K H₀ Hf₀ Hf S σ H Fs) (x:Nat):og K H₀ Hf₀ Hf (S.set x none) σ H (Fs.set x []):=by
 refine⟨by simp[R.len],by simp[R.lenF],λj a ej=>?_,λj ej=>?_,pU x R.nd aT (λp hp=>by cases hp),λp hp=>R.fresh p (pd hp),R.sub,R.fr,R.lim,R.sf⟩
 .rw [bh]at ej
  by_cases hij:x=j
  .subst hij;rw[nP rfl]at ej;split at ej <;> cases ej
  .rw [nQ hij]at ej;obtain⟨w,G,f1,f2,q⟩:=R.rep j a ej;exact⟨w,G,f1,by rw[ar hij];exact f2,q⟩
 .rw [bh]at ej
  by_cases hij:x=j
  .subst hij;rw[nP rfl]at ej;split at ej
   .rename_i hi;rw[aG (R.lenF.symm ▸ hi)]
   .cases ej
  .rw [nQ hij]at ej;rw[ar hij];exact R.emp j ej
theorem og.any(R:og K H₀ Hf₀ Hf (S.set x none) σ H Fs) (v:V):og K H₀ Hf₀ Hf (S.set x none) (σ.set x (some v)) H Fs where
 len:=by rw[R.len,lZq]
 lenF:=R.lenF
 rep:=λi av e=>by
  by_cases hij:x=i
  .subst hij;rw[bh]at e;rw[nP rfl]at e;split at e <;> cases e
  .obtain ⟨w,G,f1,f2,q⟩:=R.rep i av e;exact⟨w,G,by rw[ar hij];exact f1,f2,q⟩
 emp:=R.emp
 nd:=R.nd
 fresh:=R.fresh
 sub:=R.sub
 fr:=R.fr
 lim:=R.lim
 sf:=R.sf
end
def xT(d:D):List AV->Option (List AV)
 | []=>some []
 | .ow as::r=>tM (as.length<qp) ((xT d r).map (.ow (as++[.sh d]) :: ·))
 |_=>none
section
variable {K:W.Frag}
theorem BZ{d:D}:∀{avs bs:List AV}{j:Nat}{a:AV},xT d avs=some bs->avs[j]?=some a->∃as,a = .ow as/\as.length<qp/\bs[j]?=some (.ow (as++[.sh d]))
 | [],bs,j,a,_,h=>by simp at h
 |b::r,bs,j,a,e,h=>by
  cases b with
  |ow as =>
   simp only[xT]at e;rcases nT e with ⟨hl,e⟩|e
   .obtain ⟨cs,e1,e2⟩:=oMq.mp e;subst e2;cases j with
    |zero =>
     simp at h;subst h;exact⟨as,rfl,hl,rfl⟩
    |succ j=>exact BZ (j:=j) e1 (by simpa using h)
   .cases e
  |_=>cases e
theorem Dk{d:D}:∀{avs bs:List AV},xT d avs=some bs->bs.length=avs.length
 | [],bs,e=>by cases e;rfl
 |b::r,bs,e=>by
  cases b with
  |ow as =>
   simp only[xT]at e;rcases nT e with ⟨hl,e⟩|e
   .obtain ⟨cs,e1,e2⟩:=oMq.mp e;subst e2;simp[Dk e1]
   .cases e
  |_=>cases e
end
abbrev aI(ns:List Int):AV:=.ow (ns.map λn=>.sh (.int n))
def Bc:List AV->Option (List Int)
 | []=>some []
 | .sh (.int i)::r=>(Bc r).map (i :: ·)
 |_=>none
def Cr:List AV->Option (List (List Int))
 | []=>some []
 | .ow as::r=>(Bc as).bind λns=>(Cr r).map (ns :: ·)
 |_=>none
theorem G5:∀{as:List AV}{ns:List Int},Bc as=some ns->as=ns.map λn=>.sh (.int n)
 | [],ns,h=>by cases h;rfl
 |a::as,ns,h=>by
  cases a with
  |sh d =>
   cases d with
   |int i =>
    obtain⟨ms,h1,h2⟩:=oMq.mp (show (Bc as).map (i :: ·)=some ns from h)
    subst h2;rw[G5 h1];rfl
   |_=>cases h
  |_=>cases h
theorem Hb:∀{as:List AV}{rs:List (List Int)},Cr as=some rs->as=rs.map aI
 | [],rs,h=>by cases h;rfl
 |a::as,rs,h=>by
  cases a with
  |ow es =>
   obtain⟨r,h1,h⟩:=oBq.mp (show (Bc es).bind (λns=>(Cr as).map (ns :: ·))=some rs from h)
   obtain⟨ts,h2,h3⟩:=oMq.mp h;subst h3;rw[Hb h2,G5 h1];rfl
  |_=>cases h
@[simp] theorem L1 (ns:List Int):Bc (ns.map λn=>.sh (.int n))=some ns:=by
 induction ns with
 |nil=>rfl
 |cons n ns ih=>show (Bc (ns.map λn=>.sh (.int n))).map (n :: ·)=_;rw[ih];rfl
@[simp] theorem K6 (rs:List (List Int)):Cr (rs.map aI)=some rs:=by
 induction rs with
 |nil=>rfl
 |cons r rs ih=>show (Bc (r.map λn=>.sh (.int n))).bind (λns=>(Cr (rs.map aI)).map (ns :: ·))=_;rw[L1,ih];rfl
def EE(k:MK):MK:=λS=>(k S).bind λx=>match x.1 with
 | .ow avs=>(Cr avs).map λrs=>(.ow ((yZ rs).map aI),x.2)
 |_=>none
section
variable {K:W.Frag}{Hf H:Hp}
theorem Jp{ns:List Int}{v:V}{F:List Addr}(h:nV K Hf H (aI ns) v F):∃p,v = .ref p/\F=[p]/\H p=some (.lst (ns.map V.int))/\Hf p=none:=by
 obtain⟨p,vs,Gs,rfl,rfl,h1,h2,h3⟩:=h.ow_inv;have e:∀{ns:List Int}{vs:List V}{Gs:List (List Addr)},nU K Hf H (ns.map λn=>AV.sh (.int n)) vs Gs->vs=ns.map V.int/\Gs.flatten=[]:=by
  intro ns
  induction ns with
  |nil =>
   intro vs Gs h;obtain⟨a,b⟩:=h.nil_inv;exact⟨a,by rw[b];rfl⟩
  |cons n ns ih =>
   intro vs Gs h;obtain⟨v,ws,F,Gs',rfl,rfl,r1,r2⟩:=nU.cons_inv (a:=.sh (.int n)) h;obtain⟨f1,f2⟩:=r1.sh_inv;subst f1;cases f2;obtain⟨g1,g2⟩:=ih r2;rw[g1];exact⟨rfl,by rw[fCq,g2];rfl⟩
 obtain⟨e1,e2⟩:=e h3;rw[e2];subst e1;exact⟨p,rfl,rfl,h1,h2⟩
theorem Vp{ns:List Int}{p:Addr}(h1:H p=some (.lst (ns.map V.int))) (h2:Hf p=none):nV K Hf H (aI ns) (.ref p) [p]:=by
 have:=nV.new (K:=K) (Hf:=Hf) (H:=H) (ds:=ns.map D.int) h1 h2 (rR ns);rw[←Bb]at this;exact this
theorem xr:∀{rs:List (List Int)}{vs:List V}{Gs:List (List Addr)},nU K Hf H (rs.map aI) vs Gs->∃ps,vs=ps.map V.ref/\Gs=ps.map (λp=>[p])/\qw H ps rs/\∀p∈ps,Hf p=none
 | [],vs,Gs,h=>by
  obtain⟨a,b⟩:=h.nil_inv;exact⟨[],a,b,.nil,λp hp=>by cases hp⟩
 |r::rs,vs,Gs,h=>by
  obtain⟨v,ws,F,Gs',rfl,rfl,r1,r2⟩:=nU.cons_inv (a:=aI r) (as:=rs.map aI) h;obtain⟨p,rfl,rfl,h1,h2⟩:=Jp r1;obtain⟨ps,rfl,rfl,h3,h4⟩:=xr r2;exact⟨p::ps,rfl,rfl,qw.cons_iff.mpr ⟨h1,h3⟩,λq hq=>(ao.mp hq).elim (λe=>e ▸ h2) (h4 q)⟩
theorem Dj:∀{rs:List (List Int)}{ps:List Addr},qw H ps rs->(∀p∈ps,Hf p=none)->nU K Hf H (rs.map aI) (ps.map V.ref) (ps.map λp=>[p])
 | [],[],_,_=>.nil
 | [],_::_,h,_=>by have:=h.length;simp at this
 |_::_,[],h,_=>by have:=h.length;simp at this
 |r::rs,p::ps,h,n=>by
  obtain⟨h1,h2⟩:=qw.cons_iff.mp h;exact .cons (Vp h1 (n p (by simp))) (Dj h2 λq hq=>n q (mCo _ hq))
theorem zb(ps:List Addr):(ps.map λp=>[p]).flatten=ps:=by
 induction ps with
 |nil=>rfl
 |cons p ps ih=>rw[aB,fCq,ih];rfl
theorem MC{te:TE}{k:MK}(hk:SK K te k):SK K (QC (λxs H Q=>∃(a:Addr) (ps:List Addr) (rs:List (List Int)),xs=[.ref a]/\qO K H a (ps.map V.ref)/\qw H ps rs /\
  ∀p qs,H p=none->qs.Perm ps->qw (oB H p (.lst (qs.map V.ref))) qs (yZ rs)->Q (.ref p) (oB H p (.lst (qs.map V.ref)))) (ri te uZ)) (EE k):=by
 intro H₀ Hf₀ Hf S σ H Fs av S' R e Q q;obtain⟨x,e1,e⟩:=oBq.mp e;refine hk R (a:=x.1) (S':=x.2) e1 _ λHf1 H1 Fs1 v F t1 R1 r1 o1=>?_
 split at e
 .rename_i avs hx;obtain⟨rs,e2,e⟩:=oMq.mp e;cases e;rw[hx,Hb e2]at r1;obtain⟨p0,vs,Gs,rfl,rfl,h1,h2,h3⟩:=r1.ow_inv;obtain⟨ps,rfl,rfl,hE,hn⟩:=xr h3;rw[zb]at o1;refine⟨p0,ps,rs,rfl,qO.of h1,hE,λp qs hp hq hE2=>?_⟩
  obtain⟨t4,R4,n1,n2,n3⟩:=R1.new (o:=.lst (qs.map V.ref)) hp;have pq:p∉qs:=λm=>hE.free (H:=H1) hp (hq.mem_iff.mp m)
  have hm:∀z∈qs,z∈p0::ps:=λz hz=>mCo _ (hq.mem_iff.mp hz)
  refine q _ _ _ (.ref p) (p::(qs.map λp=>[p]).flatten) (t1.trans t4) R4 (nV.news nB n1 (Dj hE2 λz hz=>hn z (hq.mem_iff.mp hz))) ?_
  rw[zb];refine⟨aA.mpr ⟨pq,hq.nodup_iff.mpr (aA.mp o1.nd).2⟩,λz hz=>?_,λz hz=>?_,λz hz=>?_⟩
  .rcases ao.mp hz with y|y
   .rw [y];exact n2
   .exact o1.fr z (hm z y)
  .rcases ao.mp hz with y|y
   .rw [y];exact n3
   .exact o1.out z (hm z y)
  .rcases ao.mp hz with y|y
   .rw [y];exact .inl (t1.sh.free hp)
   .exact o1.new z (hm z y)
 .cases e
def O3:AV->Option D
 | .sh d=>if d.scal=true then some d else none
 |_=>none
def tK(f:MF) (a:ML):ME:=λS=>(a S).bind λx=>(f x.1).bind λr=>(O3 r).map λd=>(d,x.2)
theorem sV{f:MF}{ta:TA}{a:ML}(ha:QD K ta a):SR K (yy (pE K f) [] E0 ta) (tK f a):=by
 intro H₀ Hf₀ Hf S σ H Fs d S' R e Q q;obtain⟨x,e1,e⟩:=oBq.mp e;obtain⟨r,e2,e⟩:=oBq.mp e;obtain⟨z,e3,e⟩:=oMq.mp e;cases e;refine ha R (ds:=x.1) (S':=x.2) e1 _ λHf1 H1 Fs1 vs t1 R1 r1=>?_
 rw[aNq];refine⟨H1,x.1,r,.refl _,r1,e2,λHf' H' v F s1 s2 s3 l rv nd fr=>?_⟩
 have t2:wW Hf1 H1 Fs1 Hf1 H' Fs1:=⟨.refl _,s2,λ_ h=>h,λb h g=>absurd h g⟩
 cases r with
 |sh d' =>
  simp only[O3]at e3;split at e3
  .rename_i hs;cases e3;exact q _ _ _ v (t1.trans t2) (R1.laid s2) (rv.sh_inv.2.scal hs)
  .cases e3
 |_=>cases e3
end
section
variable (S:AS)
@[simp] theorem V9 (i:Nat):nj i S=(S[i]?.join).map λa=>(ny a,S):=rfl
@[simp] theorem Xa (i:Nat):ot i S=(S[i]?.join).map λa=>(.sh (ny a),S.set i (some (.sh (ny a)))):=rfl
@[simp] theorem Wt (i:Nat):Cs i S=(S[i]?.join).map λa=>(a,S.set i none):=rfl
@[simp] theorem YQ (k:MK):rOf k S=(k S).map λx=>(ny x.1,x.2):=rfl
@[simp] theorem Y0 (m:ME):kSc m S=(m S).bind λx=>if x.1.scal then some (.sh x.1,x.2) else none:=rfl
@[simp] theorem Ws (k:MK):uK k S=(k S).map λx=>(.sh (ny x.1),x.2):=rfl
@[simp] theorem Z6 (d:D):rC d S=if d.scal then some (d,S) else none:=rfl
@[simp] theorem Za (f:D->D->Option D) (a b:ME):oU f a b S=(a S).bind λx=>(b x.2).bind λy=>(f x.1 y.1).map λd=>(d,y.2):=rfl
@[simp] theorem Zi (f:D->Option D) (a:ME):Kg f a S=(a S).bind λx=>(f x.1).map λd=>(d,x.2):=rfl
@[simp] theorem WT (a:ME):SI a S=(a S).bind λx=>(Mg x.1).map λd=>(d,x.2):=rfl
@[simp] theorem UR (a b:MT):CI a b S=(a S).bind λx=>if x.1=true then b x.2 else some (false,x.2):=rfl
@[simp] theorem XD (a b:MT):Lm a b S=(a S).bind λx=>if x.1=true then some (true,x.2) else b x.2:=rfl
@[simp] theorem Ut (a:MT):yx a S=(a S).map λx=>(!x.1,x.2):=rfl
def UK:D->Option Bool
 | .bl b=>some b
 |_=>none
@[simp] theorem Y5 (a:ME):sI a S=(a S).bind λx=>(UK x.1).map λb=>(b,x.2):=by
 show (a S).bind _=_;congr 1;funext x;obtain⟨d,S'⟩:=x;cases d <;> rfl
@[simp] theorem WY (a b:ME):LH a b S=(a S).bind λx=>(UK x.1).bind λc=>if c=true then b x.2 else some (.bl false,x.2):=by
 show (a S).bind _=_;congr 1;funext x;obtain⟨d,S'⟩:=x;cases d <;> try rfl
 rename_i c;cases c <;> rfl
@[simp] theorem Q1 (b:Bool):UK (.bl b)=some b:=rfl
@[simp] theorem Wx:oM S=some ([],S):=rfl
@[simp] theorem UY (k:MK) (r:MA):nH k r S=(k S).bind λx=>(r x.2).map λy=>(x.1::y.1,y.2):=rfl
@[simp] theorem T6:nI S=some ([],S):=rfl
@[simp] theorem Q4 (k:ME) (r:ML):nh k r S=(k S).bind λx=>(r x.2).map λy=>(x.1::y.1,y.2):=rfl
@[simp] theorem W1 (a:MA):tH a S=(a S).bind λx=>tM (x.1.length<=qp) (some (.ow x.1,x.2)):=rfl
@[simp] theorem Wi (a:MA):QS a S=(a S).bind λx=>tM (x.1.length<=qp) (some (.sh (.tup (x.1.map ny)),x.2)):=rfl
@[simp] theorem XQ (a b:ML):Pt a b S=(a S).bind λx=>(b x.2).bind λy=>tM (x.1.length+y.1.length<=qp) (some (.ow ((x.1++y.1).map .sh),y.2)):=rfl
@[simp] theorem VC:C3 S=some (none,S):=rfl
@[simp] theorem U5 (m:ME):zR m S=(m S).bind λx=>(intOf x.1).map λi=>(some i,x.2):=by
 show (m S).bind _=_;congr 1;funext x;obtain⟨d,S'⟩:=x;cases d <;> rfl
@[simp] theorem M1 (i:Int):intOf (.int i)=some i:=rfl
@[simp] theorem YY (l:ML) (lo hi:MO):Tt l lo hi S=(l S).bind λx=>(lo x.2).bind λy=>(hi y.2).map λz=>(.ow ((yP x.1 y.1 z.1).map .sh),z.2):=rfl
@[simp] theorem Ze (l:ML) (b:ME):OW l b S=(l S).bind λx=>(b x.2).bind λy=>(intOf y.1).bind λi=>(atI x.1 i).map λd=>(.sh d,y.2):=by
 show (l S).bind _=_;congr 1;funext x;show (b x.2).bind _=_;congr 1;funext y;obtain⟨d,S'⟩:=y;cases d <;> rfl
@[simp] theorem YS (f:List D->Option D) (a:ML):tO f a S=(a S).bind λx=>(f x.1).map λd=>(d,x.2):=rfl
@[simp] theorem VN (f:MF) (a:MA):qo f a S=(a S).bind λx=>(f (x.1.map ny)).map λr=>(r,x.2):=rfl
@[simp] theorem Vv (f:MF) (a:ML):tK f a S=(a S).bind λx=>(f x.1).bind λr=>(O3 r).map λd=>(d,x.2):=rfl
@[simp] theorem VD:qC S=some (.nx S):=rfl
def Nd(o:Option DS) (b:MS):Option DS:=o.bind λo=>match o with
 | .nx S'=>b S'
 |o=>some o
@[simp] theorem NB (b:MS):Nd (some (.nx S)) b=b S:=rfl
@[simp] theorem PZ (a:AV) (b:MS):Nd (some (.rt a)) b=some (.rt a):=rfl
@[simp] theorem We (a b:MS):nY a b S=Nd (a S) b:=rfl
@[simp] theorem Xz (i:Nat) (k:MK):pI i k S=(k S).map λx=>.nx (x.2.set i (some x.1)):=rfl
@[simp] theorem Xx (k:MK):qR k S=(k S).map λx=>.rt x.1:=rfl
@[simp] theorem Yq (c:MT) (a b:MS):Be c a b S=(c S).bind λx=>if x.1=true then a x.2 else b x.2:=rfl
@[simp] theorem Xj (i:Nat) (k:MK):Aw i k S=(pS S i).bind λ_=>(k S).bind λx=>(pS x.2 i).bind λavs=>tM (avs.length<qp) (some (.nx (x.2.set i (some (.ow (avs++[x.1])))))):=rfl
@[simp] theorem Xq (i:Nat) (l:ML):P7 i l S=(pS S i).bind λ_=>(l S).bind λx=>(pS x.2 i).bind λavs=>tM (avs.length+x.1.length<=qp) (some (.nx (x.2.set i (some (.ow (avs++x.1.map .sh)))))):=rfl
@[simp] theorem UC (i:Nat) (b:ME) (k:MK):zI i b k S=(uK k S).bind λx=>(uM x.2 i).bind λ_=>(b x.2).bind λy=>(uM y.2 i).bind λkvs=>(tQ y.1).bind λkey =>
 tM (kvs.length<qp) (some (.nx (y.2.set i (some (.owd (vh kvs key (ny x.1))))))):=rfl
def dictOf:D->Option (List (nO×D))
 | .dict kvs=>some kvs
 |_=>none
@[simp] theorem Gx (kvs:List (nO×D)):dictOf (.dict kvs)=some kvs:=rfl
@[simp] theorem LQ (i:Int):tQ (.int i)=some (.inl i):=rfl
@[simp] theorem OJ (a b:ME):wA a b S=(a S).bind λx=>(b x.2).bind λy=>(dictOf y.1).bind λkvs=>(tQ x.1).map λkey=>(.bl (!(getD kvs key).isSome),y.2):=by
 show (a S).bind _=_;congr 1;funext x;show (b x.2).bind _=_;congr 1;funext y;obtain⟨d,S'⟩:=y;cases d <;> rfl
@[simp] theorem Ua (a b:ME):xZ a b S=(a S).bind λx=>(b x.2).bind λy=>(dictOf x.1).bind λkvs=>(tQ y.1).bind λkey=>(getD kvs key).map λd=>(d,y.2):=by
 show (a S).bind _=_;congr 1;funext x;show (b x.2).bind _=_;congr 1;funext y;obtain⟨d,S'⟩:=x;cases d <;> rfl
@[simp] theorem Um:En S=some (.owd [],S):=rfl
@[simp] theorem WG (x:Nat) (k:MK) (body:MS):Do x k body S=(uK k S).bind λy=>(sD (ny y.1)).bind λds=>qJ x body ds y.2:=rfl
@[simp] theorem Q2 (x:Nat) (a:ML) (body:MS):CV x a body S=(a S).bind λy=>(CA y.1).bind λds=>qJ x body ds y.2:=rfl
@[simp] theorem UB (x y:Nat) (k:MK) (body:MS):Kh x y k body S=(uK k S).bind λz=>(sD (ny z.1)).bind λds=>AA x y body 0 ds z.2:=rfl
@[simp] theorem Vj (src:MI) (fr:List Nat) (tf:MT) (te:MK):xO src fr tf te S=(src S).bind λy=>(fzAll fr y.2).bind λS2=>(EA S2 fr).bind λcap=>tM (y.1.length<=qp) ((qX tf te cap y.1).map λavs=>(.ow avs,S2)):=rfl
@[simp] theorem XW (k:MK):EC k S=(uK k S).bind λy=>(sD (ny y.1)).map λds=>(ds,y.2):=rfl
@[simp] theorem YT (a:ML):Zc a S=(a S).bind λy=>(CA y.1).map λds=>(ds,y.2):=rfl
@[simp] theorem MV:fzAll [] S=some S:=rfl
@[simp] theorem IZ (j:Nat) (js:List Nat):fzAll (j::js) S=(S[j]?.join).bind λa=>fzAll js (S.set j (some (.sh (ny a)))):=rfl
@[simp] theorem Ou:EA S []=some []:=rfl
@[simp] theorem Lq (j:Nat) (js:List Nat):EA S (j::js)=(UH S[j]?.join).bind λa=>(EA S js).map (some a :: ·):=rfl
@[simp] theorem Vf (l:ML):zP l S=(l S).map λx=>(.ow (x.1.map .sh),x.2):=rfl
def Oj:AV->Option (List AV)
 | .ow avs=>some avs
 |_=>none
@[simp] theorem RY (avs:List AV):Oj (.ow avs)=some avs:=rfl
@[simp] theorem Pp (k:MK):EE k S=(k S).bind λx=>(Oj x.1).bind λavs=>(Cr avs).map λrs=>(.ow ((yZ rs).map aI),x.2):=by
 show (k S).bind _=_;congr 1;funext x;obtain⟨d,S'⟩:=x;cases d <;> rfl
@[simp] theorem Y9 (T:String) (f:D->List D->Option D) (a:ME) (as:ML):Yi T f a as S=(a S).bind λx=>if Xw T x.1=true then (as x.2).bind λy=>(f x.1 y.1).map λd=>(d,y.2) else none:=rfl
def ZZ:D->Option (List D)
 | .list ds=>some ds
 |_=>none
def Wr:AV->Option (List D)
 | .sh (.list ds)=>some ds
 | .ow avs=>some (avs.map ny)
 |_=>none
@[simp] theorem T9 (ds:List D):Wr (.sh (.list ds))=some ds:=rfl
@[simp] theorem VT (avs:List AV):Wr (.ow avs)=some (avs.map ny):=rfl
@[simp] theorem YI (k:MK):lOf k S=(k S).bind λx=>(Wr x.1).map λds=>(ds,x.2):=by
 show (k S).bind _=_;congr 1;funext x;obtain⟨a,S'⟩:=x;cases a with
 |sh d=>cases d <;> rfl
 |_=>rfl
end
def Yp:AV->AV
 | .ow avs=>.ow ((avs.map ny).map .sh)
 |a=>a
@[simp] theorem UF (d:D):Yp (.sh d) = .sh d:=rfl
@[simp] theorem Vm (avs:List AV):Yp (.ow avs) = .ow ((avs.map ny).map .sh):=rfl
theorem CY{S:AS}{i:Nat}{a:AV}(h:S[i]?=some (some a)):S.set i (some a)=S:=by
 obtain⟨hk,ev⟩:=gSq.mp h;rw[←ev];exact dY hk
@[simp] theorem Wo (S:AS) (i:Nat):G9 i S=(S[i]?.join).bind λa=>(Wr a).map λds=>(ds,S.set i (some (Yp a))):=by
 unfold G9;cases e:S[i]?.join with
 |none=>rfl
 |some a =>
  cases a with
  |sh d =>
   cases d with
   |list ds =>
    show some (ds,S)=some (ds,S.set i (some (.sh (.list ds))));rw[CY (ou e)]
   |_=>rfl
  |ow avs=>rfl
  |owd kvs=>rfl
  |owl kvs=>rfl
def Yk:AV->Option (List D)
 | .sh (.scr ns)=>some (ns.map .int)
 |a=>Wr a
@[simp] theorem Rn (ns:List Int):Yk (.sh (.scr ns))=some (ns.map .int):=rfl
@[simp] theorem Vl (ds:List D):Yk (.sh (.list ds))=some ds:=rfl
@[simp] theorem Uh (avs:List AV):Yk (.ow avs)=some (avs.map ny):=rfl
@[simp] theorem WR (S:AS) (i:Nat):uJ i S=(S[i]?.join).bind λa=>(Yk a).map λds=>(ds,S.set i (some (Yp a))):=by
 unfold uJ;cases e:S[i]?.join with
 |none=>rfl
 |some a =>
  cases a with
  |sh d =>
   cases d with
   |list ds =>
    show some (ds,S)=some (ds,S.set i (some (.sh (.list ds))));rw[CY (ou e)]
   |scr ns =>
    show some (ns.map D.int,S)=some (ns.map D.int,S.set i (some (.sh (.scr ns))));rw[CY (ou e)]
   |_=>rfl
  |ow avs=>rfl
  |owd kvs=>rfl
  |owl kvs=>rfl
@[simp] theorem PU (i:Int):(D.int i).scal=true:=rfl
@[simp] theorem RU (i:Bool):(D.bl i).scal=true:=rfl
@[simp] theorem Ob:D.non.scal=true:=rfl
@[simp] theorem Sr (i:String):(D.ty i).scal=true:=rfl
@[simp] theorem NC (i:Int):O3 (.sh (.int i))=some (.int i):=rfl
@[simp] theorem QM (i:Bool):O3 (.sh (.bl i))=some (.bl i):=rfl
@[simp] theorem Q8 (i j:Int):Jx (.int i) (.int j)=some (.bl (decide (i=j))):=rfl
@[simp] theorem Sw (b:Bool):Mg (.bl b)=some (.bl (!b)):=rfl
@[simp] theorem Sz (i j:Int):V6 (.int i) (.int j)=some (.bl (!decide (i=j))):=rfl
@[simp] theorem Mn (ds:List D):qu [.list ds]=some (.int ds.length):=rfl
@[simp] theorem Ow (ns:List Int):qu [.scr ns]=some (.int ns.length):=rfl
@[simp] theorem Le (ds:List D):yM [.list ds,.ty "list"]=some (.bl true):=by simp[yM,W6]
@[simp] theorem O6 (i:Int):yM [.int i,.ty "int"]=some (.bl true):=by simp[yM,W6]
@[simp] theorem Mw (i:Int):yM [.int i,.ty "bool"]=some (.bl false):=by simp[yM,W6]
@[simp] theorem EX (ds:List D):sD (.list ds)=some ds:=rfl
@[simp] theorem ND (ds:List D) (i:Int):FP (.list ds) (.int i)=atI ds i:=rfl
@[simp] theorem Q7 (ns:List Int) (i:Int):FP (.scr ns) (.int i)=(atI ns i).map .int:=rfl
@[simp] theorem S8 (d:D):UH (some (.sh d))=some (.sh d):=rfl
@[simp] theorem Nl (ds:List D):Xw "list" (.list ds)=true:=rfl
theorem R7(S:AS) (i:Nat):pS S i=(S[i]?.join).bind Oj:=by
 unfold pS;cases S[i]?.join with
 |none=>rfl
 |some a=>cases a <;> rfl
def M9:AV->Option (List (nO×D))
 | .owd kvs=>some kvs
 |_=>none
@[simp] theorem Lz (kvs:List (nO×D)):M9 (.owd kvs)=some kvs:=rfl
theorem Qe(S:AS) (i:Nat):uM S i=(S[i]?.join).bind M9:=by
 unfold uM;cases S[i]?.join with
 |none=>rfl
 |some a=>cases a <;> rfl
end Z
namespace Zl
open PySem L2 Mr Z
def Av:MS:=(nY (Be (sI (oU Jx (tO qu (nh (nj 0) nI)) (rC (.int 0)))) (qR (tH oM)) qC)
 (nY (pI 1 (kSc (Yi "list" AB (nj 0) (nh (tO Se (nh (nj 0) nI)) nI))))
 (qR (Pt (lOf (Tt (uJ 0) (zR (nj 1)) C3)) (lOf (Tt (uJ 0) C3 (zR (nj 1))))))))
def uC:MF:=tw 1 2 Av
def uE:MS:=(P7 1 (G9 2))
def zk:MS:=(nY (pI 1 (tH oM))
 (nY (Do 2 (ot 0) uE)
 (qR (Cs 1))))
def qY:MF:=tw 1 3 zk
def wy:MS:=(nY (Be (sI (oU V4 (nj 1) (tO qu (nh (nj 0) nI)))) (qR (kSc (oU FP (nj 0) (nj 1)))) qC)
 (qR (kSc (rC (.int 0)))))
def oj:MF:=tw 2 2 wy
def vO:MS:=(qR (EE (xO (EC (ot 0)) [] tL (qo Zl.uC (nH (ot 0) oM)))))
def pM:MF:=tw 1 1 vO
end Zl
namespace Z
open PySem L2 Mr
theorem GO{x:Nat}{body:MS}(P:Nat->AS->Prop):∀{ds:List D}{S:AS}{k:Nat},P k S->(∀i d S,ds[i]?=some d->P (k+i) S->∃S',(body (S.set x (some (.sh d)))=some (.nx S')∨body (S.set x (some (.sh d)))=some (.ct S'))/\P (k+i+1) S')->∃S',qJ x body ds S=some (.nx S')/\P (k+ds.length) S'
 | [],S,k,h0,_=>⟨S,rfl,h0⟩
 |d::ds,S,k,h0,hs=>by
  obtain⟨S',e,h1⟩:=hs 0 d S rfl h0;have hs':∀i d S,ds[i]?=some d->P (k+1+i) S->∃S',(body (S.set x (some (.sh d)))=some (.nx S')∨body (S.set x (some (.sh d)))=some (.ct S'))/\P (k+1+i+1) S':=λi d S h p=>by
   have:=hs (i+1) d S (by simpa using h) (by rw[show k+(i+1)=k+1+i by lia];exact p)
   rw[show k+(i+1)=k+1+i by lia]at this
   exact this
  obtain⟨S2,e2,h2⟩:=GO P (k:=k+1) h1 hs';refine⟨S2,?_,by rw[lCq,show k+(ds.length+1)=k+1+ds.length by lia];exact h2⟩
  show (body _).bind _=_;rcases e with e|e <;> (rw[e];exact e2)
theorem xu{x:Nat}{body:MS}(P:Nat->AS->Prop) {ds:List D}{S:AS}(h0:P 0 S) (hs:∀i d S,ds[i]?=some d->P i S->∃S',body (S.set x (some (.sh d)))=some (.nx S')/\P (i+1) S'):∃S',qJ x body ds S=some (.nx S')/\P ds.length S':=by
 have:=GO (x:=x) (body:=body) P (ds:=ds) (k:=0) h0 λi d S h p=>by
  rw[bL]at p ⊢;obtain⟨S',e,q⟩:=hs i d S h p;exact⟨S',.inl e,q⟩
 rw[bL]at this;exact this
theorem OS{x y:Nat}{body:MS}(P:Nat->AS->Prop):∀{ds:List D}{S:AS}{k:Nat},P k S->(∀i d S,ds[i]?=some d->P (k+i) S->∃S',body ((S.set x (some (.sh (.int (k+i:Nat))))).set y (some (.sh d)))=some (.nx S')/\P (k+i+1) S')->∃S',AA x y body k ds S=some (.nx S')/\P (k+ds.length) S'
 | [],S,k,h0,_=>⟨S,rfl,h0⟩
 |d::ds,S,k,h0,hs=>by
  obtain⟨S',e,h1⟩:=hs 0 d S rfl h0;have hs':∀i d S,ds[i]?=some d->P (k+1+i) S->∃S',body ((S.set x (some (.sh (.int (k+1+i:Nat))))).set y (some (.sh d)))=some (.nx S')/\P (k+1+i+1) S':=λi d S h p=>by
   have:=hs (i+1) d S (by simpa using h) (by rw[show k+(i+1)=k+1+i by lia];exact p)
   rw[show k+(i+1)=k+1+i by lia]at this
   exact this
  obtain⟨S2,e2,h2⟩:=OS P (k:=k+1) h1 hs';refine⟨S2,?_,by rw[lCq,show k+(ds.length+1)=k+1+ds.length by lia];exact h2⟩
  show (body ((S.set x (some (.sh (.int (k:Nat))))).set y (some (.sh d)))).bind _=_;rw[gk]at e;rw[e];exact e2
theorem sX{te:MK}{cap:AS}(g:D->AV):∀{ds:List D},(∀d∈ds,∃S',te (some (.sh d)::cap)=some (g d,S'))->qX tL te cap ds=some (ds.map g)
 | [],_=>rfl
 |d::ds,h=>by
  obtain⟨S',e⟩:=h d (by simp)
  show (te (some (.sh d)::cap)).bind (λa=>(qX tL te cap ds).map (a.1 :: ·))=_
  rw[e,sX g λx hx=>h x (mCo _ hx)]
  rfl
theorem AZ{tf:MT}{te:MK}{cap:AS}(p:D->Bool) (g:D->AV):∀{ds:List D},(∀d∈ds,∃S1,tf (some (.sh d)::cap)=some (p d,S1)/\(p d=true->∃S',te S1=some (g d,S')))->qX tf te cap ds=some ((ds.filter p).map g)
 | [],_=>rfl
 |d::ds,h=>by
  obtain⟨S1,e1,e2⟩:=h d (by simp)
  have ih:=AZ (tf:=tf) (te:=te) (cap:=cap) p g λx hx=>h x (mCo _ hx)
  show (tf (some (.sh d)::cap)).bind _=_;rw[e1];show (if p d=true then _ else _)=_
  by_cases c:p d=true
  .obtain ⟨S',e3⟩:=e2 c;rw[nP c,e3,gn c];show (qX tf te cap ds).map _=_;rw[ih];rfl
  .rw [nQ c,gq c,ih]
theorem CF{α β:Type}(f:α->β) (xs:List α) (lo hi:Option Int):yP (xs.map f) lo hi=(yP xs lo hi).map f:=by
 unfold yP;rw[lMq,fg,List.map_drop]
theorem An{α:Type}(xs:List α) (i:Nat) (h:i<=xs.length):yP xs (some (i:Int)) none=xs.drop i:=by
 unfold yP;rw[HT.Bu,HT.GJ,cX h,dO (by rw[aR];exact ai _)]
theorem K3{α:Type}(xs:List α) (i:Nat) (h:i<=xs.length):yP xs none (some (i:Int))=xs.take i:=by
 unfold yP;rw[HT.Bu,HT.GJ,cX h,dZ,iP]
theorem OT{α:Type}(xs:List α) (i j:Nat):yP xs (some (i:Int)) (some (j:Int))=(xs.drop i).take (j-i):=by
 unfold yP;rw[HT.Bu,HT.Bu]
 by_cases h:i<=xs.length
 .rw [cX h]
  by_cases h2:j<=xs.length
  .rw [cX h2]
  .rw [iq (by lia),dO (by rw[aR];exact ai _),dO (by rw[aR];lia)]
 .have e:min i xs.length=xs.length:=iq (by lia)
  rw[e,eY (ai xs.length),eY (show xs.length<=i by lia)]
  simp
theorem K0{α:Type}{xs:List α}{i:Int}(h0:0<=i):atI xs i=xs[i.toNat]?:=by
 unfold atI FQ;rw[nP h0]
 by_cases h:i<xs.length
 .rw [nP h];rfl
 .rw [nQ h,bu (by lia)]
  rfl
theorem SG{α β:Type}(f:α->β) (xs:List α) (i:Int):atI (xs.map f) i=(atI xs i).map f:=by
 unfold atI;rw[lMq];cases FQ xs.length i with
 |none=>rfl
 |some j=>show (xs.map f)[j]?=_;rw[gMq];rfl
theorem Fz{n:Nat}{i:Nat}(h:i<n):FQ n (i:Int)=some i:=by
 unfold FQ;rw[nP (by lia),nP (by lia)]
 simp
theorem Bp(ns:List Int):(ns.map D.int).map AV.sh=ns.map λn=>AV.sh (.int n):=by rw[mPq];rfl
theorem EH(ns:List Int):(ns.map λn=>AV.sh (.int n)).map ny=ns.map D.int:=by rw[mPq];exact mCq λn _=>by simp
theorem RS(rs:List (List Int)):(rs.map aI).map ny=rs.map dI:=by
 rw[mPq];refine mCq λr _=>?_
 show ny (.ow (r.map λn=>AV.sh (.int n)))=_
 rw[tm,EH]
theorem So(rs:List (List Int)):(rs.map dI).map AV.sh=rs.map λr=>AV.sh (dI r):=by rw[mPq];rfl
theorem oh(ns:List Int):ny (aI ns)=dI ns:=by
 show ny (.ow (ns.map λn=>AV.sh (.int n)))=_
 rw[tm,EH]
theorem RF(i j:Int):BJ (.int i) (.int j)=some (.int (i+j)):=vt _
theorem QP(i j:Int):B2 (.int i) (.int j)=some (.int (i-j)):=vt _
theorem UW(i j:Int):V4 (.int i) (.int j)=some (.bl (decide (i<j))):=vt _
theorem Vh(i j:Int):GI (.int i) (.int j)=some (.bl (decide (j<i))):=vt _
theorem Va(i:Int):Ap (.int i)=some (.int (-i)):=rfl
theorem ZS:QT (.int 10) (.int 40)=some (.int (10 ^ 40)):=tZ ⟨by decide,by decide,by decide⟩ _
theorem Ka{i j:Int}(h1:-(2 ^ 64)<i) (h2:i<2 ^ 64):Bk (.int i) (.int j)=some (.int (i*j)):=tZ (.inl ⟨h1,h2⟩) _
theorem Kb{i j:Int}(h1:-(2 ^ 64)<j) (h2:j<2 ^ 64):Bk (.int i) (.int j)=some (.int (i*j)):=tZ (.inr ⟨h1,h2⟩) _
theorem rn{i j:Int}(h:0<j):vf (.int i) (.int j)=some (.int (i % j)):=tZ h _
theorem xh{i j:Int}(h:0<j) (h2:j<1073741824):Bi (.int i) (.int j)=some (.int (i / j)):=tZ ⟨h,h2⟩ _
theorem Xd:(0:Nat)<=qp:=by decide
theorem Wg:(1:Nat)<=qp:=by decide
theorem Wh:(2:Nat)<=qp:=by decide
theorem XI:(6:Nat)<=qp:=by decide
theorem Qw{n:Nat}(h:n<16777216):n<qp:=h
theorem BB{n:Nat}(h:n<1000000):CA [.int (n:Int)]=some (pD 0 n):=by
 have e:CA [.int (n:Int)]=some (pD 0 (n:Int).toNat):=tZ ⟨by lia,by lia⟩ _
 rw[e,cY]
theorem xx(n:Nat):pD 0 n=(cL n).map λi:Nat=>D.int i:=by
 unfold pD;exact mCq λi _=>by rw[hX]
theorem WN(np n:Nat) (m:MS) (ds:List D):tw np n m ds=if ds.length=np then (m (ds.map (λd=>some (.sh d))++ay (n-ds.length) none)).bind λo=>match o with
  | .rt a=>some a
  | .nx _=>some (.sh .non)
  |_=>none
 else none:=rfl
theorem gt1{α:Type}{a b:α}{l:List α}:(a::b::l)[1]?=some b:=rfl
theorem Ym{α:Type}{a b v:α}{l:List α}:(a::b::l).set 1 v=a::v::l:=rfl
theorem gt2{α:Type}{a b c:α}{l:List α}:(a::b::c::l)[2]?=some c:=rfl
theorem FR{α:Type}{a b c v:α}{l:List α}:(a::b::c::l).set 2 v=a::b::v::l:=rfl
theorem gt3{α:Type}{a b c d:α}{l:List α}:(a::b::c::d::l)[3]?=some d:=rfl
theorem X8{α:Type}{a b c d v:α}{l:List α}:(a::b::c::d::l).set 3 v=a::b::c::v::l:=rfl
theorem gt4{α:Type}{a b c d:α}{l:List α}{n:Nat}:(a::b::c::d::l)[n+4]?=l[n]?:=rfl
theorem X1{α:Type}{a b c d v:α}{l:List α}{n:Nat}:(a::b::c::d::l).set (n+4) v=a::b::c::d::l.set n v:=rfl
def zq:=aa @Z.vt (aa @Z.Xd (aa @Z.Wg (aa @Z.Wh (aa @Z.XI (aa @Z.V9 (aa @Z.Xa (aa @Z.Wt (aa @Z.YQ (aa @Z.Y0 (aa @Z.Ws (aa @Z.Z6 (aa @Z.Za (aa @Z.Zi (aa @Z.WT (aa @Z.UR (aa @Z.XD (aa @Z.Ut (aa @Z.Y5 (aa @Z.WY (aa @Z.Q1 (aa @Z.Wx (aa @Z.UY (aa @Z.T6 (aa @Z.Q4 (aa @Z.W1 (aa @Z.Wi (aa @Z.XQ (aa @Z.VC (aa @Z.U5 (aa @Z.M1 (aa @Z.YY (aa @Z.Ze (aa @Z.YS (aa @Z.VN (aa @Z.Vv (aa @Z.VD (aa @Z.NB (aa @Z.PZ (aa @Z.We (aa @Z.Xz (aa @Z.Xx (aa @Z.Yq (aa @Z.Xj (aa @Z.Xq (aa @Z.UC (aa @Z.Gx (aa @Z.LQ (aa @Z.OJ (aa @Z.Ua (aa @Z.Um (aa @Z.WG (aa @Z.Q2 (aa @Z.UB (aa @Z.Vj (aa @Z.XW (aa @Z.YT (aa @Z.MV (aa @Z.IZ (aa @Z.Ou (aa @Z.Lq (aa @Z.Vf (aa @Z.RY (aa @Z.Pp (aa @Z.Y9 (aa @Z.T9 (aa @Z.VT (aa @Z.YI (aa @Z.UF (aa @Z.Vm (aa @Z.Wo (aa @Z.Rn (aa @Z.Vl (aa @Z.Uh (aa @Z.WR (aa @Z.PU (aa @Z.RU (aa @Z.Ob (aa @Z.Sr (aa @Z.NC (aa @Z.QM (aa @Z.RF (aa @Z.QP (aa @Z.UW (aa @Z.Vh (aa @Z.Va (aa @Z.ZS (aa @Z.Bp (aa @Z.EH (aa @Z.RS (aa @Z.So (aa @Z.Q8 (aa @Z.Sw (aa @Z.Sz (aa @Z.Mn (aa @Z.Ow (aa @Z.Le (aa @Z.O6 (aa @Z.Mw (aa @Z.EX (aa @Z.ND (aa @Z.Q7 (aa @Z.S8 (aa @Z.Nl (aa @Z.R7 (aa @Z.Qe (aa @Z.Lz (aa @Z.si (aa @Z.tm (aa @Z.AJ (aa @Z.WN (aa @Z.NI (aa @Z.U6 (aa @Z.K6 (aa @List.getElem?_cons_zero.{0} (aa @Z.gt1 (aa @Z.gt2 (aa @Z.gt3 (aa @Z.gt4 (aa @List.set_cons_zero.{0} (aa @Z.Ym (aa @Z.FR (aa @Z.X8 (aa @Z.X1 (aa @Option.join_some.{0} (aa @Option.map_some.{0, 0} (aa @Option.map_none.{0, 0} (aa @Option.bind_some.{0, 0} (aa @List.length_cons.{0} (aa @List.length_nil.{0} (aa @List.map_cons.{0, 0} (aa @List.map_nil.{0, 0} (aa @List.nil_append.{0} (aa @List.cons_append.{0} (aa @List.length_map.{0, 0} (aa @Bool.not_true (aa @Bool.not_false (aa @Bool.false_eq_true (aa @decide_true (aa @decide_false (aa @Nat.zero_add (aa @List.replicate_zero.{0} @List.append_nil.{0})))))))))))))))))))))))))))))))))))))))))))))))))))))))))))))))))))))))))))))))))))))))))))))))))))))))))))))))))))))))))))))))))))))))))))))
theorem S4{K:W.Frag}{f:MF}(h:∀ns:List Int,ns.length<=63->f [.scr ns]=some (.sh (.bl true))):∀vs H Q E,JR K vs H Q E->pE K f vs H Q E:=by
 rintro vs H Q E ⟨a,ns,rfl,hS,hl,q⟩;refine⟨H,[.scr ns],_,.refl _,.cons (.scr hS) .nil,h ns hl,λHf' H' v F _ _ _ _ r _ _=>?_⟩
 cases r.sh_inv.2;exact q H'
end Z
namespace Mr
open PySem PySem.Spec PyProof.Rows L2
section
variable {X:Cx}{tg:Expr}
def HV{α:Type}(P:α->Prop):List α->Prop
 | []=>True
 |a::l=>P a/\HV P l
theorem HV.mem{α:Type}{P:α->Prop}:∀{l:List α},HV P l->∀a∈l,P a
 | [],_,a,h=>by cases h
 |b::l,hp,a,h=>(ao.mp h).elim (λe=>e ▸ hp.1) (HV.mem hp.2 a)
theorem uy.of{scope:ky}{cl:List (Str×Addr)}{x:Str}{N:List Str}{fr:List Nat}(h1:N.Nodup) (h2:N[0]?=some x) (h3:N.length=fr.length+1)
  (h4:HV (λp=>X.env.cells.lookup p.1=some p.2) cl) (h5:HV (λp=>(p.2 = .cell∨p.2 = .free)->∃c,cl.lookup p.1=some c) (kT scope X.env).names)
  (h6:HV (λp=>X.N[p.1]?=some p.2/\X.env.scope.names.lookup p.2=some .cell/\(kT scope X.env).names.lookup p.2=some .cell) (fr.zip (N.drop 1))):uy X scope cl x N fr where
 names:=h1
 own:=h2
 len:=h3
 sub:=λy c e=>h4.mem (y,c) (PySem.mem_of_lookup e)
 has:=λy e=>by
  rcases e with e|e
  .exact h5.mem _ (PySem.mem_of_lookup e) (.inl rfl)
  .exact h5.mem _ (PySem.mem_of_lookup e) (.inr rfl)
 get:=λk j y e1 e2=>by
  have hm:(j,y)∈fr.zip (N.drop 1):=by
   refine mGq (i:=k) ?_;rw[fU];exact⟨e1,by rw[cS,hW];exact e2⟩
  exact h6.mem _ hm
end
end Mr
namespace Z
open PySem L2 Mr
theorem E5(c:MT) (body:MS) (n:Nat) (S:AS):qS c body (n+1) S=(c S).bind λx=>if x.1=true then (body x.2).bind λo=>match o with
   | .nx S'=>qS c body n S'
   | .ct S'=>qS c body n S'
   | .bk S'=>some (.nx S')
   | .rt a=>some (.rt a)
  else some (.nx x.2):=rfl
end Z
namespace Z
open PySem L2 Mr Xe
inductive Q3 where
 |ok (a:AV)|ex (c:Str) (fs:List (Str×Int))
abbrev Bz:=List D->Option Q3
def TU(K:W.Frag) (Hf H:Hp) (Q:VK) (E:XK):Q3->Prop
 | .ok a=>∀Hf' H' v F,nS Hf Hf'->nS H H'->nS Hf' H'->(∀b,Hf b=none->H b≠none->Hf' b=none)->nV K Hf' H' a v F->F.Nodup->(∀q∈F,H q=none)->Q v H'
 | .ex c fs=>∀Hf' H' e od,nS Hf Hf'->nS H H'->nS Hf' H'->(∀b,Hf b=none->H b≠none->Hf' b=none)->pP K Hf' (.exc c fs) (.ref e)->E (.ref e) od H'
def Dl(K:W.Frag) (f:Bz):Sp:=λvs H Q E=>∃(Hf:Hp) (ds:List D) (r:Q3),nS Hf H/\oq K Hf ds vs/\f ds=some r/\TU K Hf H Q E r
def Y4:Q3->Option AV
 | .ok a=>some a
 |_=>none
def okX(f:Bz):MF:=λds=>(f ds).bind Y4
theorem VB{K:W.Frag}{f:Bz}{vs:List V}{H:Hp}{Q:VK}{E:XK}(h:pE K (okX f) vs H Q E):Dl K f vs H Q E:=by
 obtain⟨Hf,ds,a,s,r,e,q⟩:=h;obtain⟨z,e1,e2⟩:=oBq.mp e;cases z with
 |ok b=>cases e2;exact⟨Hf,ds,_,s,r,e1,q⟩
 |ex c fs=>cases e2
inductive yR where
 |ok (o:DS)|ex (c:Str) (fs:List (Str×Int))
abbrev MX:=AS->Option yR
def Ck(K:W.Frag) (H₀ Hf₀ Hf:Hp) (D:tV) (E:XK):yR->Prop
 | .ok o=>zQ K H₀ Hf₀ Hf D o
 | .ex c fs=>∀Hf' H' e od,nS Hf₀ Hf'->nS H₀ H'->nS Hf' H'->(∀b,Hf₀ b=none->H₀ b≠none->Hf' b=none)->pP K Hf' (.exc c fs) (.ref e)->E (.ref e) od H'
theorem Ck.mono{K:W.Frag}{H₀ Hf₀ Hf Hf':Hp}{D:tV}{E:XK}{o:yR}(s:nS Hf Hf') (h:Ck K H₀ Hf₀ Hf D E o):Ck K H₀ Hf₀ Hf' D E o:=by
 cases o with
 |ok o=>exact zQ.mono s h
 |ex c fs=>exact h
def MJ(K:W.Frag) (E:XK) (t:TS) (m:MX):Prop:=∀{H₀ Hf₀ Hf:Hp}{S:AS}{σ:St}{H:Hp}{Fs:List (List Addr)}{o:yR},og K H₀ Hf₀ Hf S σ H Fs->m S=some o->∀D:tV,Ck K H₀ Hf₀ Hf D E o->t D σ H
def JP(m:MS):MX:=λS=>(m S).map .ok
def zZ(a b:MX):MX:=λS=>(a S).bind λo=>match o with
 | .ok (.nx S')=>b S'
 |o=>some o
def Yo(c:MT) (a b:MX):MX:=λS=>(c S).bind λx=>if x.1=true then a x.2 else b x.2
def Il(c fld:Str) (a:ML):MX:=λS=>(a S).bind λx=>match x.1 with
 | [.int n]=>some (.ex c [(fld,n)])
 |_=>none
section
variable {K:W.Frag}{E:XK}{t u:TS}{m n:MS}{a b:MX}{tt:TT}{c:MT}{ta:TA}
theorem tI(h:SS K t m):MJ K E t (JP m):=by
 intro H₀ Hf₀ Hf S σ H Fs o R e D q;obtain⟨z,e1,e2⟩:=oMq.mp e;subst e2;exact h R e1 D q
theorem rD(ha:MJ K E t a) (hb:MJ K E u b):MJ K E (Js t u) (zZ a b):=by
 intro H₀ Hf₀ Hf S σ H Fs o R e D q;obtain⟨z,e1,e2⟩:=oBq.mp e;refine ha R e1 { D with nx:=u D } ?_
 cases z with
 |ok z =>
  cases z with
  |nx S'=>exact λHf' σ' H' Fs' s R'=>hb R' e2 D (q.mono s)
  |bk S'=>cases e2;exact q
  |ct S'=>cases e2;exact q
  |rt a=>cases e2;exact q
 |ex c fs=>cases e2;exact q
theorem OM(hc:FF K tt c) (ha:MJ K E t a) (hb:MJ K E u b):MJ K E (P1 tt t u) (Yo c a b):=by
 intro H₀ Hf₀ Hf S σ H Fs o R e D q;obtain⟨x,e1,e2⟩:=oBq.mp e;refine hc R (b:=x.1) (S':=x.2) e1 _ λHf1 H1 Fs1 t1 R1=>?_
 split at e2
 .rename_i hx;rw[nP hx];exact ha R1 e2 D (q.mono t1.sf)
 .rename_i hx;rw[nQ hx];exact hb R1 e2 D (q.mono t1.sf)
theorem GY{H:Hp}{n:Int}{v:V}(r:pP K H (.int n) v):v = .int n:=by cases r;rfl
theorem L3{cn fld:Str}{C M:Addr}{l:ML}(rf:wO K cn C M) (nf:W.findIn K (.ref C) fld=some none) (hl:QD K ta l):MJ K E (Y7 E C (XN K cn fld ta)) (Il cn fld l):=by
 intro H₀ Hf₀ Hf S σ H Fs o R e D q;obtain⟨x,e1,e2⟩:=oBq.mp e;refine hl R (ds:=x.1) (S':=x.2) e1 _ λHf1 H1 Fs1 vs t1 R1 r1=>?_
 split at e2
 .rename_i k hk;cases e2;rw[hk]at r1;obtain⟨v,ws,rfl,r2,r3⟩:=r1.cons_inv;obtain rfl:=r3.nil_inv;obtain rfl:=GY r2;refine⟨_,C,M,rfl,rf,nf,λex dx n1 n2 n3=>⟨ex,some dx,rfl,nB,?_⟩⟩
  rw[Ky];have nf1:Hf1 ex=none:=R1.sub.free n1;have nf2:Hf1 dx=none:=R1.sub.free n2;have s1:nS Hf1 (oB (oB Hf1 dx (.xd [(fld,.int k)])) ex (BG ex C (some dx))):=(pV nf2).trans (pV (by rw[ni (Ne.symm n3)];exact nf1))
  have s2:nS H1 (oB (oB H1 dx (.xd [(fld,.int k)])) ex (BG ex C (some dx))):=(pV n2).trans (pV (by rw[ni (Ne.symm n3)];exact n1))
  refine q (oB (oB Hf1 dx (.xd [(fld,.int k)])) ex (BG ex C (some dx))) _ ex (some dx) (R1.sf.trans s1) (R1.fr.trans s2) (λb o' z=>?_) (λb z1 z2=>?_) (.exc rf (λp hp=>?_) nB ?_)
  .by_cases hb:b=ex
   .subst hb;rw[nB]at z ⊢;exact z
   .rw [ni hb]at z ⊢
    by_cases hb2:b=dx
    .subst hb2;rw[nB]at z ⊢;exact z
    .rw [ni hb2]at z ⊢;exact R1.sub b o' z
  .have h1:b≠ex:=λz=>z2 (by rw[z];exact R1.fr.free n1)
   have h2:b≠dx:=λz=>z2 (by rw[z];exact R1.fr.free n2)
   rw[ni h1,ni h2];exact R1.lim b z1 z2
  .simp only [mSq]at hp;subst hp;exact nf
  .rw [ni n3,nB];rfl
 .cases e2
end
def Dv(np n:Nat) (m:MX):Bz:=λds=>if ds.length=np then (m (ds.map (λd=>some (.sh d))++ay (n-ds.length) none)).bind λo=>match o with
  | .ok (.rt a)=>some (.ok a)
  | .ok (.nx _)=>some (.ok (.sh .non))
  | .ex c fs=>some (.ex c fs)
  |_=>none
 else none
theorem vC{K:W.Frag}{t:TS}{m:MX}{np:Nat}(N:List Str) {E:XK}(h:MJ K E t m) {vs:List V}{H:Hp}{Q:VK}(hs:Dl K (Dv np N.length m) vs H Q E):t { nx:=λ_ H'=>Q .non H',rt:=Q } (L2.uF N vs) H:=by
 obtain⟨Hf,ds,r,s,rr,e,q⟩:=hs;unfold Dv at e;split at e
 .obtain ⟨o,e1,e2⟩:=oBq.mp e;refine h (DW N s rr) e1 _ ?_;cases o with
  |ok o =>
   cases o with
   |rt a'=>cases e2;exact λHf' H' v F s1 s2 s3 l r nd fr=>q Hf' H' v F s1 s2 s3 l r nd fr
   |nx S'=>cases e2;exact λHf' σ' H' Fs' s1 R=>q Hf' H' .non [] R.sf R.fr R.sub R.lim (.sh .non) aT λq h=>(by cases h)
   |bk S'=>cases e2
   |ct S'=>cases e2
  |ex c fs=>cases e2;exact q
 .cases e
theorem zG{K:W.Frag}{m:MX}{np n:Nat}{vs:List V}{H:Hp}{Q:VK}{E:XK}(hs:Dl K (Dv np n m) vs H Q E):vs.length=np:=by
 obtain⟨Hf,ds,a,s,r,e,q⟩:=hs;unfold Dv at e;split at e
 .rename_i h;rw[←r.1,h]
 .cases e
abbrev MH:=Str->List (Str×Int)->MS
def SH(K:W.Frag) (th:XH) (hm:MH):Prop:=∀{H₀ Hf₀ Hf:Hp}{S:AS}{σ:St}{H:Hp}{Fs:List (List Addr)}{o:DS}{c:Str}{fs:List (Str×Int)}{e:Addr},og K H₀ Hf₀ Hf S σ H Fs->hm c fs S=some o ->
 pP K Hf (.exc c fs) (.ref e)->∀D:tV,zQ K H₀ Hf₀ Hf D o->∀C M od,wO K c C M->H e=some (BG e C od)->th e C od D σ H
def under(c c':Str):Bool:=decide (c'=c∨c' = "MapError")
def YU(i:Nat):DS->DS
 | .nx S=>.nx (S.set i none)
 | .bk S=>.bk (S.set i none)
 | .ct S=>.ct (S.set i none)
 | .rt a=>.rt a
def X2(c':Str) (i:Nat) (mb:MS) (rest:MH):MH:=λc fs S=>if under c c'=true then (mb (S.set i (some (.sh (.exc c fs))))).map (YU i) else rest c fs S
def xNo(c':Str) (mb:MS) (rest:MH):MH:=λc fs S=>if under c c'=true then mb S else rest c fs S
def Wk:MH:=λ_ _ _=>none
theorem wO.mro{K:W.Frag}{c c':Str}{C M C':Addr}(rf:wO K c C M) (h:T4 K c' C'):W.mroIn K C (.ref C')=some (under c c'):=by
 obtain⟨_,⟨cd,hcd,hm,hn⟩,_⟩:=uU rf.xc;unfold W.mroIn;rw[hcd,dD,hm];simp only[eW,bG,if_false,ba.injEq];have key:(ak C::ak M::uV).contains (ak C')=decide (C'=C∨C'=M):=by
  have e1:uV.contains (ak C')=false:=by simp[uV]
  rw[br,br,e1]
  by_cases h1:C'=C
  .simp [h1]
  .by_cases h2:C'=M
   .simp [h2]
   .have a1:(ak C' == ak C)=false:=by simp[h1]
    have a2:(ak C' == ak M)=false:=by simp[h2]
    rw[a1,a2];simp[h1,h2]
 rw[key];unfold under;rcases h with ⟨hnm,⟨M',rf'⟩|⟨hc,hx⟩⟩
 .obtain rfl:M=M':=by have z:=rf.nmM.symm.trans rf'.nmM;simpa using z
  have n1:C'≠M:=λz=>by subst z;have y:=(Ko rf'.xc rf.xm).2;simp at y
  have n2:c' ≠ "MapError" := λz=>by subst z;have y:=rf'.nm.symm.trans rf.nmM;simp at y;exact n1 y
  by_cases hc:c'=c
  .subst hc;have y:=(rf.one rf').1;simp[y]
  .have n3:C'≠C:=λz=>by subst z;exact hc ((Ko rf'.xc rf.xc).1)
   simp[n1,n2,n3,hc]
 .subst hc;obtain rfl:M=C':=by have z:=rf.nmM.symm.trans hnm;simpa using z
  simp
section
variable {K:W.Frag}{tb:TS}{mb:MS}{tr:XH}{mr:MH}{c':Str}{C':Addr}{i:Nat}
theorem QJ{H:Hp}{c:Str}{fs:List (Str×Int)}{e:Addr}(r:pP K H (.exc c fs) (.ref e)):∃C M od,wO K c C M/\H e=some (BG e C od):=by
 cases r with
 |exc rf nf h hx=>exact⟨_,_,_,rf,h⟩
 |exc0 rf h=>exact⟨_,_,_,rf,h⟩
theorem og.clear{H₀ Hf₀ Hf H:Hp}{S:AS}{σ:St}{Fs:List (List Addr)}(R:og K H₀ Hf₀ Hf S σ H Fs) (i:Nat):og K H₀ Hf₀ Hf (S.set i none) (σ.set i none) H (Fs.set i []):=by
 refine⟨by simp[R.len],by simp[R.lenF],λj a ej=>?_,λj ej=>?_,pU i R.nd aT (λp hp=>by cases hp),λp hp=>R.fresh p (pd hp),R.sub,R.fr,R.lim,R.sf⟩
 .rw [bh]at ej
  by_cases hij:i=j
  .subst hij;rw[nP rfl]at ej;split at ej <;> cases ej
  .rw [nQ hij]at ej;obtain⟨w,G,f1,f2,q⟩:=R.rep j a ej;exact⟨w,G,by rw[ar hij];exact f1,by rw[ar hij];exact f2,q⟩
 .rw [bh]at ej
  by_cases hij:i=j
  .subst hij;rw[nP rfl]at ej;split at ej
   .rename_i hi;rw[aG (R.lenF.symm ▸ hi)]
   .cases ej
  .rw [nQ hij]at ej;rw[ar hij];exact R.emp j ej
theorem Xg(hC:T4 K c' C') (hb:SS K tb mb) (hr:SH K tr mr):SH K (Zr K C' i tb tr) (X2 c' i mb mr):=by
 intro H₀ Hf₀ Hf S σ H Fs o c fs e R eq rx D q C M od rf hA;unfold X2 at eq;split at eq
 .rename_i hu;refine⟨c,M,true,rf,by rw[wO.mro rf hC,hu],?_⟩
  rw[nP rfl];obtain⟨z,e1,e2⟩:=oMq.mp eq;subst e2;refine hb (R.setD i rx) e1 _ ?_;cases z with
  |nx S'=>exact λHf' σ' H' Fs' s R'=>q Hf' _ H' _ s (og.clear R' i)
  |bk S'=>exact λHf' σ' H' Fs' s R'=>q Hf' _ H' _ s (og.clear R' i)
  |ct S'=>exact λHf' σ' H' Fs' s R'=>q Hf' _ H' _ s (og.clear R' i)
  |rt a=>exact q
 .rename_i hu;refine⟨c,M,false,rf,by rw[wO.mro rf hC,ic.mpr hu],?_⟩
  rw[nQ (by decide)]
  exact hr R eq rx D q C M od rf hA
theorem Vd:SH K Xn Wk:=by
 intro H₀ Hf₀ Hf S σ H Fs o c fs e R eq rx D q;cases eq
end
def Qt(f:Bz) (a:MA) (hm:MH):MS:=λS=>(a S).bind λx=>(f (x.1.map ny)).bind λr=>match r with
 | .ok _=>some (.nx x.2)
 | .ex c fs=>hm c fs x.2
def ZU(i:Nat) (f:Bz) (a:MA) (hm:MH):MS:=λS=>(a S).bind λx=>(f (x.1.map ny)).bind λr=>match r with
 | .ok r=>some (.nx (x.2.set i (some r)))
 | .ex c fs=>hm c fs x.2
section
variable {K:W.Frag}{ta:TA}{a:MA}{f:Bz}{th:XH}{hm:MH}{i:Nat}
theorem vL{H₀ Hf₀ Hf1 H1 Hf' H':Hp}{S:AS}{σ:St}{Fs1:List (List Addr)}(R2:og K H₀ Hf₀ Hf1 S σ H1 Fs1) (s1:nS Hf1 Hf') (s2:nS H1 H') (s3:nS Hf' H') (l:∀b,Hf1 b=none->H1 b≠none->Hf' b=none):og K H₀ Hf₀ Hf' S σ H' Fs1 :=
 R2.more s2 s1 s3 (λq hq=>l q (R2.mem hq).2 (R2.mem hq).1) λb h1 h2=>l b (R2.lim b h1 h2) (JT R2.fr h2)
theorem RX(ha:SA K ta a) (hh:SH K th hm):SS K (Tr (Dl K f) ta th) (Qt f a hm):=by
 intro H₀ Hf₀ Hf S σ H Fs o R e D q;obtain⟨x,e1,e⟩:=oBq.mp e;obtain⟨r,e2,e⟩:=oBq.mp e;refine ha R (as:=x.1) (S':=x.2) e1 _ λHf1 H1 Fs1 vs Gs t1 R1 r1 o1=>?_
 obtain⟨R2,r2,t2⟩:=R1.gives t1 r1 o1;refine⟨_,_,r,R2.sub,r2,e2,?_⟩;cases r with
 |ok av=>cases e;exact λHf' H' v F s1 s2 s3 l ra nd fr=>q _ _ _ _ (t2.sf.trans s1) (vL R2 s1 s2 s3 l)
 |ex c fs =>
  intro Hf' H' ex od s1 s2 s3 l rx e0 he;cases he;have R3:=vL R2 s1 s2 s3 l;obtain⟨C,M,od',rf,hA⟩:=QJ rx;exact⟨C,od',R3.sub _ _ hA,hh R3 e rx D (q.mono (t2.sf.trans s1)) C M od' rf (R3.sub _ _ hA)⟩
end
def ZL(f:Str):D->Option D
 | .exc _ fs=>(fs.lookup f).map .int
 |_=>none
section
variable {K:W.Frag}{te:TE}{m:ME}{f:Str}
def RA(c:Str):ME:=λS=>some (.cls c,S)
theorem Qk{c:Str}{C:Addr}(h:T4 K c C):SR K (λ_ H Q=>Q (.ref C) H) (RA c):=by
 intro H₀ Hf₀ Hf S σ H Fs d S' R e Q q;cases e;exact q _ _ _ _ .refl R (.cls h)
def AK(c:Str):D->Option Bool
 | .cls c'=>some (under c c')
 | .ty T=>if T = "ValueError" then some true else none
 |_=>none
def Aa(c:Str):List D->Option Bool
 | []=>some false
 |d::ds=>(AK c d).bind λb=>(Aa c ds).map λb2=>b || b2
def GE:List D->Option D
 | [.exc c _,.tup ds]=>(Aa c ds).map .bl
 | [.exc c _,d]=>(AK c d).map .bl
 |_=>none
theorem P2{c':Str}{C':Addr}(h:T4 K c' C'):(W.clsIn K C').isSome=true/\W.typeIn K (.ref C')=some (.type "type"):=by
 have key:∀{bm:List Value},vv K c' C' bm=true->(W.clsIn K C').isSome=true/\W.typeIn K (.ref C')=some (.type "type"):=λ{bm} e=>by
  obtain⟨⟨N,q',bs,sn,sub,ab,col,dd,k0,k1,k2,k3,k5,hC⟩,⟨cd,hcd,_,_⟩,_⟩:=uU e;refine⟨by rw[hcd];rfl,?_⟩
  show (K.lookup C').map (·.cls)=_;rw[hC];rfl
 rcases h with ⟨_,⟨M',rf'⟩|⟨rfl,hx⟩⟩
 .exact key rf'.xc
 .exact key hx
theorem DK{c:Str}{C M:Addr}{d:D}{v:V}{b:Bool}{H:Hp}(rf:wO K c C M) (r:pP K H d v) (e:AK c d=some b):∃u,Eu v=some u/\W.kitOne K (.ref C) u=some b:=by
 cases r <;> simp only[AK]at e
 all_goals first|(exfalso;simp at e;done)|skip
 .rename_i n;split at e
  .rename_i hn;subst hn;cases e;refine⟨_,rfl,?_⟩;obtain⟨_,⟨cd,hcd,hm,hn⟩,_⟩:=uU rf.xc;have h1:W.mroIn K C (.type "ValueError")=some true:=by
    unfold W.mroIn;rw[hcd,dD,hm];simp only[eW,bG,if_false,ba.injEq];rw[br,br,show uV.contains (dR "ValueError")=true by decide,dJ,dJ]
   show (if (ak C == dR "ValueError")=true then some true else if W.kitMeta "ValueError" = true then W.mroIn K C (.type "ValueError") else none)=some true
   rw[h1,show W.kitMeta "ValueError" = true by decide +kernel]
   simp
  .cases e
 .rename_i c' C' h;cases e;refine⟨_,rfl,?_⟩;obtain⟨g1,g2⟩:=P2 h;have h1:=wO.mro rf h;show (if (ak C == ak C')=true then some true else if ((W.clsIn K C').isSome && W.typeIn K (.ref C') == some (.type "type"))=true then W.mroIn K C (.ref C') else none)=_
  rw[g1,g2,h1]
  by_cases hz:(ak C == ak C')=true
  .have hz':C=C':=ak.inj (beq_iff_eq.mp hz);subst hz';rw[nP hz];obtain⟨_,⟨cd,hcd,hm,hn⟩,_⟩:=uU rf.xc;unfold W.mroIn at h1;rw[hcd,dD,hm]at h1;simp only[eW,bG,if_false,ba.injEq]at h1;rw[←h1];simp
  .rw [nQ hz];simp
theorem KR{c:Str}{C M:Addr}{H:Hp}(rf:wO K c C M):∀{ds:List D}{vs:List V}{b:Bool},oq K H ds vs->Aa c ds=some b->∃us,vs.mapM Eu=some us/\W.kitAny K (.ref C) us=some b
 | [],vs,b,r,e=>by
  obtain rfl:=r.nil_inv;cases e;exact⟨[],rfl,rfl⟩
 |d::ds,vs,b,r,e=>by
  obtain⟨v,ws,rfl,r1,r2⟩:=r.cons_inv;obtain⟨b1,e1,e2⟩:=oBq.mp e;obtain⟨b2,e3,e4⟩:=oMq.mp e2;obtain⟨u,h1,h2⟩:=DK rf r1 e1;obtain⟨us,h3,h4⟩:=KR rf r2 e3;refine⟨u::us,by rw[iE,h1,h3];rfl,?_⟩
  subst e4;unfold W.kitAny;rw[h2];cases b1 with
  |true=>rfl
  |false=>exact h4
theorem HW:Sf K (U4 K) GE:=by
 intro vs H Q ds d r e q;have main:∀(c:Str) (fs:List (Str×Int)) (dv:D),ds=[.exc c fs,dv]->((∃es b,dv = .tup es/\Aa c es=some b/\d = .bl b)∨∃b,AK c dv=some b/\d = .bl b)->U4 K vs H Q:=by
  intro c fs dv hd hb;subst hd;obtain⟨v,ws,rfl,r1,r2⟩:=r.cons_inv;obtain⟨v2,ws2,rfl,r3,r4⟩:=r2.cons_inv;obtain rfl:=r4.nil_inv;obtain⟨e0,C,M,od,he,rf,hA⟩:∃e0 C M od,v = .ref e0/\wO K c C M/\H e0=some (BG e0 C od):=by
   cases r1 with
   |exc rf nf h hx=>exact⟨_,_,_,_,rfl,rf,h⟩
   |exc0 rf h=>exact⟨_,_,_,_,rfl,rf,h⟩
  subst he;rcases hb with ⟨es,b,rfl,hb,rfl⟩|⟨b,hb,rfl⟩
  .obtain ⟨p,us,rfl,h1,h2⟩:=r3.tup_inv;obtain⟨cs,h3,h4⟩:=KR rf h2 hb;exact⟨e0,c,C,M,od,_,b,rfl,hA,rf,.inr ⟨p,us,cs,rfl,h1,h3,h4⟩,q _ .bl⟩
  .obtain ⟨u,h1,h2⟩:=DK rf r3 hb;exact⟨e0,c,C,M,od,_,b,rfl,hA,rf,.inl ⟨u,h1,h2⟩,q _ .bl⟩
 unfold GE at e;split at e
 .rename_i c fs es;obtain⟨b,h1,h2⟩:=oMq.mp e;exact main c fs _ rfl (.inl ⟨es,b,rfl,h1,h2.symm⟩)
 .rename_i c fs dv _;obtain⟨b,h1,h2⟩:=oMq.mp e;exact main c fs _ rfl (.inr ⟨b,h1,h2.symm⟩)
 .cases e
end
end Z
namespace Xe
open PySem PySem.Spec PySem.W PyProof.Rows L2 Mr
section
variable {X:Cx}
theorem O7{kvs:List (nO×V)}{vs:List (nO×Value)}(r:KV kvs vs):∀{i:Nat}{p:nO×V},kvs[i]?=some p->∃u,vs[i]?=some (p.1,u)/\oK p.2 u:=by
 induction r with
 |nil=>intro i p h;simp at h
 | @cons a b _ _ r t ih =>
  intro i p h;cases i with
  |zero=>simp at h;subst h;exact⟨b.2,by simp[r.1],r.2⟩
  |succ i=>obtain⟨u,g1,g2⟩:=ih (by simpa using h);exact⟨u,by simpa using g1,g2⟩
end
end Xe
namespace Z
open PySem L2 Mr Xe
def kD:nO->D
 | .inl i=>.int i
 | .inr x=>.str x
theorem Ri{K:W.Frag}{H:Hp}(k:nO):pP K H (kD k) (kV k):=by
 cases k with
 |inl i=>exact .int
 |inr x=>exact .str
def HY(x y:Nat) (body:MS):List (nO×D)->AS->Option DS
 | [],S=>some (.nx S)
 |p::ps,S=>(body ((S.set x (some (.sh (kD p.1)))).set y (some (.sh p.2)))).bind λo=>match o with
  | .nx S'=>HY x y body ps S'
  | .ct S'=>HY x y body ps S'
  | .bk S'=>some (.nx S')
  | .rt a=>some (.rt a)
def ZG(x y:Nat) (k:MK) (body:MS):MS:=λS=>(k S).bind λz=>(M9 z.1).bind λkvs=>HY x y body kvs z.2
section
variable {K:W.Frag}{te tf:TE}{k:MK}{tb:TS}{body:MS}{x y:Nat}
theorem og.fix{H₀ Hf₀ Hf H:Hp}{S:AS}{σ:St}{Fs:List (List Addr)}(R:og K H₀ Hf₀ Hf S σ H Fs) {p:Addr}{o:HO}(h1:p∉Fs.flatten) (h2:Hf p=none) (h3:H₀ p=none):og K H₀ Hf₀ (oB Hf p o) S σ (oB H p o) Fs:=by
 have s:nS Hf (oB Hf p o):=pV h2;refine⟨R.len,R.lenF,λi av e=>?_,R.emp,R.nd,R.fresh,λb u z=>?_,λb u z=>?_,λb z1 z2=>?_,R.sf.trans s⟩
 .obtain ⟨v,F,e1,e2,r⟩:=R.rep i av e;have hne:∀q∈F,q≠p:=λq hq z=>h1 (by rw[←z];exact mFq.mpr ⟨F,mGq e2,hq⟩)
  exact⟨v,F,e1,e2,r.keep s (λq hq=>ni (hne q hq)) λq hq=>by rw[ni (hne q hq)];exact(r.owned q hq).2⟩
 .by_cases hb:b=p
  .subst hb;rw[nB]at z ⊢;exact z
  .rw [ni hb]at z ⊢;exact R.sub b u z
 .have hb:b≠p:=λq=>by rw[q,h3]at z;cases z
  rw[ni hb];exact R.fr b u z
 .have hb:b≠p:=λq=>z2 (by rw[q];exact h3)
  rw[ni hb];exact R.lim b z1 z2
def Zf(a:ME):MK:=λS=>(a S).bind λx=>(dictOf x.1).map λkvs=>(.ow (kvs.map λp=>.sh (kD p.1)),x.2)
end
theorem R5:ke "ValueError" = some (.type "ValueError"):=by decide +kernel
structure RK (K:W.Frag) (mg:Str->Option Value) (cn:Str) (C:Addr) (bm:List Value):Prop where
 c:T4 K cn C
 xc:vv K cn C bm=true
 base:bm.contains (.type "BaseException")=true
 mgc:mg cn=some (.ref C)
structure WD (P:jg) (w:ji) (K:W.Frag) (mg:Str->Option Value) (bs:Heap) (cn fld prm:Str) (C M f:Addr) (fd:jr):Prop where
 c:T4 K cn C
 xc:vv K cn C (.ref M::uV)=true
 base:(ak M::uV).contains (.type "BaseException")=true
 mgc:mg cn=some (.ref C)
 i:Zj P w K mg bs 1 cn fld prm C M f fd
theorem Ik(M:Addr):(ak M::uV).contains (.type "BaseException")=true:=by rw[br,show uV.contains (dR "BaseException")=true by decide,dJ]
section
variable {K:W.Frag}{h:Heap}{mg:Str->Option Value}{c:Str}{C M:Addr}
theorem Iu(a:W.nsIn K jh c=some (some (.ref C))) (aM:W.nsIn K jh "MapError" = some (some (.ref M))) (x:vv K c C (.ref M::uV)=true) (xM:vv K "MapError" M uV=true) (l:V3 K C=true):wO K c C M:=⟨a,aM,x,xM,l⟩
theorem Ve(X:K.In h) (G:h.Ns jh mg) (r:wO K c C M):RK K mg c C (.ref M::uV):=⟨⟨r.nm,.inl ⟨M,r⟩⟩,r.xc,Ik M,W.mg_of X G r.nm⟩
theorem Q5(X:K.In h) (G:h.Ns jh mg) (aM:W.nsIn K jh "MapError" = some (some (.ref M))) (xM:vv K "MapError" M uV=true):RK K mg "MapError" M uV:=⟨⟨aM,.inr ⟨rfl,xM⟩⟩,xM,by decide,W.mg_of X G aM⟩
end
section
variable {P:jg}{w:ji}{K:W.Frag}{mg:Str->Option Value}{base:Heap}
theorem NA{c fld:Str}{prm:Str}{vs:List V}{H:Hp}{Q:VK}{E:XK}{tx:Str}(hs:Oo K c fld vs H Q E) :
  Js (xH (ZW K (ri (uI 0) (ri (tC (.str tx)) uZ)))) (ZJ K (uI 0) (uI 1) fld) { nx:=λ_ H'=>Q .non H',rt:=Q } (uF ["self", prm] vs) H:=by
 obtain⟨e,v,C,M,rfl,hE,rf,nf,q⟩:=hs;exact⟨_,rfl,e,_,c,C,M,rfl,hE,rf,_,rfl,_,rfl,e,c,C,M,rfl,hE,rf,nf,q⟩
end
theorem Fc{X:Cx}{k:Nat}{f:Addr}{fd:jr}{ps:List Str}{x:Str}{p pos:Pos}{e:Expr}{es:List Expr}{t:TA}{st:Stmt}{g:Bz}(G:HM X.prog X.w X.K X.mg X.base k x st ps (Dl X.K g) f fd) (hr:rz k X.A) (ha:PA X (e::es) t) (hg:Gl X x:=by rfl) (hdb:(x == ("__debug__" : Str))=false:=by decide)
  (he:jj (e::es) X.env=(false,eval e X.env)::jj es X.env:=by rfl) (hpl:(jR pos (jj es X.env)).any (·.1)=false:=by rfl) :
  PE X (.Call (.Name x p) (e::es) [] pos) (yy (pE X.K (okX g)) [] E0 t):=FE (G.ok.imp λ_ _ _ _ h=>VB h) hr hg G.D.m G.D.F.kp G.D.b .nil VO ha hdb he hpl
def aai(c:Str):MK:=λS=>some (.sh (.cls c),S)
def KQ:Option yR->MX->Option yR
 |none,_=>none
 |some (.ok (.nx S)),b=>b S
 |some o,_=>some o
def Rw(c fld:Str):List D->Option yR
 | [.int n]=>some (.ex c [(fld,n)])
 |_=>none
def KW:yR->Option Q3
 | .ok (.rt a)=>some (.ok a)
 | .ok (.nx _)=>some (.ok (.sh .non))
 | .ex c fs=>some (.ex c fs)
 |_=>none
def Xp(hm:MH) (S:AS):Q3->Option DS
 | .ok _=>some (.nx S)
 | .ex c fs=>hm c fs S
def aat(i:Nat) (hm:MH) (S:AS):Q3->Option DS
 | .ok r=>some (.nx (S.set i (some r)))
 | .ex c fs=>hm c fs S
variable (S:AS)
theorem Yt(m:MS):JP m S=(m S).map .ok:=rfl
theorem Pm(b:MX):KQ (some (.ok (.nx S))) b=b S:=rfl
theorem OA(a:AV) (b:MX):KQ (some (.ok (.rt a))) b=some (.ok (.rt a)):=rfl
theorem P6(c:Str) (fs:List (Str×Int)) (b:MX):KQ (some (.ex c fs)) b=some (.ex c fs):=rfl
theorem WK(a b:MX):zZ a b S=KQ (a S) b:=by
 show (a S).bind _=_;cases a S with
 |none=>rfl
 |some o =>
  cases o with
  |ok o=>cases o <;> rfl
  |ex c fs=>rfl
theorem Zn(c:MT) (a b:MX):Yo c a b S=(c S).bind λx=>if x.1=true then a x.2 else b x.2:=rfl
theorem Sq(c fld:Str) (a:ML):Il c fld a S=(a S).bind λx=>Rw c fld x.1:=rfl
theorem Oy(a:AV):KW (.ok (.rt a))=some (.ok a):=rfl
theorem Om:KW (.ok (.nx S))=some (.ok (.sh .non)):=rfl
theorem NZ(c:Str) (fs:List (Str×Int)):KW (.ex c fs)=some (.ex c fs):=rfl
theorem Wb(np n:Nat) (m:MX) (ds:List D):Dv np n m ds=if ds.length=np then (m (ds.map (λd=>some (.sh d))++ay (n-ds.length) none)).bind KW else none:=by
 show (if ds.length=np then (m _).bind _ else none)=_
 first|rfl|(congr 2;funext o;cases o with
 |ok o=>cases o <;> rfl
 |ex c fs=>rfl)
theorem VU(a:AV):Y4 (.ok a)=some a:=rfl
theorem Zg(f:Bz) (ds:List D):okX f ds=(f ds).bind Y4:=rfl
theorem RL(hm:MH) (c:Str) (fs:List (Str×Int)):Xp hm S (.ex c fs)=hm c fs S:=rfl
theorem U0(f:Bz) (a:MA) (hm:MH):Qt f a hm S=(a S).bind λx=>(f (x.1.map ny)).bind (Xp hm x.2):=by
 show (a S).bind _=_;congr 1
theorem YK(c':Str) (i:Nat) (mb:MS) (rest:MH) (c:Str) (fs:List (Str×Int)):X2 c' i mb rest c fs S=if under c c'=true then (mb (S.set i (some (.sh (.exc c fs))))).map (YU i) else rest c fs S:=rfl
theorem Uy(i:Nat):YU i (.nx S) = .nx (S.set i none):=rfl
theorem IW(c:Str):under c c=true:=by simp[under]
theorem L9(c:Str):under c "MapError" = true:=by simp[under]
theorem NH(c c':Str) (fs:List (Str×Int)):GE [.exc c fs,.cls c']=some (.bl (under c c')):=rfl
theorem S5(c:Str) (fs:List (Str×Int)):GE [.exc c fs,.ty "ValueError"]=some (.bl true):=by simp[GE,AK]
theorem Wu(c:Str):RA c S=some (.cls c,S):=rfl
def zq3:=aa @Yt (aa @Pm (aa @OA (aa @P6 (aa @WK (aa @Zn (aa @Sq (aa @Oy (aa @Om (aa @NZ (aa @Wb (aa @VU (aa @Zg (aa @RL (aa @U0 (aa @YK (aa @Uy (aa @IW (aa @L9 (aa @NH (aa @S5 @Wu))))))))))))))))))))
end Z
namespace Xe
open PySem
section
variable {prog:jg}{w:ji}{A:Around}{E:Value->Shared->Prop}{h:Heap}{g:Array kS}{d:Drawn}{t:Nat}{os:mU}
variable {nm q:Str}{C N:Addr}{bs bm:List Value}{hdct:Bool}{sn:List Str}{sub:List Value}{ab:Bool}{col:Option Bool}{dd:Option Addr}{k0 k1 k2 k3 k5:Option Value}
theorem Bf(T:jP h uV bm) {rest:List Value}{Q:Fin->Shared->Prop}
  (hC:h.get? C=some (jv nm q C N bs bm hdct sn sub ab col dd k0 k1 k2 k3 k5 "ValueError.__new__"))
  (hi:Lk (ja prog w) h (jn (.ref C) "__init__") (some (.builtin "ValueError.__init__")))
  (hq:∀h' e,fD h h' e (.ref C) rest->h.objs.size<=e->Q (.done (.ret (.ref e))) ⟨h',g,d,t,os⟩) (hrest:rest.length<=jf) :
  jb (ja prog w) A (Builtin.«type.__call__» ⟨.ref C::rest,[]⟩) Q E ⟨h,g,d,t,os⟩:=by
 have F:=eA
 repeat (first|with_reducible refine jk hC ?_|with_reducible refine wpAny_madeBy_exc hC ?_|wp_step)
 refine ly (Code.quiet_builtin _ F.quiet) (mD F T hC ?_);refine mH F T hC ?_ hrest;show jb _ _ _ _ _ _;have hC₁:=ae { cls:=.ref C,data:=.fields #[.ref h.objs.size,.none,.none,.none,.bool false,.none] }
  (ae { cls:=.type "tuple", data:=.seq rest.toArray } hC)
 have hget:((h.push { cls:=.type "tuple", data:=.seq rest.toArray }).push
   { cls:=.ref C,data:=.fields #[.ref h.objs.size,.none,.none,.none,.bool false,.none] }).get? (h.objs.size+1)=some
   { cls:=.ref C,data:=.fields #[.ref h.objs.size,.none,.none,.none,.bool false,.none] }:=by heap_get
 have hcC:(ak C::bm).contains (.ref C)=true:=by simp
 have kk:∀b o,h.get? b=some o->((h.push { cls:=.type "tuple", data:=.seq rest.toArray }).push { cls:=.ref C,data:=.fields #[.ref h.objs.size,.none,.none,.none,.bool false,.none] }).get? b=some o:=λb o e=>ae _ (ae _ e)
 have T₁:=T.keeps (h':=(h.push { cls:=.type "tuple", data:=.seq rest.toArray }).push { cls:=.ref C,data:=.fields #[.ref h.objs.size,.none,.none,.none,.bool false,.none] })
  λb o e=>ae _ (ae _ e)
 unfold mI
 repeat (first|with_reducible refine jk hget ?_|(with_reducible refine jt hC₁ ?_;rw[hcC])|wp_step)
 show jb _ _ (jn (.ref C) _) _ _ _;refine hi _ _ _ _ kk ?_;refine jA (iY (wpAny_of_eq (F.init.bind _) ?_));refine iY (kB (jS F.init.plain F.initEntry (lY F T₁ hC₁ hget rfl ?_)))
 wp_walk
 refine hq _ _ ⟨λb o hb=>?_,cE (bM _),h.objs.size+2,?_,cE (by lia),?_⟩ (bM _)
 .rw [bI _ _ (bj (bS (ag hb)))];exact ae _ (ae _ (ae _ hb))
 .rw [cU _ (ae _ hget) rfl];simp only[fA];rfl
 .rw [bI _ _ (show h.objs.size+1≠h.objs.size+2 by lia)]
  exact fS (by simp only[fA]) rfl
theorem Jj(T:jP h uV bm) {rest:List Value}{Q:Value->Shared->Prop}
  (hC:h.get? C=some (jv nm q C N bs bm hdct sn sub ab col dd k0 k1 k2 k3 k5 "ValueError.__new__"))
  (hi:Lk (ja prog w) h (jn (.ref C) "__init__") (some (.builtin "ValueError.__init__")))
  (hq:∀h' e,fD h h' e (.ref C) rest->h.objs.size<=e->Q (.ref e) ⟨h',g,d,t,os⟩) (hrest:rest.length<=jf) :
  jb (ja prog w) A (call (.ref C) rest) Q E ⟨h,g,d,t,os⟩:=by
 have f1:=tc_lookup;have f2:=tc_bind (.ref C);have hT:(⟨h,g,d,t,os⟩:Shared).TypeIs (.ref C) "type" := ⟨_,hC,rfl⟩;refine kB (codeAny_of_tree ?_);show jb _ _ (callAny (.ref C) _) _ _ _
 repeat (any_goals (first|assumption|with_reducible refine jk hC ?_|wp_step))
 refine⟨rfl,?_⟩;refine lN (Code.quiet_builtin _ (by decide +kernel)) entry_typeCall (lu hC (Bf (hrest:=hrest) T hC hi λh' e hm hs=>?_))
 exact hq h' e hm hs
end
end Xe
namespace Xe
open PySem PySem.Spec PySem.W PyProof.Rows L2 Mr
def Wc(K:Frag) (c:Str):TE:=λ_ H Q=>∃C M,wO K c C M/\∀e,H e=none->Q (.ref e) (oB H e (IY e C none))
structure Xv (K:Frag) (mg:Str->Option Value) (c:Str) (C M:Addr):Prop where
 rf:wO K c C M
 ini:findIn K (.ref C) "__init__" = some (some (.builtin "ValueError.__init__"))
 kp:keepIn K (.ref C)=true
 m:mg c=some (.ref C)
section
variable {X:Cx}{c:Str}{C M:Addr}{p pos:Pos}
theorem UJ(G:Xv X.K X.mg c C M) (hg:Gl X c:=by rfl) (hdb:(c == ("__debug__" : Str))=false:=by decide):PE X (.Call (.Name c p) [] [] pos) (Wc X.K c):=by
 intro mV s σ H Q I h;refine jz (vW I hg G.m ?_ hdb);refine W.callWith_K0 I.kIn G.kp ?_;obtain⟨C',M',rf',q⟩:=h;obtain⟨rfl,rfl⟩:=G.rf.one rf';obtain⟨⟨N,q',bs,sn,sub,ab,col,dd,k0,k1,k2,k3,k5,hC⟩,_,T⟩:=uU G.rf.xc;obtain⟨hh,g,d,tk,os⟩:=s;refine Jj (rest:=[]) (T _ I.kIn) (I.kIn _ _ hC) (ka I.kIn G.ini) (λh' e hm hs=>?_) (by rw[jq];simp)
 obtain⟨t0,hx,_,_⟩:=hm.there;exact⟨.ref e,_,I.laid (t':=tk) hm.keeps hs (E8 hx),rfl,q e (I.hok.fresh hs)⟩
end
end Xe
namespace Z
open PySem L2 Mr Xe
def Pr(x:Nat) (body:MX):List D->AS->Option yR
 | [],S=>some (.ok (.nx S))
 |d::ds,S=>(body (S.set x (some (.sh d)))).bind λo=>match o with
  | .ok (.nx S')=>Pr x body ds S'
  | .ok (.ct S')=>Pr x body ds S'
  | .ok (.bk S')=>some (.ok (.nx S'))
  | .ok (.rt a)=>some (.ok (.rt a))
  | .ex c fs=>some (.ex c fs)
def aas(x:Nat) (k:MK) (body:MX):MX:=λS=>(uK k S).bind λy=>(sD (ny y.1)).bind λds=>Pr x body ds y.2
def zX(f:AV->Option yR):Q3->Option yR
 | .ok r=>f r
 | .ex c fs=>some (.ex c fs)
def N1(f:Bz) (a:MA):MX:=λS=>(a S).bind λx=>(f (x.1.map ny)).bind (zX λ_=>some (.ok (.nx x.2)))
def Q9(i:Nat) (f:Bz) (a:MA):MX:=λS=>(a S).bind λx=>(f (x.1.map ny)).bind (zX λr=>some (.ok (.nx (x.2.set i (some r)))))
def Ff(c:Str):MX:=λ_=>some (.ex c [])
section
variable {K:W.Frag}{E:XK}{te:TE}{tb:TS}{k:MK}{body:MX}{x:Nat}{ta:TA}{a:MA}{f:Bz}
theorem Ez{H₀ Hf₀ Hf:Hp}{S':AS}{σ:St}{o:yR}{D:tV}{Hf1 H1:Hp}{Fs1:List (List Addr)}{r:Q3}{g:AV->Option yR}{Q:VK}(R2:og K H₀ Hf₀ Hf1 S' σ H1 Fs1) (e:zX g r=some o) (s0:nS Hf Hf1)
  (q:Ck K H₀ Hf₀ Hf D E o) (hg:∀av,g av=some o->∀Hf' H' v F,nS Hf1 Hf'->og K H₀ Hf₀ Hf' S' σ H' Fs1->nV K Hf' H' av v F->F.Nodup->(∀p∈F,H1 p=none)->Q v H'):TU K Hf1 H1 Q E r:=by
 cases r with
 |ok av=>exact λHf' H' v F s1 s2 s3 l ra nd fr=>hg av e Hf' H' v F s1 (vL R2 s1 s2 s3 l) ra nd fr
 |ex c fs =>
  cases e;intro Hf' H' ex od s1 s2 s3 l rx;have R3:=vL R2 s1 s2 s3 l;exact q Hf' H' ex od R3.sf R3.fr R3.sub R3.lim rx
theorem P5(ha:SA K ta a):MJ K E (xH (yy (Dl K f) [] E ta)) (N1 f a):=by
 intro H₀ Hf₀ Hf S σ H Fs o R e D q;obtain⟨x,e1,e⟩:=oBq.mp e;obtain⟨r,e2,e⟩:=oBq.mp e;refine ha R (as:=x.1) (S':=x.2) e1 _ λHf1 H1 Fs1 vs Gs t1 R1 r1 o1=>?_
 obtain⟨R2,r2,t2⟩:=R1.gives t1 r1 o1;rw[aNq];exact⟨_,_,r,R2.sub,r2,e2,Ez R2 e t2.sf q λav z Hf' H' v F s1 R' ra nd fr=>by cases z;exact q _ _ _ _ (t2.sf.trans s1) R'⟩
theorem JV{i:Nat}(ha:SA K ta a):MJ K E (Gn (yy (Dl K f) [] E ta) (rh i)) (Q9 i f a):=by
 intro H₀ Hf₀ Hf S σ H Fs o R e D q;obtain⟨x,e1,e⟩:=oBq.mp e;obtain⟨r,e2,e⟩:=oBq.mp e;refine ha R (as:=x.1) (S':=x.2) e1 _ λHf1 H1 Fs1 vs Gs t1 R1 r1 o1=>?_
 obtain⟨R2,r2,t2⟩:=R1.gives t1 r1 o1;rw[aNq];exact⟨_,_,r,R2.sub,r2,e2,Ez R2 e t2.sf q λav z Hf' H' v F s1 R' ra nd fr=>by cases z;exact q _ _ _ _ (t2.sf.trans s1) (R'.set i ra nd λp hp=>⟨R2.fr.free (fr p hp),λm=>(R2.mem m).1 (fr p hp)⟩)⟩
theorem Jh{cn:Str}{C M:Addr}(rf:wO K cn C M):MJ K E (Y7 E C (Wc K cn)) (Ff cn):=by
 intro H₀ Hf₀ Hf S σ H Fs o R e D q;cases e;refine⟨C,M,rf,λex n1=>⟨ex,none,rfl,nB,?_⟩⟩
 rw[Ky];have nf1:Hf ex=none:=R.sub.free n1;refine q (oB Hf ex (BG ex C none)) _ ex none (R.sf.trans (pV nf1)) (R.fr.trans (pV n1)) (λb o' z=>?_) (λb z1 z2=>?_) (.exc0 rf nB)
 .by_cases hb:b=ex
  .subst hb;rw[nB]at z ⊢;exact z
  .rw [ni hb]at z ⊢;exact R.sub b o' z
 .have h1:b≠ex:=λz=>z2 (by rw[z];exact R.fr.free n1)
  rw[ni h1];exact R.lim b z1 z2
def YM(c fld:Str) (S:AS):List D->Option (D×AS)
 | [.int n]=>some (.exc c [(fld,n)],S)
 |_=>none
def rMk(c fld:Str) (a:ML):ME:=λS=>(a S).bind λx=>YM c fld x.2 x.1
def YC(c f1 f2:Str) (S:AS):List D->Option (D×AS)
 | [.int n,.int m]=>some (.exc c [(f1,n),(f2,m)],S)
 |_=>none
def aau(c f1 f2:Str) (a:ML):ME:=λS=>(a S).bind λx=>YC c f1 f2 x.2 x.1
def aaj:D->D->Option D
 | .tup [.str u,.int i],.tup [.str v,.int j]=>some (.bl (decide (u=v/\i=j)))
 |_,_=>none
def aad:D->D->Option D
 | .tup [.str u,.int i],.tup [.str v,.int j]=>some (.bl (!decide (u=v/\i=j)))
 |_,_=>none
end
theorem CP{X:Cx}{E:XK}{k:Nat}{f:Addr}{fd:jr}{ps:List Str}{x:Str}{p pos:Pos}{e:Expr}{es:List Expr}{t:TA}{st:Stmt}{g:Bz}(G:HM X.prog X.w X.K X.mg X.base k x st ps (Dl X.K g) f fd) (hr:rz k X.A) (hx:Aj (S6 X.prog X.w) X E) (ha:PA X (e::es) t) (hg:Gl X x:=by rfl) (hdb:(x == ("__debug__" : Str))=false:=by decide)
  (he:jj (e::es) X.env=(false,eval e X.env)::jj es X.env:=by rfl) (hpl:(jR pos (jj es X.env)).any (·.1)=false:=by rfl) :
  PE X (.Call (.Name x p) (e::es) [] pos) (yy (Dl X.K g) [] E t):=FE G.ok hr hg G.D.m G.D.F.kp G.D.b .nil hx ha hdb he hpl
structure NL (K:W.Frag) (mg:Str->Option Value) (cn:Str) (C M:Addr):Prop where
 c:T4 K cn C
 xc:vv K cn C (.ref M::uV)=true
 base:(ak M::uV).contains (.type "BaseException")=true
 mgc:mg cn=some (.ref C)
 i:Xv K mg cn C M
theorem SV{K:W.Frag}{h:Heap}{mg:Str->Option Value}{c:Str}{C M:Addr}(X:K.In h) (G:h.Ns jh mg) (r:wO K c C M) (ini:W.findIn K (.ref C) "__init__" = some (some (.builtin "ValueError.__init__"))) (kp:W.keepIn K (.ref C)=true):NL K mg c C M :=
 ⟨⟨r.nm,.inl ⟨M,r⟩⟩,r.xc,Ik M,W.mg_of X G r.nm,⟨r,ini,kp,W.mg_of X G r.nm⟩⟩
theorem NJ(g:AV->Option yR) (r:AV):zX g (.ok r)=g r:=rfl
theorem Qi(g:AV->Option yR) (c:Str) (fs:List (Str×Int)):zX g (.ex c fs)=some (.ex c fs):=rfl
theorem Uo(S:AS) (f:Bz) (a:MA):N1 f a S=(a S).bind λx=>(f (x.1.map ny)).bind (zX λ_=>some (.ok (.nx x.2))):=rfl
theorem Wj(S:AS) (i:Nat) (f:Bz) (a:MA):Q9 i f a S=(a S).bind λx=>(f (x.1.map ny)).bind (zX λr=>some (.ok (.nx (x.2.set i (some r))))):=rfl
theorem OR(S:AS) (c:Str):Ff c S=some (.ex c []):=rfl
def zq4:=aa @NJ (aa @Qi (aa @Uo (aa @Wj @OR)))
end Z
namespace Zl
open PySem L2 Mr Z
def uH:MS:=(zI 1 (nj 4) (ot 2))
def um:MS:=(Do 4 (ot 3) uH)
def zL:MS:=(nY (pI 1 En)
 (nY (Kh 2 3 (ot 0) um)
 (qR (Cs 1))))
def qU:MF:=tw 1 5 zL
end Zl
namespace Mr
open PySem PySem.Spec PyProof.Rows L2
section
variable {X:Cx}
theorem GU:∀{bs:List Bool}{us:List Value},nX (bs.map V.bl) us->us=bs.map eX
 | [],us,r=>by cases r;rfl
 |b::bs,us,r=>by
  cases r with
  |cons r1 r2=>rw[GU r2];cases r1;rfl
theorem N3(hc:X.calm=true):uB X (.builtin "all") (λxs H Q=>∃(a:Addr) (bs:List Bool),xs=[.ref a]/\qO X.K H a (bs.map V.bl)/\Q (.bl (bs.all id)) H):=by
 intro mV s σ H xs us Q I r h;obtain⟨a,bs,rfl,hS,q⟩:=h;obtain⟨u,rfl,ru⟩:=vK r;cases ru;obtain⟨its,rv,p,hz⟩:=I.list hS;obtain rfl:=GU rv;have hl:=p.isList;have hlt:a<s.heap.objs.size:=by obtain⟨_,e,_⟩:=hl;exact ag e
 refine call_all_walk (wpAny_pyIter_list hl ?_);refine⟨s.heap.objs.size,[s.heap.objs.size,a],[s.heap.objs.size],(bs.map eX).toArray.size,_,_,λi=>(bs[i]?).getD true,rfl,Walks.list (A:=X.A.in1) (I.ok.hd hc) _ a (aw hlt) _,⟨⟨_,aS _ rfl,rfl,rfl⟩,hl.push _⟩,λi v s' Q' E' hP hQ=>?_,λh' tk hk=>?_⟩
 .have e:(bs.map eX)[i]?=some v:=by simpa using hP
  rw[gMq]at e;cases hb:bs[i]? with
  |none=>rw[hb]at e;cases e
  |some b =>
   rw[hb]at e;cases e;simp only[hb,cu]at hQ;exact jC hQ
 .have e:((cL (bs.map eX).toArray.size).all λi=>(bs[i]?).getD true)=bs.all id:=by
   rw[aC,lMq,bA,fh,fh];constructor
   .intro z b hb;obtain⟨i,hi,rfl⟩:=List.getElem_of_mem hb;have:=z i (cB.mpr hi);simpa [gEg hi] using this
   .intro z i hi;have hi':=cB.mp hi;have:=z bs[i] (gRq hi');simpa [gEg hi'] using this
  rw[e];refine⟨.bl _,H,I.kept (t':=tk) λb ob z=>hk b ob (λm=>?_) (ae _ z),rfl,q⟩
  rw[mSq.mp m]at z;exact bY _ (ag z)
end
end Mr
namespace Z
open PySem L2 Mr Xe
def Yl:D->List D->Option D
 | .str a,[.str b]=>some (.bl (Txt.startswith a b))
 |_,_=>none
def wC:List D->Option (List Bool)
 | []=>some []
 | .bl b::ds=>(wC ds).map (b :: ·)
 |_=>none
def O4:List D->Option D
 | [.list ds]=>(wC ds).map λbs=>.bl (bs.all id)
 |_=>none
theorem BN:∀{ds:List D}{bs:List Bool},wC ds=some bs->ds=bs.map .bl
 | [],bs,h=>by cases h;rfl
 |d::ds,bs,h=>by
  cases d with
  |bl b =>
   obtain⟨ms,h1,h2⟩:=oMq.mp (show (wC ds).map (b :: ·)=some bs from h)
   subst h2;rw[BN h1];rfl
  |_=>cases h
theorem G7(bs:List Bool):wC (bs.map .bl)=some bs:=by
 induction bs with
 |nil=>rfl
 |cons b bs ih=>show (wC (bs.map .bl)).map (b :: ·)=_;rw[ih];rfl
theorem xE{K:W.Frag}{H:Hp}:∀{bs:List Bool}{vs:List V},oq K H (bs.map .bl) vs->vs=bs.map V.bl
 | [],vs,h=>h.nil_inv
 |b::bs,vs,h=>by
  obtain⟨v,ws,rfl,h1,h2⟩:=oq.cons_inv (d:=.bl b) (ds:=bs.map .bl) h;cases h1;rw[xE h2];rfl
section
variable {K:W.Frag}
theorem UL:Sf K (λxs H Q=>∃(a:Addr) (bs:List Bool),xs=[.ref a]/\qO K H a (bs.map V.bl)/\Q (.bl (bs.all id)) H) O4:=by
 intro vs H Q ds d r e q;unfold O4 at e;split at e
 .obtain ⟨bs,e1,e⟩:=oMq.mp e;cases e;obtain⟨v,ws,rfl,h1,h2⟩:=r.cons_inv;rw[h2.nil_inv];rw[BN e1]at h1;obtain⟨p,us,rfl,h3,h4⟩:=h1.list_inv;rw[xE h4]at h3;exact⟨p,bs,rfl,qO.of h3,q _ .bl⟩
 .cases e
end
theorem XF(ds:List D):O4 [.list ds]=(wC ds).map λbs=>.bl (bs.all id):=rfl
def SM(K:W.Frag) (te:TE) (m:ME):Prop:=∀{H₀ Hf₀ Hf:Hp}{S:AS}{σ:St}{H:Hp}{Fs:List (List Addr)}{d:D}{S':AS},og K H₀ Hf₀ Hf S σ H Fs->m S=some (d,S')->∀Q:VK,
 (∀Hf' H' Fs' v,nS Hf Hf'->og K H₀ Hf₀ Hf' S' σ H' Fs'->pP K Hf' d v->Q v H')->te σ H Q
def US:AV->Option D
 | .sh d=>some d
 |_=>none
theorem Pw{a:AV}{d:D}(h:US a=some d):a = .sh d:=by
 unfold US at h;split at h <;> cases h
 rfl
def yo(i:Nat) (b:ME):ME:=λS=>(pS S i).bind λ_=>(b S).bind λy=>(intOf y.1).bind λz=>(pS y.2 i).bind λavs=>tM (0<=z/\z<avs.length/\avs.length<=qp) ((avs[z.toNat]?.bind US).map λd=>(d,y.2.set i (some (.ow (avs.eraseIdx z.toNat)))))
def A6(i:Nat):ME:=λS=>(pS S i).bind λavs=>(avs[avs.length-1]?.bind US).map λd=>(d,S.set i (some (.ow avs.dropLast)))
def Wl(kvs:List (nO×D)) (k:nO):List (nO×D):=kvs.filter λkv=>decide (kv.1≠k)
def ZC(i:Nat) (b:ME):ME:=λS=>(uM S i).bind λ_=>(b S).bind λy=>(tQ y.1).bind λkey=>(uM y.2 i).bind λkvs=>(getD kvs key).map λd=>(d,y.2.set i (some (.owd (Wl kvs key))))
section
variable {K:W.Frag}
theorem nU.erase{Hf H:Hp}{as:List AV}{vs:List V}{Gs:List (List Addr)}(r:nU K Hf H as vs Gs) (k:Nat):nU K Hf H (as.eraseIdx k) (vs.eraseIdx k) (Gs.eraseIdx k):=by
 obtain⟨h1,h2,h3⟩:=r;refine⟨by rw[ee,ee,h1],by rw[ee,ee,h2],λi b w G e1 e2 e3=>?_⟩
 rw[List.getElem?_eraseIdx]at e1 e2 e3;split at e1
 .rename_i q;rw[nP q]at e2 e3;exact h3 i b w G e1 e2 e3
 .rename_i q;rw[nQ q]at e2 e3;exact h3 (i+1) b w G e1 e2 e3
theorem Jm{Gs:List (List Addr)}{k:Nat}(h:Gs[k]?=some []):(Gs.eraseIdx k).flatten=Gs.flatten:=by
 induction Gs generalizing k with
 |nil=>cases h
 |cons g r ih =>
  cases k with
  |zero =>
   simp at h;subst h;rfl
  |succ k =>
   rw[cH,fCq,fCq,ih (by simpa using h)]
theorem og.lose{H₀ Hf₀ Hf H:Hp}{S:AS}{σ:St}{Fs:List (List Addr)}(R:og K H₀ Hf₀ Hf S σ H Fs) {i k:Nat}{avs:List AV}{d:D}(h:S[i]?=some (some (.ow avs))) (hk:avs[k]?=some (.sh d)) :
  ∃p vs y F',σ[i]?=some (some (.ref p))/\H p=some (.lst vs)/\avs.length=vs.length/\vs[k]?=some y/\pP K Hf d y/\og K H₀ Hf₀ Hf (S.set i (some (.ow (avs.eraseIdx k)))) σ (oB H p (.lst (vs.eraseIdx k))) (Fs.set i F'):=by
 obtain⟨p,vs,Gs,s1,s2,h1,h2,h3,h4,h5,h6⟩:=R.ow h;have lk:k<avs.length:=(gSq.mp hk).1;obtain⟨y,hy⟩:∃y,vs[k]?=some y:=⟨_,gEg (by rw[←h3.1];exact lk)⟩
 obtain⟨G,hG⟩:∃G,Gs[k]?=some G:=⟨_,gEg (by rw[←h3.2.1];exact lk)⟩
 obtain⟨hG0,ry⟩:=(h3.2.2 k _ _ _ hk hy hG).sh_inv;subst hG0;have hf:=Jm hG;refine⟨p,vs,y,p::(Gs.eraseIdx k).flatten,s1,h1,h3.1,hy,ry,R.turn s1 s2 (by simp) (nV.news nB h2 ((h3.keepUpd h4).erase k)) ?_ ?_⟩
 .rw [hf];exact aA.mpr ⟨h4,h5⟩
 .rw [hf];exact h6
theorem Hg{i:Nat}{tb:TE}{b:ME}(hb:SR K tb b):SM K (NU K "list" OP (uI i) (ri tb uZ)) (yo i b):=by
 intro H₀ Hf₀ Hf S σ H Fs d S' R e Q q;obtain⟨a0,e0,e⟩:=oBq.mp e;obtain⟨y,e1,e⟩:=oBq.mp e;obtain⟨z,e2,e⟩:=oBq.mp e;obtain⟨avs,e3,e⟩:=oBq.mp e;rcases nT e with ⟨⟨z0,z1,z2⟩,e⟩|e
 .obtain ⟨d',e4,e⟩:=oMq.mp e;cases e;obtain⟨a,e4,e5⟩:=oBq.mp e4;have e5:=Pw e5;subst e5;obtain⟨p,vs,Gs,s1,_,h1,_⟩:=R.ow (nZ e0);refine⟨.ref p,s1,.inl ⟨rfl,vs,qO.of h1⟩,hb R (d:=y.1) (S':=y.2) e1 _ λHf1 H1 Fs1 v t1 R1 r1=>?_⟩
  obtain⟨p',vs',w,F',s1',hp,hl,hw,rw',R2⟩:=R1.lose (nZ e3) e4;rw[s1]at s1';cases s1';have hv:v = .int z:=by
   have:y.1 = .int z:=by
    revert e2
    unfold intOf;split <;> intro e2 <;> cases e2
    assumption
   rw[this]at r1;cases r1;rfl
  subst hv;have hz:(avs.length:Int)<=16777216:=by
   have:avs.length<=16777216:=z2;lia
  refine⟨p,vs',z,z.toNat,w,rfl,rfl,hp,by lia,by lia,?_,hw,q _ _ _ _ t1.sf R2 rw'⟩
  rw[←hl];unfold mT;have n1:¬ z<0:=by lia
  have n2:(decide (0<=z) && decide (z<(avs.length:Int)))=true:=by
   rw[decide_eq_true z0,decide_eq_true z1];rfl
  simp only[n1,if_false];exact nP n2
 .cases e
theorem VA{i:Nat}:SM K (NU K "list" Uw (uI i) uZ) (A6 i):=by
 intro H₀ Hf₀ Hf S σ H Fs d S' R e Q q;obtain⟨avs,e0,e⟩:=oBq.mp e;obtain⟨d',e4,e⟩:=oMq.mp e;cases e;obtain⟨a,e4,e5⟩:=oBq.mp e4;have e5:=Pw e5;subst e5;obtain⟨p,vs,w,F',s1,hp,hl,hw,rw',R2⟩:=R.lose (nZ e0) e4;refine⟨.ref p,s1,.inl ⟨rfl,vs,qO.of hp⟩,p,vs,w,rfl,rfl,hp,by rw[←hl];exact hw,?_⟩
 rw[yT,hl,yT]at R2;exact q _ _ _ _ (.refl _) R2 rw'
def Dg(i:Nat) (m:ME):MS:=λS=>(m S).map λx=>.nx (x.2.set i (some (.sh x.1)))
theorem K4{i:Nat}{te:TE}{m:ME}(h:SM K te m):SS K (Gn te (rh i)) (Dg i m):=by
 intro H₀ Hf₀ Hf S σ H Fs o R e D hd;obtain⟨x,e1,e⟩:=oMq.mp e;cases e;refine h R (d:=x.1) (S':=x.2) e1 _ λHf1 H1 Fs1 v t1 R1 r1=>?_
 exact hd _ _ _ _ t1 (R1.setD i r1)
def ZP(i:Nat) (m:ME):MS:=λS=>(pS S i).bind λ_=>(m S).bind λx=>(pS x.2 i).bind λavs=>tM (avs.length<qp) (some (.nx (x.2.set i (some (.ow (avs++[.sh x.1]))))))
def YW(i:Nat) (b:ME) (m:ME):MS:=λS=>(m S).bind λx=>(uM x.2 i).bind λ_=>(b x.2).bind λy=>(uM y.2 i).bind λkvs=>(tQ y.1).bind λkey =>
 tM (kvs.length<qp) (some (.nx (y.2.set i (some (.owd (vh kvs key x.1))))))
end
theorem Vk(d:D):US (.sh d)=some d:=rfl
theorem OV(S:AS) (i:Nat) (b:ME):yo i b S=(pS S i).bind λ_=>(b S).bind λy=>(intOf y.1).bind λz=>(pS y.2 i).bind λavs=>tM (0<=z/\z<avs.length/\avs.length<=qp) ((avs[z.toNat]?.bind US).map λd=>(d,y.2.set i (some (.ow (avs.eraseIdx z.toNat))))):=rfl
theorem Uu(S:AS) (i:Nat):A6 i S=(pS S i).bind λavs=>(avs[avs.length-1]?.bind US).map λd=>(d,S.set i (some (.ow avs.dropLast))):=rfl
theorem Vq(S:AS) (i:Nat) (m:ME):Dg i m S=(m S).map λx=>.nx (x.2.set i (some (.sh x.1))):=rfl
def Z8:=aa @Vk (aa @OV (aa @Uu @Vq))
end Z
namespace MrS
open PySem PySem.W PyProof.Rows
section
variable {prog:jg}{w:ji}{A:Around}{E:Value->Shared->Prop}{s:Shared}{Pk:iZ->Prop}{lt:iZ->iZ->Bool}{T:String}{r d:Addr}{n:Nat}{P:Nat->Value->Prop}{OK:Heap->Prop}
theorem Ho{Q:List Value->Shared->Prop}(K:KdlSrc prog w T r d n P OK) (hh:A.handled=none) (hok:OK s.heap) (hn:n<=jf)
  (h:∀h' tk (acc:Array Value),(∀b o,s.heap.get? b=some o->h'.get? b=some o)->s.heap.objs.size<h'.objs.size->ItemsOf P acc n->Q acc.toList { s with heap:=h',toks:=tk }) :
  jb (ja prog w) A (mz (.ref r)) Q E s:=by
 unfold mz;refine iY (wpAny_runValue (jw mG ?_));show jb _ _ (do again (.builtin "list.__iadd__" ⟨[←newList [],.ref r],[]⟩)) _ _ s
 refine iY (jU (je ⟨Code.quiet_builtin _ (by decide +kernel),jw entry_list_iadd' ?_⟩))
 show jb _ _ (Builtin.List.listExtendWith (.ref s.heap.objs.size) (.ref r) (.ref s.heap.objs.size)) _ _ { s with heap:=s.heap.push (jm "list" #[] 0) }
 have hlt:=K.there _ hok;have hS0:(s.heap.push (jm "list" #[] 0)).get? s.heap.objs.size=some (jm "list" #[] 0):=aS _ rfl;refine kdl_extend (A:=A) (R:=λr s'=>match r with
   | .ok (.ret v)=>jb (ja prog w) A (match v with
    | .ref a=>do
     let o ←load a
     match o.data with
     | .seq xs _=>pure xs.toList
     |_=>kq "internal:collect"
    |_=>kq "internal:collect") Q E s'
   | .ok _=>False
   | .error e=>E e s') (s:={ s with heap:=s.heap.push (jm "list" #[] 0) }) K hh (K.keep _ _ hok λb _ o e=>ae _ e) s.heap.objs.size (bj hlt.1) (bj hlt.2) (.ref s.heap.objs.size) 0 hS0 (λh' tk acc c hk hS hi=>?_) hn
 show jb (ja prog w) A (do
   let o ←load s.heap.objs.size
   match o.data with
   | .seq xs _=>pure xs.toList
   |_=>kq "internal:collect") Q E { s with heap:=h',toks:=tk }
 refine iY (wpAny_load hS ?_);exact je (h h' tk acc (λb o e=>hk b o (aw (ag e)) (ae _ e)) (ag hS) hi)
theorem Ja{Q:Value->Shared->Prop}(K:KdlSrc prog w T r d n P OK) (hh:A.handled=none) (hok:OK s.heap) (hn:n<=jf)
  (hC:∀(vs:List Value),vs.length=n->(∀j v,vs[j]?=some v->P j v)->∀s':Shared,(2<=vs.length->∀Q:jx->Shared->Prop,Q jY s'->jb (ja prog w) A.in1.in1 (kQ vs.toArray) Q E s')/\wR prog w A.in1.in1 s' jY Pk lt/\∀v∈vs,Pk (v,v))
  (h:∀(vs out:List Value) (h':Heap) (p:Addr) (tk n':Nat),vs.length=n->(∀j v,vs[j]?=some v->P j v)->out.Perm vs->out.Pairwise (λx y=>lt (y,y) (x,x)=false)->(∀b o,s.heap.get? b=some o->h'.get? b=some o)->s.heap.objs.size<=p ->
   h'.get? p=some (jm "list" out.toArray n')->Q (.ref p) { s with heap:=h',toks:=tk }) :
  jb (ja prog w) A (call (.builtin "sorted") [.ref r]) Q E s:=by
 refine Calls.call_function_entry aab mP mQ (mR _) ?_;unfold Builtin.«sorted»;refine iY (m:=checkCount "sorted" 1 1 _) (je ?_);refine iY (Ho K hh hok hn λh0 tk acc hk0 hsz0 hi=>?_)
 have hl:acc.toList.length=n:=by rw[ax];exact hi.1
 have hP:∀j v,acc.toList[j]?=some v->P j v:=λj v e=>hi.2 j v (by rw[←aH];exact e)
 have hs:acc.toList.length<=jf:=by rw[hl];exact hn
 generalize acc.toList=vs at hl hP hs;refine iY (jU ?_ hs);have hoL:(h0.push (jm "list" vs.toArray 0)).get? h0.objs.size=some (jm "list" vs.toArray 0):=aS _ rfl;show jb _ _ _ _ _ { s with heap:=h0.push (jm "list" vs.toArray 0),toks:=tk }
 have hsz:s.heap.objs.size<=h0.objs.size:=bZ hsz0;have k1:∀b o,s.heap.get? b=some o->(h0.push (jm "list" vs.toArray 0)).get? b=some o:=λb o e=>ae _ (hk0 b o e)
 have hlt:∀b o,s.heap.get? b=some o->b≠h0.objs.size:=λb o e=>aw (ag (hk0 b o e))
 generalize h0.push (jm "list" vs.toArray 0)=G at hoL k1 ⊢
 clear hsz0
 generalize h0.objs.size=p at hoL hsz hlt ⊢;have k2:∀b o,s.heap.get? b=some o->(qf G p vs).get? b=some o:=λb o e=>by
  refine ae _ (ae _ ?_);rw[bp _ _ _ _ (hlt b o e)];exact k1 b o e
 obtain⟨q1,q2,q3⟩:=hC vs hl hP { s with heap:=qf G p vs,toks:=tk }
 refine iY (jA (ki mn ⟨_,hoL,rfl⟩ lO (yA (s:={ s with heap:=G,toks:=tk }) (Pk:=Pk) (lt:=lt) hoL hs q1 q2 (λx hx=>?_) λxs a1 a2=>⟨_,rfl,?_⟩) (mv _)))
 .obtain ⟨m1,m2⟩:=tF hx;have:x=(x.1,x.1):=gX rfl m2;rw[this];exact q3 _ m1
 .obtain ⟨v1,v2⟩:=xB a1 a2;obtain⟨e1,ho1⟩:=ET vs hoL;obtain⟨n1,g1⟩:=Ex (xs.map (·.2)) ho1;refine je ⟨_,rfl,h vs _ (km G p vs (xs.map (·.2))) p tk n1 hl hP v1 v2 (λb o e=>?_) hsz ?_⟩
  .unfold km;rw[bp _ _ _ _ (hlt b o e)];exact k2 b o e
  .rw [show (xs.map (·.2)).toList.toArray=xs.map (·.2) from fm]
   exact g1
end
end MrS
namespace Mr
open PySem PySem.W PySem.Spec PyProof.Rows L2
section
variable {X:Cx}
theorem J6:∀{us:List Value}{ns:List Int},us.length=ns.length->(∀(j:Nat) (v:Value) (n:Int),us[j]?=some v->ns[j]?=some n->∃t,v=fN n t)->ju us ns
 | [],[],_,_=>.nil
 | [],_::_,h,_=>by simp at h
 |_::_,[],h,_=>by simp at h
 |u::us,n::ns,h,g=>by
  obtain⟨t,rfl⟩:=g 0 u n rfl rfl;exact .cons n t (J6 (by simpa using h) λj v m e1 e2=>g (j+1) v m (by simpa using e1) (by simpa using e2))
theorem K1:∀{kvs:List (nO×V)}{ws:List (nO×Value)},KV kvs ws->kvs.map (·.1)=ws.map (·.1):=λ{kvs ws} r=>by
 induction r with
 |nil=>rfl
 |cons a b ih=>rw[aB,aB,ih,a.1]
theorem FA(hc:X.calm=true):uB X (.builtin "sorted") (λxs H Q=>∃(a:Addr) (kvs:List (nO×V)) (ns:List Int),xs=[.ref a]/\H a=some (.dK kvs)/\kvs.map (·.1)=ns.map az/\∀p,H p=none->Q (.ref p) (oB H p (.lst ((wu ns).map V.int)))):=by
 intro mV s σ H xs us Q I r h;obtain⟨a,kvs,ns,rfl,ha,hk,q⟩:=h;obtain⟨u,rfl,ru⟩:=vK r;cases ru;obtain⟨hz,sa,vs,kv,d⟩:=(show oY X.prog X.w H s.heap a (.dK kvs) from I.hok a _ ha)
 obtain⟨ep,da⟩:=d.dictAt;have hl:=Paired.length kv;have hlen:ns.length=vs.length:=by
  have:=congrArg bb hk;rw[lMq,lMq]at this;rw[←this,hl]
 have hkv:vs.map (·.1)=ns.map az:=by rw[←K1 kv,hk]
 have hI:∀us:List Value,us.length=vs.length->(∀(j:Nat) (v:Value),us[j]?=some v->∃k x,vs[j]?=some (k,x)/\(oX X.prog X.w).is k v=true)->ju us ns:=λus h1 h2=>J6 (by rw[h1,hlen]) λj v m e1 e2=>by
  obtain⟨k,x,g1,g2⟩:=h2 j v e1;have e3:(vs.map (·.1))[j]?=some k:=by rw[gMq,g1];rfl
  rw[hkv,gMq,e2]at e3;have e4:(az m:nO)=k:=by simpa using e3
  subst e4;rcases oH (k:=az m) (v:=v) g2 with ⟨i,t,e5,e6⟩|⟨z,t,e5,_⟩
  .cases e5;exact⟨t,e6⟩
  .cases e5
 refine MrS.Ja (kdl_dict (knd:=oX X.prog X.w) (d:=a) (kvs:=vs) (ep:=ep) sa) (I.ok.hd hc) da (by rw[←hl];exact hz) (Pk:=λx:iZ=>∃a t,x.1=fN a t) (lt:=Zx) (λus h1 h2 s'=>⟨λh3 Q q=>?_,Y3 _ _ _ _,λv m=>(KU (hI us h1 h2)).2 v m⟩) λus out h' p tk n' h1 h2 o1 o2 o3 op o4=>?_
 .have hi:=hI us h1 h2
  match us,hi,h3 with
  | [],_,h3=>simp at h3
  | [_],_,h3=>simp at h3
  |v₁::v₂::rest,hi,_ =>
   rw[keyKind_ints hi];exact je q
 .obtain ⟨en,hv⟩:=KU (hI us h1 h2);have ho:∀v∈out,∃a t,v = .int a t:=λv m=>hv v (o1.mem_iff.mp m)
  have e:out.map intOf=wu ns:=by
   refine Rq (by rw[en];exact o1.map _) ?_
   rw[bg];refine o2.imp_of_mem λ{x y} mx my h=>?_
   obtain⟨a,t,rfl⟩:=ho x mx;obtain⟨b,u,rfl⟩:=ho y my;have h':¬ b<a:=of_decide_eq_false h;show a<=b;lia
  have hp:H p=none:=I.hok.fresh op;refine⟨.ref p,_,I.laid (t':=tk) o3 op (show oY X.prog X.w _ h' _ (.lst ((wu ns).map V.int)) from ⟨?_,out,n',?_,o4⟩),rfl,q _ hp⟩
  .rw [lMq,(Al ns).length_eq,hlen,←hl];exact hz
  .rw [←e];exact vals_ints ho
end
end Mr
namespace Z
open PySem L2 Mr Xe
section
variable {K:W.Frag}{H₀ Hf₀ Hf H:Hp}{S:AS}{σ:St}{Fs:List (List Addr)}{te tb:TE}{k:MK}{b:ME}
theorem og.poke(R:og K H₀ Hf₀ Hf S σ H Fs) {p:Addr}{o:HO}(pn:Hf p=none) (p0:H₀ p=none) (pf:p∉Fs.flatten):og K H₀ Hf₀ Hf S σ (oB H p o) Fs:=by
 refine⟨R.len,R.lenF,λj a ej=>?_,R.emp,R.nd,R.fresh,λb u e=>?_,λb u e=>?_,R.lim,R.sf⟩
 .obtain ⟨w,G,f1,f2,q⟩:=R.rep j a ej;refine⟨w,G,f1,f2,q.keep (.refl _) (λc hc=>ni λe=>pf ?_) λc hc=>(q.owned c hc).2⟩
  subst e;exact oA f2 hc
 .rw [ni λz=>by rw[z,pn]at e;cases e]
  exact R.sub b u e
 .rw [ni λz=>by rw[z,p0]at e;cases e]
  exact R.fr b u e
theorem wW.stays{Hf' H':Hp}{Fs':List (List Addr)}(t:wW Hf H Fs Hf' H' Fs') {p:Addr}(pn:Hf p=none) (ph:H p≠none) (pf:p∉Fs.flatten):Hf' p=none/\p∉Fs'.flatten:=by
 refine⟨?_,λm=>pf (t.own p m)⟩
 by_cases h:Hf' p=none
 .exact h
 .exact ((t.gr p pn h).elim (λe=>absurd e ph) λm=>absurd m pf)
def Cw(b:ME) (k:MK):MK:=λS=>(b S).bind λy=>(uK k y.2).bind λx=>(tQ y.1).map λkey=>(.owd [(key,ny x.1)],x.2)
theorem Cd(hb:SR K tb b) (hk:SK K te k):SK K (TC [(tb,te)]) (Cw b k):=by
 intro H₀ Hf₀ Hf S σ H Fs av S' R e Q q;obtain⟨y,e1,e⟩:=oBq.mp e;obtain⟨x,e2,e⟩:=oBq.mp e;obtain⟨key,e3,e⟩:=oMq.mp e;cases e;have hk':SK K te (uK k):=SK.frz hk;intro p hp;obtain⟨t0,R0,n1,n2,n3⟩:=R.new (o:=.dK []) hp;have own0:=wV.one R hp;refine hb R0 (d:=y.1) (S':=y.2) e1 _ λHf1 H1 Fs1 w t1 R1 r1=>?_
 have p0:oB H p (HO.dK []) p=some (.dK []):=nB;have p1:H1 p=some (.dK []):=t1.sh p _ p0;obtain⟨a1,a2⟩:=t1.stays n1 (by rw[p0];simp) n3
 refine hk' R1 (a:=x.1) (S':=x.2) e2 _ λHf2 H2 Fs2 v F t2 R2 r2 o2=>?_
 have p2:H2 p=some (.dK []):=t2.sh p _ p1;obtain⟨b1,b2⟩:=t2.stays a1 (by rw[p1];simp) a2
 obtain⟨x1,hx1⟩:∃d,x.1 = .sh d:=by
  obtain⟨w,_,e⟩:=oMq.mp e2;rw[←e];exact⟨_,rfl⟩
 rw[hx1]at r2;have rv:=r2.sh_inv.2;have hw:=vI e3 r1;subst hw;refine⟨p2,[(key,v)],rfl,by simp,?_⟩
 have t12:=(t0.trans t1).trans t2;have hs:nS H (oB H2 p (HO.dK (Ah [] [(key,v)]))):=λc u e=>by
  rw[ni λz=>by rw[z,hp]at e;cases e]
  exact t12.sh c u e
 refine q Hf2 _ Fs2 (.ref p) [p] ⟨t12.sf,hs,t12.own,t12.gr⟩ (R2.poke b1 n2 b2) (.owd nB b1 ⟨rfl,λi d u h1 h2=>?_⟩) ⟨by simp,λc h=>by rw[mSq.mp h];exact n2,λc h=>by rw[mSq.mp h];exact b2,λc h=>by rw[mSq.mp h];exact .inl hp⟩
 match i,h1,h2 with
 |0,h1,h2 =>
  cases h1;cases h2;rw[hx1,si];exact rv
 |i+1,h1,_=>simp at h1
theorem BD{i:Nat}:SM K (W2 K "list" Uw (uI i)) (A6 i):=VA
def tN:List (nO×D)->Option (List Int)
 | []=>some []
 | (.inl i,_)::r=>(tN r).map (i :: ·)
 |_=>none
theorem C6:∀{kvs:List (nO×D)}{ns:List Int},tN kvs=some ns->kvs.map (·.1)=ns.map az
 | [],ns,h=>by cases h;rfl
 | (.inl i,d)::r,ns,h=>by
  obtain⟨ms,h1,h2⟩:=oMq.mp (show (tN r).map (i :: ·)=some ns from h)
  subst h2;rw[aB,aB,C6 h1]
 | (.inr _,_)::_,_,h=>by cases h
def Fo(a:ME):MK:=λS=>(a S).bind λx=>match x.1 with
 | .dict kvs=>(tN kvs).map λns=>(.ow ((wu ns).map λn=>.sh (.int n)),x.2)
 |_=>none
theorem OZ(hb:SR K te b):SK K (QC (λxs H Q=>∃(a:Addr) (kvs:List (nO×V)) (ns:List Int),xs=[.ref a]/\H a=some (.dK kvs)/\kvs.map (·.1)=ns.map az/\∀p,H p=none->Q (.ref p) (oB H p (.lst ((wu ns).map V.int)))) (ri te uZ)) (Fo b):=by
 intro H₀ Hf₀ Hf S σ H Fs av S' R e Q q;obtain⟨x,e1,e⟩:=oBq.mp e;obtain⟨x1,x2⟩:=x;cases x1 with
 |dict kvs =>
  obtain⟨ns,e2,e⟩:=oMq.mp (show (tN kvs).map (λns=>(AV.ow ((wu ns).map λn=>.sh (.int n)),x2))=some (av,S') from e)
  cases e;refine hb R (d:=.dict kvs) (S':=S') e1 _ λHf1 H1 Fs1 w t1 R1 r1=>?_
  obtain⟨p1,vs,rfl,h1,h2⟩:=r1.dict_inv;refine⟨p1,vs,ns,rfl,h1,by rw[←h2.1];exact C6 e2,λp hp=>?_⟩
  obtain⟨t4,R4,n1,n2,n3⟩:=R1.new (o:=.lst ((wu ns).map V.int)) hp;rw[Bb]at q;exact q _ _ _ (.ref p) [p] (t1.trans t4) R4 (nV.new nB n1 (rR _)) ((wV.one R1 hp).back t1)
 |_=>cases e
end
theorem EW(S:AS) (b:ME) (k:MK):Cw b k S=(b S).bind λy=>(uK k y.2).bind λx=>(tQ y.1).map λkey=>(.owd [(key,ny x.1)],x.2):=rfl
def TM:D->AS->Option (AV×AS)
 | .dict kvs,S=>(tN kvs).map λns=>(.ow ((wu ns).map λn=>.sh (.int n)),S)
 |_,_=>none
theorem RV(S:AS) (a:ME):Fo a S=(a S).bind λx=>TM x.1 x.2:=by
 unfold Fo;congr 1;funext x;obtain⟨x1,x2⟩:=x;cases x1 <;> rfl
theorem UD(kvs:List (nO×D)) (S:AS):TM (.dict kvs) S=(tN kvs).map λns=>(.ow ((wu ns).map λn=>.sh (.int n)),S):=rfl
theorem Eo{α:Type}(f:α->Int) (g:α->D):∀l:List α,tN (l.map λx=>(az (f x),g x))=some (l.map f)
 | []=>rfl
 |x::l=>by
  show (tN (l.map λx=>(az (f x),g x))).map (f x :: ·)=_
  rw[Eo f g l];rfl
def zq9:=aa @EW (aa @RV @UD)
end Z
namespace K51
open PySem L2 Mr Z Xe
def qZ:MS:=(nY (pI 7 (kSc (xZ (nj 2) (Kg Ap (nj 6))))) (Be (sI (wA (nj 7) (nj 3))) (nY (zI 3 (nj 7) (kSc (rC (.bl true)))) (Aw 4 (ot 7))) qC))
def tS:MS:=(nY (Dg 5 (A6 4)) (Do 6 (OW (uJ 0) (nj 5)) qZ))
def CB:MS:=(nY (pI 2 (qo Zl.qU (nH (ot 0) oM)))
 (nY (pI 3 (Cw (nj 1) (kSc (rC (.bl true)))))
 (nY (pI 4 (tH (nH (ot 1) oM)))
 (nY (qS (sI (oU GI (tO qu (nh (nj 4) nI)) (rC (.int 0)))) tS 100000)
 (qR (Fo (nj 3)))))))
def uh:MF:=tw 2 8 CB
def uP:MS:=(zI 1 (nj 5) (kSc (rC (.bl true))))
def uO:MS:=(Be (sI (wA (nj 3) (nj 1))) (nY (pI 4 (qo K51.uh (nH (ot 0) (nH (ot 3) oM)))) (nY (Do 5 (ot 4) uP) (Aw 2 (xO (EC (ot 4)) [0] tL (zP (lOf (OW (uJ 1) (nj 0)))))))) qC)
def DM:MS:=(nY (pI 1 En)
 (nY (pI 2 (tH oM))
 (nY (CV 3 (nh (tO qu (nh (nj 0) nI)) nI) uO)
 (qR (Cs 2)))))
def xG:MF:=tw 1 6 DM
def qz:MX:=(Yo (sI (oU V6 (tO qu (nh (rOf (qo K51.xG (nH (ot 0) oM))) nI)) (rC (.int 1)))) (Ff "NotOnePiece") (JP qC))
def nJ:Bz:=Dv 1 1 qz
def DQ:MS:=(qR (xO (EC (ot 0)) [] tL (zP (uJ 0))))
def uz:MF:=tw 1 1 DQ
end K51
namespace Mr
open PySem PySem.W PySem.Spec PyProof.Rows L2
abbrev g2(K:W.Frag):TG:=RB K 2 (B5 (rh 0) (B5 (rh 1) Rl))
end Mr
namespace Z
open PySem L2 Mr Xe
def Gd:D->D->Option D
 | .non,.non=>some (.bl false)
 | .int _,.non=>some (.bl true)
 | .str _,.non=>some (.bl true)
 | .bl _,.non=>some (.bl true)
 | .list _,.non=>some (.bl true)
 | .tup _,.non=>some (.bl true)
 | .dict _,.non=>some (.bl true)
 |_,_=>none
section
variable {K:W.Frag}
theorem QL:FC K (λx y H Q=>y = .non/\Q (.bl (!decide (x = .non))) H) Gd:=by
 intro x y H Q dx dy d rx ry e q;unfold Gd at e;split at e
 all_goals first|(cases e;done)|skip
 .cases e;cases rx;cases ry;exact⟨rfl,q _ (by simpa using pP.bl)⟩
 .cases e;cases rx;cases ry;exact⟨rfl,q _ (by simpa using pP.bl)⟩
 .cases e;cases rx;cases ry;exact⟨rfl,q _ (by simpa using pP.bl)⟩
 .cases e;cases rx;cases ry;exact⟨rfl,q _ (by simpa using pP.bl)⟩
 .cases e;cases ry;obtain⟨p,vs,rfl,_⟩:=rx.list_inv;exact⟨rfl,q _ (by simpa using pP.bl)⟩
 .cases e;cases ry;obtain⟨p,vs,rfl,_⟩:=rx.tup_inv;exact⟨rfl,q _ (by simpa using pP.bl)⟩
 .cases e;cases ry;obtain⟨p,vs,rfl,_⟩:=rx.dict_inv;exact⟨rfl,q _ (by simpa using pP.bl)⟩
end
section
variable {K:W.Frag}{H₀ Hf₀ Hf Hf' H H':Hp}{S S':AS}{σ σ':St}{Fs Fs':List (List Addr)}
theorem FL.same(s:nS H H'):∀{path:List Nat}{v w:V},FL H v path w->FL H' v path w
 | [],v,w,h=>h
 |j::js,v,w,⟨p,vs,u,h1,h2,h3,h4⟩=>⟨p,vs,u,h1,s _ _ h2,h3,FL.same s h4⟩
theorem FL.one:∀{path:List Nat}{v w w':V},FL H v path w->FL H v path w'->w=w'
 | [],v,w,w',h,h'=>h.symm.trans h'
 |j::js,v,w,w',hz,hy=>by
  obtain⟨p,vs,u,h1,h2,h3,h4⟩:=hz;obtain⟨p',vs',u',g1,g2,g3,g4⟩:=hy;rw[h1]at g1;cases g1;rw[h2]at g2;cases g2;rw[h3]at g3;cases g3;exact h4.one g4
theorem FL.snoc:∀{path:List Nat}{v:V}{p:Addr}{vs:List V}{n:Nat}{u:V},FL H v path (.ref p)->H p=some (.lst vs)->vs[n]?=some u->FL H v (path++[n]) u
 | [],v,p,vs,n,u,h,h1,h2=>⟨p,vs,u,h,h1,h2,rfl⟩
 |j::js,v,p,vs,n,u,⟨p',vs',u',g1,g2,g3,g4⟩,h1,h2=>⟨p',vs',u',g1,g2,g3,g4.snoc h1 h2⟩
theorem FL.kept:∀{path:List Nat}{av:AV}{v w:V}{F:List Addr}{as:List AV},nV K Hf H av v F->oy av path=some as->FL H v path w->(∀q∈F,H' q=H q)->FL H' v path w
 | [],av,v,w,F,as,_,_,h,_=>h
 |j::js,av,v,w,F,as,r,e,hz,hk=>by
  obtain⟨p,vs,u,h1,h2,h3,h4⟩:=hz;cases av with
  |ow avs =>
   obtain⟨p',vs',Gs,e1,e2,e3,e4,e5⟩:=r.ow_inv;rw[h1]at e1;cases e1;rw[h2]at e3;cases e3;obtain⟨a,ea,e⟩:=oBq.mp (show (avs[j]?).bind (λa=>oy a js)=some as from e)
   have hj:j<avs.length:=(gSq.mp ea).1;have hG:=gEg (e5.2.1 ▸ hj);have rj:=e5.2.2 j a u _ ea h3 hG;refine⟨p,vs,u,h1,by rw[hk p (by rw[e2];simp)];exact h2,h3,h4.kept rj e λq hq=>hk q ?_⟩
   rw[e2];exact mCo _ (oA hG hq)
  |_=>cases e
def X0(H₀ H:Hp) (F:List Addr):Hp:=λb=>if b∈F then H b else H₀ b
theorem Fb{F:List Addr}{b:Addr}(h:b∈F):X0 H₀ H F b=H b:=nP h
theorem ym{F:List Addr}{b:Addr}(h:b∉F):X0 H₀ H F b=H₀ b:=nQ h
theorem og.frame(R:og K H₀ Hf₀ Hf S σ H Fs) {i:Nat}{F:List Addr}(s2:Fs[i]?=some F):og K (X0 H₀ H F) Hf₀ Hf (S.set i none) σ H (Fs.set i []):=by
 have R1:=R.kill i;have hF:∀q∈F,q∈Fs.flatten:=λq hq=>oA s2 hq
 refine⟨R1.len,R1.lenF,R1.rep,R1.emp,R1.nd,λp hp=>?_,R1.sub,λb u e=>?_,λb h1 h2=>?_,R1.sf⟩
 .have hn:p∉F:=λz=>sH R.nd s2 z hp
  rw[ym hn];exact R1.fresh p hp
 .by_cases hb:b∈F
  .rw [Fb hb]at e;exact e
  .rw [ym hb]at e;exact R.fr b u e
 .by_cases hb:b∈F
  .exact (R.mem (hF b hb)).2
  .rw [ym hb]at h2;exact R.lim b h1 h2
theorem FG{α:Type}{l:List α}{i:Nat}{a:α}(h:l[i]?=some a):l.set i a=l:=by
 obtain⟨hk,ev⟩:=gSq.mp h;rw[←ev];exact dY hk
theorem og.unframe(R:og K H₀ Hf₀ Hf S σ H Fs) {i:Nat}{av:AV}{v:V}{F:List Addr}(s2:Fs[i]?=some F) (r:nV K Hf H av v F) (nd:F.Nodup) (h0:∀q∈F,H₀ q=none)
  (R':og K (X0 H₀ H F) Hf₀ Hf' S' σ' H' Fs') (e':S'[i]?=some none) (s1:σ'[i]?=some (some v)) (sf:nS Hf Hf') :
  (∀q∈F,H' q=H q)/\nV K Hf' H' av v F/\og K H₀ Hf₀ Hf' (S'.set i (some av)) σ' H' (Fs'.set i F):=by
 have hk:∀q∈F,H' q=H q:=λq hq=>by
  have hn:=(R.mem (oA s2 hq)).1;cases hu:H q with
  |none=>exact absurd hu hn
  |some u=>exact R'.fr q u (by rw[Fb hq];exact hu)
 have hf:∀q∈F,Hf' q=none:=λq hq=>by
  have hm:=R.mem (oA s2 hq);refine R'.lim q ?_ (by rw[Fb hq];exact hm.1)
  cases hz:Hf₀ q with
  |none=>rfl
  |some u=>rw[R.sf q u hz]at hm;exact absurd hm.2 (by simp)
 have r':=r.keep sf hk hf;refine⟨hk,r',?_⟩;have R1:og K H₀ Hf₀ Hf' (S'.set i none) σ' H' (Fs'.set i []):=by
  rw[FG e',FG (R'.emp i e')];refine⟨R'.len,R'.lenF,R'.rep,R'.emp,R'.nd,λp hp=>?_,R'.sub,λb u e=>?_,λb h1 h2=>?_,R'.sf⟩
  .have:=R'.fresh p hp
   by_cases hb:p∈F
   .exact h0 p hb
   .rwa [ym hb]at this
  .refine R'.fr b u ?_;rw[ym λz=>by rw[h0 b z]at e;cases e]
   exact e
  .refine R'.lim b h1 ?_;rw[ym λz=>h2 (h0 b z)]
   exact h2
 refine R1.again (F:=F) s1 r' nd λq hq=>⟨h0 q hq,λm=>?_⟩
 rw[FG (R'.emp i e')]at m;have:=R'.fresh q m;rw[Fb hq]at this;exact(R.mem (oA s2 hq)).1 this
end
abbrev MP:=AS->Option (List Nat×AS)
def K8(i:Nat):MP:=λS=>(pS S i).map λ_=>([],S)
def V2(i:Nat) (pf:MP) (b:ME):MP:=λS=>(pf S).bind λx=>(b x.2).bind λy=>(intOf y.1).bind λj=>(pS y.2 i).bind λavs=>(oy (.ow avs) x.1).bind λas=>(FQ as.length j).map λn=>(x.1++[n],y.2)
def V7(K:W.Frag) (i:Nat) (te:TE) (pf:MP):Prop:=∀{H₀ Hf₀ Hf:Hp}{S:AS}{σ:St}{H:Hp}{Fs:List (List Addr)}{path:List Nat}{S':AS},og K H₀ Hf₀ Hf S σ H Fs->pf S=some (path,S')->∀Q:VK,
 (∀Hf' H' Fs' v w,wW Hf H Fs Hf' H' Fs'->og K H₀ Hf₀ Hf' S' σ H' Fs'->σ[i]?=some (some v)->FL H' v path w->Q w H')->te σ H Q
section
variable {K:W.Frag}
theorem Et(i:Nat):V7 K i (uI i) (K8 i):=by
 intro H₀ Hf₀ Hf S σ H Fs path S' R e Q q;obtain⟨avs,e1,e⟩:=oMq.mp e;cases e;obtain⟨p,vs,Gs,s1,_⟩:=R.ow (nZ e1);exact⟨_,s1,q _ _ _ _ _ .refl R s1 rfl⟩
theorem yk{H₀ Hf₀ Hf H:Hp}{S:AS}{σ:St}{Fs:List (List Addr)}{i:Nat}{avs as:List AV}{path:List Nat}{v w:V}(R:og K H₀ Hf₀ Hf S σ H Fs) (e:S[i]?=some (some (.ow avs))) (s1:σ[i]?=some (some v)) (en:oy (.ow avs) path=some as) (h:FL H v path w) :
  ∃p vs,w = .ref p/\H p=some (.lst vs)/\vs.length=as.length:=by
 obtain⟨v',F,t1,t2,r,nd,_⟩:=R.move e;rw[s1]at t1;cases t1;obtain⟨p,vs,Gs,g1,g2,g3,g4,_⟩:=r.path nd en;exact⟨p,vs,h.one g1,g2,g4.1.symm⟩
theorem Jl{i:Nat}{te tb:TE}{pf:MP}{b:ME}(hp:V7 K i te pf) (hb:SR K tb b):V7 K i (QF (RZ K) te tb) (V2 i pf b):=by
 intro H₀ Hf₀ Hf S σ H Fs path S' R e Q q;obtain⟨x,e1,e⟩:=oBq.mp e;obtain⟨y,e2,e⟩:=oBq.mp e;obtain⟨j,e3,e⟩:=oBq.mp e;obtain⟨avs,e4,e⟩:=oBq.mp e;obtain⟨as,e5,e⟩:=oBq.mp e;obtain⟨n,e6,e⟩:=oMq.mp e;cases e;refine hp R (path:=x.1) (S':=x.2) e1 _ λHf1 H1 Fs1 v w t1 R1 s1 a1=>hb R1 (d:=y.1) (S':=y.2) e2 _ λHf2 H2 Fs2 u t2 R2 r2=>?_
 have hy:y.1 = .int j:=by
  cases hx:y.1 <;> rw[hx]at e3 <;> first|(cases e3;rfl)|cases e3
 rw[hy]at r2;cases r2;have a2:=a1.same t2.sh;obtain⟨p,vs,rfl,h1,h2⟩:=yk R2 (nZ e4) s1 e5 a2;have hix:=e6;obtain⟨_,hn,_⟩:=KM e6;have hn':n<vs.length:=by rw[h2];exact hn
 obtain⟨u,hv⟩:∃u,vs[n]?=some u:=⟨_,gEg hn'⟩;refine⟨p,vs,j,u,rfl,rfl,qO.of h1,?_,q _ _ _ v _ (t1.trans t2) R2 s1 (a2.snoc h1 hv)⟩;unfold atI;rw[h2,e6];exact hv
end
section
variable {K:W.Frag}
theorem og.grow{H₀ Hf₀ Hf H:Hp}{S:AS}{σ:St}{Fs:List (List Addr)}{i:Nat}{avs as:List AV}{path:List Nat}{v:V}{p:Addr}(R:og K H₀ Hf₀ Hf S σ H Fs) (e:S[i]?=some (some (.ow avs))) (s1:σ[i]?=some (some v)) (en:oy (.ow avs) path=some as) (h:FL H v path (.ref p)) :
  ∃vs,H p=some (.lst vs)/\as.length=vs.length/\∀(bs:List AV) (ws:List V) (Gs:List (List Addr)),nU K Hf H bs ws Gs->Gs.flatten.Nodup->(∀q∈Gs.flatten,H₀ q=none/\q∉Fs.flatten) ->
   ∃Fs',og K H₀ Hf₀ Hf (S.set i (some (putAt (.ow avs) path (as++bs)))) σ (oB H p (.lst (vs++ws))) Fs':=by
 obtain⟨v',F,t1,t2,r,nd,oo,_⟩:=R.move e;rw[s1]at t1;cases t1;obtain⟨p',vs,Es,g1,g2,g3,g4,g5,g6,g6',g7,g8⟩:=r.path nd en;have hpp:V.ref p=V.ref p':=h.one g1;cases hpp;refine⟨vs,g2,g4.1,λbs ws Gs rb nG oG=>?_⟩
 have pG:p∉Gs.flatten:=λm=>(oG p m).2 (oA t2 g5)
 have hfl:(Es++Gs).flatten=Es.flatten++Gs.flatten:=fAq;obtain⟨F',k1,k2,k3⟩:=g8 (as++bs) (vs++ws) (Es++Gs) ((g4.keepUpd g6).append (rb.keepUpd pG)) (by
  rw[hfl];refine aA.mpr ⟨λm=>(mAq.mp m).elim g6 pG,nAq.mpr ⟨g6',nG,λa ha b hb z=>(oG b hb).2 (oA t2 (g7 b (z ▸ ha)))⟩⟩) (λq hq=>by
  rw[hfl]at hq;exact(mAq.mp hq).imp id λm z=>(oG q m).2 (oA t2 z))
 refine⟨_,R.turnAny s1 t2 g5 k1 k2 λq hq=>?_⟩
 rcases k3 q hq with z|z
 .exact oo q z
 .rw [hfl]at z;rcases mAq.mp z with z|z
  .exact oo q (g7 q z)
  .exact ⟨(oG q z).1,λm=>(oG q z).2 (pd m)⟩
def ZX(i:Nat) (pf:MP) (k:MK):MS:=λS=>(pf S).bind λx=>(pS x.2 i).bind λa0=>(oy (.ow a0) x.1).bind λ_=>(k x.2).bind λy=>(pS y.2 i).bind λavs=>(oy (.ow avs) x.1).bind λas=>tM (as.length<qp) (some (.nx (y.2.set i (some (putAt (.ow avs) x.1 (as++[y.1]))))))
def PX(i:Nat) (pf:MP) (l:ML):MS:=λS=>(pf S).bind λx=>(pS x.2 i).bind λa0=>(oy (.ow a0) x.1).bind λ_=>(l x.2).bind λy=>(pS y.2 i).bind λavs=>(oy (.ow avs) x.1).bind λas=>tM (as.length+y.1.length<=qp) (some (.nx (y.2.set i (some (putAt (.ow avs) x.1 (as++y.1.map .sh))))))
theorem R9{i:Nat}{tp te:TE}{pf:MP}{l:ML}(hp:V7 K i tp pf) (hk:SL K te l):SS K (xH (NU K "list" FM tp (ri te uZ))) (PX i pf l):=by
 intro H₀ Hf₀ Hf S σ H Fs o R e D h;obtain⟨x,e1,e⟩:=oBq.mp e;obtain⟨a0,e2,e⟩:=oBq.mp e;obtain⟨n0,e3,e⟩:=oBq.mp e;obtain⟨y,e4,e⟩:=oBq.mp e;obtain⟨avs,e5,e⟩:=oBq.mp e;obtain⟨as,e6,e⟩:=oBq.mp e;rcases nT e with ⟨hl,e⟩|e
 .cases e;refine hp R (path:=x.1) (S':=x.2) e1 _ λHf1 H1 Fs1 v w t1 R1 s1 a1=>?_
  obtain⟨p,vs,rfl,h1,h2⟩:=yk R1 (nZ e2) s1 e3 a1;refine⟨.inl ⟨rfl,vs,qO.of h1⟩,hk R1 (ds:=y.1) (S':=y.2) e4 _ λHf2 H2 Fs2 b ws t2 R2 hb r2=>?_⟩
  obtain⟨vs',g1,g2,g3⟩:=R2.grow (nZ e5) s1 e6 (a1.same t2.sh);obtain⟨Fs',R3⟩:=g3 (y.1.map .sh) ws (ay y.1.length []) (KO r2) (by rw[qM];exact aT) (λq hq=>by rw[qM]at hq;cases hq)
  exact⟨p,b,vs',ws,rfl,rfl,g1,hb,by rw[rX,←g2,←r2.1];exact hl,h _ _ _ _ (t1.sf.trans t2.sf) R3⟩
 .cases e
def Zq(x i:Nat) (path:List Nat) (S:AS) (σ:St) (H:Hp):Prop:=∃v p avs as,S[i]?=some (some (.ow avs))/\oy (.ow avs) path=some as/\σ[x]?=some (some (.ref p))/\σ[i]?=some (some v)/\FL H v path (.ref p)
def NK(K:W.Frag) (x i:Nat) (t:TS) (m:List Nat->MS):Prop:=∀{path:List Nat}{H₀ Hf₀ Hf:Hp}{S:AS}{σ:St}{H:Hp}{Fs:List (List Addr)}{o:DS},og K H₀ Hf₀ Hf S σ H Fs->Zq x i path S σ H->m path S=some o->∀D:tV,zQ K H₀ Hf₀ Hf D o->t D σ H
def QI(x i:Nat) (pf:MP) (m:List Nat->MS):MS:=λS=>(pf S).bind λy=>(pS y.2 i).bind λavs=>(oy (.ow avs) y.1).bind λ_=>tM (x≠i/\x<y.2.length) (m y.1 (y.2.set x none))
theorem UO{x i:Nat}{te:TE}{pf:MP}{t:TS}{m:List Nat->MS}(hp:V7 K i te pf) (hm:NK K x i t m):SS K (Js (Gn te (rh x)) t) (QI x i pf m):=by
 intro H₀ Hf₀ Hf S σ H Fs o R e D h;obtain⟨y,e1,e⟩:=oBq.mp e;obtain⟨avs,e2,e⟩:=oBq.mp e;obtain⟨as,e3,e⟩:=oBq.mp e;rcases nT e with ⟨⟨hne,hlt⟩,e⟩|e
 .refine hp R (path:=y.1) (S':=y.2) e1 _ λHf1 H1 Fs1 v w t1 R1 s1 a1=>?_
  obtain⟨p,vs,rfl,h1,h2⟩:=yk R1 (nZ e2) s1 e3 a1;have R2:=(R1.kill x).any (V.ref p);refine hm R2 ⟨v,p,avs,as,?_,e3,?_,?_,a1⟩ e D (h.mono t1.sf)
  .rw [ar hne];exact nZ e2
  .exact aG (by rw[←R1.len];exact hlt)
  .rw [ar hne];exact s1
 .cases e
theorem Tj{x i:Nat}{t:TS}{m:MS}(h:SS K t m):NK K x i t (λ_=>m):=λR _ e D o=>h R e D o
theorem Vo{x i:Nat}{t u:TS}{a:List Nat->MS}{b:MS}(ha:NK K x i t a) (hb:SS K u b):NK K x i (Js t u) (λpath=>nY (a path) b):=by
 intro path H₀ Hf₀ Hf S σ H Fs o R A e D h;obtain⟨y,e1,e⟩:=oBq.mp e;refine ha R A e1 _ ?_;cases y with
 |nx S'=>exact λHf' σ' H' Fs' s R'=>hb R' e D (h.mono s)
 |rt a=>cases e;exact h
 |bk a=>cases e;exact h
 |ct a=>cases e;exact h
def Hk(i:Nat) (c:MT) (a b:List Nat->MS):List Nat->MS:=λpath S=>(c S).bind λy=>(pS y.2 i).bind λavs=>(oy (.ow avs) path).bind λ_=>if y.1=true then a path y.2 else b path y.2
theorem PN{x i:Nat}{c:TT}{m:MT}{t u:TS}{a b:List Nat->MS}(hc:FF K c m) (ha:NK K x i t a) (hb:NK K x i u b):NK K x i (P1 c t u) (Hk i m a b):=by
 intro path H₀ Hf₀ Hf S σ H Fs o R A e D h;obtain⟨y,e1,e⟩:=oBq.mp e;obtain⟨avs,e2,e⟩:=oBq.mp e;obtain⟨as,e3,e⟩:=oBq.mp e;obtain⟨v,p,_,_,_,_,s2,s1,at0⟩:=A;refine hc R (b:=y.1) (S':=y.2) e1 _ λHf1 H1 Fs1 t1 R1=>?_
 have A1:Zq x i path y.2 σ H1:=⟨v,p,avs,as,nZ e2,e3,s2,s1,at0.same t1.sh⟩;split at e
 .rename_i hx;rw[hx];exact GR (ha R1 A1 e D (h.mono t1.sf))
 .rename_i hx;rw[cO]at hx;rw[hx];exact Gf (hb R1 A1 e D (h.mono t1.sf))
def Kc(i:Nat) (k:MK):List Nat->MS:=λpath S=>(k S).bind λy=>(pS y.2 i).bind λavs=>(oy (.ow avs) path).bind λas=>tM (as.length<qp) (some (.nx (y.2.set i (some (putAt (.ow avs) path (as++[y.1]))))))
theorem VE{x i:Nat}{te:TE}{k:MK}(hk:SK K te k):NK K x i (xH (NU K "list" yd (uI x) (ri te uZ))) (Kc i k):=by
 intro path H₀ Hf₀ Hf S σ H Fs o R A e D h;obtain⟨y,e4,e⟩:=oBq.mp e;obtain⟨avs,e5,e⟩:=oBq.mp e;obtain⟨as,e6,e⟩:=oBq.mp e;rcases nT e with ⟨hl,e⟩|e
 .cases e;obtain⟨v,p,a0,n0,e2,e3,s2,s1,at0⟩:=A;obtain⟨p',vs,hp,h1,h2⟩:=yk R e2 s1 e3 at0;cases hp;refine⟨.ref p,s2,.inl ⟨rfl,vs,qO.of h1⟩,hk R (a:=y.1) (S':=y.2) e4 _ λHf2 H2 Fs2 u F t2 R2 r2 o2=>?_⟩
  obtain⟨vs',g1,g2,g3⟩:=R2.grow (nZ e5) s1 e6 (at0.same t2.sh);obtain⟨Fs',R3⟩:=g3 [y.1] [u] [F] (nU.nil.snoc r2) (by rw[aZ];exact o2.nd) (λq hq=>by rw[aZ]at hq;exact⟨o2.fr q hq,o2.out q hq⟩)
  exact⟨p,vs',u,rfl,rfl,g1,by rw[rX,←g2];exact hl,h _ _ _ _ t2.sf R3⟩
 .cases e
def ZE(i:Nat) (l:ML):List Nat->MS:=λpath S=>(l S).bind λy=>(pS y.2 i).bind λavs=>(oy (.ow avs) path).bind λas=>tM (as.length+y.1.length<=qp) (some (.nx (y.2.set i (some (putAt (.ow avs) path (as++y.1.map .sh))))))
def E6(i:Nat) (mm:ME):List Nat->MS:=λpath S=>(pS S i).bind λavs=>(oy (.ow avs) path).bind λas=>(mm (S.set i none)).bind λy=>tM (y.2[i]?=some none/\as.length<qp) (some (.nx (y.2.set i (some (putAt (.ow avs) path (as++[.sh y.1]))))))
theorem Rk{x i:Nat}{te:TE}{mm:ME}(hk:SM K te mm):NK K x i (xH (NU K "list" yd (uI x) (ri te uZ))) (E6 i mm):=by
 intro path H₀ Hf₀ Hf S σ H Fs o R A e D h;obtain⟨avs,e2,e⟩:=oBq.mp e;obtain⟨as,e3,e⟩:=oBq.mp e;obtain⟨y,e4,e⟩:=oBq.mp e;rcases nT e with ⟨⟨hn,hl⟩,e⟩|e
 .cases e;obtain⟨v,p,a0,n0,_,_,s2,s1,at0⟩:=A;have e2':=nZ e2;obtain⟨p',vs,hp,h1,h2⟩:=yk R e2' s1 e3 at0;cases hp;obtain⟨v',F,t1,t2,r,nd,oo,_⟩:=R.move e2';rw[s1]at t1;cases t1;refine⟨.ref p,s2,.inl ⟨rfl,vs,qO.of h1⟩,hk (R.frame t2) (d:=y.1) (S':=y.2) e4 _ λHf2 H2 Fs2 u t3 R2 r2=>?_⟩
  obtain⟨k1,k2,R3⟩:=R.unframe t2 r nd (λq hq=>(oo q hq).1) R2 hn s1 t3
  have hlt:i<y.2.length:=(gSq.mp hn).1;have e5:(y.2.set i (some (.ow avs)))[i]?=some (some (.ow avs)):=aG hlt;obtain⟨vs',g1,g2,g3⟩:=R3.grow e5 s1 e3 (at0.kept r e3 k1);obtain⟨Fs',R4⟩:=g3 [.sh y.1] [u] [[]] (nU.nil.snoc (.sh r2)) (by simp) (λq hq=>by simp at hq)
  rw[eQ]at R4;exact⟨p,vs',u,rfl,rfl,g1,by rw[rX,←g2];exact hl,h _ _ _ _ t3 R4⟩
 .cases e
def UX(K:W.Frag) (J:List Nat) (t:TS) (m:MS):Prop:=∀{H₀ Hf₀ Hf:Hp}{S:AS}{σ:St}{H:Hp}{Fs:List (List Addr)}{S':AS},og K H₀ Hf₀ Hf S σ H Fs->m S=some (.nx S')->∀D:tV,(∀Hf' σ' H' Fs',nS Hf Hf'->og K H₀ Hf₀ Hf' S' σ' H' Fs'->(∀j∈J,σ'[j]?=σ[j]?)->D.nx σ' H')->t D σ H
theorem Qg{J:List Nat}{t:TS}(h:∀D σ H,D.nx σ H->t D σ H):UX K J t qC:=by
 intro H₀ Hf₀ Hf S σ H Fs S' R e D q;cases e;exact h _ _ _ (q _ _ _ _ (.refl _) R λ_ _=>rfl)
theorem Kn{J:List Nat}{y:Nat}{te:TE}{k:MK}(hk:SK K te k) (hJ:y∉J):UX K J (Gn te (rh y)) (pI y k):=by
 intro H₀ Hf₀ Hf S σ H Fs S' R e D q;obtain⟨x,e1,e⟩:=oMq.mp e;cases e;refine hk R (a:=x.1) (S':=x.2) e1 _ λHf1 H1 Fs1 v F t1 R1 r1 o1=>?_
 exact q _ _ _ _ t1.sf (R1.set y r1 o1.nd λq hq=>⟨o1.fr q hq,o1.out q hq⟩) λj hj=>ar (show y≠j from λz=>hJ (by rw[z];exact hj))
theorem PL{J:List Nat}{y:Nat}{te:TE}{m:ME}(hk:SM K te m) (hJ:y∉J):UX K J (Gn te (rh y)) (Dg y m):=by
 intro H₀ Hf₀ Hf S σ H Fs S' R e D q;obtain⟨x,e1,e⟩:=oMq.mp e;cases e;refine hk R (d:=x.1) (S':=x.2) e1 _ λHf1 H1 Fs1 v t1 R1 r1=>?_
 exact q _ _ _ _ t1 (R1.setD y r1) λj hj=>ar (show y≠j from λz=>hJ (by rw[z];exact hj))
theorem VJ{J:List Nat}{c:TT}{m:MT}{t u:TS}{a b:MS}(hc:FF K c m) (ha:UX K J t a) (hb:UX K J u b):UX K J (P1 c t u) (Be m a b):=by
 intro H₀ Hf₀ Hf S σ H Fs S' R e D q;obtain⟨x,e1,e⟩:=oBq.mp e;refine hc R (b:=x.1) (S':=x.2) e1 _ λHf1 H1 Fs1 t1 R1=>?_
 split at e
 .rename_i hx;rw[hx];exact GR (ha R1 e D λHf' σ' H' Fs' s R' j=>q _ _ _ _ (t1.sf.trans s) R' j)
 .rename_i hx;rw[cO]at hx;rw[hx];exact Gf (hb R1 e D λHf' σ' H' Fs' s R' j=>q _ _ _ _ (t1.sf.trans s) R' j)
def EF(i:Nat) (a:MS) (m:List Nat->MS):List Nat->MS:=λpath S=>(pS S i).bind λavs=>(a (S.set i none)).bind λo=>match o with
 | .nx S1=>tM (S1[i]?=some none) (m path (S1.set i (some (.ow avs))))
 |_=>none
theorem IJ{x i:Nat}{t u:TS}{a:MS}{m:List Nat->MS}(ha:UX K [x,i] t a) (hm:NK K x i u m):NK K x i (Js t u) (EF i a m):=by
 intro path H₀ Hf₀ Hf S σ H Fs o R A e D h;obtain⟨avs,e2,e⟩:=oBq.mp e;obtain⟨oo,e3,e⟩:=oBq.mp e;cases oo with
 |nx S1 =>
  rcases nT (show tM (S1[i]?=some none) (m path (S1.set i (some (.ow avs))))=some o from e) with ⟨hn,e⟩|e
  .obtain ⟨v,p,a0,n0,e2',e4,s2,s1,at0⟩:=A;have e5:=nZ e2;rw[e5]at e2';cases e2';obtain⟨v',F,t1,t2,r,nd,ow,_⟩:=R.move e5;rw[s1]at t1;cases t1;refine ha (R.frame t2) e3 _ λHf' σ' H' Fs' s R' hJ=>?_
   have j1:σ'[x]?=σ[x]?:=hJ x (by simp)
   have j2:σ'[i]?=σ[i]?:=hJ i (by simp)
   obtain⟨k1,k2,R3⟩:=R.unframe t2 r nd (λq hq=>(ow q hq).1) R' hn (j2.trans s1) s
   have hlt:i<S1.length:=(gSq.mp hn).1;exact hm R3 ⟨v,p,avs,n0,aG hlt,e4,j1.trans s2,j2.trans s1,at0.kept r e4 k1⟩ e D (h.mono s)
  .cases e
 |_=>cases e
end
theorem Xu(S:AS) (i:Nat):K8 i S=(pS S i).map λ_=>([],S):=rfl
theorem YB(S:AS) (i:Nat) (pf:MP) (b:ME):V2 i pf b S=(pf S).bind λx=>(b x.2).bind λy=>(intOf y.1).bind λj=>(pS y.2 i).bind λavs=>(oy (.ow avs) x.1).bind λas=>(FQ as.length j).map λn=>(x.1++[n],y.2):=rfl
theorem Vx(S:AS) (i:Nat) (pf:MP) (l:ML):PX i pf l S=(pf S).bind λx=>(pS x.2 i).bind λa0=>(oy (.ow a0) x.1).bind λ_=>(l x.2).bind λy=>(pS y.2 i).bind λavs=>(oy (.ow avs) x.1).bind λas=>tM (as.length+y.1.length<=qp) (some (.nx (y.2.set i (some (putAt (.ow avs) x.1 (as++y.1.map .sh)))))):=rfl
theorem Wq(S:AS) (x i:Nat) (pf:MP) (m:List Nat->MS):QI x i pf m S=(pf S).bind λy=>(pS y.2 i).bind λavs=>(oy (.ow avs) y.1).bind λ_=>tM (x≠i/\x<y.2.length) (m y.1 (y.2.set x none)):=rfl
theorem XY(S:AS) (i:Nat) (c:MT) (a b:List Nat->MS) (path:List Nat):Hk i c a b path S=(c S).bind λy=>(pS y.2 i).bind λavs=>(oy (.ow avs) path).bind λ_=>if y.1=true then a path y.2 else b path y.2:=rfl
theorem VH(S:AS) (i:Nat) (k:MK) (path:List Nat):Kc i k path S=(k S).bind λy=>(pS y.2 i).bind λavs=>(oy (.ow avs) path).bind λas=>tM (as.length<qp) (some (.nx (y.2.set i (some (putAt (.ow avs) path (as++[y.1])))))):=rfl
theorem RW(S:AS) (i:Nat) (mm:ME) (path:List Nat):E6 i mm path S=(pS S i).bind λavs=>(oy (.ow avs) path).bind λas=>(mm (S.set i none)).bind λy=>tM (y.2[i]?=some none/\as.length<qp) (some (.nx (y.2.set i (some (putAt (.ow avs) path (as++[.sh y.1])))))):=rfl
def Wn(i:Nat) (avs:List AV) (m:List Nat->MS) (path:List Nat):DS->Option DS
 | .nx S1=>tM (S1[i]?=some none) (m path (S1.set i (some (.ow avs))))
 |_=>none
theorem W9(S:AS) (i:Nat) (a:MS) (m:List Nat->MS) (path:List Nat):EF i a m path S=(pS S i).bind λavs=>(a (S.set i none)).bind (Wn i avs m path):=by
 unfold EF;congr 1
theorem RP(i:Nat) (avs:List AV) (m:List Nat->MS) (path:List Nat) (S1:AS):Wn i avs m path (.nx S1)=tM (S1[i]?=some none) (m path (S1.set i (some (.ow avs)))):=rfl
theorem Ip(avs:List AV):oy (.ow avs) []=some avs:=rfl
theorem A9(avs:List AV) (j:Nat) (js:List Nat):oy (.ow avs) (j::js)=(avs[j]?).bind λa=>oy a js:=rfl
theorem IK{avs:List AV}{j:Nat}{js:List Nat}{as:List AV}{a:AV}(h:avs[j]?=some a):putAt (.ow avs) (j::js) as = .ow (avs.set j (putAt a js as)):=by
 show (match avs[j]? with|some a=>_|none=>_)=_
 rw[h]
def zqd:=aa @Xu (aa @YB (aa @Vx (aa @Wq (aa @XY (aa @VH (aa @RW (aa @W9 (aa @RP @Ip))))))))
section
variable {K:W.Frag}
def EY(m:ME):MS:=λS=>(m S).map λx=>.nx x.2
theorem Pg{te:TE}{m:ME}(h:SM K te m):SS K (xH te) (EY m):=by
 intro H₀ Hf₀ Hf S σ H Fs o R e D hd;obtain⟨x,e1,e⟩:=oMq.mp e;cases e;exact h R (d:=x.1) (S':=x.2) e1 _ λHf1 H1 Fs1 v t1 R1 r1=>hd _ _ _ _ t1 R1
def aah(i:Nat):MS:=λS=>(pS S i).map λavs=>.nx (S.set i (some (.ow avs.reverse)))
end
theorem Si(S:AS) (m:ME):EY m S=(m S).map λx=>.nx x.2:=rfl
def Z7:=@Si
end Z
namespace Xe
open PySem PySem.Spec PySem.W PyProof.Rows L2 Mr
section
variable {X:Cx}
def WA(o:Obj) (d:Addr) (kvs:List (nO×V)):It :=
  ⟨λi H=>H d=some (.frz o (.dK kvs))/\∃p,kvs[i]?=some p,
   λi H x H'=>H'=H/\∃p,kvs[i]?=some p/\x=kV p.1,
   λi H=>H d=some (.frz o (.dK kvs))/\kvs.length<=i⟩
theorem MY{P:jg}{w:ji}{K:Frag}{tg:Expr}(o:Obj) (d it:Addr) (kvs:List (nO×V)) (vs:List (nO×Value)) (ep:Nat) (hne:d≠it)
  (ho:∀h:Heap,h.get? d=some o->h.DictAt (oX P w) d vs ep) (kv:KV kvs vs):LG P w K tg (WA o d kvs) [it] it (λi h=>h.IsKeyIter it d i vs.length ep) where
 mem:=by simp
 obj:=λi h st b hb=>by
  have e:b=it:=by simpa using hb
  subst e;obtain⟨o',e,c,dd⟩:=st;exact⟨o',e,λv z=>by rw[dd]at z;cases z⟩
 keep:=λi h h' st k=>by
  obtain⟨o',e,c,dd⟩:=st;exact⟨o',k it (by simp) _ e,c,dd⟩
 item:=by
  intro X hP hw hK hc i mV s σ H E I hf st hg;subst hP hw hK;obtain⟨hd,p,hp⟩:=hg;have e1:s.heap.get? d=some o:=(show oY X.prog X.w H s.heap d (.frz o (.dK kvs)) from I.hok d _ hd).1
  obtain⟨u,hx,ru⟩:=O7 kv hp;obtain⟨f0,f1,f2,f3,f4,f5⟩:=hf it (by simp)
  refine wpAny_pyNext_dict_item st (ho _ e1) hx λkey h' hkey st' sb=>?_
  have I1:L2.Inv X mV σ H { s with heap:=h' }:=I.turned (t':=s.toks) (λb o hb e=>(sb.2 b hb).trans e) f0 f1 f3 f4 f5
  have rk:oK (kV p.1) key:=by
   rcases oH hkey with ⟨j,t,e,rfl⟩|⟨z,t,e,rfl⟩
   .rw [e];exact⟨t,rfl⟩
   .rw [e];exact⟨t,rfl⟩
  obtain⟨o',e,c,dd⟩:=id st';exact⟨key,rfl,Qn (s:={ s with heap:=h' }) e c dd (by decide) ⟨_,H,I1,rk,⟨rfl,p,hp,rfl⟩,st',λb hb=>(hf b hb).1⟩⟩
 done:=by
  intro X hP hw hK hc i mV s σ H E I hf st hg;subst hP hw hK;obtain⟨hd,hl⟩:=hg;have e1:s.heap.get? d=some o:=(show oY X.prog X.w H s.heap d (.frz o (.dK kvs)) from I.hok d _ hd).1
  have l:=Paired.length kv;obtain⟨f0,f1,f2,f3,f4,f5⟩:=hf it (by simp)
  exact wpAny_pyNext_dict_end (I.ok.hd hc) st (ho _ e1) (bu (by lia)) λh' eb=>⟨rfl,I.turned (t':=s.toks) (λb o hb e=>eb b o hb e) f0 f1 f3 f4 f5⟩
 self:=λ_ _ _ _ _ st h=>wpAny_pyIter_keyiter st h
def TR(te:TE):TI:=λσ H R=>te σ H λx H1=>∃d kvs,x = .ref d/\H1 d=some (.dK kvs)/\∀o,R (WA o d kvs) (oB H1 d (.frz o (.dK kvs)))
theorem Sd{tg o:Expr}{te:TE}(ho:PE X o te):PI X tg o (TR te):=by
 intro mV s σ H R I h;refine qA (ho mV s σ H _ I h) λv s1 hz1=>?_
 obtain⟨x,H1,I1,r1,d,kvs,ex,ha,q⟩:=hz1;subst ex;obtain rfl:=(show v=ak d from r1)
 obtain⟨hz,sa,vs,kv,dd⟩:=(show oY X.prog X.w H1 s1.heap d (.dK kvs) from I1.hok d _ ha)
 obtain⟨ep,ob,es,hob,rest⟩:=dd.dictAt;have da:∀h:Heap,h.get? d=some ob->h.DictAt (oX X.prog X.w) d vs ep:=λh e=>⟨ob,es,e,rest⟩
 have hlt:d<s1.heap.objs.size:=ag hob;refine wpAny_pyIter_dict sa (da _ hob) ?_;have kp:∀b u,s1.heap.get? b=some u->(s1.heap.push { cls:=.type "dict_keyiterator", data:=.fields #[.ref d,.int 0 0,.int vs.length 0,.int ep 0] }).get? b=some u:=λb u e=>ae _ e
 have I2:L2.Inv X mV σ (oB H1 d (.frz ob (.dK kvs))) { s1 with heap:=s1.heap.push { cls:=.type "dict_keyiterator", data:=.fields #[.ref d,.int 0 0,.int vs.length 0,.int ep 0] } } :=
  (I1.kept (t':=s1.toks) kp).write (x:=d) (e:=d) (o:=.frz ob (.dK kvs)) (t':=s1.toks) (by rw[ha];trivial) (.inl rfl) (λb u _ e=>e) ⟨_,kp _ _ hob⟩ ⟨kp _ _ hob,hz,sa,vs,kv,(da _ (kp _ _ hob)).dictOf⟩
 refine⟨s1.heap.objs.size,[s1.heap.objs.size],_,_,_,rfl,I2,MY ob d _ kvs vs ep (aw hlt) da kv,?_,λb hb=>?_,q ob⟩
 .exact ⟨_,aS _ rfl,rfl,rfl⟩
 .have e:b=s1.heap.objs.size:=by simpa using hb
  subst e;exact I1.fpOk (ai _) (by rw[ni (bj hlt)];exact I1.hok.fresh (ai _))
end
end Xe
namespace Z
open PySem L2 Mr Xe
section
variable {K:W.Frag}
theorem pP.fd_inv{H:Hp}{ds:List (nO×D)}{v:V}(h:pP K H (.fd ds) v):∃p o kvs,v = .ref p/\H p=some (.frz o (.dK kvs))/\rY K H ds kvs:=by
 cases h with
 |fd h l e=>exact⟨_,_,_,rfl,h,l,e⟩
def Rm:D->Option (List (nO×D))
 | .fd kvs=>some kvs
 |_=>none
theorem QU{d:D}{kvs:List (nO×D)}(h:Rm d=some kvs):d = .fd kvs:=by
 cases d <;> first|(cases h;rfl)|cases h
def ER(a b:ME):ME:=λS=>(a S).bind λx=>(b x.2).bind λy=>(Rm x.1).bind λkvs=>(tQ y.1).bind λkey=>(getD kvs key).map λd=>(d,y.2)
theorem Hz{ta tb:TE}{a b:ME}(ha:SR K ta a) (hb:SR K tb b):SR K (NQ ta tb) (ER a b):=by
 intro H₀ Hf₀ Hf S σ H Fs d S' R e Q q;obtain⟨x,e1,e⟩:=oBq.mp e;obtain⟨y,e2,e⟩:=oBq.mp e;obtain⟨kvs,e3,e⟩:=oBq.mp e;obtain⟨key,e4,e⟩:=oBq.mp e;obtain⟨d',e5,e⟩:=oMq.mp e;cases e;refine ha R (d:=x.1) (S':=x.2) e1 _ λHf1 H1 Fs1 v1 t1 R1 r1=>hb R1 (d:=y.1) (S':=y.2) e2 _ λHf2 H2 Fs2 v2 t2 R2 r2=>?_
 rw[QU e3]at r1;obtain⟨p,o,vs,rfl,h1,h2⟩:=(r1.mono t2.sh).fd_inv;have g:=zT (key:=key) h2;rw[e5]at g;obtain⟨v,g1,g2⟩:=g;exact⟨p,v,rfl,by rw[vI e4 r2,←g1];exact .inl ⟨vs,key,.inr ⟨o,h1⟩,rfl,rfl⟩,q _ _ _ _ (t1.trans t2) R2 g2⟩
theorem O9{ob:Obj}{d:Addr}{kvs:List (nO×V)}{i1:Nat}{tb:TS}{D:tV}{σ:St}{H:Hp}(Pv:Nat->St->Hp->Prop) (h0:Pv 0 σ H) (hl:∀i σ H,Pv i σ H->H d=some (.frz ob (.dK kvs)))
  (hs:∀i p σ H,kvs[i]?=some p->Pv i σ H->tb { D with nx:=Pv (i+1),ct:=Pv (i+1),bk:=D.nx } (σ.set i1 (some (kV p.1))) H) (hd:∀σ H,Pv kvs.length σ H->D.nx σ H) :
  ∃W:Nat->Nat->St->Hp->Prop,(∃m,W 0 m σ H)/\∀i m σ H,W i m σ H ->
   ((WA ob d kvs).stop i H/\D.nx σ H)∨((WA ob d kvs).go i H/\∃N:St->Hp->Prop,(∀σ' H',N σ' H'->∃m',m'<m/\W (i+1) m' σ' H')/\∀x H',(WA ob d kvs).yld i H x H'->rh i1 x σ H' λσ2 H2=>tb { D with nx:=N,ct:=N,bk:=D.nx } σ2 H2):=by
 refine⟨λi m σ H=>m=kvs.length-i/\i<=kvs.length/\Pv i σ H,⟨kvs.length,by simp,aY _,h0⟩,?_⟩
 rintro i m σ H ⟨rfl,hi,p⟩;have q:=hl i σ H p
 by_cases hlt:i<kvs.length
 .refine .inr ⟨⟨q,kvs[i],by simp[hlt]⟩,Pv (i+1),λσ' H' p'=>⟨kvs.length-(i+1),by lia,rfl,hlt,p'⟩,λv H' y=>?_⟩
  obtain⟨rfl,x,hx,rfl⟩:=y;exact hs i x σ H' hx p
 .have e:i=kvs.length:=by lia
  subst e;exact .inl ⟨⟨q,ai _⟩,hd σ H p⟩
def OF(x i:Nat) (body:MS):MS:=λS=>(uM S i).bind λkvs=>tM (x≠i) (qJ x body (kvs.map λp=>kD p.1) (S.set i (some (.sh (.fd kvs)))))
theorem Sh{x i:Nat}{tb:TS}{body:MS}(hb:SS K tb body):SS K (LC (TR (uI i)) (rh x) tb) (OF x i body):=by
 intro H₀ Hf₀ Hf S σ H Fs o R e D h;obtain⟨ds,e1,e⟩:=oBq.mp e;rcases nT e with ⟨hne,e⟩|e
 .have e1':=yS e1;obtain⟨p,kvs,s1,s2,h1,h2,h3,h4,h5⟩:=R.owd e1';refine⟨_,s1,p,kvs,rfl,h1,λob=>?_⟩
  obtain⟨v,F,t1,t2,r,nd,oo,R1⟩:=R.move e1';rw[s2]at t2;cases t2;have R2:=og.fix R1 (p:=p) (o:=.frz ob (.dK kvs)) h5 h2 h4;have s3:nS Hf (oB Hf p (.frz ob (.dK kvs))):=pV h2;have h3':rY K (oB Hf p (.frz ob (.dK kvs))) ds kvs:=⟨h3.1,λi d v a b=>(h3.2 i d v a b).mono s3⟩
  have R3:og K H₀ Hf₀ (oB Hf p (.frz ob (.dK kvs))) (S.set i (some (.sh (.fd ds)))) σ (oB H p (.frz ob (.dK kvs))) (Fs.set i []) :=
   R2.again (F:=[]) s1 (.sh (.fd nB h3'.1 h3'.2)) aT λq hq=>by cases hq
  have hlen:ds.length=kvs.length:=by have:=congrArg bb h3.1;simpa using this
  refine O9 (λn σ' H'=>∃Hf' S' Fs',og K H₀ Hf₀ Hf' S' σ' H' Fs'/\nS (oB Hf p (.frz ob (.dK kvs))) Hf'/\qJ x body ((ds.map λp=>kD p.1).drop n) S'=some o) ⟨_,_,_,R3,.refl _,e⟩
   (λn σ' H' ⟨Hf',S',Fs',R',s',_⟩=>R'.sub _ _ (s' _ _ nB)) ?_ ?_
  .rintro n w σ' H' hw ⟨Hf',S',Fs',R',s',e'⟩;have hn:n<ds.length:=by rw[hlen];exact(gSq.mp hw).1
   have hk:(ds.map λp=>kD p.1)[n]?=some (kD w.1):=by
    have:=congrArg (λl=>l[n]?) h3.1
    simp only[gMq,hw,dQ]at this;rw[gMq];cases hd:ds[n]? with
    |none=>rw[hd]at this;cases this
    |some dd =>
     rw[hd]at this;rw[dQ,show dd.1=w.1 from ba.inj this]
   have hlt:n<(ds.map λp=>kD p.1).length:=by rw[lMq];exact hn
   rw[aL hlt,(gSq.mp hk).2]at e';obtain⟨o2,e3,e4⟩:=oBq.mp e';refine hb (R'.setD x (Ri w.1)) e3 _ ?_;cases o2 with
   |nx S2=>exact λHf2 σ2 H2 Fs2 s4 R4=>⟨Hf2,S2,Fs2,R4,s'.trans s4,e4⟩
   |ct S2=>exact λHf2 σ2 H2 Fs2 s4 R4=>⟨Hf2,S2,Fs2,R4,s'.trans s4,e4⟩
   |bk S2=>cases e4;exact λHf2 σ2 H2 Fs2 s4 R4=>h _ _ _ _ ((s3.trans s').trans s4) R4
   |rt a=>cases e4;exact h
  .rintro σ' H' ⟨Hf',S',Fs',R',s',e'⟩;rw[←hlen,show ds.length=(ds.map λp=>kD p.1).length from (lMq _).symm,cM]at e'
   cases e';exact h _ _ _ _ (s3.trans s') R'
 .cases e
end
theorem QY(kvs:List (nO×D)):Rm (.fd kvs)=some kvs:=rfl
theorem SC(S:AS) (a b:ME):ER a b S=(a S).bind λx=>(b x.2).bind λy=>(Rm x.1).bind λkvs=>(tQ y.1).bind λkey=>(getD kvs key).map λd=>(d,y.2):=rfl
theorem U3(S:AS) (x i:Nat) (body:MS):OF x i body S=(uM S i).bind λkvs=>tM (x≠i) (qJ x body (kvs.map λp=>kD p.1) (S.set i (some (.sh (.fd kvs))))):=rfl
def Z9:=aa @QY (aa @SC @U3)
end Z
namespace Z
open PySem L2 Mr
mutual
def we:AV->Bool
 | .sh d=>d.scal
 | .ow l=>Fk l
 | .owd kvs=>kvs.all λp=>p.2.scal
 | .owl _=>true
def Fk:List AV->Bool
 | []=>true
 |a::l=>we a && Fk l
end
theorem BF:∀{l:List AV},Fk l=true->∀a∈l,we a=true
 | [],_,a,h=>by cases h
 |b::l,hc,a,h=>by
  rw[Fk,dC]at hc;rcases ao.mp h with e|e
  .rw [e];exact hc.1
  .exact BF hc.2 a e
section
variable {K:W.Frag}{Hf Hf' H:Hp}
theorem nV.bare{a:AV}{v:V}{F:List Addr}(r:nV K Hf' H a v F):we a=true->(∀q∈F,Hf q=none)->nV K Hf H a v F:=by
 induction r with
 |sh r =>
  intro hc _;rw[we]at hc;exact .sh (r.scal hc)
 |ow h n e1 e2 e ih =>
  intro hc hn;rw[we]at hc;exact .ow h (hn _ (aD ..)) e1 e2 λi a v F x1 x2 x3=>ih i a v F x1 x2 x3 (BF hc a (mGq x1)) λq hq=>hn q (mCo _ (mFq.mpr ⟨F,mGq x3,hq⟩))
 |owd h n r =>
  intro hc hn;rw[we,fh]at hc;refine .owd h (hn _ (aD ..)) ?_;exact⟨r.1,λi d v a b=>(r.2 i d v a b).scal (hc d (mGq a))⟩
 |owl h n l e =>
  intro hc hn;exact .owl h (hn _ (aD ..)) l λi q x h1 h2=>⟨(e i q x h1 h2).1,hn q (mCo _ (mGq h1))⟩
end
end Z
namespace HT
open PySem PyProof.Rows
open PySem.SeqAt
open PySem.AutoSeq1 (wpAny_loadPart')
open PySem.MeetsSeq PySem.MeetsSeq2 PySem.MeetsSeq3
def uY:List (List Int)->List (List Int)->Bool
 |_,[]=>false
 | [],_::_=>true
 |x::xs,y::ys=>if x=y then uY xs ys else oR x y
theorem AI:∀xs ys:List (List Int),uY xs ys=true->uY ys xs=false
 |xs,[],h=>by cases xs <;> cases h
 | [],y::ys,_=>rfl
 |x::xs,y::ys,h=>by
  rw[uY]at h ⊢
  by_cases e:x=y
  .rw [nP e]at h;rw[nP e.symm];exact AI xs ys h
  .rw [nQ e]at h;rw[nQ (λq=>e q.symm)]
   exact Mr.xY _ _ h
theorem Ee:∀xs ys:List (List Int),uY xs ys=false->uY ys xs=false->xs=ys
 | [],[],_,_=>rfl
 | [],y::ys,h,_=>by cases h
 |x::xs,[],_,h=>by cases h
 |x::xs,y::ys,h1,h2=>by
  rw[uY]at h1 h2
  by_cases e:x=y
  .rw [nP e]at h1;rw[nP e.symm]at h2;rw[e,Ee xs ys h1 h2]
  .rw [nQ e]at h1;rw[nQ (λq=>e q.symm)]at h2
   exact absurd (Mr.zp _ _ h1 h2) e
theorem yX:∀xs ys zs:List (List Int),uY ys xs=false->uY zs ys=false->uY zs xs=false
 | [],ys,zs,_,_=>by cases zs <;> rfl
 |x::xs,[],zs,h1,_=>by cases h1
 |x::xs,y::ys,[],_,h2=>by cases h2
 |x::xs,y::ys,z::zs,h1,h2=>by
  rw[uY]at h1 h2 ⊢
  by_cases e1:y=x
  .rw [nP e1]at h1
   by_cases e2:z=y
   .rw [nP e2]at h2;rw[nP (e2.trans e1)];exact yX xs ys zs h1 h2
   .rw [nQ e2]at h2;rw[nQ (by rw[←e1];exact e2),←e1]
    exact h2
  .rw [nQ e1]at h1
   by_cases e2:z=y
   .rw [nQ (by rw[e2];exact e1),e2]
    exact h1
   .rw [nQ e2]at h2
    by_cases e3:z=x
    .rw [e3]at h2;exact absurd (Mr.zp _ _ h1 h2) e1
    .rw [nQ e3];exact Mr.vV _ _ _ h1 h2
end HT
namespace Mr
open PySem PySem.Spec PyProof.Rows L2
def Qy(x y:List (List Int)):Bool:=!HT.uY y x
def Ak(ms:List (List (List Int))):List (List (List Int)):=ms.mergeSort Qy
theorem yf(ms:List (List (List Int))):(Ak ms).Perm ms:=fx _ _
theorem Lh(x y z:List (List Int)) (h1:Qy x y=true) (h2:Qy y z=true):Qy x z=true:=by
 unfold Qy at *;rw[eV]at *;exact HT.yX _ _ _ h1 h2
theorem MB(x y:List (List Int)):(Qy x y || Qy y x)=true:=by
 unfold Qy;cases h:HT.uY y x with
 |false=>rfl
 |true=>rw[HT.AI _ _ h];rfl
theorem A2(ms:List (List (List Int))):(Ak ms).Pairwise (λx y=>HT.uY y x=false):=by
 have:=eP (le:=Qy) (λa b c=>Lh a b c) (λa b=>MB a b) ms
 exact this.imp λh=>by unfold Qy at h;rwa [eV]at h
theorem Kt{xs ms:List (List (List Int))}(hp:xs.Perm ms) (h:xs.Pairwise (λx y=>HT.uY y x=false)):xs=Ak ms :=
 bU.eq_of_pairwise (λa b _ _ e1 e2=>HT.Ee a b e2 e1) h (A2 ms) (hp.trans (yf ms).symm)
def ZN(r:Addr->List (List Int)) (x y:iZ):Bool:=match x.1,y.1 with
 | .ref p,.ref q=>HT.uY (r p) (r q)
 |_,_=>false
end Mr
namespace Z
open PySem L2 Mr Xe
def Sx(f:D->D->Option D) (m b:ME):ME:=λS=>(m S).bind λx=>(b x.2).bind λy=>(f x.1 y.1).bind λd=>if d.scal then some (d,y.2) else none
def UI(i:Nat) (g:Int->Int->Int) (b:ME):MS:=λS=>(nj i S).bind λx=>(intOf x.1).bind λa=>(b x.2).bind λy=>(intOf y.1).map λc=>.nx (y.2.set i (some (.sh (.int (g a c)))))
def JB(i:Nat) (pf:MP) (mm:ME):MS:=λS=>(pf S).bind λx=>(pS x.2 i).bind λavs=>(oy (.ow avs) x.1).bind λas=>(mm (x.2.set i none)).bind λy=>tM (y.2[i]?=some none/\as.length<qp) (some (.nx (y.2.set i (some (putAt (.ow avs) x.1 (as++[.sh y.1]))))))
def Kx(g:MF) (f:Bz) (a:MA):MX:=λS=>(a S).bind λx=>(f (x.1.map ny)).bind (zX λr=>(g [ny r]).map λz=>.ok (.rt z))
section
variable {K:W.Frag}
theorem Hu{d:D}{z:Int}(h:intOf d=some z):d = .int z:=by
 cases d <;> first|(cases h;rfl)|cases h
theorem W8{r:R2}{f:D->D->Option D}{ta tb:TE}{m b:ME}(hr:FC K r f) (ha:SM K ta m) (hb:SR K tb b):SM K (QF r ta tb) (Sx f m b):=by
 intro H₀ Hf₀ Hf S σ H Fs d S' R e Q q;obtain⟨x,e1,e⟩:=oBq.mp e;obtain⟨y,e2,e⟩:=oBq.mp e;obtain⟨z,e3,e⟩:=oBq.mp e;split at e
 .rename_i hs;cases e;refine ha R (d:=x.1) (S':=x.2) e1 _ λHf1 H1 Fs1 v1 t1 R1 r1=>hb R1 (d:=y.1) (S':=y.2) e2 _ λHf2 H2 Fs2 v2 t2 R2 r2=>?_
  exact hr ((r1.mono R1.sub).mono t2.sh) r2 e3 λv rv=>q _ _ _ v (t1.trans t2.sf) R2 (rv.scal hs)
 .cases e
theorem Vw{i:Nat}{g:Int->Int->Int}{te:TE}{b:ME}(hb:SR K te b):SS K (WO i te (YL g)) (UI i g b):=by
 intro H₀ Hf₀ Hf S σ H Fs o R e D hd;obtain⟨x,e1,e⟩:=oBq.mp e;obtain⟨a,e2,e⟩:=oBq.mp e;obtain⟨y,e3,e⟩:=oBq.mp e;obtain⟨c,e4,e⟩:=oMq.mp e;cases e;refine mX i R (d:=x.1) (S':=x.2) e1 (λv H1=>te σ H1 λw H2=>YL g v w H2 λz H3=>D.nx (σ.set i (some z)) H3) λHf1 H1 Fs1 v t1 R1 r1=>?_
 refine hb R1 (d:=y.1) (S':=y.2) e3 _ λHf2 H2 Fs2 w t2 R2 r2=>?_
 rw[Hu e2]at r1;rw[Hu e4]at r2;cases r1;cases r2;exact⟨a,c,rfl,rfl,hd _ _ _ _ (t1.sf.trans t2.sf) (R2.setD i .int)⟩
theorem O1{i:Nat}{tp te:TE}{pf:MP}{mm:ME}(hp:V7 K i tp pf) (hk:SM K te mm):SS K (xH (NU K "list" yd tp (ri te uZ))) (JB i pf mm):=by
 intro H₀ Hf₀ Hf S σ H Fs o R e D h;obtain⟨x,e1,e⟩:=oBq.mp e;obtain⟨avs,e2,e⟩:=oBq.mp e;obtain⟨as,e3,e⟩:=oBq.mp e;obtain⟨y,e4,e⟩:=oBq.mp e;rcases nT e with ⟨⟨hn,hl⟩,e⟩|e
 .cases e;refine hp R (path:=x.1) (S':=x.2) e1 _ λHf1 H1 Fs1 v w t1 R1 s1 at0=>?_
  have e2':=nZ e2;obtain⟨p,vs,rfl,h1,h2⟩:=yk R1 e2' s1 e3 at0;obtain⟨v',F,u1,u2,r,nd,oo,_⟩:=R1.move e2';rw[s1]at u1;cases u1;refine⟨.inl ⟨rfl,vs,qO.of h1⟩,hk (R1.frame u2) (d:=y.1) (S':=y.2) e4 _ λHf2 H2 Fs2 u t3 R2 r2=>?_⟩
  obtain⟨k1,k2,R3⟩:=R1.unframe u2 r nd (λq hq=>(oo q hq).1) R2 hn s1 t3
  have hlt:i<y.2.length:=(gSq.mp hn).1;have e5:(y.2.set i (some (.ow avs)))[i]?=some (some (.ow avs)):=aG hlt;obtain⟨vs',g1,g2,g3⟩:=R3.grow e5 s1 e3 (at0.kept r e3 k1);obtain⟨Fs',R4⟩:=g3 [.sh y.1] [u] [[]] (nU.nil.snoc (.sh r2)) (by simp) (λq hq=>by simp at hq)
  rw[eQ]at R4;exact⟨p,vs',u,rfl,rfl,g1,by rw[rX,←g2];exact hl,h _ _ _ _ (t1.sf.trans t3) R4⟩
 .cases e
theorem GV{E:XK}{ta:TA}{a:MA}{f:Bz}{g:MF}(ha:SA K ta a):MJ K E (VR (yy (pE K g) [] E0 (ri (yy (Dl K f) [] E ta) uZ))) (Kx g f a):=by
 intro H₀ Hf₀ Hf S σ H Fs o R e D q;obtain⟨x,e1,e⟩:=oBq.mp e;obtain⟨r,e2,e⟩:=oBq.mp e;refine ha R (as:=x.1) (S':=x.2) e1 _ λHf1 H1 Fs1 vs Gs t1 R1 r1 o1=>?_
 obtain⟨R2,r2,t2⟩:=R1.gives t1 r1 o1;rw[aNq];refine⟨_,_,r,R2.sub,r2,e2,Ez R2 e t2.sf q λav z Hf' H' v F s1 R' ra nd fr=>?_⟩
 obtain⟨z1,ez,z⟩:=oMq.mp z;cases z;have rs:nU K Hf' H' [av] [v] [F]:=nU.nil.snoc ra;have n:∀q∈[F].flatten,Hf' q=none:=λq hq=>(rs.owned q hq).2
 have hF:∀q∈[F].flatten,q∈F:=λq hq=>by rwa [aZ]at hq
 have R3:=R'.frz (λq hq=>⟨R2.fr.free (fr q (hF q hq)),λm=>(R2.mem m).1 (fr q (hF q hq))⟩) n
 have r3:=rs.frozen (qv n) λq hq=>xa hq
 refine⟨_,[ny av],z1,R3.sub,r3,ez,λHf4 H4 v4 F4 u1 u2 u3 l' ra' nd' fr'=>?_⟩
 have R4:=vL R3 u1 u2 u3 l';exact q _ _ _ _ R4.sf R4.fr R4.sub R4.lim ra' nd' λp hp=>R3.fr.free (fr' p hp)
end
theorem T7(S:AS) (g:MF) (f:Bz) (a:MA):Kx g f a S=(a S).bind λx=>(f (x.1.map ny)).bind (zX λr=>(g [ny r]).map λz=>.ok (.rt z)):=rfl
theorem WI(S:AS) (f:D->D->Option D) (m b:ME):Sx f m b S=(m S).bind λx=>(b x.2).bind λy=>(f x.1 y.1).bind λd=>if d.scal then some (d,y.2) else none:=rfl
theorem WL(S:AS) (i:Nat) (g:Int->Int->Int) (b:ME):UI i g b S=(nj i S).bind λx=>(intOf x.1).bind λa=>(b x.2).bind λy=>(intOf y.1).map λc=>.nx (y.2.set i (some (.sh (.int (g a c))))):=rfl
theorem Rj(S:AS) (i:Nat) (pf:MP) (mm:ME):JB i pf mm S=(pf S).bind λx=>(pS x.2 i).bind λavs=>(oy (.ow avs) x.1).bind λas=>(mm (x.2.set i none)).bind λy=>tM (y.2[i]?=some none/\as.length<qp) (some (.nx (y.2.set i (some (putAt (.ow avs) x.1 (as++[.sh y.1])))))):=rfl
def zqg:=aa @T7 (aa @WI (aa @WL @Rj))
end Z
namespace K31
open PySem L2 Mr Z Xe
def zz:MS:=(nY (pI 2 (kSc (Yi "list" AB (nj 0) (nh (nj 1) nI))))
 (qR (Pt (lOf (Tt (uJ 0) (zR (nj 2)) C3)) (lOf (Tt (uJ 0) C3 (zR (nj 2)))))))
def rO:MF:=tw 2 3 zz
def pQ:MS:=(nY (pI 7 (kSc (Kg Ap (oU FP (nj 4) (nj 6))))) (nY (pI 8 (kSc (xZ (nj 2) (nj 7)))) (nY (Be (sI (wA (nj 8) (nj 5))) (nY (zI 5 (nj 8) (kSc (rC (.bl true)))) (nY (Aw 3 (qo K31.rO (nH (OW (uJ 0) (nj 8)) (nH (ot 7) oM)))) (P7 4 (lOf (OW (uJ 3) (Kg Ap (rC (.int 1)))))))) qC) (UI 6 (λa b=>a+b) (rC (.int 1))))))
def xW:MX:=(zZ (JP (pI 2 (qo Zl.qU (nH (ot 0) oM))))
 (zZ (Yo (sI (wA (nj 1) (nj 2))) (Il "NotThere" "end" (nh (nj 1) nI)) (JP qC))
 (zZ (JP (pI 3 (tH (nH (qo K31.rO (nH (OW (uJ 0) (xZ (nj 2) (nj 1))) (nH (ot 1) oM))) oM))))
 (zZ (JP (pI 4 (zP (lOf (OW (uJ 3) (rC (.int 0)))))))
 (zZ (JP (pI 5 (Cw (xZ (nj 2) (nj 1)) (kSc (rC (.bl true))))))
 (zZ (JP (pI 6 (kSc (rC (.int 0)))))
 (zZ (JP (qS (sI (oU V4 (nj 6) (tO qu (nh (nj 4) nI)))) pQ 100000))
 (JP (qR (Cs 3))))))))))
def qh:Bz:=Dv 2 9 xW
def yH:MX:=(Kx Zl.qY K31.qh (nH (ot 0) (nH (ot 1) oM)))
def qE:Bz:=Dv 2 2 yH
def AE:MS:=(nY (pI 3 (kSc (rC (.int 1))))
 (nY (pI 4 (kSc (rC (.int 0))))
 (nY (Be (sI (oU GI (oU vf (nj 0) (rC (.int 3))) (rC (.int 0)))) (nY (pI 3 (kSc (oU BJ (rC (.int 1)) (oU vf (oU Bi (nj 0) (rC (.int 3))) (oU QT (rC (.int 10)) (rC (.int 40))))))) (pI 4 (kSc (oU vf (oU Bi (nj 1) (rC (.int 66))) (oU QT (rC (.int 10)) (rC (.int 40))))))) qC)
 (qR (kSc (oU BJ (oU Bk (nj 3) (oU BJ (oU vf (oU BJ (oU Bk (oU BJ (rC (.int 1)) (oU vf (nj 1) (rC (.int 66)))) (nj 2)) (nj 0)) (rC (.int 67))) (rC (.int 1)))) (nj 4)))))))
def rA:MF:=tw 3 5 AE
def qI:MS:=(QI 8 3 (V2 3 (K8 3) (oU FP (nj 4) (oU B2 (tO qu (nh (nj 4) nI)) (rC (.int 1))))) (Hk 3 (CI (sI (oU Jx (oU vf (nj 7) (rC (.int 4))) (rC (.int 1)))) (sI (oU GI (tO qu (nh (nj 4) nI)) (rC (.int 1))))) (λ_=>(EY (A6 4))) (Hk 3 (CI (sI (oU Jx (oU vf (nj 7) (rC (.int 4))) (rC (.int 2)))) (sI (oU GI (tO qu (nh (nj 5) nI)) (rC (.int 0))))) (EF 3 (pI 9 (kSc (oU B2 (tO qu (nh (nj 5) nI)) (rC (.int 1))))) (EF 3 (Be (sI (nj 2)) (pI 9 (kSc (oU vf (oU Bi (nj 7) (rC (.int 8))) (tO qu (nh (nj 5) nI))))) qC) (E6 3 (yo 5 (nj 9))))) (Hk 3 (sI (oU GI (tO qu (nh (nj 6) nI)) (rC (.int 0)))) (EF 3 (Dg 10 (Sx Bk (yo 6 (rC (.int 0))) (oU B2 (rC (.int 1)) (oU Bk (rC (.int 2)) (oU vf (oU Bi (nj 7) (rC (.int 4))) (rC (.int 2))))))) (λpath=>nY ((Kc 3 (ot 10)) path) (Be (sI (oU Jx (oU vf (nj 7) (rC (.int 4))) (rC (.int 0)))) (nY (Aw 3 (tH (nH (kSc (Kg Ap (nj 10))) oM))) (Aw 4 (kSc (oU B2 (tO qu (nh (nj 3) nI)) (rC (.int 1)))))) (Aw 5 (kSc (Kg Ap (nj 10))))))) (λ_=>qC)))))
def uc:MS:=(JB 3 (V2 3 (K8 3) (oU FP (nj 4) (oU B2 (tO qu (nh (nj 4) nI)) (rC (.int 1))))) (A6 5))
def BQ:MS:=(nY (pI 3 (tH (nH (tH oM) oM)))
 (nY (pI 4 (tH (nH (kSc (rC (.int 0))) oM)))
 (nY (pI 5 (tH oM))
 (nY (pI 6 (zP (uJ 1)))
 (nY (Do 7 (ot 0) qI)
 (nY (qS (sI (oU GI (tO qu (nh (nj 5) nI)) (rC (.int 0)))) uc 100000)
 (qR (Cs 3))))))))
def vk:MF:=tw 3 11 BQ
end K31
namespace Z
open PySem L2 Mr Xe
def EJ(l:ML):MK:=λS=>(l S).map λx=>(.sh (.tup x.1),x.2)
section
variable {K:W.Frag}
theorem G6{te:TE}{l:ML}(hl:SQ K te l):SK K (QC (λxs H Q=>∃p ys,xs=[.ref p]/\((qO K H p ys/\∀l,H l=none->Q (.ref l) (oB H l (.tup ys)))∨(FS K H p ys/\Q (.ref p) H))) (ri te uZ)) (EJ l):=by
 intro H₀ Hf₀ Hf S σ H Fs av S' R e Q q;obtain⟨x,e1,e⟩:=oMq.mp e;cases e;refine hl R (ds:=x.1) (S':=x.2) e1 _ λHf1 H1 Fs1 p1 vs1 t1 R1 h1 r1=>⟨p1,vs1,rfl,.inl ⟨h1,λp hp=>?_⟩⟩
 obtain⟨t3,R3⟩:=R1.layF (o:=.tup vs1) hp;exact q _ _ _ (.ref p) [] (t1.trans t3) R3 (.sh (.mk_tup nB (r1.mono t3.sf))) .nil
end
theorem Su(S:AS) (l:ML):EJ l S=(l S).map λx=>(.sh (.tup x.1),x.2):=rfl
def zqh:=@Su
def Zh:=aa zq (aa zq3 (aa zq4 (aa Z8 (aa zq9 (aa zqd (aa Z7 (aa Z9 (aa zqg (zqh)))))))))
end Z
local macro_rules | `(tactic| simp_arith [$ls,*]) => `(tactic| simp -implicitDefEqProofs only [Z.Zh,gR,gS,gf,gg,fo,↓reduceIte,reduceCtorEq,$ls,*])
namespace K33
open PySem L2 Mr Z Xe
def zW:MS:=(qR (EJ (lOf (xO (EC (ot 1)) [0] tL (kSc (xZ (nj 1) (Kg Ap (nj 0))))))))
def qB:MF:=tw 2 2 zW
def wF:MS:=(zI 1 (nj 3) (ot 2))
def CZ:MS:=(nY (pI 1 En)
 (nY (Kh 2 3 (qo Zl.qY (nH (ot 0) oM)) wF)
 (qR (EJ (lOf (xO (EC (ot 0)) [1] tL (qo K33.qB (nH (ot 1) (nH (ot 0) oM)))))))))
def vz:MF:=tw 1 4 CZ
def yG:MX:=(Kx K33.vz K31.qh (nH (ot 0) (nH (ot 1) oM)))
def qF:Bz:=Dv 2 2 yG
end K33
namespace HT
open PySem PyProof.Rows
open PySem.SeqAt
open PySem.AutoSeq1 (wpAny_loadPart')
open PySem.MeetsSeq PySem.MeetsSeq2 PySem.MeetsSeq3
def Y2(A:Around) (s:Shared) (op:CmpOp) (y x:Value) (b:Bool):Prop:=∀(P:jg) (w:ji) (E Q:Value->Shared->Prop),Q (.bool b) s->jb (ja P w) A (aaa op y x) Q E s
def tRow(r:List Int):PyData:=.tuple (r.map .int)
theorem N9(r t:List Int):PyData.eqv (tRow r) (tRow t)=decide (r=t):=by
 rw[←same_eq_eqv _ _ (by simp[tRow,SeqAt.noMix,W.noMix_ints r t])]
 simp[tRow,PySem.Spec.same,W.same_ints r t]
def vS(h:Heap) (q:Addr) (r:List Int):Prop:=∃vs:List Value,h.IsTuple q vs.toArray/\ju vs r
theorem vS.reads{h:Heap}{q:Addr}{r:List Int}(t:vS h q r):Reads h (.ref q) (tRow r) []:=by
 obtain⟨vs,⟨o,ho,hc,n,hd⟩,hi⟩:=t;exact Reads.tuple ho hc hd (by simpa using W.readsAll_of_ints hi)
theorem vS.eq{A:Around}{s:Shared}{q q':Addr}{r r':List Int}(h:vS s.heap q r) (h':vS s.heap q' r') (hu:A.units+4<jB):EqAt A s (.ref q) (.ref q') (decide (r=r')):=by
 rw[←N9];have d1:=W.depthAll_ints r;refine eqAt_reads (tRow r) (tRow r') A s (.ref q) (.ref q') [] [] h.reads h'.reads (by simp[tRow,PyData.canLay0,W.canLayAll0_ints r]) (by simp[tRow,PyData.canLay0,W.canLayAll0_ints r']) ?_
 have:(tRow r).depth<=2:=by simp only[tRow,PyData.depth];lia
 lia
theorem vS.lt{A:Around}{s:Shared}{q q':Addr}{r r':List Int}(h:vS s.heap q r) (h':vS s.heap q' r') (hu:A.units+4<jB):Y2 A s .Lt (.ref q) (.ref q') (oR r r'):=by
 obtain⟨vs,h1,h2⟩:=h;obtain⟨ws,g1,g2⟩:=h';exact λP w E Q z=>Jf (items:=vs.toArray) (items2:=ws.toArray) h1 g1 h2 g2 (by lia) z
theorem vS.keep{h h':Heap}{q:Addr}{r:List Int}(k:∀b o,h.get? b=some o->h'.get? b=some o) (t:vS h q r):vS h' q r:=by
 obtain⟨vs,⟨o,ho,rest⟩,hi⟩:=t;exact⟨vs,⟨o,k _ _ ho,rest⟩,hi⟩
end HT
namespace K15
open PySem L2 Mr Z
def wN:MS:=(zI 1 (oU FP (nj 2) (nj 3)) (kSc (oU FP (nj 2) (oU vf (oU BJ (nj 3) (rC (.int 1))) (tO qu (nh (nj 2) nI))))))
def wk:MS:=(CV 3 (nh (tO qu (nh (nj 2) nI)) nI) wN)
def BP:MS:=(nY (pI 1 En)
 (nY (Do 2 (ot 0) wk)
 (qR (Cs 1))))
def vJ:MF:=tw 1 4 BP
end K15
namespace Z
open PySem L2 Mr Xe
def BS(S:AS):AS:=S.map λx=>x.map λa=>.sh (ny a)
def Ox(k:MK):MK:=λS=>(k (BS S)).bind λy=>if we y.1=true then some (y.1,S) else none
section
variable {K:W.Frag}{H₀ Hf₀ Hf H:Hp}{S:AS}{σ:St}{Fs:List (List Addr)}
theorem og.pin(R:og K H₀ Hf₀ Hf S σ H Fs):og K H H H (BS S) σ H (ay S.length []):=by
 have lt:∀{i:Nat}{x:Option AV},(BS S)[i]?=some x->(ay S.length ([]:List Addr))[i]?=some []:=λ{i x} e=>by
  have:=(gSq.mp e).1;unfold BS at this;rw[lMq]at this;rw[cc,nP this]
 refine⟨by unfold BS;rw[lMq];exact R.len,by unfold BS;rw[fb,lMq],λi av e=>?_,λi e=>lt e,by rw[qM];exact aT,λp hp=>(by rw[qM]at hp;cases hp),.refl _,.refl _,λb h g=>absurd h g,.refl _⟩
 have hF:=lt e;unfold BS at e;rw[gMq]at e;obtain⟨x,hx,e⟩:=oMq.mp e;obtain⟨a,ha,e2⟩:=oMq.mp e;subst ha;subst e2;obtain⟨v,F,s1,s2,r⟩:=R.rep i a hx;exact⟨v,[],s1,hF,.sh (r.rep R.sub)⟩
theorem QR{te:TE}{k:MK}(hk:SK K te k):SK K te (Ox k):=by
 intro H₀ Hf₀ Hf S σ H Fs av S' R e Q q;obtain⟨y,e1,e⟩:=oBq.mp e;split at e
 .rename_i hc;cases e;refine hk R.pin (a:=y.1) (S':=y.2) e1 _ λHf1 H1 Fs1 v F t1 R1 r1 o1=>?_
  have hn:∀q∈F,H q=none:=o1.fr;exact q Hf H1 Fs v F ⟨.refl _,t1.sh,λ_ h=>h,λb h g=>absurd h g⟩ (R.laid t1.sh) (r1.bare hc λq hq=>R.sub.free (hn q hq)) ⟨o1.nd,λq hq=>R.fr.free (hn q hq),λq hq m=>(R.mem m).1 (hn q hq),λq hq=>.inl (hn q hq)⟩
 .cases e
end
theorem N0(k:MK) (S:AS):Ox k S=(k (BS S)).bind λy=>if we y.1=true then some (y.1,S) else none:=rfl
theorem Gm:BS []=[]:=rfl
theorem Eb(x:Option AV) (S:AS):BS (x::S)=(x.map λa=>.sh (ny a))::BS S:=rfl
end Z
namespace Ms
open PySem PyProof.Rows Mr
def Zd(F:List Int) (k:Int):List Int:=if k∈F then F else F++[k]
def dd(ns:List Int):List Int:=ns.foldl Zd []
def SA(h:Heap) (a:Addr) (es:Array (Int×Value)) (ep:Nat) (t:SetTable):Prop:=∃o,h.get? a=some o/\o.ExactSet/\o.data = .set es ep t
end Ms
namespace K72
open PySem L2 Mr Z Xe
def Cn:MS:=(qR (kSc (LH (tO yM (nh (nj 0) (nh (rC (.ty "int")) nI))) (SI (tO yM (nh (nj 0) (nh (rC (.ty "bool")) nI)))))))
def ue:MF:=tw 1 1 Cn
end K72
namespace Mr
open PySem L2
open PySem.Spec PyProof.Rows
def WM:V->Int
 | .int i=>i
 |_=>0
end Mr
namespace MrS
open PySem PyProof.Rows
section
variable {prog:jg}{w:ji}{A:Around}{E:Value->Shared->Prop}{s:Shared}{Pk:iZ->Prop}{lt:iZ->iZ->Bool}{κ:jx}
theorem FW{a:Addr}{vs:List Value}{n:Nat}{P:PySem.Fin->Shared->Prop}(ho:s.heap.get? a=some (jm "list" vs.toArray n)) (hs:vs.length<=jf)
  (hkk:2<=vs.length->∀Q:jx->Shared->Prop,Q κ { s with heap:=qf s.heap a vs }->jb (ja prog w) A (kQ vs.toArray) Q E { s with heap:=qf s.heap a vs })
  (C:wR prog w A { s with heap:=qf s.heap a vs } κ Pk lt) (hp:∀x,x∈jy vs->Pk x)
  (h:∀xs:Array iZ,xs.Perm (jy vs)->yq lt xs 0 (jy vs).size->P (.done (.ret .none)) { s with heap:=km s.heap a vs (xs.map (·.2)) }) :
  jb (ja prog w) A (Builtin.«list.sort» ⟨[.ref a],[]⟩) P E s:=by
 rw[list_sort_plain];have ha:a<s.heap.objs.size:=ag ho;refine iY (listItems_at ho rfl ?_);refine iY (jH ho rfl ?_ (hsz:=by simpa using hs))
 obtain⟨e1,ho1⟩:∃e1,(s.heap.update a (Obj.mapSeq λ_=>#[])).get? a=some (jm "list" #[] e1):=⟨_,jO ho (λ_=>#[])⟩
 refine iY (kF ho1 rfl ?_);refine iY (mj ?_);refine iY (jU ?_);refine jA ?_;have ho6:(qf s.heap a vs).get? a=some (jm "list" #[] e1):=by
  rw[df _ _ _ (by rw[kC,bO];exact aw (bS ha)),df _ _ _ (by rw[bO];exact aw ha)]
  exact ho1
 show jb (ja prog w) A _ P E { s with heap:=qf s.heap a vs }
 dsimp only;have hsz:vs.toArray.size=vs.length:=by simp
 have hs':jf=16777216:=jq
 by_cases h2:vs.toArray.size<2
 .rw [nP h2,nP h2];refine iY (je ?_);rw[StateT.run_pure];refine iY (je ?_);dsimp only;refine iY (kF ho6 rfl ?_);refine iY (jH ho6 rfl ?_ (hsz2:=by rw[fB];show (jy vs).size<=_;rw[jL,jq];lia))
  simp only[bne_self_eq_false,bG,if_false];refine je (h _ (gP.refl _) ?_);intro i j x y _ hij hj ex ey;have:i=j:=by rw[jL]at hj;lia
  subst this;rw[ex]at ey;cases ey;exact C.refl (hp x (aQq ex))
 .rw [nQ h2,nQ h2];refine iY (hkk (by lia) _ ?_)
  refine iY (jo (zC C (arr:=jy vs) (g:=7) (E:=E)
   (Q:=λ_ st'=>∃xs p g',st'=vy κ xs p g'/\xs.Perm (jy vs)/\yq lt xs 0 (jy vs).size) hp (by rw[jL];lia) λxs p g' a1 a2=>⟨xs,p,g',rfl,a1,a2⟩) ?_ λ_ _ e=>e)
  rintro⟨⟨⟩,st'⟩ s' ⟨rfl,xs,p,g',rfl,hpm,hsg⟩;dsimp only;refine iY (kF ho6 rfl ?_);refine iY (jH ho6 rfl ?_ (hsz2:=by refine bC (eN ((fB ..).trans (hpm.size_eq.trans (jL _)))) ?_;lia))
  simp only[bne_self_eq_false,bG,if_false];exact je (h xs hpm hsg)
end
end MrS
namespace Mr
open PySem L2 PySem.Calls
open PySem.Spec PyProof.Rows
def ZD(r:Addr->List Int) (x y:iZ):Bool:=match x.1,y.1 with
 | .ref p,.ref q=>HT.oR (r p) (r q)
 |_,_=>false
theorem PV{prog:jg}{w:ji}{A:Around}{s:Shared}{Q:Bool->Shared->Prop}{fin:Bool}:∀{vs:List Value}{c:List Int},ju vs c->∀{us:List Value}{d:List Int},ju us d->∀i:Nat,fin=decide (c.length<d.length)->Q (HT.oR c d) s->W.KatLex prog w A true fin Q (vs.zip us) i s:=by
 intro vs c hv
 induction hv with
 |nil =>
  intro us d hu i hf k;refine W.kat_nil ?_;cases hu with
  |nil=>rw[hf];simpa [HT.oR] using k
  |cons b t h=>rw[hf];simpa [HT.oR] using k
 |cons a t hv ih =>
  intro us d hu i hf k;cases hu with
  |nil =>
   refine W.kat_nil ?_;rw[hf];simpa [HT.oR] using k
  |cons b u hu =>
   refine W.kat_cons (wpAny_eqBool_int ?_);rw[HT.oR]at k;refine W.kat_go (λe=>?_) λe=>?_
   .have e:=eq_of_beq e;rw[nP e]at k;exact W.kat_yes (ih hu (i+1) (by rw[hf];simp) k)
   .have e:¬ a=b:=λz=>by rw[z]at e;simp at e
    rw[nQ e]at k;refine W.kat_no ?_;cases i with
    |zero =>
     show jb _ _ (oneLt' true _ _) _ _ _;rw[←kP];exact W.kat_lt_int k
    |succ i =>
     show jb _ _ (oneLt' false _ _) _ _ _;exact W.kat_one _ _ (wpAny_lt_int k)
theorem Xl{prog:jg}{w:ji}{A:Around}{s:Shared}{ps:List Addr}{r:Addr->List Int}
  (h:∀p∈ps,HT.vS s.heap p (r p)):MrS.wR prog w A s (tuples' true) (λx=>∃p,x.1 = .ref p/\p∈ps) (ZD r) where
 ask:=by
  rintro⟨_,x⟩ ⟨_,y⟩ ⟨p,e1,hp⟩ ⟨q,e2,hq⟩ E Q k;dsimp only at e1 e2;subst e1 e2;obtain⟨vs,⟨o,ho,hc,n,hd⟩,i1⟩:=h p hp;obtain⟨us,⟨o',ho',hc',n',hd'⟩,i2⟩:=h q hq;refine W.kat_lt ho hd ho' hd' ?_;exact PV i1 i2 0 (by simp[i1.length,i2.length]) k
 asym:=by
  rintro⟨_,x⟩ ⟨_,y⟩ ⟨a,e1,_⟩ ⟨b,e2,_⟩ h;dsimp only at e1 e2;subst e1 e2;exact Mr.xY _ _ h
 trans:=by
  rintro⟨_,x⟩ ⟨_,y⟩ ⟨_,z⟩ ⟨a,e1,_⟩ ⟨b,e2,_⟩ ⟨c,e3,_⟩ h1 h2;dsimp only at e1 e2 e3;subst e1 e2 e3;exact Mr.vV _ _ _ h1 h2
theorem U8{M:jZ}{A:Around}{E:Value->Shared->Prop}{s:Shared}{ps:List Addr}{r:Addr->List Int}{Q:jx->Shared->Prop}(h2:2<=ps.length) (h:∀p∈ps,HT.vS s.heap p (r p)) (hne:∀p∈ps,r p≠[]) (q:Q (tuples' true) s):jb M A (kQ (ps.map ak).toArray) Q E s:=by
 have key:∀ps:List Addr,(∀p∈ps,HT.vS s.heap p (r p))->(∀p∈ps,r p≠[])->∃fs:List Value,fs.length=ps.length/\W.KatTups s.heap (ps.map ak) fs/\∀f∈fs,∃z t,f = .int z t:=λps=>by
  induction ps with
  |nil=>intro _ _;exact⟨[],rfl,W.KatTups.nil,λf hf=>by cases hf⟩
  |cons p ps ih =>
   intro h hne;obtain⟨fs,a1,a2,a3⟩:=ih (λp hp=>h p (mCo _ hp)) (λp hp=>hne p (mCo _ hp))
   obtain⟨vs,⟨o,ho,hc,n,hd⟩,i1⟩:=h p (aD ..);have n1:=hne p (aD ..);generalize r p=c at i1 n1;cases i1 with
   |nil=>exact absurd rfl n1
   |cons z t i1 =>
    refine⟨.int z t::fs,by rw[lCq,lCq,a1],W.KatTups.cons ho hc hd rfl a2,λg hg=>?_⟩
    rcases ao.mp hg with w|w
    .rw [w];exact⟨z,t,rfl⟩
    .exact a3 g w
 obtain⟨fs,a1,a2,a3⟩:=key ps h hne;refine W.kat_kind (T:=.type "int") a2 (by lia) (λv hv=>?_) (by rfl) q
 obtain⟨z,t,rfl⟩:=a3 v hv;intro A Q E s2 k2 q2;exact kz (T := "int") rfl q2
def tP(H:Hp) (p:Addr):List Int:=match H p with
 |some (.tup vs)=>vs.map WM
 |_=>[]
def G0(H:Hp) (ps:List Addr) (rs:List (List Int)):Prop:=rs=ps.map (tP H)/\∀p∈ps,H p=some (.tup ((tP H p).map V.int))
theorem E7{H:Hp}{p:Addr}{r:List Int}(h:H p=some (.tup (r.map V.int))):tP H p=r:=by
 unfold tP;rw[h];show (r.map V.int).map WM=r;rw[mPq];exact List.map_id' r
section
variable {X:Cx}
theorem YE{mV:List (Addr×Obj)}{σ:St}{H:Hp}{s:Shared}{p:Addr}{r:List Int}(I:Inv X mV σ H s) (h:H p=some (.tup (r.map V.int))):HT.vS s.heap p r:=by
 obtain⟨its,rv,pl,_⟩:=I.tuple (FS.of h);exact⟨its,pl,uu rv⟩
end
end Mr
namespace Mo
open PySem PyProof.Rows Mr
abbrev Up(h:Heap) (z TI TO T:Addr) (b:Bool):Prop:=h.get? z=some { cls:=.type "zip", dict:=none,data:=.fields #[kf T,.bool b,.bool false,.ref TI,.ref TO],slots:=#[] }
section
variable {prog:jg}{w:ji}{A:Around}{E:Value->Shared->Prop}{s:Shared}
theorem Gz{a:Addr}{o:Obj}{Q:Option Obj->Shared->Prop}(ho:s.heap.get? a=some o) (h:Q (some o) s):jb (ja prog w) A (loadIfAlive a) Q E s:=λΓ p hΓ=>by
 unfold loadIfAlive;rw[Sem.wp_loadIfAlive,ho];exact h
theorem Gc{z TI TO T:Addr}{b:Bool}{o:Obj}{Q:Bool->Shared->Prop}(hz:Up s.heap z TI TO T b) (ho:s.heap.get? T=some o)
  (h:∀h',Up h' z TI TO T true->eM z s.heap h'->Q false { s with heap:=h' }):jb (ja prog w) A (Builtin.SmallTypes.ownedTupleIsFree (.ref z)) Q E s:=by
 unfold Builtin.SmallTypes.ownedTupleIsFree;refine iY (jK hz rfl (x:=kf T) rfl ?_);refine iY (Gz (a:=T) ho ?_);refine iY (jK hz rfl (x:=.bool b) rfl ?_);cases b with
 |true=>exact iY (je (je (h s.heap hz ⟨rfl,λ_ _=>rfl⟩)))
 |false =>
  refine iY ?_;exact wpAny_setField_rec hz (by simp) λh1 hz1 hs1=>je (h h1 hz1 hs1)
theorem XE{z TI TO i1 i2 l1 l2 T:Addr}{b:Bool}{o:Obj}{k:Nat}{xs ys:Array Value}{x y:Value}{Q:Value->Shared->Prop}(D:kR z TI TO i1 i2 l1 l2) (hz:Up s.heap z TI TO T b) (ho:s.heap.get? T=some o)
  (hTI:kO s.heap TI (.ref i1) (.ref i2)) (h1:s.heap.IsListIter i1 l1 k) (h2:s.heap.IsListIter i2 l2 k) (hl1:s.heap.IsList l1 xs) (hl2:s.heap.IsList l2 ys) (hx:xs[k]?=some x) (hy:ys[k]?=some y)
  (hQ:∀h',Up h' z TI TO T true->h'.IsListIter i1 l1 (k+1)->h'.IsListIter i2 l2 (k+1)->kO h' s.heap.objs.size x y->h'.objs.size=s.heap.objs.size+1->(∀c o,c≠z->c≠i1->c≠i2->s.heap.get? c=some o->h'.get? c=some o)->Q (.ref s.heap.objs.size) { s with heap:=h' }) :
  jb (ja prog w) A (Builtin.«zip.__next__» ⟨[.ref z],[]⟩) (λfin s'=>∃v,fin = .done (.ret v)/\Q v s') E s:=by
 show jb _ _ (field (.ref z) 2 >>= _) _ _ _;refine iY (jK hz rfl (x:=.bool false) rfl ?_);show jb _ _ (field (.ref z) 3 >>= _) _ _ _;refine iY (jK hz rfl (x:=.ref TI) rfl ?_);refine iY (wpAny_seqItems hTI rfl ?_);show jb _ _ (Builtin.SmallTypes.ownedTupleIsFree (.ref z) >>= _) _ _ _;refine iY (Gc hz ho λg1 hz1 s1=>?_)
 simp only[bG,if_false];refine iY ?_;rw[hV];simp only[iz,iF];refine iY (iY (jA ?_));show jb _ _ (Builtin.SmallTypes.nextOf (.ref i1) >>= _) _ _ _;refine iY (lU (h1.extBut s1.extBut D.i1z) (hl1.extBut s1.extBut D.l1z) hx λg2 q2 s2=>je ?_)
 refine je ?_;refine iY (iY (jA ?_));show jb _ _ (Builtin.SmallTypes.nextOf (.ref i2) >>= _) _ _ _;refine iY (lU ((h2.extBut s1.extBut D.i2z).extBut s2.extBut D.i12.symm) ((hl2.extBut s1.extBut D.l2z).extBut s2.extBut D.l2i1) hy λg3 q3 s3=>je ?_)
 refine je (je ?_);refine iY (mj ?_ (by show 2<=jf;rw[jq];decide))
 have hsz:g3.objs.size=s.heap.objs.size:=by rw[s3.1,s2.1,s1.1]
 have hz3:Up g3 z TI TO T true:=s3.extBut _ _ D.i2z.symm (s2.extBut _ _ D.i1z.symm hz1);have h13:g3.IsListIter i1 l1 (k+1):=q2.extBut s3.extBut D.i12;have kp:∀c o,c≠z->c≠i1->c≠i2->s.heap.get? c=some o->g3.get? c=some o:=λc o c1 c2 c3 e=>s3.extBut _ _ c3 (s2.extBut _ _ c2 (s1.extBut _ _ c1 e))
 refine je ⟨_,rfl,?_⟩;show Q (.ref g3.objs.size) _;rw[hsz];exact hQ _ (ae _ hz3) (h13.at λo e=>ae _ e) (q3.at λo e=>ae _ e) (by rw[←hsz];exact aS _ rfl) (by rw[fA,hsz]) λc o c1 c2 c3 e=>ae _ (kp c o c1 c2 c3 e)
end
section
variable {prog:jg}{w:ji}{A:Around}{E:Value->Shared->Prop}{s:Shared}
theorem Wy{z TI TO i1 i2 l1 l2 T:Addr}{b:Bool}{o:Obj}{k:Nat}{xs:Array Value}{Q:Fin->Shared->Prop}(hh:A.handled=none) (D:kR z TI TO i1 i2 l1 l2) (hz:Up s.heap z TI TO T b) (ho:s.heap.get? T=some o)
  (hTI:kO s.heap TI (.ref i1) (.ref i2)) (h1:s.heap.IsListIter i1 l1 k) (hl1:s.heap.IsList l1 xs) (hx:xs[k]?=none)
  (hE:∀h' e,(∀c o,c≠z->c≠i1->s.heap.get? c=some o->h'.get? c=some o)->(∃o,h'.get? e=some o/\o.cls = .type "StopIteration")->E (.ref e) { s with heap:=h' }) :
  jb (ja prog w) A (Builtin.«zip.__next__» ⟨[.ref z],[]⟩) Q E s:=by
 show jb _ _ (field (.ref z) 2 >>= _) _ _ _;refine iY (jK hz rfl (x:=.bool false) rfl ?_);show jb _ _ (field (.ref z) 3 >>= _) _ _ _;refine iY (jK hz rfl (x:=.ref TI) rfl ?_);refine iY (wpAny_seqItems hTI rfl ?_);show jb _ _ (Builtin.SmallTypes.ownedTupleIsFree (.ref z) >>= _) _ _ _;refine iY (Gc hz ho λg1 hz1 s1=>?_)
 simp only[bG,if_false];refine iY ?_;rw[hV];simp only[iz,iF];refine iY (iY (jA ?_));show jb _ _ (Builtin.SmallTypes.nextOf (.ref i1) >>= _) _ _ _;refine iY (wpAny_nextOf_list_end hh (h1.extBut s1.extBut D.i1z) (hl1.extBut s1.extBut D.l1z) hx λg2 e s2 he=>?_)
 exact hE g2 e (λc o c1 c2 q=>s2 _ _ c2 (s1.extBut _ _ c1 q)) he
structure Sv (h:Heap) (z TI TO i1 i2 l1 l2 d:Addr) (k:Nat) (xs ys:Array Value):Prop where
 f:IsZip h z TI TO .none∨∃T b o,Up h z TI TO T b/\h.get? T=some o/\T≠z/\T≠TO/\T≠i1/\T≠i2/\T≠d
 ti:kO h TI (.ref i1) (.ref i2)
 to:∃a b,kO h TO a b
 h1:h.IsListIter i1 l1 k
 h2:h.IsListIter i2 l2 k
 l1:h.IsList l1 xs
 l2:h.IsList l2 ys
theorem Sv.ty{z TI TO i1 i2 l1 l2 d:Addr}{k:Nat}{xs ys:Array Value}(S:Sv s.heap z TI TO i1 i2 l1 l2 d k xs ys):s.TypeIs (.ref z) "zip" := by
 rcases S.f with h|⟨_,_,_,h,_⟩
 .exact ⟨_,h,rfl⟩
 .exact ⟨_,h,rfl⟩
theorem Xs{z TI TO i1 i2 l1 l2 d:Addr}{k:Nat}{xs ys:Array Value}{Q:Option Value->Shared->Prop}(hh:A.handled=none) (D:kR z TI TO i1 i2 l1 l2) (S:Sv s.heap z TI TO i1 i2 l1 l2 d k xs ys) (hx:xs[k]?=none)
  (hQ:∀h',(∀c o,c≠z->c≠TO->c≠i1->c≠i2->s.heap.get? c=some o->h'.get? c=some o)->Q none { s with heap:=h' }) :
  jb (ja prog w) A (kZ (.ref z)) Q E s:=by
 obtain⟨a,b,hTO⟩:=S.to;rcases S.f with hz|⟨T,f1,o,hz,ho,_⟩
 .exact wpAny_pyNext_zip_end hh D hz S.ti hTO S.h1 S.h2 S.l1 S.l2 (.inl hx) hQ
 .have hT:=S.ty;unfold kZ;refine iY (mJ (lJ (name:=Str.ofString "__next__") hT F.slot_zip_next (ki F.slot_zip_next hT F.entry_zip_next (Wy hh D hz ho S.ti S.h1 S.l1 hx λh' e hk he=>?_) (F.args_zip_next_1 _))))
  obtain⟨oe,h3,h4⟩:=he;refine iY (wpAny_isInstance (T := "StopIteration") (b:=true) ⟨oe,h3,h4⟩ isSubtype_stop ?_);exact je (hQ _ λc o c1 _ c3 _ q=>hk c o c1 c3 q)
end
section
variable {K:Type} [DecidableEq K]
def fz(ks:List K) (ws:List Value) (j:Nat):List (K×Value):=((ks.zip ws).take j).foldl (λm p=>stored m p.1 p.2) []
end
section
variable {prog:jg}{w:ji}{A:Around}{E:Value->Shared->Prop}{s:Shared}{K:Type} [DecidableEq K] {knd:KeyKind prog w K}{R:Result->Shared->Prop}{z TI TO i1 i2 l1 l2 d:Addr}{us ws:List Value}{ks:List K}
theorem Sv.keep{h h':Heap}{k:Nat}{xs ys:Array Value}(S:Sv h z TI TO i1 i2 l1 l2 d k xs ys) (nd:∀c∈[z,TI,TO,i1,i2,l1,l2],c≠d) (kp:gF d h h'):Sv h' z TI TO i1 i2 l1 l2 d k xs ys:=by
 have q:=λc hc o=>kp c o (nd c hc)
 obtain⟨a,b,hTO⟩:=S.to;refine⟨?_,q TI (by simp) _ S.ti,⟨a,b,q TO (by simp) _ hTO⟩,S.h1.at λo e=>q i1 (by simp) o e,S.h2.at λo e=>q i2 (by simp) o e,S.l1.at λo e=>q l1 (by simp) o e,S.l2.at λo e=>q l2 (by simp) o e⟩
 rcases S.f with hz|⟨T,f1,o,hz,ho,n1,n2,n3,n4,n5⟩
 .exact .inl (q z (by simp) _ hz)
 .exact .inr ⟨T,f1,o,q z (by simp) _ hz,kp _ _ n5 ho,n1,n2,n3,n4,n5⟩
end
theorem LZ:jn (.type "zip") "__len__" = pure none:=by rw[typeLookup_type,mh];kernel_rfl
theorem IS:jn (.type "zip") "__length_hint__" = pure none:=by rw[typeLookup_type,mh];kernel_rfl
section
variable {prog:jg}{w:ji}{A:Around}{E:Value->Shared->Prop}{s:Shared}
theorem Pf{z:Addr}{Q:Bool->Shared->Prop}(hT:s.TypeIs (.ref z) "zip") (q:Q true s):jb (ja prog w) A (Builtin.List.listLengthHint (.ref z)) Q E s:=by
 unfold Builtin.List.listLengthHint specialOf;refine iY (iY (kz hT ?_));rw[LZ];refine je ?_;show jb _ _ (do
  let __x ← (do let t ←typeOf (.ref z);jn t (Str.ofString "__length_hint__"))
  _) _ _ _
 refine iY (iY (kz hT ?_));rw[IS];refine je ?_;exact je q
theorem U7{z TI TO i1 i2 l1 l2 d:Addr}{k:Nat}{xs ys:Array Value}{x y:Value}{Q:Option Value->Shared->Prop}(D:kR z TI TO i1 i2 l1 l2) (hd:d<s.heap.objs.size) (S:Sv s.heap z TI TO i1 i2 l1 l2 d k xs ys) (hx:xs[k]?=some x) (hy:ys[k]?=some y)
  (hQ:∀h',Sv h' z TI TO i1 i2 l1 l2 d (k+1) xs ys->kO h' s.heap.objs.size x y->(∀c o,c≠z->c≠TO->c≠i1->c≠i2->s.heap.get? c=some o->h'.get? c=some o)->Q (some (.ref s.heap.objs.size)) { s with heap:=h' }) :
  jb (ja prog w) A (kZ (.ref z)) Q E s:=by
 obtain⟨a,b,hTO⟩:=S.to;have zl:z<s.heap.objs.size:=by
  rcases S.f with h|⟨_,_,_,h,_⟩
  .exact ag h
  .exact ag h
 have i1l:i1<s.heap.objs.size:=by obtain⟨_,q,_⟩:=S.h1;exact ag q
 have i2l:i2<s.heap.objs.size:=by obtain⟨_,q,_⟩:=S.h2;exact ag q
 have TOl:TO<s.heap.objs.size:=ag hTO;rcases S.f with hz|⟨T,f1,o,hz,ho,n1,n2,n3,n4,n5⟩
 .refine wpAny_pyNext_zip_item D hz S.ti hTO S.h1 S.h2 S.l1 S.l2 hx hy λh' a1 a2 a3 a4 a5 a6 a7=>hQ h' ⟨.inr ⟨_,_,_,a1,a5,bj zl,bj TOl,bj i1l,bj i2l,bj hd⟩,a7 _ _ D.TIz D.TITO D.TIi1 D.TIi2 S.ti,⟨_,_,a2⟩,a3,a4,S.l1.at λo q=>a7 _ _ D.l1z D.l1TO D.l1i1 D.l1i2 q,S.l2.at λo q=>a7 _ _ D.l2z D.l2TO D.l2i1 D.l2i2 q⟩ a5 a7
 .have hT:=S.ty;unfold kZ;refine iY (mJ (lJ (name:=Str.ofString "__next__") hT F.slot_zip_next (ki F.slot_zip_next hT F.entry_zip_next (XE D hz ho S.ti S.h1 S.h2 S.l1 S.l2 hx hy λh' a1 a3 a4 a5 a6 a7=>je (hQ h' ?_ a5 λc o c1 _ c3 c4 q=>a7 c o c1 c3 c4 q)) (F.args_zip_next_1 _))))
  exact⟨.inr ⟨T,true,o,a1,a7 _ _ n1 n3 n4 ho,n1,n2,n3,n4,n5⟩,a7 _ _ D.TIz D.TIi1 D.TIi2 S.ti,⟨a,b,a7 _ _ D.TOz D.TOi1 D.TOi2 hTO⟩,a3,a4,S.l1.at λo q=>a7 _ _ D.l1z D.l1i1 D.l1i2 q,S.l2.at λo q=>a7 _ _ D.l2z D.l2i1 D.l2i2 q⟩
theorem Ek:entryFor table "list.extend.loop" = some Builtin.«list.extend.loop»:=entryFor_of_tree (by kernel_rfl)
theorem yc:plainId "list.extend.loop" = true:=by decide +kernel
structure V5 (h:Heap) (S z TO i1 i2:Addr) (us ws:List Value) (Ts:List Addr):Prop where
 nd:Ts.Nodup
 lt:∀T∈Ts,T<h.objs.size
 ne:∀T∈Ts,T≠z/\T≠TO/\T≠i1/\T≠i2/\T≠S
 pr:∀(i:Nat) (T:Addr) (u v:Value),Ts[i]?=some T->us[i]?=some u->ws[i]?=some v->kO h T u v
theorem V5.keep{h h':Heap}{S z TO i1 i2:Addr}{us ws:List Value}{Ts:List Addr}(P:V5 h S z TO i1 i2 us ws Ts) (l1:Ts.length<=us.length) (l2:Ts.length<=ws.length) (k:∀T∈Ts,∀o,h.get? T=some o->h'.get? T=some o):V5 h' S z TO i1 i2 us ws Ts:=by
 refine⟨P.nd,λT hT=>?_,P.ne,λi T u v e1 e2 e3=>k T (mGq e1) _ (P.pr i T u v e1 e2 e3)⟩
 obtain⟨i,hi⟩:=aV.mp hT;have il:=(gSq.mp hi).1;exact ag (k T hT _ (P.pr i T _ _ hi (gEg (by lia)) (gEg (by lia))))
variable {R:Result->Shared->Prop}{z TI TO i1 i2 l1 l2 S:Addr}{us ws:List Value}{res:Value}
theorem Sn(hh:A.handled=none) (D:kR z TI TO i1 i2 l1 l2) (nd:∀c∈[z,TI,TO,i1,i2,l1,l2],c≠S) (hlen:us.length=ws.length) (hsz:us.length<=jf) :
  ∀(m j:Nat) (s:Shared) (Ts:List Addr) (c:Nat),us.length-j=m->j<=us.length->Ts.length=j->Sv s.heap z TI TO i1 i2 l1 l2 S j us.toArray ws.toArray->s.heap.get? S=some (jm "list" (Ts.map ak).toArray c)->V5 s.heap S z TO i1 i2 us ws Ts ->
   (∀h' (Ts':List Addr) c',Ts'.length=us.length->h'.get? S=some (jm "list" (Ts'.map ak).toArray c')->V5 h' S z TO i1 i2 us ws Ts'->(∀T∈Ts',T∈Ts∨s.heap.objs.size<=T)->(∀b o,b≠z->b≠TO->b≠i1->b≠i2->b≠S->s.heap.get? b=some o->h'.get? b=some o)->R (.ok (.ret res)) { s with heap:=h' }) ->
   kK (ja prog w) A (.builtin "list.extend.loop" ⟨[.ref S,.ref z,res],[]⟩) R s:=by
 intro m
 induction m with
 |zero =>
  intro j s Ts c hm hj hT St hS P hR;have hjn:j=us.length:=by lia
  refine jw Ek ?_;rw[Around.under_plainId yc _];show jb _ A.in1 (kZ (.ref z) >>= _) _ _ s;refine iY (Xs hh D St (by simp;lia) λh' kp=>?_)
  have hS':=kp S _ (nd z (by simp)).symm (nd TO (by simp)).symm (nd i1 (by simp)).symm (nd i2 (by simp)).symm hS
  refine je (hR h' Ts c (by lia) hS' ?_ (λT h=>.inl h) (λb o b1 b2 b3 b4 _ e=>kp b o b1 b2 b3 b4 e))
  .exact P.keep (by lia) (by lia) λT hT o e=>kp T o (P.ne T hT).1 (P.ne T hT).2.1 (P.ne T hT).2.2.1 (P.ne T hT).2.2.2.1 e
 |succ m ih =>
  intro j s Ts c hm hj hT St hS P hR;obtain⟨u,hu⟩:∃u,us[j]?=some u:=⟨_,gEg (by lia)⟩
  obtain⟨v,hv⟩:∃v,ws[j]?=some v:=⟨_,gEg (by lia)⟩
  refine jw Ek ?_;rw[Around.under_plainId yc _];show jb _ A.in1 (kZ (.ref z) >>= _) _ _ s;have hdl:S<s.heap.objs.size:=ag hS;refine iY (U7 D hdl St (x:=u) (y:=v) (by simpa using hu) (by simpa using hv) λh' S' hP kp=>?_)
  have hS':=kp S _ (nd z (by simp)).symm (nd TO (by simp)).symm (nd i1 (by simp)).symm (nd i2 (by simp)).symm hS
  have P':V5 h' S z TO i1 i2 us ws Ts:=P.keep (by lia) (by lia) λT hT o e=>kp T o (P.ne T hT).1 (P.ne T hT).2.1 (P.ne T hT).2.2.1 (P.ne T hT).2.2.2.1 e
  have zl:z<s.heap.objs.size:=by
   rcases St.f with h|⟨_,_,_,h,_⟩
   .exact ag h
   .exact ag h
  have i1l:i1<s.heap.objs.size:=by obtain⟨_,q,_⟩:=St.h1;exact ag q
  have i2l:i2<s.heap.objs.size:=by obtain⟨_,q,_⟩:=St.h2;exact ag q
  have TOl:TO<s.heap.objs.size:=by obtain⟨_,_,q⟩:=St.to;exact ag q
  have lT:=ag hP;refine iY (jH hS' rfl ?_ (hsz:=by rw[aC,lMq];lia) (hsz2:=by rw[Array.size_push,aC,lMq];lia))
  have kU:gF S h' (h'.update S (Obj.mapSeq λx=>x.push (.ref s.heap.objs.size))):=λb o b1 e=>by rw[bp _ _ _ _ b1];exact e
  obtain⟨c2,hS2⟩:∃c2,(h'.update S (Obj.mapSeq λx=>x.push (.ref s.heap.objs.size))).get? S=some (jm "list" ((Ts++[s.heap.objs.size]).map ak).toArray c2):=by
   have:=jO hS' (λx=>x.push (.ref s.heap.objs.size))
   have eq:(Ts.map ak).toArray.push (.ref s.heap.objs.size)=((Ts++[s.heap.objs.size]).map ak).toArray:=by rw[List.push_toArray,mBq];rfl
   rw[eq]at this;exact⟨_,this⟩
  have sz2:(h'.update S (Obj.mapSeq λx=>x.push (.ref s.heap.objs.size))).objs.size=h'.objs.size:=bO ..
  generalize h'.update S (Obj.mapSeq λx=>x.push (.ref s.heap.objs.size))=h2 at kU hS2 sz2
  refine je ⟨ko yc _,ih (j+1) { s with heap:=h2 } (Ts++[s.heap.objs.size]) c2 (by lia) (by lia) (by rw[lAq,lSq,hT]) (S'.keep nd kU) hS2 ?_ λh3 Ts3 c3 a1 a2 a3 a4 a5=>?_⟩
  .have fr:s.heap.objs.size∉Ts:=λm=>bY _ (P.lt _ m)
   refine⟨nAq.mpr ⟨P.nd,by simp,λa ha b hb q=>fr (by rw[mSq.mp hb]at q;exact q ▸ ha)⟩,λT hT=>?_,λT hT=>?_,λi T u' v' e1 e2 e3=>?_⟩
   .show T<h2.objs.size;rw[sz2];rcases mAq.mp hT with q|q
    .exact P'.lt T q
    .rw [mSq.mp q];exact lT
   .rcases mAq.mp hT with q|q
    .exact P.ne T q
    .rw [mSq.mp q];exact⟨bj zl,bj TOl,bj i1l,bj i2l,bj hdl⟩
   .by_cases q:i<Ts.length
    .rw [gZq q]at e1;exact kU _ _ (P.ne T (mGq e1)).2.2.2.2 (P'.pr i T u' v' e1 e2 e3)
    .have hi:i=Ts.length:=by
      have:=(gSq.mp e1).1;rw[lAq,lSq]at this;lia
     subst hi;rw[gYq (ai _),cf]at e1;cases e1;rw[hT]at e2 e3;rw[hu]at e2;rw[hv]at e3;cases e2;cases e3;exact kU _ _ (bj hdl) hP
  .have sle:s.heap.objs.size<=h2.objs.size:=by rw[sz2];exact bZ lT
   refine hR h3 Ts3 c3 a1 a2 a3 (λT hT=>?_) (λb o b1 b2 b3 b4 b5 e=>a5 b o b1 b2 b3 b4 b5 (kU b o b5 (kp b o b1 b2 b3 b4 e)))
   rcases a4 T hT with q|q
   .rcases mAq.mp q with q|q
    .exact .inl q
    .rw [mSq.mp q];exact .inr (ai _)
   .exact .inr (bC sle q)
theorem Gp{Q:List Value->Shared->Prop}(hh:A.handled=none) (D:kR z TI TO i1 i2 l1 l2) (hz:IsZip s.heap z TI TO .none) (hTI:kO s.heap TI (.ref i1) (.ref i2)) (hTO:∃a b,kO s.heap TO a b) (h1:s.heap.IsListIter i1 l1 0) (h2:s.heap.IsListIter i2 l2 0) (hl1:s.heap.IsList l1 us.toArray) (hl2:s.heap.IsList l2 ws.toArray) (hlen:us.length=ws.length) (hsz:us.length<=jf)
  (h:∀h' (Ts:List Addr),Ts.length=us.length->Ts.Nodup->(∀T∈Ts,s.heap.objs.size<=T)->(∀(i:Nat) (T:Addr) (u v:Value),Ts[i]?=some T->us[i]?=some u->ws[i]?=some v->kO h' T u v)->(∀b o,b≠z->b≠TO->b≠i1->b≠i2->s.heap.get? b=some o->h'.get? b=some o)->s.heap.objs.size<h'.objs.size->Q (Ts.map ak) { s with heap:=h' }) :
  jb (ja prog w) A (mz (.ref z)) Q E s:=by
 unfold mz;refine iY (wpAny_runValue (jw mG ?_));show jb _ _ (do again (.builtin "list.__iadd__" ⟨[←newList [],.ref z],[]⟩)) _ _ s
 refine iY (jU (je ⟨Code.quiet_builtin _ (by decide +kernel),jw entry_list_iadd' ?_⟩))
 show jb _ _ (Builtin.List.listExtendWith (.ref s.heap.objs.size) (.ref z) (.ref s.heap.objs.size)) _ _ { s with heap:=s.heap.push (jm "list" #[] 0) }
 have up:∀b o,s.heap.get? b=some o->(s.heap.push (jm "list" #[] 0)).get? b=some o:=λb o e=>ae _ e
 have hS0:(s.heap.push (jm "list" #[] 0)).get? s.heap.objs.size=some (jm "list" #[] 0):=aS _ rfl;have zl:=ag hz;obtain⟨ta,tb,hTO⟩:=hTO;have lt:∀c∈[z,TI,TO,i1,i2,l1,l2],c≠s.heap.objs.size:=λc hc=>by
  refine aw ?_;simp only[ao,gd,or_false]at hc;rcases hc with rfl|rfl|rfl|rfl|rfl|rfl|rfl
  .exact ag hz
  .exact ag hTI
  .exact ag hTO
  .obtain ⟨_,q,_⟩:=h1;exact ag q
  .obtain ⟨_,q,_⟩:=h2;exact ag q
  .obtain ⟨_,q,_⟩:=hl1;exact ag q
  .obtain ⟨_,q,_⟩:=hl2;exact ag q
 have hT:Shared.TypeIs { s with heap:=s.heap.push (jm "list" #[] 0) } (.ref z) "zip" := ⟨_,up _ _ hz,rfl⟩
 unfold Builtin.List.listExtendWith;refine iY (kz hT ?_);rw[nQ (by
  have:Builtin.List.listSameRef (.ref s.heap.objs.size) (.ref z)=false:=by
   show (s.heap.objs.size == z)=false;exact beq_eq_false_iff_ne.mpr (bj zl)
  rw[this];decide)]
 refine iY (wpAny_pyIter_zip (up _ _ hz) ?_);refine iY (jA (Pf hT ?_));rw[nP (by rfl)]
 refine iY (wpAny_rule ?_);unfold Builtin.List.listTouch;refine iY (iY (jH hS0 rfl ?_));have g1:=jO hS0 (λx=>x.push cA)
 have k1:gF s.heap.objs.size (s.heap.push (jm "list" #[] 0)) ((s.heap.push (jm "list" #[] 0)).update s.heap.objs.size (Obj.mapSeq λx=>x.push cA)):=λb o b1 e=>by rw[bp _ _ _ _ b1];exact e
 have z1:((s.heap.push (jm "list" #[] 0)).update s.heap.objs.size (Obj.mapSeq λx=>x.push cA)).objs.size=s.heap.objs.size+1:=by rw[bO,kC]
 generalize (s.heap.push (jm "list" #[] 0)).update s.heap.objs.size (Obj.mapSeq λx=>x.push cA)=G1 at g1 k1 z1
 refine jH g1 rfl ?_;have g2:=jO g1 (λx=>x.pop)
 have k2:gF s.heap.objs.size G1 (G1.update s.heap.objs.size (Obj.mapSeq λx=>x.pop)):=λb o b1 e=>by rw[bp _ _ _ _ b1];exact e
 have z2:(G1.update s.heap.objs.size (Obj.mapSeq λx=>x.pop)).objs.size=s.heap.objs.size+1:=by rw[bO,z1]
 generalize G1.update s.heap.objs.size (Obj.mapSeq λx=>x.pop)=G2 at g2 k2 z2
 have kp:∀b o,b≠s.heap.objs.size->s.heap.get? b=some o->G2.get? b=some o:=λb o b1 e=>k2 b o b1 (k1 b o b1 (up b o e))
 have kc:∀c∈[z,TI,TO,i1,i2,l1,l2],∀o,s.heap.get? c=some o->G2.get? c=some o:=λc hc o e=>kp c o (lt c hc) e
 refine je ⟨ko yc _,Sn (by simp[hh]) D lt hlen hsz us.length 0 { s with heap:=G2 } [] _ (iP _) (aY _) rfl ⟨.inl (kc _ (by simp) _ hz),kc _ (by simp) _ hTI,⟨_,_,kc _ (by simp) _ hTO⟩,h1.at λo e=>kc _ (by simp) o e,h2.at λo e=>kc _ (by simp) o e,hl1.at λo e=>kc _ (by simp) o e,hl2.at λo e=>kc _ (by simp) o e⟩ g2 ⟨aT,λT hT=>(by cases hT),λT hT=>(by cases hT),λi T u v e=>(by cases e)⟩ λh3 Ts c3 a1 a2 a3 a4 a5=>?_⟩
 show jb (ja prog w) A (do
   let o ←load s.heap.objs.size
   match o.data with
   | .seq xs _=>pure xs.toList
   |_=>kq "internal:collect") Q E { s with heap:=h3 }
 refine iY (wpAny_load a2 ?_);refine je ?_;show Q ((Ts.map ak).toArray.toList) _;rw[List.toList_toArray];refine h h3 Ts a1 a3.nd (λT hT=>?_) a3.pr (λb o b1 b2 b3 b4 e=>a5 b o b1 b2 b3 b4 (aw (ag e)) (kp b o (aw (ag e)) e)) (ag a2)
 rcases a4 T hT with q|q
 .cases q
 .have q:G2.objs.size<=T:=q;rw[z2]at q;lia
end
end Mo
namespace MrS
open PySem PyProof.Rows
section
variable {prog:jg}{w:ji}{A:Around}{E:Value->Shared->Prop}{s:Shared}{Pk:List Value->iZ->Prop}{lt:List Value->iZ->iZ->Bool}{κ:jx}
theorem Gj{v:Value}{F:List Value->Heap->Prop}{Q:Value->Shared->Prop}(hh:A.handled=none)
  (hcol:∀(A':Around) (E':Value->Shared->Prop) (Q':List Value->Shared->Prop),A'.handled=none->(∀vs h0 tk,F vs h0->Q' vs { s with heap:=h0,toks:=tk })->jb (ja prog w) A' (mz v) Q' E' s)
  (hC:∀vs h0,F vs h0->vs.length<=jf/\(∀u∈vs,Pk vs (u,u))/\∀s':Shared,(∀b o,h0.get? b=some o->s'.heap.get? b=some o)->(2<=vs.length->∀Q:jx->Shared->Prop,Q κ s'->jb (ja prog w) A.in1.in1 (kQ vs.toArray) Q E s')/\wR prog w A.in1.in1 s' κ (Pk vs) (lt vs))
  (h:∀(vs out:List Value) (h0 h':Heap) (p:Addr) (tk n':Nat),F vs h0->out.Perm vs->out.Pairwise (λx y=>lt vs (y,y) (x,x)=false)->(∀b o,h0.get? b=some o->h'.get? b=some o)->h0.objs.size=p ->
   h'.get? p=some (jm "list" out.toArray n')->Q (.ref p) { s with heap:=h',toks:=tk }) :
  jb (ja prog w) A (call (.builtin "sorted") [v]) Q E s:=by
 refine Calls.call_function_entry aab mP mQ (mR _) ?_;unfold Builtin.«sorted»;refine iY (m:=checkCount "sorted" 1 1 _) (je ?_);refine iY (hcol _ _ _ hh λvs h0 tk hF=>?_)
 obtain⟨hs,hp,hCs⟩:=hC vs h0 hF;refine iY (jU ?_ hs);have hoL:(h0.push (jm "list" vs.toArray 0)).get? h0.objs.size=some (jm "list" vs.toArray 0):=aS _ rfl;show jb _ _ _ _ _ { s with heap:=h0.push (jm "list" vs.toArray 0),toks:=tk }
 have k1:∀b o,h0.get? b=some o->(h0.push (jm "list" vs.toArray 0)).get? b=some o:=λb o e=>ae _ e
 have hlt:∀b o,h0.get? b=some o->b≠h0.objs.size:=λb o e=>aw (ag e)
 generalize h0.push (jm "list" vs.toArray 0)=G at hoL k1 ⊢;generalize hpp:h0.objs.size=p at hoL hlt ⊢;have k2:∀b o,h0.get? b=some o->(qf G p vs).get? b=some o:=λb o e=>by
  refine ae _ (ae _ ?_);rw[bp _ _ _ _ (hlt b o e)];exact k1 b o e
 obtain⟨q1,q2⟩:=hCs { s with heap:=qf G p vs,toks:=tk } k2
 refine iY (jA (ki mn ⟨_,hoL,rfl⟩ lO (FW (s:={ s with heap:=G,toks:=tk }) (Pk:=Pk vs) (lt:=lt vs) hoL hs q1 q2 (λx hx=>?_) λxs a1 a2=>⟨_,rfl,?_⟩) (mv _)))
 .obtain ⟨m1,m2⟩:=tF hx;have:x=(x.1,x.1):=gX rfl m2;rw[this];exact hp _ m1
 .obtain ⟨v1,v2⟩:=xB a1 a2;obtain⟨e1,ho1⟩:=ET vs hoL;obtain⟨n1,g1⟩:=Ex (xs.map (·.2)) ho1;refine je ⟨_,rfl,h vs _ h0 (km G p vs (xs.map (·.2))) p tk n1 hF v1 v2 (λb o e=>?_) hpp ?_⟩
  .unfold km;rw[bp _ _ _ _ (hlt b o e)];exact k2 b o e
  .rw [show (xs.map (·.2)).toList.toArray=xs.map (·.2) from fm]
   exact g1
end
end MrS
namespace Mr
open PySem L2 PySem.Calls
open PySem.Spec PyProof.Rows
section
variable {X:Cx}
theorem Inv.laidS{mV:List (Addr×Obj)}{σ:St}{H H':Hp}{s:Shared}{h':Heap}{t':Nat}(I:Inv X mV σ H s) (k:∀b u,s.heap.get? b=some u->h'.get? b=some u) (sm:nS H H')
  (new:∀b o,H b=none->H' b=some o->s.heap.objs.size<=b/\oY X.prog X.w H' h' b o):Inv X mV σ H' { s with heap:=h',toks:=t' }:=by
 refine I.un ⟨λb u q _ _ _=>k b u q,λb u q _ _ _=>⟨u.slots,k b u q⟩,λb u q n _=>?_,λb u q _=>⟨u,k b u q⟩,λb xs q=>sm _ _ q,λb u xs q=>sm _ _ q,λb ps q=>⟨#[],by rw[sm _ _ q];simp⟩⟩ λb o e=>?_
 .cases e:H' b with
  |none=>rfl
  |some o=>exact absurd (ag q) (Nat.not_lt_of_le (new b o n e).1)
 .cases e1:H b with
  |none=>exact(new b o e1 e).2
  |some o1 =>
   have e2:=sm _ _ e1;rw[e]at e2;cases e2;exact(I.hok b o e1).stay (λc v _ q=>k c v q) (λc q=>sm _ _ q) λc xs q=>sm _ _ q
structure XB (h h0:Heap) (Ts:List Addr) (rs:List (List Int)):Prop where
 len:Ts.length=rs.length
 nd:Ts.Nodup
 ge:∀T∈Ts,h.objs.size<=T
 tu:∀(i:Nat) (T:Addr) (r:List Int),Ts[i]?=some T->rs[i]?=some r->∃its,nX (r.map V.int) its/\IsTup h0 T its.toArray
 kp:∀b o,h.get? b=some o->h0.get? b=some o
 le:h.objs.size<=h0.objs.size
def vP(Ts:List Addr) (rs:List (List Int)) (T:Addr):List Int:=((Ts.zip rs).lookup T).getD []
theorem E9:∀{Ts:List Addr}{rs:List (List Int)}{i:Nat}{T:Addr}{r:List Int},Ts.Nodup->Ts[i]?=some T->rs[i]?=some r->vP Ts rs T=r
 | [],_,_,_,_,_,h,_=>by cases h
 |_::_,[],_,_,_,_,_,h=>by cases h
 |a::Ts,b::rs,0,T,r,_,h1,h2=>by
  cases h1;cases h2;simp[vP]
 |a::Ts,b::rs,i+1,T,r,nd,h1,h2=>by
  have h1:Ts[i]?=some T:=by simpa using h1
  have h2:rs[i]?=some r:=by simpa using h2
  have ne:T≠a:=λz=>(aA.mp nd).1 (z ▸ mGq h1)
  have:=E9 (aA.mp nd).2 h1 h2;unfold vP at this ⊢;rw[fE,List.lookup_cons,beq_false_of_ne ne];exact this
theorem Nr{Ts:List Addr}{rs:List (List Int)}(nd:Ts.Nodup) (l:Ts.length=rs.length):Ts.map (vP Ts rs)=rs:=by
 refine dW λi=>?_
 rw[gMq]
 by_cases c:i<Ts.length
 .rw [gEg c,gEg (l ▸ c)];exact congrArg some (E9 nd (gEg c) (gEg (l ▸ c)))
 .rw [bu (gc c),bu (by lia)]
  rfl
theorem XB.at{h h0:Heap}{Ts:List Addr}{rs:List (List Int)}(P:XB h h0 Ts rs) {T:Addr}(hT:T∈Ts):vP Ts rs T∈rs/\∃its,nX ((vP Ts rs T).map V.int) its/\IsTup h0 T its.toArray:=by
 obtain⟨i,hi⟩:=aV.mp hT;have il:=(gSq.mp hi).1;have hr:rs[i]?=some (rs[i]'(P.len ▸ il)):=gEg (P.len ▸ il);rw[E9 P.nd hi hr];exact⟨mGq hr,P.tu i T _ hi hr⟩
def Yg(H:Hp) (rs:List (List Int)) (Q:VK):Prop:=∀(H':Hp) (p:Addr) (qs:List Addr),nS H H'->H p=none->p∉qs->(∀q∈qs,H q=none)->qs.Nodup->H' p=some (.lst (qs.map V.ref))->(∀q∈qs,H' q=some (.tup ((tP H' q).map V.int)))->qs.map (tP H')=yZ rs->Q (.ref p) H'
theorem C0{mV:List (Addr×Obj)}{σ:St}{H:Hp}{s s0:Shared}{v:Value}{rs:List (List Int)}{Q:VK}{E:Value->Shared->Prop}(hc:X.calm=true) (I:Inv X mV σ H s) (hs0:∀(h:Heap) (t:Nat),{ s0 with heap:=h,toks:=t }={ s with heap:=h,toks:=t }) (hne:∀r∈rs,r≠[]/\r.length<=jf) (hz:rs.length<=jf)
  (hcol:∀(A':Around) (E':Value->Shared->Prop) (Q':List Value->Shared->Prop),A'.handled=none->(∀h0 tk Ts,XB s.heap h0 Ts rs->Q' (Ts.map ak) { s with heap:=h0,toks:=tk })->jb (ja X.prog X.w) A' (mz v) Q' E' s0)
  (q:Yg H rs Q):jb (ja X.prog X.w) X.A (call (.builtin "sorted") [v]) (λu s'=>∃v H',Inv X mV σ H' s'/\oK v u/\Q v H') E s0:=by
 have key:∀(Ts:List Addr) (h0:Heap),XB s.heap h0 Ts rs->∀s':Shared,(∀b o,h0.get? b=some o->s'.heap.get? b=some o)->∀p∈Ts,HT.vS s'.heap p (vP Ts rs p):=λTs h0 P s' k p hp=>by
  obtain⟨_,its,rv,o,ho,rest⟩:=P.at hp;exact⟨its,⟨o,k _ _ ho,rest⟩,uu rv⟩
 have ad:∀Ts:List Addr,(Ts.map ak).map ql=Ts:=λTs=>by rw[mPq,show ql∘ak=id from rfl,dB]
 refine MrS.Gj (κ:=tuples' true) (Pk:=λvs x=>∃p,x.1 = .ref p/\p∈vs.map ql) (lt:=λvs=>ZD (vP (vs.map ql) rs)) (F:=λvs h0=>∃Ts,vs=Ts.map ak/\XB s.heap h0 Ts rs) (I.ok.hd hc) (λA' E' Q' hA k=>hcol A' E' Q' hA λh0 tk Ts P=>?_) (λvs h0 hF=>?_) λvs out h0 h' p tk n' hF o1 o2 o3 hp o4=>?_
 .rw [←hs0];exact k _ h0 tk ⟨Ts,rfl,P⟩
 .obtain ⟨Ts,rfl,P⟩:=hF;refine⟨by rw[lMq,P.len];exact hz,λu hu=>?_,λs' k=>?_⟩
  .obtain ⟨p,hp,rfl⟩:=mMq.mp hu;exact⟨p,rfl,by rw[ad];exact hp⟩
  .rw [ad];exact⟨λh2 Q q=>U8 (by simpa using h2) (key Ts h0 P s' k) (λp hp=>(hne _ (P.at hp).1).1) q,Xl (key Ts h0 P s' k)⟩
 .obtain ⟨Ts,rfl,P⟩:=hF;rw[ad]at o2;have ho:∀v∈out,∃p∈Ts,v = .ref p:=λv m=>by
   obtain⟨p,hp,rfl⟩:=mMq.mp (o1.mem_iff.mp m);exact⟨p,hp,rfl⟩
  have eo:out=(out.map ql).map ak:=by
   rw[mPq];have e:=mCq (l:=out) (f:=id) (g:=ak∘ql) λv hv=>by
    obtain⟨p,_,rfl⟩:=ho v hv;rfl
   rw[←e,dB]
  have hq:(out.map ql).Perm Ts:=by
   have:=o1.map ql;rw[ad]at this;exact this
  generalize out.map ql=qs at eo hq;subst eo;have es:qs.map (vP Ts rs)=yZ rs:=by
   refine Jc ?_ ?_
   .have:=hq.map (vP Ts rs);rw[Nr P.nd P.len]at this;exact this
   .rw [bg];rw[bg]at o2;exact o2
  have szl:s.heap.objs.size<=p:=by rw[←hp];exact P.le
  have pq:∀T∈qs,T≠p:=λT hT=>by
   obtain⟨_,its,_,o,e,_⟩:=P.at (hq.mem_iff.mp hT);rw[←hp];exact aw (ag e)
  have fr:∀T∈qs,H T=none:=λT hT=>I.hok.fresh (P.ge T (hq.mem_iff.mp hT))
  have frp:H p=none:=I.hok.fresh szl;have hto:∀H':Hp,(∀T∈qs,H' T=some (.tup ((vP Ts rs T).map V.int)))->∀T∈qs,tP H' T=vP Ts rs T:=λH' h T hT=>E7 (h T hT)
  have h2:∀T∈qs,(λb=>if b=p then some (HO.lst (qs.map V.ref)) else if b∈qs then some (HO.tup ((vP Ts rs b).map V.int)) else H b:Hp) T=some (.tup ((vP Ts rs T).map V.int)):=λT hT=>by
   show (if T=p then _ else _)=_
   rw[nQ (pq T hT),nP hT]
  have h3:(λb=>if b=p then some (HO.lst (qs.map V.ref)) else if b∈qs then some (HO.tup ((vP Ts rs b).map V.int)) else H b:Hp) p=some (.lst (qs.map V.ref)):=nP rfl
  have h4:nS H (λb=>if b=p then some (HO.lst (qs.map V.ref)) else if b∈qs then some (HO.tup ((vP Ts rs b).map V.int)) else H b:Hp):=λb o e=>by
   have n1:b≠p:=λz=>by rw[z,frp]at e;cases e
   have n2:b∉qs:=λz=>by rw[fr b z]at e;cases e
   show (if b=p then _ else _)=_
   rw[nQ n1,nQ n2];exact e
  have h5:∀b o,H b=none->(λb=>if b=p then some (HO.lst (qs.map V.ref)) else if b∈qs then some (HO.tup ((vP Ts rs b).map V.int)) else H b:Hp) b=some o->(b=p/\o = .lst (qs.map V.ref))∨(b∈qs/\o = .tup ((vP Ts rs b).map V.int)):=λb o n e=>by
   have e:(if b=p then some (HO.lst (qs.map V.ref)) else if b∈qs then some (HO.tup ((vP Ts rs b).map V.int)) else H b)=some o:=e
   split at e
   .rename_i z;cases e;exact .inl ⟨z,rfl⟩
   .split at e
    .rename_i z;cases e;exact .inr ⟨z,rfl⟩
    .rw [n]at e;cases e
  generalize (λb=>if b=p then some (HO.lst (qs.map V.ref)) else if b∈qs then some (HO.tup ((vP Ts rs b).map V.int)) else H b:Hp)=H' at h2 h3 h4 h5
  have tq:=hto H' h2;rw[hs0];refine⟨.ref p,H',Inv.laidS I (λb u e=>o3 b u (P.kp b u e)) h4 λb o n e=>?_,rfl,q H' p qs h4 frp (λm=>pq p m rfl) fr (hq.nodup_iff.mpr P.nd) h3 (λT hT=>by rw[tq T hT];exact h2 T hT) ?_⟩
  .rcases h5 b o n e with ⟨rfl,rfl⟩|⟨hb,rfl⟩
   .exact ⟨szl,by rw[lMq,hq.length_eq,P.len];exact hz,_,n',yh qs,o4⟩
   .obtain ⟨m1,its,rv,ob,e1,rest⟩:=P.at (hq.mem_iff.mp hb);exact⟨P.ge b (hq.mem_iff.mp hb),by rw[lMq];exact(hne _ m1).2,its,rv,ob,o3 _ _ e1,rest⟩
  .rw [←es];exact mCq λT hT=>tq T hT
def ZQ(K:W.Frag) (xs:List V) (H:Hp) (Q:VK):Prop:=∃(a b:Addr) (ns ms:List Int),xs=[.ref a,.ref b]/\qO K H a (ns.map V.int)/\qO K H b (ms.map V.int)/\ns.length=ms.length/\Yg H (cJ (λx y=>[x,y]) ns ms) Q
theorem Q0{e f:Expr}{ta:TA}{p0 p pos0 pos:Pos}(hc:X.calm=true) (gl:Gl X "sorted") (ml:X.mg "sorted" = none) (hg:Gl X "zip") (hm:X.mg "zip" = none) (ha:PA X [e,f] ta)
  (he:jj [.Call (.Name "zip" p) [e,f] [] pos] X.env=(false,eval (.Call (.Name "zip" p) [e,f] [] pos) X.env)::jj [] X.env:=by rfl) (hs:jj [e,f] X.env=[(false,eval e X.env),(false,eval f X.env)]:=by rfl) (hs2:jj [f] X.env=[(false,eval f X.env)]:=by rfl) :
  PE X (.Call (.Name "sorted" p0) [.Call (.Name "zip" p) [e,f] [] pos] [] pos0) (QC (ZQ X.K) ta):=by
 intro mV s σ H Q I h;refine jz (xF I gl ml boot_sorted ?_ (by decide) (by decide))
 refine cC ?_ he (by rfl)
 rw[he];show jb _ _ (spliced ((false,eval (.Call (.Name "zip" p) [e,f] [] pos) X.env)::jR pos0 (jj [] X.env))) _ _ s;refine Calls.spliced_cons ?_;refine Call_ (xF I hg hm boot_zip (cQ (qA (ha pos mV s σ H _ I h) λus s1 hz1=>?_) (by rw[hs,hs2]) (by rw[hs2];rfl)))
 obtain⟨vs,H1,I1,r1,q1⟩:=hz1;obtain⟨a,b,ns,ms,e1,hq1,hq2,hl,q⟩:=q1;subst e1;obtain⟨u,v,rfl,ru,rv⟩:=TK r1;cases ru;cases rv;obtain⟨its1,v1,p1,z1⟩:=I1.list hq1;obtain⟨its2,v2,p2,z2⟩:=I1.list hq2;have n1:=v1.length;have n2:=v2.length;rw[lMq]at n1 n2 z1;have al:a<s1.heap.objs.size:=let ⟨_,ho,_⟩:=p1.isList;ag ho
 have bl:b<s1.heap.objs.size:=let ⟨_,ho,_⟩:=p2.isList;ag ho
 refine call_zip_2 p1.isList p2.isList λg hz hTI hTO h1 h2 hsz hk=>Calls.spliced_nil ?_
 have D:kR (s1.heap.objs.size+4) (s1.heap.objs.size+2) (s1.heap.objs.size+3) s1.heap.objs.size (s1.heap.objs.size+1) a b:=zipApart_new al bl;have hsz':g.objs.size=s1.heap.objs.size+5:=hsz;have lz:(cJ (λx y=>[x,y]) ns ms).length=ns.length:=by rw[List.length_zipWith];lia
 refine C0 (s0:={ s1 with heap:=g }) hc I1 (λ_ _=>rfl) (λr hr=>?_) (by rw[lz];exact z1) (λA' E' Q' hA k=>?_) q
 .obtain ⟨i,hi⟩:=aV.mp hr;rw[dX]at hi;split at hi
  .cases hi;exact⟨by simp,by rw[jq];simp⟩
  .cases hi
 .refine Mo.Gp (s:={ s1 with heap:=g }) hA D hz hTI ⟨_,_,hTO⟩ h1 h2 (p1.isList.at λo e=>hk _ o e) (p2.isList.at λo e=>hk _ o e) (by lia) (by lia) λh' Ts a1 a2 a3 a4 a5 a6=>?_
  have a3:∀T∈Ts,g.objs.size<=T:=a3;have a6:g.objs.size<h'.objs.size:=a6;refine k h' _ Ts ⟨by lia,a2,λT hT=>by have:=a3 T hT;lia,λi T r e1 e2=>?_,λb o e=>?_,by lia⟩
  .rw [dX]at e2;split at e2
   .rename_i x y ex ey;cases e2;obtain⟨u1,g1,r1⟩:=v1.get (i:=i) (x:=.int x) (by rw[gMq,ex];rfl)
    obtain⟨u2,g2,r2⟩:=v2.get (i:=i) (x:=.int y) (by rw[gMq,ey];rfl)
    exact⟨[u1,u2],.cons r1 (.cons r2 .nil),_,a4 i T u1 u2 e1 g1 g2,rfl,_,rfl⟩
   .cases e2
  .have lt:b<s1.heap.objs.size:=ag e;exact a5 b o (aw (gh 4 lt)) (aw (gh 3 lt)) (aw lt) (aw (gh 1 lt)) (hk b o e)
def Tb(p:Int×Int):List Int:=[p.1,p.2]
def NV(te:TE):TE:=λσ H Q=>te σ H λx H1=>∃(d:Addr) (ks:List (Int×Int)),x = .ref d/\H1 d=some (.dK (ks.map λp=>(az p.1,V.int p.2)))/\ks≠[]/\Yg H1 (ks.map Tb) Q
theorem My{o:Expr}{te:TE}{p0 pos0 apos cpos:Pos}(hc:X.calm=true) (gl:Gl X "sorted") (ml:X.mg "sorted" = none) (ho:PE X o te)
  (he:jj [.Call (.Attribute o "items" apos) [] [] cpos] X.env=(false,eval (.Call (.Attribute o "items" apos) [] [] cpos) X.env)::jj [] X.env:=by rfl)
  (hbase:mL o "items" X.env (eval o X.env)=eval o X.env:=by rfl) (hline:(apos.endLine == cpos.line)=true:=by rfl) :
  PE X (.Call (.Name "sorted" p0) [.Call (.Attribute o "items" apos) [] [] cpos] [] pos0) (NV te):=by
 intro mV s σ H Q I h;refine jz (xF I gl ml boot_sorted ?_ (by decide) (by decide))
 refine cC ?_ he (by rfl)
 rw[he];show jb _ _ (spliced ((false,eval (.Call (.Attribute o "items" apos) [] [] cpos) X.env)::jR pos0 (jj [] X.env))) _ _ s;refine Calls.spliced_cons ?_;refine lK hbase hline (qA (ho mV s σ H _ I h) λv s1 hz1=>?_)
 obtain⟨x,H1,I1,r1,d,ks,ex,ha,hn,q⟩:=hz1;subst ex;obtain rfl:=(show v=ak d from r1)
 obtain⟨hz,sa,vs,kv,dd⟩:=(show oY X.prog X.w H1 s1.heap d (.dK (ks.map λp=>(az p.1,V.int p.2))) from I1.hok d _ ha)
 refine⟨"dict", "dict.items", PySem.F.plainAttrs_dict,gu,PySem.F.type_dict_items,dd.typeIs,dd.mapOf.noDict,?_⟩;refine method_meetsIn gu PySem.F.entry_dict_items rfl (PySem.evalArgs_none ⟨rfl,dd.typeIs,PySem.F.args_dict_items_1 _,_,meets_dict_items _ d sa,⟨vs,dd⟩,?_⟩);obtain⟨ep,da⟩:=dd.dictAt;refine Calls.spliced_nil ?_;have hl:=Paired.length kv;rw[lMq]at hl hz;have hvw:(s1.heap.push { cls:=.type "dict_items", data:=.fields #[.ref d] }).IsItemsView s1.heap.objs.size d:=⟨_,aS _ rfl,rfl,rfl⟩;have da2:(s1.heap.push { cls:=.type "dict_items", data:=.fields #[.ref d] }).DictAt (oX X.prog X.w) d vs ep:=da.push _;refine C0 (s0:={ s1 with heap:=s1.heap.push { cls:=.type "dict_items", data:=.fields #[.ref d] } }) hc I1 (λ_ _=>rfl) (λr hr=>?_) (by rw[lMq];exact hz) (λA' E' Q' hA k=>?_) q
 .obtain ⟨x,hx,rfl⟩:=mMq.mp hr;exact⟨by simp[Tb],by rw[jq];simp[Tb]⟩
 .refine W.kdx_collect (s:={ s1 with heap:=s1.heap.push { cls:=.type "dict_items", data:=.fields #[.ref d] } }) hA hvw da2 (by lia) λh' tk as a1 a2 a3=>?_
  have a1:∀b o,s1.heap.get? b=some o->h'.get? b=some o:=λb o e=>a1 b o (ae _ e)
  have sz:(s1.heap.push { cls:=.type "dict_items", data:=.fields #[.ref d] }).objs.size=s1.heap.objs.size+1:=kC ..;have ge:∀T∈as,s1.heap.objs.size<=T:=λT hT=>by
   have:=a3.above T hT;have this:(s1.heap.push { cls:=.type "dict_items", data:=.fields #[.ref d] }).objs.size<T:=this;lia
  refine k h' tk as ⟨by rw[lMq];lia,a3.rise.imp aw,ge,λi T r e1 e2=>?_,a1,?_⟩
  .rw [gMq]at e2;obtain⟨p,hp,rfl⟩:=oMq.mp e2;obtain⟨key,kk,x,g1,g2,g3⟩:=a3.pairs i T e1;obtain⟨u,g4,g5⟩:=Xe.O7 kv (i:=i) (p:=(az p.1,V.int p.2)) (by rw[gMq,hp];rfl)
   rw[g1]at g4;cases g4;refine⟨[key,x],.cons ?_ (.cons g5 .nil),_,g3,rfl,_,rfl⟩;rcases oH (k:=az p.1) (v:=key) g2 with ⟨j,t,e,rfl⟩|⟨z,t,e,rfl⟩
   .cases e;exact⟨t,rfl⟩
   .cases e
  .cases as with
   |nil=>exfalso;cases ks with|nil=>exact hn rfl|cons _ _=>simp at a1 a2 hl;lia
   |cons T as =>
    exact bZ (hU (ge T (aD ..)) (a3.there (a:=T) (aD ..)))
end
end Mr
namespace HT
open PySem PyProof.Rows
open PySem.SeqAt
open PySem.AutoSeq1 (wpAny_loadPart')
open PySem.MeetsSeq PySem.MeetsSeq2 PySem.MeetsSeq3
def As(h:Heap) (ps:List Addr) (rs:List (List Int)):Prop:=∀(i:Nat) (p:Addr) (r:List Int),ps[i]?=some p->rs[i]?=some r->vS h p r
theorem JL{h:Heap}{ps:List Addr}{rs:List (List Int)}(hr:As h ps rs) {items:Array Value}(hi:items.toList=ps.map ak) (hl:ps.length=rs.length) {i:Nat}(h1:i<items.size):∃p r,items[i]?=some (.ref p)/\rs.drop i=r::rs.drop (i+1)/\vS h p r:=by
 have z:ps.length=items.size:=by
  have:=congrArg bb hi;rw[lMq,ax]at this;exact this.symm
 obtain⟨p,hp⟩:∃p,ps[i]?=some p:=⟨_,gEg (by lia)⟩
 obtain⟨r,hr'⟩:∃r,rs[i]?=some r:=⟨_,gEg (by lia)⟩
 refine⟨p,r,?_,?_,hr i p r hp hr'⟩
 .rw [←aH,hi,gMq,hp];rfl
 .obtain ⟨hlt,e⟩:=gSq.mp hr';rw[aL hlt,e]
theorem Dx(l b:Addr) (items items2:Array Value) (n n2:Nat) (dd dd2:Option Addr) (sl sl2:Array (Option Value)) (ps qs:List Addr) (rs ts:List (List Int)) (hi:items.toList=ps.map ak) (hj:items2.toList=qs.map ak) (lr:ps.length=rs.length) (ls:qs.length=ts.length) (k:Nat) :
  ∀i:Nat,min items.size items2.size-i=k->i<=items.size->i<=items2.size->Meets (Builtin.«list.__eq__.loop» ⟨[.ref l,.ref b,kf i,kf 0],[]⟩)
   (λA R s=>A.units+32<jB/\As s.heap ps rs/\As s.heap qs ts/\s.heap.get? l=some { cls:=.type "list", dict:=dd,data:=.seq items n,slots:=sl }/\s.heap.get? b=some { cls:=.type "list", dict:=dd2,data:=.seq items2 n2,slots:=sl2 } /\
    R (.ok (.ret (.bool (uY (rs.drop i) (ts.drop i))))) s):=by
 have z1:rs.length=items.size:=by
  have:=congrArg bb hi;rw[lMq,ax]at this;lia
 have z2:ts.length=items2.size:=by
  have:=congrArg bb hj;rw[lMq,ax]at this;lia
 induction k with
 |zero =>
  intro i hk h1 h2 prog w A R s h;obtain⟨hp,g,d,tk,os⟩:=s;obtain⟨hu,ra,rb,hl,hb,h⟩:=h
  wp_walk using wpAny_loadPart' hl,wpAny_loadPart' hb
  have fin:uY (rs.drop i) (ts.drop i)=decide (items.size<items2.size):=by
   by_cases c:i=items.size
   .have e1:rs.drop i=[]:=bP (by lia)
    rw[e1]
    by_cases c2:i<items2.size
    .rw [aL (by lia:i<ts.length)]
     exact(decide_eq_true (by lia)).symm
    .rw [bP (by lia:ts.length<=i)]
     exact(decide_eq_false (by lia)).symm
   .have c2:i=items2.size:=by lia
    rw[bP (by lia:ts.length<=i)]
    have e0:uY (rs.drop i) []=false:=by cases rs.drop i <;> rfl
    rw[e0];exact(decide_eq_false (by lia)).symm
  rw[fin]at h
  by_cases c:i=items.size
  .have Ec:items[((i:Nat):Int).toNat]?=none:=by simp;lia
   rw[Ec]
   wp_walk using wpAny_loadPart' hl,wpAny_loadPart' hb
   exact h
  .have c2:i=items2.size:=by lia
   have Ec:items[((i:Nat):Int).toNat]?=some (items[i]'(by lia)):=by simp
   have hi2:items2[((i:Nat):Int).toNat]?=none:=by simp;lia
   rw[Ec,hi2]
   wp_walk using wpAny_loadPart' hl,wpAny_loadPart' hb
   exact h
 |succ k ih =>
  intro i hk h1 h2 prog w A R s h;obtain⟨hp,g,d,tk,os⟩:=s;obtain⟨hu,ra,rb,hl,hb,h⟩:=h
  wp_walk using wpAny_loadPart' hl,wpAny_loadPart' hb
  have hlt:i<items.size:=by lia
  have hlt2:i<items2.size:=by lia
  obtain⟨p,x,ex,dx,px⟩:=JL ra hi lr hlt;obtain⟨q,y,ey,dy,py⟩:=JL rb hj ls hlt2;have Ec:items[((i:Nat):Int).toNat]?=some (.ref p):=by
   rw[←ex];simp
  have hi2:items2[((i:Nat):Int).toNat]?=some (.ref q):=by
   rw[←ey];simp
  have hc:((i:Int)+1)=((i+1:Nat):Int):=by push_cast;rfl
  rw[dx,dy,uY]at h;rw[Ec,hi2];have he:SeqAt.EqAt A.in1 ⟨hp,g,d,tk,os⟩ (.ref p) (.ref q) (decide (x=y)):=vS.eq (s:=⟨hp,g,d,tk,os⟩) px py (by show A.units+1+4<jB;lia)
  refine iY (he prog w _ _ ?_)
  by_cases e:x=y
  .rw [nP e]at h;rw[decide_eq_true e]
   wp_walk
   rw[hc];exact⟨ko plain_eq_loop _,jw entry_eq_loop (by
    rw[Around.under_plainId plain_eq_loop _];exact ih (i+1) (by lia) (by lia) (by lia) prog w A R _ ⟨hu,ra,rb,hl,hb,h⟩)⟩
  .rw [nQ e]at h;rw[decide_eq_false e];have hri:∀(E:Value->Shared->Prop) (Q:Value->Shared->Prop),Q (.bool (oR x y)) ⟨hp,g,d,tk,os⟩->jb (ja prog w) A.in1 (aaa .Lt (.ref p) (.ref q)) Q E ⟨hp,g,d,tk,os⟩:=λE Q z=>vS.lt (s:=⟨hp,g,d,tk,os⟩) px py (by show A.units+1+4<jB;lia) prog w E Q z
   wp_walk using wpAny_loadPart' hl,wpAny_loadPart' hb
   rw[Ec,hi2]
   wp_walk using hri
   exact h
theorem NM(l b:Addr) (items items2:Array Value) (n n2:Nat) (dd dd2:Option Addr) (sl sl2:Array (Option Value)) (ps qs:List Addr) (rs ts:List (List Int)) (hi:items.toList=ps.map ak) (hj:items2.toList=qs.map ak) (lr:ps.length=rs.length) (ls:qs.length=ts.length) :
  Meets (Builtin.«list.__lt__» ⟨[.ref l,.ref b],[]⟩)
   (λA R s=>A.units+32<jB/\As s.heap ps rs/\As s.heap qs ts/\s.heap.get? l=some { cls:=.type "list", dict:=dd,data:=.seq items n,slots:=sl }/\s.heap.get? b=some { cls:=.type "list", dict:=dd2,data:=.seq items2 n2,slots:=sl2 } /\
    R (.ok (.ret (.bool (uY rs ts)))) s):=by
 intro prog w A R s h;obtain⟨hp,g,d,tk,os⟩:=s;obtain⟨hu,ra,rb,hl,hb,h⟩:=h;have f3:=AutoSeq1.sub_list_list
 wp_walk using wpAny_loadPart' hl,wpAny_loadPart' hb
 exact⟨ko plain_eq_loop _,jw entry_eq_loop (by
  rw[Around.under_plainId plain_eq_loop _];exact Dx l b items items2 n n2 dd dd2 sl sl2 ps qs rs ts hi hj lr ls _ 0 rfl (aY _) (aY _) prog w A R _ ⟨hu,ra,rb,hl,hb,h⟩)⟩
end HT
namespace Mr
open PySem PySem.Spec PyProof.Rows L2
def AH(h:Heap) (p:Addr) (m:List (List Int)):Prop:=∃qs:List Addr,PlainL h p (qs.map ak).toArray/\HT.As h qs m/\qs.length=m.length
theorem Xc{prog:jg}{w:ji}{A:Around}{s:Shared}{ps:List Addr}{r:Addr->List (List Int)}(hu:A.units+40<jB)
  (h:∀p∈ps,AH s.heap p (r p)):MrS.wR prog w A s jY (λx=>∃p,x.1 = .ref p/\p∈ps) (ZN r) where
 ask:=by
  rintro⟨_,x⟩ ⟨_,y⟩ ⟨p,e1,hp⟩ ⟨q,e2,hq⟩ E Q k;dsimp only at e1 e2;subst e1 e2;obtain⟨us,⟨o,n,ho,hc,hd0,hd⟩,hi,li⟩:=h p hp;obtain⟨ws,⟨o2,n2,ho2,hc2,hd02,hd2⟩,hj,lj⟩:=h q hq;obtain⟨cls,dd,data,sl⟩:=o;obtain⟨cls2,dd2,data2,sl2⟩:=o2;simp only at hc hd0 hd hc2 hd02 hd2;subst hc hd0 hd hc2 hd02 hd2;rw[kP,oneLt'_eq];simp only[if_true];refine iY (wpAny_cRoomFor (by lia) ?_)
  refine iY (kL ⟨_,ho,rfl⟩ F.slot_list_lt (jW F.slot_list_lt ⟨_,ho,rfl⟩ F.entry_list_lt (F.args_list_lt_2 _ _)
   (HT.NM p q _ _ n n2 none none sl sl2 us ws (r p) (r q) (by simp) (by simp) li lj) ⟨?_,hi,hj,ho,ho2,?_⟩))
  .first
    | (show A.units+32<jB;lia)
    | (show A.units+1+32<jB;lia)
    | (show A.units+1+1+32<jB;lia)
  .exact jC k
 asym:=by
  rintro⟨_,x⟩ ⟨_,y⟩ ⟨a,e1,_⟩ ⟨b,e2,_⟩ h;dsimp only at e1 e2;subst e1 e2;exact HT.AI _ _ h
 trans:=by
  rintro⟨_,x⟩ ⟨_,y⟩ ⟨_,z⟩ ⟨a,e1,_⟩ ⟨b,e2,_⟩ ⟨c,e3,_⟩ h1 h2;dsimp only at e1 e2 e3;subst e1 e2 e3;exact HT.yX _ _ _ h1 h2
def FV(H:Hp) (p:Addr) (m:List (List Int)):Prop:=∃qs:List Addr,H p=some (.lst (qs.map V.ref))/\G0 H qs m
def yE(H:Hp) (p:Addr):List (List Int):=match H p with
 |some (.lst vs)=>vs.map λv=>match v with|.ref q=>tP H q|_=>[]
 |_=>[]
theorem FV.eq{H:Hp}{p:Addr}{m:List (List Int)}(h:FV H p m):yE H p=m:=by
 obtain⟨qs,h1,h2⟩:=h;unfold yE;rw[h1,h2.1];show (qs.map V.ref).map _=_;rw[mPq];rfl
theorem G0.same{H H':Hp}{ps:List Addr}{rs:List (List Int)}(h:G0 H ps rs) (s:nS H H'):G0 H' ps rs:=by
 have e:∀p∈ps,tP H' p=tP H p:=λp hp=>E7 (s _ _ (h.2 p hp))
 exact⟨by rw[h.1];exact mCq λp hp=>(e p hp).symm,λp hp=>by rw[e p hp];exact s _ _ (h.2 p hp)⟩
def Pn(H:Hp) (ps:List Addr) (ms:List (List (List Int))):Prop:=ms=ps.map (yE H)/\∀p∈ps,FV H p (yE H p)
section
variable {X:Cx}
theorem VM{mV:List (Addr×Obj)}{σ:St}{H:Hp}{s:Shared}(I:Inv X mV σ H s) {p:Addr}{m:List (List Int)}(h:FV H p m):AH s.heap p m:=by
 obtain⟨qs,h1,h2,h3⟩:=h;obtain⟨its,rv,pl,_⟩:=I.list (qO.of h1);have ei:=yn rv;subst ei;refine⟨qs,pl,λi q r hq hr=>?_,by rw[h2,lMq]⟩
 rw[h2,gMq,hq]at hr;have hr:tP H q=r:=by simpa using hr
 rw[←hr];exact YE I (h3 q (mGq hq))
theorem AH.keep{h h':Heap}(k:∀b o,h.get? b=some o->h'.get? b=some o) {p:Addr}{m:List (List Int)}(x:AH h p m):AH h' p m:=by
 obtain⟨qs,⟨o,n,ho,rest⟩,hr,hl⟩:=x;exact⟨qs,⟨o,n,k _ _ ho,rest⟩,λi q r hq hr'=>(hr i q r hq hr').keep k,hl⟩
theorem zU(hu:X.A.units+64<jB):uB X (.builtin "sorted") (λxs H Q=>∃(a:Addr) (ps:List Addr) (ms:List (List (List Int))),xs=[.ref a]/\qO X.K H a (ps.map V.ref)/\Pn H ps ms /\
  ∀(p:Addr) (qs:List Addr),H p=none->qs.Perm ps->qs.map (yE H)=Ak ms->Q (.ref p) (oB H p (.lst (qs.map V.ref)))):=by
 intro mV s σ H xs us Q I r h;obtain⟨a,ps,ms,rfl,hS,⟨hm,hE⟩,q⟩:=h;obtain⟨u,rfl,ru⟩:=vK r;cases ru;obtain⟨its,rv,hl,hz⟩:=I.list hS;have ei:=yn rv;subst ei;have keepL:∀(s':Shared),(∀b o,s.heap.get? b=some o->s'.heap.get? b=some o)->∀p∈ps,AH s'.heap p (yE H p):=λs' k p hp=>(VM I (hE p hp)).keep k
 refine MrS.BW (Pk:=λx=>∃p,x.1 = .ref p/\p∈ps) (lt:=ZN (yE H)) hl.isList (by simpa using hz) (λs' k=>⟨λh2 Q q=>?_,Xc (by show X.A.units+1+1+40<jB;lia) (keepL s' k)⟩) (λv m=>?_) λout h' n' o1 o2 o3 o4=>?_
 .refine KH (T := "list") h2 (λv hv=>?_) (by rfl) (by rfl) q
  obtain⟨p,hp,rfl⟩:=mMq.mp hv;obtain⟨vs,pl,_⟩:=keepL s' k p hp;intro A Q E s2 k2 q2;obtain⟨o,ho,hc,_⟩:=pl.isList;exact kz (T := "list") ⟨o,k2 _ _ ho,hc⟩ q2
 .obtain ⟨p,hp,rfl⟩:=mMq.mp m;exact⟨p,rfl,hp⟩
 .have ho:∀v∈out,∃p∈ps,v = .ref p:=λv m=>by
   obtain⟨p,hp,rfl⟩:=mMq.mp (o1.mem_iff.mp m);exact⟨p,hp,rfl⟩
  have eo:out=(out.map ql).map ak:=by
   rw[mPq];have e:=mCq (l:=out) (f:=id) (g:=ak∘ql) λv hv=>by
    obtain⟨p,_,rfl⟩:=ho v hv;rfl
   rw[←e,dB]
  have hq:(out.map ql).Perm ps:=by
   have:=o1.map ql;rw[mPq,show ql∘ak=id from rfl,dB]at this
   exact this
  have hp:H (s.heap.objs.size+1)=none:=I.hok.fresh (bM _);generalize out.map ql=qs at eo hq;have es:qs.map (yE H)=Ak ms:=by
   refine Kt (by rw[hm];exact hq.map _) ?_
   rw[bg];rw[eo,bg]at o2;exact o2
  refine⟨.ref (s.heap.objs.size+1),_,I.laid (t':=s.toks) o3 (bM _) (show oY X.prog X.w _ h' _ (.lst (qs.map V.ref)) from ⟨?_,out,n',?_,o4⟩),rfl,q _ qs hp hq es⟩
  .rw [lMq,hq.length_eq];simpa using hz
  .rw [eo];exact yh qs
end
end Mr
namespace Z
open PySem L2 Mr
abbrev BI(r:List Int):D:=.tup (r.map .int)
abbrev aP(m:List (List Int)):AV:=.ow (m.map λr=>.sh (BI r))
def R8:List D->Option (List (List Int))
 | [.list as,.list bs]=>(qi as).bind λns=>(qi bs).bind λms=>if ns.length=ms.length then some (cJ (λx y=>[x,y]) ns ms) else none
 |_=>none
def X5(m:ML):MK:=λS=>(m S).bind λx=>(R8 x.1).map λrs=>(aP (yZ rs),x.2)
theorem Zb(m:ML) (S:AS):X5 m S=(m S).bind λx=>(R8 x.1).map λrs=>(aP (yZ rs),x.2):=rfl
theorem K9{ns ms:List Int}(h:ns.length=ms.length):R8 [.list (ns.map D.int),.list (ms.map D.int)]=some (cJ (λx y=>[x,y]) ns ms):=by
 show ((qi (ns.map D.int)).bind λns=>(qi (ms.map D.int)).bind λms=>if ns.length=ms.length then some (cJ (λx y=>[x,y]) ns ms) else none)=_
 rw[rH,rH];simp[h]
def TL:List (nO×D)->Option (List (Int×Int))
 | []=>some []
 | (.inl k,.int v)::r=>(TL r).map ((k,v) :: ·)
 |_=>none
theorem P3:∀{ds:List (nO×D)}{ks:List (Int×Int)},TL ds=some ks->ds=ks.map λp=>(az p.1,D.int p.2)
 | [],ks,h=>by cases h;rfl
 | (.inl k,d)::ds,ks,h=>by
  cases d with
  |int v =>
   obtain⟨ms,h1,h2⟩:=oMq.mp (show (TL ds).map ((k,v) :: ·)=some ks from h)
   subst h2;rw[P3 h1];rfl
  |_=>cases h
 | (.inr k,d)::ds,ks,h=>by cases h
theorem Kf:∀ks:List (Int×Int),TL (ks.map λp=>(az p.1,D.int p.2))=some ks
 | []=>rfl
 |p::ks=>by
  show (TL (ks.map λp=>(az p.1,D.int p.2))).map ((p.1,p.2) :: ·)=_
  rw[Kf ks];rfl
def J9:D->AS->Option (AV×AS)
 | .dict kvs,S=>(TL kvs).bind λks=>tM (ks≠[]) (some (aP (yZ (ks.map Tb)),S))
 |_,_=>none
def Y1(a:ME):MK:=λS=>(a S).bind λx=>J9 x.1 x.2
theorem YX(a:ME) (S:AS):Y1 a S=(a S).bind λx=>J9 x.1 x.2:=rfl
theorem Ul{ks:List (Int×Int)}(S:AS) (h:ks≠[]):J9 (.dict (ks.map λp=>(az p.1,D.int p.2))) S=some (aP (yZ (ks.map Tb)),S):=by
 show (TL (ks.map λp=>(az p.1,D.int p.2))).bind (λks=>tM (ks≠[]) (some (aP (yZ (ks.map Tb)),S)))=_
 rw[Kf];exact tZ h _
section
variable {K:W.Frag}{ta:TA}{te:TE}{m:ML}{b:ME}{H₀ Hf₀ Hf Hf1:Hp}{S':AS}{σ:St}{H H1:Hp}{Fs Fs1:List (List Addr)}{rs:List (List Int)}{Q:VK}
theorem OD{Hx:Hp}:∀{qs:List Addr}{rs:List (List Int)},qs.map (tP Hx)=rs->(∀q∈qs,Hx q=some (.tup ((tP Hx q).map V.int)))->oq K Hx (rs.map BI) (qs.map V.ref)
 | [],_,rfl,_=>oq.nil
 |q::qs,_,rfl,h=>oq.cons (pP.mk_tup (h q (aD ..)) (rR _)) (OD rfl λp hp=>h p (mCo _ hp))
theorem Os(R1:og K H₀ Hf₀ Hf1 S' σ H1 Fs1) (t1:wW Hf H Fs Hf1 H1 Fs1)
  (q:∀Hf' H' Fs' v F,wW Hf H Fs Hf' H' Fs'->og K H₀ Hf₀ Hf' S' σ H' Fs'->nV K Hf' H' (aP (yZ rs)) v F->wV H₀ H Fs Fs' F->Q v H'):Yg H1 rs Q:=by
 intro H' p qs sm hp hpq hq nd h1 h2 h3;have n:∀z∈qs,Hf1 z=none:=λz hz=>R1.sub.free (hq z hz)
 have R3:=(R1.laid sm).frz (F:=qs) (λz hz=>⟨R1.fr.free (hq z hz),λm=>(R1.mem m).1 (hq z hz)⟩) n
 have hin:∀z∈qs,Z.frz Hf1 H' qs z=H' z:=λz hz=>xa hz
 have hT:∀z∈qs,tP (Z.frz Hf1 H' qs) z=tP H' z:=λz hz=>by unfold tP;rw[hin z hz]
 have e3:(yZ rs).map (λr=>AV.sh (BI r))=((yZ rs).map BI).map AV.sh:=by rw[mPq];rfl
 refine q (Z.frz Hf1 H' qs) H' Fs1 (.ref p) [p] ⟨t1.sf.trans (qv n),t1.sh.trans sm,t1.own,λb h g=>?_⟩ R3 ?_ ((wV.one R1 hp).back t1)
 .by_cases m:b∈qs
  .exact .inl (t1.sh.free (hq b m))
  .rw [rF m]at g;exact t1.gr b h g
 .show nV K _ H' (.ow ((yZ rs).map λr=>AV.sh (BI r))) (.ref p) [p]
  rw[e3];refine nV.new h1 (by rw[rF hpq];exact R1.sub.free hp) (OD ?_ λz hz=>?_)
  .rw [←h3];exact mCq λz hz=>hT z hz
  .rw [hT z hz,hin z hz];exact h2 z hz
theorem RE(hm:QD K ta m):SK K (QC (ZQ K) ta) (X5 m):=by
 intro H₀ Hf₀ Hf S σ H Fs av S' R e Q q;obtain⟨x,e1,e⟩:=oBq.mp e;obtain⟨rs,e2,e⟩:=oMq.mp e;cases e;refine hm R (ds:=x.1) (S':=x.2) e1 _ λHf1 H1 Fs1 vs t1 R1 r1=>?_
 have sh:∃ns ms,x.1=[.list (ns.map D.int),.list (ms.map D.int)]/\ns.length=ms.length/\rs=cJ (λx y=>[x,y]) ns ms:=by
  unfold R8 at e2;split at e2
  .rename_i as bs hx;obtain⟨ns,f1,f2⟩:=oBq.mp e2;obtain⟨ms,f3,f4⟩:=oBq.mp f2;split at f4
   .rename_i hl;cases f4;exact⟨ns,ms,by rw[hx,ud f1,ud f3],hl,rfl⟩
   .cases f4
  .cases e2
 obtain⟨ns,ms,hx,hl,rfl⟩:=sh;rw[hx]at r1;obtain⟨va,w1,rfl,ra,r2⟩:=r1.cons_inv;obtain⟨vb,w2,rfl,rb,r3⟩:=r2.cons_inv;have:=r3.nil_inv;subst this;obtain⟨a,us1,rfl,g1,g2⟩:=ra.list_inv;obtain⟨b,us2,rfl,g3,g4⟩:=rb.list_inv;have u1:=qP g2;have u2:=qP g4;subst u1;subst u2;exact⟨a,b,ns,ms,rfl,qO.of g1,qO.of g3,hl,Os R1 t1 q⟩
theorem QH{Hx:Hp}{ks:List (Int×Int)}{kvs:List (nO×V)}(r:rY K Hx (ks.map λp=>(az p.1,D.int p.2)) kvs):kvs=ks.map λp=>(az p.1,V.int p.2):=by
 obtain⟨e1,e2⟩:=r;have l:=congrArg bb e1;rw[lMq,lMq,lMq]at l;refine dW λi=>?_
 rw[gMq]
 by_cases c:i<ks.length
 .have h1:=gEg c;have h2:kvs[i]?=some (kvs[i]'(l ▸ c)):=gEg (l ▸ c);have h3:=e2 i _ _ (by rw[gMq,h1];rfl) h2
  have h4:=congrArg (·[i]?) e1;rw[gMq,gMq,gMq,h1,h2]at h4;have h4:az (ks[i]).1=(kvs[i]'(l ▸ c)).1:=by simpa using h4
  rw[h1,h2];generalize kvs[i]'(l ▸ c)=z at h3 h4;obtain⟨z1,z2⟩:=z;dsimp only at h3 h4;cases h3;rw[←h4];rfl
 .rw [bu (by lia),bu (by lia)]
  rfl
theorem Ml(hb:SR K te b):SK K (NV te) (Y1 b):=by
 intro H₀ Hf₀ Hf S σ H Fs av S' R e Q q;obtain⟨x,e1,e⟩:=oBq.mp e;obtain⟨x1,x2⟩:=x;cases x1 with
 |dict kvs =>
  obtain⟨ks,e2,e⟩:=oBq.mp (show ((TL kvs).bind λks=>tM (ks≠[]) (some (aP (yZ (ks.map Tb)),x2)))=some (av,S') from e)
  rcases nT e with ⟨hn,e⟩|e
  .cases e;rw[P3 e2]at e1;refine hb R (S':=S') e1 _ λHf1 H1 Fs1 w t1 R1 r1=>?_
   obtain⟨p1,vs,rfl,h1,h2⟩:=r1.dict_inv;rw[QH h2]at h1;exact⟨p1,ks,rfl,h1,hn,Os R1 t1 q⟩
  .cases e
 |_=>cases e
def VF:AV->Option (List Int)
 | .sh (.tup ds)=>qi ds
 |_=>none
def A5:List AV->Option (List (List Int))
 | []=>some []
 |a::r=>(VF a).bind λt=>(A5 r).map (t :: ·)
def IT:List AV->Option (List (List (List Int)))
 | []=>some []
 | .ow as::r=>(A5 as).bind λts=>(IT r).map (ts :: ·)
 |_=>none
theorem Rv{a:AV}{t:List Int}(h:VF a=some t):a = .sh (BI t):=by
 cases a with
 |sh d =>
  cases d with
  |tup ds=>rw[ud (show qi ds=some t from h)]
  |_=>cases h
 |_=>cases h
theorem Gg:∀{as:List AV}{m:List (List Int)},A5 as=some m->as=m.map λr=>.sh (BI r)
 | [],m,h=>by cases h;rfl
 |a::as,m,h=>by
  obtain⟨t,h1,h⟩:=oBq.mp (show ((VF a).bind λt=>(A5 as).map (t :: ·))=some m from h)
  obtain⟨ts,h2,h3⟩:=oMq.mp h;subst h3;rw[Gg h2,Rv h1];rfl
theorem KS:∀{as:List AV}{ms:List (List (List Int))},IT as=some ms->as=ms.map aP
 | [],ms,h=>by cases h;rfl
 |a::as,ms,h=>by
  cases a with
  |ow es =>
   obtain⟨r,h1,h⟩:=oBq.mp (show (A5 es).bind (λns=>(IT as).map (ns :: ·))=some ms from h)
   obtain⟨ts,h2,h3⟩:=oMq.mp h;subst h3;rw[KS h2,Gg h1];rfl
  |_=>cases h
theorem Ej:∀m:List (List Int),A5 (m.map λr=>.sh (BI r))=some m
 | []=>rfl
 |r::m=>by
  show (qi (r.map D.int)).bind (λt=>(A5 (m.map λr=>.sh (BI r))).map (t :: ·))=_
  rw[rH,Ej m];rfl
theorem Ci:∀ms:List (List (List Int)),IT (ms.map aP)=some ms
 | []=>rfl
 |m::ms=>by
  show (A5 (m.map λr=>.sh (BI r))).bind (λt=>(IT (ms.map aP)).map (t :: ·))=_
  rw[Ej,Ci ms];rfl
def Bq(k:MK):MK:=λS=>(k S).bind λx=>(Oj x.1).bind λavs=>(IT avs).map λms=>(.ow ((Ak ms).map aP),x.2)
theorem G3(k:MK) (S:AS):Bq k S=(k S).bind λx=>(Oj x.1).bind λavs=>(IT avs).map λms=>(.ow ((Ak ms).map aP),x.2):=rfl
theorem Hv{Hx:Hp}:∀{m:List (List Int)}{vs:List V},oq K Hx (m.map BI) vs->∃qs,vs=qs.map V.ref/\G0 Hx qs m
 | [],vs,h=>⟨[],h.nil_inv,rfl,λp hp=>by cases hp⟩
 |r::m,vs,h=>by
  obtain⟨v,ws,rfl,h1,h2⟩:=h.cons_inv;obtain⟨qs,rfl,e1,e2⟩:=Hv h2;obtain⟨p,us,rfl,g1,g2⟩:=h1.tup_inv;rw[qP g2]at g1;refine⟨p::qs,rfl,by rw[aB,E7 g1,←e1],λq hq=>?_⟩
  rcases ao.mp hq with z|z
  .rw [z,E7 g1];exact g1
  .exact e2 q z
theorem IQ{mm:List (List Int)}{v:V}{F:List Addr}(sub:nS Hf H) (h:nV K Hf H (aP mm) v F):∃p,v = .ref p/\F=[p]/\FV H p mm:=by
 obtain⟨p,vs,Gs,rfl,rfl,h1,h2,h3⟩:=h.ow_inv;have key:∀{mm:List (List Int)}{vs:List V}{Gs:List (List Addr)},nU K Hf H (mm.map λr=>AV.sh (BI r)) vs Gs->oq K Hf (mm.map BI) vs/\Gs.flatten=[]:=by
  intro mm
  induction mm with
  |nil =>
   intro vs Gs h;obtain⟨a,b⟩:=h.nil_inv;exact⟨by rw[a];exact oq.nil,by rw[b];rfl⟩
  |cons n ns ih =>
   intro vs Gs h;obtain⟨v,ws,F,Gs',rfl,rfl,r1,r2⟩:=nU.cons_inv (a:=.sh (BI n)) h;obtain⟨f1,f2⟩:=r1.sh_inv;subst f1;obtain⟨g1,g2⟩:=ih r2;exact⟨oq.cons f2 g1,by rw[fCq,g2];rfl⟩
 obtain⟨e1,e2⟩:=key h3;obtain⟨qs,rfl,e3⟩:=Hv e1;rw[e2];exact⟨p,rfl,rfl,qs,h1,e3.same sub⟩
theorem A3(sub:nS Hf H):∀{ms:List (List (List Int))}{vs:List V}{Gs:List (List Addr)},nU K Hf H (ms.map aP) vs Gs->∃ps,vs=ps.map V.ref/\Gs=ps.map (λp=>[p])/\Pn H ps ms/\∀p∈ps,nV K Hf H (aP (yE H p)) (.ref p) [p]
 | [],vs,Gs,h=>by
  obtain⟨a,b⟩:=h.nil_inv;exact⟨[],a,b,⟨rfl,λp hp=>by cases hp⟩,λp hp=>by cases hp⟩
 |r::rs,vs,Gs,h=>by
  obtain⟨v,ws,F,Gs',rfl,rfl,r1,r2⟩:=nU.cons_inv (a:=aP r) (as:=rs.map aP) h;obtain⟨p,rfl,rfl,h1⟩:=IQ sub r1;obtain⟨ps,rfl,rfl,⟨h3,h4⟩,h5⟩:=A3 sub r2;refine⟨p::ps,rfl,rfl,⟨by rw[aB,h1.eq,←h3],λq hq=>?_⟩,λq hq=>?_⟩
  .rcases ao.mp hq with z|z
   .rw [z,h1.eq];exact h1
   .exact h4 q z
  .rcases ao.mp hq with z|z
   .rw [z,h1.eq];exact r1
   .exact h5 q z
theorem KB{f:Addr->List (List Int)}:∀{ps:List Addr},(∀p∈ps,nV K Hf H (aP (f p)) (.ref p) [p])->nU K Hf H ((ps.map f).map aP) (ps.map V.ref) (ps.map λp=>[p])
 | [],_=>.nil
 |p::ps,h=>.cons (h p (aD ..)) (KB λq hq=>h q (mCo _ hq))
theorem DL{k:MK}(hk:SK K te k):SK K (QC (λxs H Q=>∃(a:Addr) (ps:List Addr) (ms:List (List (List Int))),xs=[.ref a]/\qO K H a (ps.map V.ref)/\Pn H ps ms /\
  ∀(p:Addr) (qs:List Addr),H p=none->qs.Perm ps->qs.map (yE H)=Ak ms->Q (.ref p) (oB H p (.lst (qs.map V.ref)))) (ri te uZ)) (Bq k):=by
 intro H₀ Hf₀ Hf S σ H Fs av S' R e Q q;obtain⟨x,e1,e⟩:=oBq.mp e;obtain⟨avs,e3,e⟩:=oBq.mp e;obtain⟨ms,e2,e⟩:=oMq.mp e;cases e;refine hk R (a:=x.1) (S':=x.2) e1 _ λHf1 H1 Fs1 v F t1 R1 r1 o1=>?_
 have hx:x.1 = .ow (ms.map aP):=by
  cases hx:x.1 with
  |ow as=>rw[hx]at e3;cases e3;rw[KS e2]
  |_=>rw[hx]at e3;cases e3
 rw[hx]at r1;obtain⟨p0,vs,Gs,rfl,rfl,h1,h2,h3⟩:=r1.ow_inv;obtain⟨ps,rfl,rfl,hE,hn⟩:=A3 R1.sub h3;rw[zb]at o1;refine⟨p0,ps,ms,rfl,qO.of h1,hE,λp qs hp hq hE2=>?_⟩
 obtain⟨t4,R4,n1,n2,n3⟩:=R1.new (o:=.lst (qs.map V.ref)) hp;have pq:∀z∈qs,z≠p:=λz m e=>by
  obtain⟨_,g,_⟩:=hE.2 z (hq.mem_iff.mp m);rw[e,hp]at g;cases g
 have hm:∀z∈qs,z∈p0::ps:=λz hz=>mCo _ (hq.mem_iff.mp hz)
 rw[←hE2]at q;refine q _ _ _ (.ref p) (p::(qs.map λp=>[p]).flatten) (t1.trans t4) R4 (nV.news nB n1 (KB λz hz=>?_)) ?_
 .have r:=hn z (hq.mem_iff.mp hz);exact r.keep (.refl _) (λy hy=>by rw[mSq.mp hy];exact ni (pq z hz)) λy hy=>(r.owned y hy).2
 .rw [zb];refine⟨aA.mpr ⟨λm=>pq p m rfl,hq.nodup_iff.mpr (aA.mp o1.nd).2⟩,λz hz=>?_,λz hz=>?_,λz hz=>?_⟩
  .rcases ao.mp hz with y|y
   .rw [y];exact n2
   .exact o1.fr z (hm z y)
  .rcases ao.mp hz with y|y
   .rw [y];exact n3
   .exact o1.out z (hm z y)
  .rcases ao.mp hz with y|y
   .rw [y];exact .inl (t1.sh.free hp)
   .exact o1.new z (hm z y)
end
end Z
namespace Z
open PySem PySem.Spec PyProof.Rows L2 Mr
inductive DF:Nat->D->PyData->Prop
 |non {n}:DF n .non .none
 |bl {n b}:DF n (.bl b) (.bool b)
 |int {n i}:DF n (.int i) (.int i)
 |str {n x} (h:PyData.canLay0 (.str x)=true):DF n (.str x) (.str x)
 |list {n} {ds:List D}{ps:List PyData}(l:ds.length=ps.length) (e:∀(i:Nat) (d:D) (p:PyData),ds[i]?=some d->ps[i]?=some p->DF n d p):DF (n+1) (.list ds) (.list ps)
 |tup {n} {ds:List D}{ps:List PyData}(l:ds.length=ps.length) (e:∀(i:Nat) (d:D) (p:PyData),ds[i]?=some d->ps[i]?=some p->DF n d p):DF (n+1) (.tup ds) (.tuple ps)
theorem AG{α:Type}{ds:List D}{ps:List α}(l:ds.length=ps.length) {p:α}(h:p∈ps):∃(i:Nat) (d:D),ds[i]?=some d/\ps[i]?=some p:=by
 obtain⟨i,hi⟩:=aV.mp h;have hl:=(gSq.mp hi).1;exact⟨i,_,gEg (l ▸ hl),hi⟩
theorem J3{ps:List PyData}(h:∀p∈ps,p.canLay0=true):PyData.canLayAll0 ps=true:=by
 induction ps with
 |nil=>rfl
 |cons p ps ih=>rw[PyData.canLayAll0,h p (aD ..),ih λq hq=>h q (mCo _ hq)];rfl
theorem Kq{ps:List PyData}(h:∀p∈ps,SeqAt.noMix p p=true):SeqAt.noMixAll ps ps=true:=by
 induction ps with
 |nil=>simp[SeqAt.noMixAll]
 |cons p ps ih=>rw[SeqAt.noMixAll,h p (aD ..),ih λq hq=>h q (mCo _ hq)];rfl
theorem Hi{n:Nat}{ps:List PyData}(h:∀p∈ps,p.depth<=n):PyData.depthAll ps<=n:=by
 induction ps with
 |nil=>rw[PyData.depthAll];exact aY _
 |cons p ps ih =>
  rw[PyData.depthAll];have:=h p (aD ..);have:=ih λq hq=>h q (mCo _ hq)
  lia
theorem DF.lay{n:Nat}{d:D}{p:PyData}(h:DF n d p):p.canLay0=true:=by
 induction h with
 |str h=>exact h
 |list l _ ih=>rw[PyData.canLay0];exact J3 λp hp=>let ⟨i,d,h1,h2⟩:=AG l hp;ih i d p h1 h2
 |tup l _ ih=>rw[PyData.canLay0];exact J3 λp hp=>let ⟨i,d,h1,h2⟩:=AG l hp;ih i d p h1 h2
 |_=>rfl
theorem DF.mix{n:Nat}{d:D}{p:PyData}(h:DF n d p):SeqAt.noMix p p=true:=by
 induction h with
 |list l _ ih=>rw[SeqAt.noMix];exact Kq λp hp=>let ⟨i,d,h1,h2⟩:=AG l hp;ih i d p h1 h2
 |tup l _ ih=>rw[SeqAt.noMix];exact Kq λp hp=>let ⟨i,d,h1,h2⟩:=AG l hp;ih i d p h1 h2
 |_=>simp[SeqAt.noMix]
theorem DF.deep{n:Nat}{d:D}{p:PyData}(h:DF n d p):p.depth<=n:=by
 induction h with
 |list l _ ih=>rw[PyData.depth];exact gb (Hi λp hp=>let ⟨i,d,h1,h2⟩:=AG l hp;ih i d p h1 h2)
 |tup l _ ih=>rw[PyData.depth];exact gb (Hi λp hp=>let ⟨i,d,h1,h2⟩:=AG l hp;ih i d p h1 h2)
 |_=>simp[PyData.depth]
theorem DF.shaped{n:Nat}{d:D}{p:PyData}(h:DF n d p) (hn:n<=64):SeqAt.shaped p=true:=by
 show (PyData.canLay0 p && decide (PyData.depth p<=64))=true;rw[h.lay,decide_eq_true (bC h.deep hn)];rfl
end Z
namespace Mr
open PySem L2 PySem.Calls
open PySem.Spec PyProof.Rows
section
variable {X:Cx}
theorem LY:uB X (.builtin "len") (λxs H Q=>∃a o kvs,xs=[V.ref a]/\H a=some (.frz o (.dK kvs))/\Q (.int kvs.length) H):=by
 intro mV s σ H xs us Q I r h;obtain⟨a,o,kvs,rfl,ha,q⟩:=h;obtain⟨u,rfl,ru⟩:=vK r;cases ru;exact Tv I (.inr ⟨o,ha⟩) λt s' I'=>⟨.int kvs.length,H,I',⟨t,rfl⟩,q⟩
theorem Lw(hc:X.calm=true):uB X (.builtin "min") (λxs H Q=>∃(a:Addr) (kvs:List (nO×V)) (ns:List Int),xs=[.ref a]/\H a=some (.dK kvs)/\kvs.map (·.1)=ns.map az/\0<ns.length/\∀M,M∈ns->(∀x,x∈ns->M<=x)->Q (.int M) H):=by
 intro mV s σ H xs us Q I r h;obtain⟨a,kvs,ns,rfl,ha,hk,hne,q⟩:=h;obtain⟨u,rfl,ru⟩:=vK r;cases ru;obtain⟨hz,sa,vs,kv,d⟩:=(show oY X.prog X.w H s.heap a (.dK kvs) from I.hok a _ ha)
 obtain⟨ep,da⟩:=d.dictAt;have hlen:ns.length=vs.length:=by
  have:=congrArg bb hk;rw[lMq,lMq]at this;rw[←this,Paired.length kv]
 have hkv:vs.map (·.1)=ns.map az:=by rw[←K1 kv,hk]
 have hI:∀(j:Nat) (v:Value),(∃k x,vs[j]?=some (k,x)/\(oX X.prog X.w).is k v=true)->∃t,v=fN (ns.getD j 0) t:=λj v ⟨k,x,g1,g2⟩=>by
  have hj:j<ns.length:=by rw[hlen];exact(gSq.mp g1).1
  have e3:(vs.map (·.1))[j]?=some k:=by rw[gMq,g1];rfl
  rw[hkv,gMq,gEg hj]at e3;have e4:(az ns[j]:nO)=k:=by simpa using e3
  subst e4;rcases oH (k:=az ns[j]) (v:=v) g2 with ⟨i,t,e5,e6⟩|⟨z,t,e5,_⟩
  .cases e5;exact⟨t,by rw[gDq,gEg hj];exact e6⟩
  .cases e5
 obtain⟨oI,St,hit,W,st⟩:=(W.kdl_dict (knd:=oX X.prog X.w) (kvs:=vs) (ep:=ep) sa).iter X.A.in1 s (I.ok.hd hc) da;have hlt:a<s.heap.objs.size:=da.lt_size;refine call_min_walk (hit _ _ ⟨_,_,_,_,_,_,λi j=>decide (ns.getD i 0<ns.getD j 0),rfl,W,st,λb hb=>?_,by lia,CmpOf.ints_lt (λi=>ns.getD i 0) hI,λv h' tk hP hk=>?_⟩)
 .show b<(s.heap.push oI).objs.size;rw[kC];rcases ao.mp hb with rfl|hb
  .exact eh _
  .rw [mSq.mp hb];exact bS hlt
 .obtain ⟨t,rfl⟩:=hI _ _ hP;obtain⟨h1,h2⟩:=argBest_lt (λi=>ns.getD i 0) (vs.length-1)
  refine⟨.int _,H,I.kept (λb o e=>hk b o (λm=>?_) (ae _ e)),⟨t,rfl⟩,q _ ?_ λx hx=>?_⟩
  .rw [mSq.mp m]at e;exact absurd (ag e) (bY _)
  .exact PySem.getD_mem (by lia)
  .obtain ⟨j,hj,rfl⟩:=PySem.mem_getD hx;exact h2 j (by lia)
end
end Mr
namespace Z
open PySem L2 Mr
def zc(i x:Nat) (a b:Int):MS:=λS=>if i=x∨S.length<=x then none else (pS S i).bind λavs=>(xT (.tup [.int a,.int b]) avs).map λbs=>.nx ((S.set i (some (.ow bs))).set x none)
def Kp:List D->Option D
 | [.fd ds]=>some (.int ds.length)
 |_=>none
def Y8:D->Option D
 | .dict kvs=>(tN kvs).bind λns=>(zM ns).map .int
 |_=>none
def K2:List D->Option D
 | [d]=>Y8 d
 |_=>none
section
variable {K:W.Frag}
theorem RM:Sf K (λxs H Q=>∃a o kvs,xs=[V.ref a]/\H a=some (.frz o (.dK kvs))/\Q (.int kvs.length) H) Kp:=by
 intro vs H Q ds d r e q;unfold Kp at e;split at e
 .obtain ⟨v,ws,rfl,h1,h2⟩:=r.cons_inv;rw[h2.nil_inv];obtain⟨p,o,us,rfl,h3,h4⟩:=h1.fd_inv;cases e;have hl:=congrArg bb h4.1;rw[lMq,lMq]at hl;exact⟨p,o,us,rfl,h3,by rw[←hl];exact q _ .int⟩
 .cases e
theorem Rx:Sf K (λxs H Q=>∃(a:Addr) (kvs:List (nO×V)) (ns:List Int),xs=[.ref a]/\H a=some (.dK kvs)/\kvs.map (·.1)=ns.map az/\0<ns.length/\∀M,M∈ns->(∀x,x∈ns->M<=x)->Q (.int M) H) K2:=by
 intro vs H Q ds d r e q;unfold K2 at e;split at e
 .rename_i d0;obtain⟨v,ws,rfl,h1,h2⟩:=r.cons_inv;rw[h2.nil_inv];cases d0 with
  |dict kvs =>
   obtain⟨ns,e1,e⟩:=oBq.mp (show ((tN kvs).bind λns=>(zM ns).map D.int)=some d from e)
   obtain⟨m,e2,e⟩:=oMq.mp e;cases e;obtain⟨p,us,rfl,h3,h4⟩:=h1.dict_inv;cases ns with
   |nil=>cases e2
   |cons n ns =>
    cases e2;refine⟨p,us,n::ns,rfl,h3,by rw[←h4.1];exact C6 e1,by simp,λM hM hm=>?_⟩
    have e3:M=ns.foldl min n:=by
     have a1:=hm _ (qN ns n);have a2:=qD ns n;have a3:ns.foldl min n<=M:=by
      rcases ao.mp hM with z|z
      .subst z;exact a2.1
      .exact a2.2 M z
     lia
    rw[e3];exact q _ .int
  |_=>cases e
 .cases e
theorem LL{i x:Nat}{a b:Int}:SS K (LC (JJ K (uI i)) (rh x) (xH (NU K "list" yd (uI x) (ri (VP (ri (tC (.int a)) (ri (tC (.int b)) uZ))) uZ)))) (zc i x a b):=by
 intro H₀ Hf₀ Hf S σ H Fs o R e D h;unfold zc at e;split at e
 .cases e
 rename_i nix0;have nix:¬ i=x:=λz=>nix0 (.inl z)
 have xlt:x<S.length:=Nat.lt_of_not_le λz=>nix0 (.inr z)
 .obtain ⟨avs,e1,e⟩:=oBq.mp e;obtain⟨bs,e2,e⟩:=oMq.mp e;cases e;obtain⟨p,vs,Gs,s1,s2,h1,h2,h3,h4,h5,h6⟩:=R.ow (nZ e1);refine⟨_,s1,p,rfl,⟨vs,qO.of h1⟩,?_⟩
  let mid:Nat->List AV:=λj=>bs.take j++avs.drop j
  have hbl:=Dk e2;refine HB (xs:=vs) (λj σ' H'=>∃Hf' Fs',nS Hf Hf'/\og K H₀ Hf₀ Hf' ((S.set i (some (.ow (mid j)))).set x none) σ' H' Fs'/\σ'[i]?=some (some (.ref p))/\H' p=some (.lst vs)) ⟨Hf,Fs.set x [],.refl _,?_,s1,h1⟩ (λj σ' H' _ ⟨_,_,_,_,_,q⟩=>qO.of q) ?_ ?_
  .have e0:S.set i (some (.ow (mid 0)))=S:=by
    show S.set i (some (.ow (bs.take 0++avs.drop 0)))=S;rw[gI,dZ,eE];obtain⟨hk,ev⟩:=gSq.mp (nZ e1);rw[←ev];exact dY hk
   rw[e0];exact R.kill x
  .rintro j w σ' H' hw ⟨Hf',Fs',sf',R',s1',hp'⟩;have hj:j<vs.length:=(gSq.mp hw).1;have hja:j<avs.length:=h3.1.symm ▸ hj;have hjb:j<bs.length:=hbl.symm ▸ hja;obtain⟨as,ea,hl,eb⟩:=BZ e2 (gEg hja);have hlen:i<S.length:=(gSq.mp (nZ e1)).1;have hSi:((S.set i (some (.ow (mid j)))).set x none)[i]?=some (some (.ow (mid j))):=by
    rw[ar (Ne.symm nix),aG hlen]
   have hmj:(mid j)[j]?=some (.ow as):=by
    show (bs.take j++avs.drop j)[j]?=_;have hl1:(bs.take j).length=j:=by rw[lTq];lia
    rw[gYq (by lia),hl1,cf,cS,gk,gEg hja,ea]
   obtain⟨v9,F9,t9,u9,r9,nd9,oo9,_⟩:=R'.move hSi;rw[s1']at t9;cases t9;have hnode:oy (.ow (mid j)) [j]=some as:=by
    show ((mid j)[j]?).bind (λa=>oy a [])=_
    rw[hmj];rfl
   obtain⟨q,us,Es9,g1,g2,_,_,_,_,_,_,_⟩:=r9.path nd9 hnode;obtain⟨p2,vs2,u,z1,z2,z3,z4⟩:=g1;cases z1;rw[hp']at z2;cases z2;rw[hw]at z3;cases z3;have z4':w = .ref q:=z4;subst z4';have hx:∀y:V,((σ'.set x (some (.ref q)))[x]?=some (some y))->True:=λ_ _=>trivial
   have hxl:x<σ'.length:=by
    have:=R'.len;rw[lZq,lZq]at this;lia
   .refine ⟨.ref q,aG hxl,.inl ⟨rfl,us,qO.of g2⟩,by rw[jq];simp,λpT hpT=>?_⟩
    have qT:q≠pT:=λz=>by rw[z,hpT]at g2;cases g2
    have pT':p≠pT:=λz=>by rw[z,hpT]at hp';cases hp'
    obtain⟨tT,RT⟩:=R'.layF (o:=.tup [V.int a,V.int b]) hpT;obtain⟨v0,F,t1,t2,r,nd,oo,_⟩:=RT.move hSi;rw[s1']at t1;cases t1;obtain⟨q',us',Es,g1',g2',g3,g4,g5,g6,g6',g7,g8⟩:=r.path nd hnode;obtain⟨p2,vs2,u,z1,z2,z3,z4⟩:=g1';cases z1;rw[ni pT',hp']at z2;cases z2;rw[hw]at z3;cases z3;have z5:V.ref q = .ref q':=z4;cases z5;rw[ni qT,g2]at g2';cases g2';have hv:∀HH:Hp,pP K (oB Hf' pT (.tup [V.int a,V.int b])) (.tup [.int a,.int b]) (.ref pT):=λ_=>.mk_tup nB (rR [a,b])
    refine⟨q,us,.ref pT,rfl,rfl,by rw[ni qT];exact g2,by rw[rX,←g4.1];exact hl,?_⟩
    obtain⟨F',k1,k2,k3⟩:=g8 (as++[AV.sh (.tup [.int a,.int b])]) (us++[V.ref pT]) (Es++[[]]) ((g4.keepUpd g6).snoc (.sh (hv H'))) (by rw[fAq];simp only[fCq,gi,aNq];exact aA.mpr ⟨g6,g6'⟩) (λz hz=>by
     rw[fAq]at hz;simp only[fCq,gi,aNq]at hz;exact .inl hz)
    have hF':∀z∈F',z∈F:=λz hz=>(k3 z hz).elim id λm=>by
     rw[fAq]at m;simp only[fCq,gi,aNq]at m;exact g7 z m
    have hne:p≠q:=λz=>by
     obtain⟨p3,vs3,Gs3,y1,y2,y3,y4,y5⟩:=r.ow_inv;cases y1;subst y2;rw[z]at nd;rcases ao.mp g5 with y|y
     .-- q is an item's own list
      have n3:=(aA.mp nd).1;have hj3:j<(mid j).length:=(gSq.mp hmj).1;have hG:=gEg (y5.2.1 ▸ hj3);rw[ni pT',hp']at y3;cases y3;have rj:=y5.2.2 j _ _ _ hmj hw hG;obtain⟨p4,vs4,Gs4,x1,x2,_⟩:=rj.ow_inv;cases x1;exact n3 (oA hG (by rw[x2];simp))
     .exact (aA.mp nd).1 y
    have R2:=RT.turnAny (o:=.lst (us++[V.ref pT])) (F':=F') s1' t2 g5 k1 k2 λz hz=>oo z (hF' z hz)
    have em:putAt (.ow (mid j)) [j] (as++[.sh (.tup [.int a,.int b])]) = .ow (mid (j+1)):=by
     show (match (mid j)[j]? with|some a0=>AV.ow ((mid j).set j (putAt a0 [] (as++[AV.sh (.tup [.int a,.int b])])))|none=>.ow (mid j))=_
     rw[hmj];show AV.ow ((mid j).set j (.ow (as++[.sh (.tup [.int a,.int b])]))) = .ow (mid (j+1));congr 1;show (bs.take j++avs.drop j).set j _=bs.take (j+1)++avs.drop (j+1);have hl1:(bs.take j).length=j:=by rw[lTq];lia
     rw[gD _ _ (by lia),hl1,cf,aL hja,cT,de,eb]
     simp
    rw[em]at R2;have e5:((S.set i (some (.ow (mid j)))).set x none).set i (some (.ow (mid (j+1))))=(S.set i (some (.ow (mid (j+1))))).set x none:=by
     rw[List.set_comm _ _ (Ne.symm nix),eQ]
    rw[e5]at R2;exact⟨_,_,sf'.trans tT.sf,R2.any (.ref q),by rw[ar (Ne.symm nix)];exact s1',by rw[ni hne,ni pT'];exact hp'⟩
  .rintro σ' H' ⟨Hf',Fs',sf',R',_,_⟩;have em:mid vs.length=bs:=by
    show bs.take vs.length++avs.drop vs.length=bs;rw[←h3.1,cM,aNq,←hbl,bx]
   rw[em]at R';exact h _ _ _ _ sf' R'
end
end Z
namespace Z
open PySem L2 Mr Xe
def Uc(l:ML) (b:ME):MK:=λS=>(l S).bind λx=>(b x.2).bind λy=>(intOf y.1).bind λn=>tM (-(2 ^ 63)<=n/\n<2 ^ 63/\x.1.length*n.toNat<=qp) (some (.ow (((ay n.toNat x.1).flatten).map .sh),y.2))
theorem HI{K:W.Frag}{Hf:Hp}{ds:List D}{vs:List V}(r:oq K Hf ds vs):∀n,oq K Hf (ay n ds).flatten (ay n vs).flatten
 |0=>.nil
 |n+1=>by
  rw[bR,bR,fCq,fCq];exact r.append (HI r n)
theorem VQ{K:W.Frag}{ta tb:TE}{l:ML}{b:ME}(hl:SL K ta l) (hb:SR K tb b):SK K (QF W7 ta tb) (Uc l b):=by
 intro H₀ Hf₀ Hf S σ H Fs av S' R e Q q;obtain⟨x,e1,e⟩:=oBq.mp e;obtain⟨y,e2,e⟩:=oBq.mp e;obtain⟨n,e3,e⟩:=oBq.mp e;rcases nT e with ⟨⟨c1,c2,c3⟩,e⟩|e
 .cases e;refine hl R (ds:=x.1) (S':=x.2) e1 _ λHf1 H1 Fs1 p1 vs1 t1 R1 h1 r1=>hb R1 (d:=y.1) (S':=y.2) e2 _ λHf2 H2 Fs2 w t2 R2 r2=>?_
  have hy:y.1 = .int n:=by
   cases hx:y.1 <;> rw[hx]at e3 <;> first|(cases e3;rfl)|cases e3
  rw[hy]at r2;cases r2;refine⟨p1,n,vs1,rfl,rfl,t2.sh _ _ h1,c1,c2,by rw[rX,←r1.1];exact c3,λp hp=>?_⟩
  obtain⟨t3,R3,n1,n2,n3⟩:=R2.new (o:=.lst (ay n.toNat vs1).flatten) hp;exact q _ _ _ (.ref p) [p] ((t1.trans t2).trans t3) R3 (nV.new nB n1 (HI (r1.mono t2.sf) _)) ((wV.one R2 hp).back (t1.trans t2))
 .cases e
theorem Te(l:ML) (b:ME) (S:AS):Uc l b S=(l S).bind λx=>(b x.2).bind λy=>(intOf y.1).bind λn=>tM (-(2 ^ 63)<=n/\n<2 ^ 63/\x.1.length*n.toNat<=qp) (some (.ow (((ay n.toNat x.1).flatten).map .sh),y.2)):=rfl
end Z
namespace K39
open PySem L2 Mr Z Xe
def tW:MX:=(zZ (N1 K51.nJ (nH (ot 0) oM))
 (zZ (JP (Be (sI (oU Jx (tO qu (nh (oU FP (nj 0) (rC (.int 0))) nI)) (rC (.int 0)))) (qR (tH (nH (tH oM) oM))) qC))
 (zZ (JP (pI 1 (kSc (oU FP (oU FP (nj 0) (rC (.int 0))) (rC (.int 0))))))
 (zZ (Q9 2 K33.qF (nH (ot 0) (nH (ot 1) oM)))
 (zZ (Q9 3 K31.qE (nH (ot 0) (nH (ot 1) oM)))
 (JP (qR (Bq (xO (EC (ot 3)) [3,0,2] (sI (oU yN (rOf (qo (okX K33.qF) (nH (ot 2) (nH (ot 0) oM)))) (nj 3))) (X5 (nh (nj 1) (nh (rOf (qo (okX K31.qE) (nH (ot 2) (nH (ot 0) oM)))) nI))))))))))))
def oE:Bz:=Dv 1 4 tW
def wG:MS:=(nY (Be (Lm (yx (sI (tO yM (nh (nj 1) (nh (rC (.ty "tuple")) nI))))) (sI (oU V6 (tO qu (nh (nj 1) nI)) (rC (.int 2))))) (qR (kSc (rC (.bl false)))) qC) (Be (Lm (yx (sI (tK K72.ue (nh (oU Ab (nj 1) (rC (.int 0))) nI)))) (yx (sI (tK K72.ue (nh (oU Ab (nj 1) (rC (.int 1))) nI))))) (qR (kSc (rC (.bl false)))) qC))
def Cz:MS:=(nY (Be (yx (sI (tO yM (nh (nj 0) (nh (rC (.ty "list")) nI))))) (qR (kSc (rC (.bl false)))) qC)
 (nY (Do 1 (ot 0) wG)
 (qR (kSc (rC (.bl true))))))
def ui:MF:=tw 1 2 Cz
def oS:MS:=(Be (sI (wA (oU Ab (nj 7) (rC (.int 0))) (nj 4))) (nY (zI 4 (oU Ab (nj 7) (rC (.int 0))) (kSc (oU Ab (nj 7) (rC (.int 1))))) (Aw 5 (kSc (oU Ab (nj 7) (rC (.int 0)))))) (Be (sI (oU V6 (xZ (nj 4) (oU Ab (nj 7) (rC (.int 0)))) (oU Ab (nj 7) (rC (.int 1))))) (qR (kSc (rC .non))) qC))
def qW:MS:=(nY (Dg 6 (A6 5)) (Do 7 (tH (nH (QS (nH (kSc (Kg Ap (nj 6))) (nH (kSc (Kg Ap (xZ (nj 4) (nj 6)))) oM))) (nH (QS (nH (kSc (ER (nj 0) (nj 6))) (nH (kSc (ER (nj 1) (xZ (nj 4) (nj 6)))) oM))) oM))) oS))
def Am:MS:=(nY (pI 4 (Cw (nj 2) (ot 3)))
 (nY (pI 5 (tH (nH (ot 2) oM)))
 (nY (qS (sI (oU GI (tO qu (nh (nj 5) nI)) (rC (.int 0)))) qW 100000)
 (qR (Cs 4)))))
def uG:MF:=tw 4 8 Am
def uR:MS:=(nY (pI 5 (xO (Zc (nh (nj 3) nI)) [0,4,3] tL (kSc (tK K31.rA (nh (tK Zl.oj (nh (nj 1) (nh (rC (.int 0)) nI))) (nh (tK Zl.oj (nh (nj 1) (nh (rC (.int 1)) nI))) (nh (oU BJ (oU Bk (nj 2) (nj 3)) (nj 0)) nI))))))) (nY (pI 6 (qo K31.vk (nH (Tt (uJ 0) (zR (rC (.int 3))) (zR (rC (.int 66)))) (nH (ot 5) (nH (kSc (oU Jx (oU vf (tK Zl.oj (nh (nj 0) (nh (rC (.int 2)) nI))) (rC (.int 2))) (rC (.int 1)))) oM))))) (nY (PX 2 (V2 2 (K8 2) (rC (.int 0))) (lOf (OW (uJ 6) (rC (.int 0))))) (P7 2 (lOf (Tt (uJ 6) (zR (rC (.int 1))) C3))))))
def D9:MS:=(nY (pI 2 (tH (nH (tH oM) oM)))
 (nY (pI 3 (kSc (oU Bi (rC (.int 12)) (nj 1))))
 (nY (CV 4 (nh (nj 1) nI) uR)
 (qR (Cs 2)))))
def xq:MF:=tw 2 7 D9
def ze:MS:=(nY (pI 1 (kSc (rC .non)))
 (nY (Qt K39.oE (nH (qo K51.uz (nH (ot 0) oM)) oM) (X2 "MapError" 2 (pI 1 (ot 2)) Wk))
 (qR (kSc (LH (tO GE (nh (nj 1) (nh (RA "NotOnePiece") nI))) (LH (tO GE (nh (nj 1) (nh (rC (.ty "ValueError")) nI))) (SI (tO GE (nh (nj 1) (nh (RA "TooBig") nI))))))))))
def qc:MF:=tw 1 3 ze
def sP:MS:=(nY (pI 5 (qo K39.uG (nH (ot 1) (nH (ot 1) (nH (ot 3) (nH (ot 4) oM)))))) (Be (CI (sI (oU Gd (nj 5) (rC .non))) (sI (oU Jx (tO CO (nh (nj 5) nI)) (tO Kp (nh (nj 1) nI))))) (Aw 2 (Y1 (nj 5))) qC))
def CT:MS:=(nY (pI 1 (qo K15.vJ (nH (ot 0) oM)))
 (nY (Be (sI (oU Jx (tO CO (nh (nj 1) nI)) (rC (.int 0)))) (qR (tH (nH (tH oM) oM))) qC)
 (nY (pI 2 (tH oM))
 (nY (pI 3 (kSc (tO K2 (nh (nj 1) nI))))
 (nY (OF 4 1 sP)
 (qR (Bq (Cs 2))))))))
def tU:MF:=tw 1 6 CT
def Jw:MS:=(nY (pI 1 (kSc (tK Zl.oj (nh (nj 0) (nh (rC (.int 2)) nI)))))
 (nY (pI 2 (qo Zl.pM (nH (qo K39.xq (nH (ot 0) (nH (kSc (oU FP (rOf (tH (nH (kSc (rC (.int 1))) (nH (kSc (rC (.int 2))) (nH (kSc (rC (.int 3))) (nH (kSc (rC (.int 4))) (nH (kSc (rC (.int 6))) (nH (kSc (rC (.int 12))) oM)))))))) (oU vf (oU Bi (nj 1) (rC (.int 2))) (rC (.int 6))))) oM))) oM)))
 (nY (Be (Lm (yx (sI (tK K39.qc (nh (rOf (tH oM)) nI)))) (yx (sI (tK K39.qc (nh (rOf (Pt (lOf (Uc (lOf (tH (nH (tH oM) oM))) (oU BJ (rC (.int 1)) (oU vf (oU Bi (nj 1) (rC (.int 12))) (rC (.int 2)))))) (G9 2))) nI))))) (qR (kSc (rC (.bl false)))) qC)
 (nY (pI 3 (qo K51.uz (nH (ot 2) oM)))
 (nY (pI 4 (qo (okX K39.oE) (nH (ot 3) oM)))
 (nY (Be (Lm (yx (sI (tO yM (nh (nj 4) (nh (rC (.ty "list")) nI))))) (sI (oU Je (nj 3) (nj 2)))) (qR (kSc (rC (.bl false)))) qC)
 (nY (Be (yx (sI (tO O4 (nh (rOf (Ox (xO (EC (ot 4)) [] tL (kSc (tK K39.ui (nh (nj 0) nI)))))) nI)))) (qR (kSc (rC (.bl false)))) qC)
 (nY (Be (sI (oU Je (nj 4) (rOf (qo K39.tU (nH (ot 2) oM))))) (qR (kSc (rC (.bl false)))) qC)
 (nY (zc 4 5 0 0)
 (qR (kSc (LH (oU yN (nj 3) (nj 2)) (oU yN (rOf (qo (okX K39.oE) (nH (ot 3) oM))) (rOf (qo K39.tU (nH (ot 2) oM))))))))))))))))
def KL:MF:=tw 1 6 Jw
def Ai(i:Nat):Stmt:=PySem.Challenge.pw_mapround_k39_own_turns.main.body.getD i (.Pass ⟨0,0,0,0⟩)
def Yw(i:Nat):Stmt:=match Ai i with|.ClassDef _ _ _ (m::_) _ _ _ _ _ _ _=>m|s=>s
section
variable {P:jg}{w:ji}{K:W.Frag}{mg:Str->Option Value}{base:Heap}
abbrev tE:Stmt:=Yw 2
theorem Fi:nW ["self", "end"] ["self", "end"] (nA tE):=by trivial
theorem Fh{C M f:Addr}{fd:jr}(F:QB K "__init__" "NotThere.__init__" tE f fd) (b:uQ K fd ["self", "end"] []) (rf:wO K "NotThere" C M) (mM:mg "MapError" = some (.ref M)) (hr0:W.readsIn K M (.type "type")=true) (hs0:W.specialIn K (.ref M) "__getattribute__" = some (some (.builtin "type.__getattribute__"))) (hf0:W.findCls K (.ref M) (.type "type") "__init__" = some (.val (.builtin "ValueError.__init__"))) (ini:W.findIn K (.ref C) "__init__" = some (some (.ref f))) (fn:W.isFn K (.ref f)=true) (kp:W.keepIn K (.ref C)=true) (nf:W.findIn K (.ref C) "end" = some none) (m:mg "NotThere" = some (.ref C)):WD P w K mg base "NotThere" "end" "end" C M f fd :=
 ⟨⟨rf.nm,.inl ⟨M,rf⟩⟩,rf.xc,Ik M,m,⟨rf,ini,fn,kp,nf,m,b,F.ok Fi (λvs H Q E h=>by obtain⟨e,v,C,M,rfl,_⟩:=h;rfl) λrS A outer s H vs Q E hr h=>⟨_,mZ (pO (Xt (by rfl) mM hr0 hs0 hf0 (mW (pv 0) (mW VG mY)))) (ng (WU (pv 0) (pv 1) rfl)),NA h⟩⟩⟩
abbrev rN:Stmt:=Ai 6
theorem wL:nW ["turns", "told", "turn"] ["turns"] (nA rN):=by trivial
theorem FK     (D:za K mg "told_ends" rN ["turns"] f fd) (B:Bt mg)     : Fn P w K mg base 1 "told_ends" rN ["turns"] (pE K Zl.qY) f fd :=
 ⟨D,D.F.ok wL (λ_ _ _ _=>qj) λrS A outer s H vs Q E hr h=>⟨_,(mZ (nM (i:=1) wL.nd rfl (by trivial) (pW mY)) (mZ (rJ PassesOwn.never rfl (qq (pv 0)) (pN (i:=2) wL.nd rfl (by trivial)) (ng (pO (rP aq dw dz yl (pv 1) (mW (pv 2) mY))))) (ng (oa (pv 1))))),oC _ (K:=K) (nv (nR (i:=1) (pY nK)) (nv (xS (nD 0) (Ii (i:=1) (EM 2))) (oi (wH 1)))) h⟩⟩
abbrev rV:Stmt:=Ai 7
theorem rZ:nW ["m", "places", "place", "turn", "end"] ["m"] (nA rV):=by trivial
theorem EI     (D:za K mg "places_at" rV ["m"] f fd) (B:Bt mg)     : Fn P w K mg base 1 "places_at" rV ["m"] (pE K Zl.qU) f fd :=
 ⟨D,D.F.ok rZ (λ_ _ _ _=>qj) λrS A outer s H vs Q E hr h=>⟨_,(mZ (nM (i:=1) rZ.nd rfl (by trivial) zB) (mZ (rJ PassesOwn.never rfl (JQ (by rfl) B.enum (mW (pv 0) mY)) (Pj rfl (zg (pN (i:=2) rZ.nd rfl (by trivial)) (zg (pN (i:=3) rZ.nd rfl (by trivial)) JW))) (ng (rJ PassesOwn.never rfl (qq (pv 3)) (pN (i:=4) rZ.nd rfl (by trivial)) (ng (vZ (rm hr) (pv 1) (pv 4) (pv 2) rfl))))) (ng (oa (pv 1))))),oC _ (K:=K) (nv (nR (i:=1) Br) (nv (Kl (nD 0) (xS (nD 3) (wM (i:=1) (nD 2) (mX 4)))) (oi (wH 1)))) h⟩⟩
abbrev vp:Stmt:=Ai 9
theorem rL:nW ["m", "start", "place_of", "known", "waiting", "here", "end", "there"] ["m", "start"] (nA vp):=by trivial
theorem Io  (D:za K mg "reached" vp ["m", "start"] f fd) (B:Bt mg)   (G_places_at:Fn P w K mg base 1 "places_at" rV ["m"] (pE K Zl.qU) fplaces_at fdplaces_at)  : Fn P w K mg base 2 "reached" vp ["m", "start"] (pE K K51.uh) f fd :=
 ⟨D,D.F.ok rL (λ_ _ _ _=>qj) λrS A outer s H vs Q E hr h=>⟨_,(mZ (nM (i:=2) rL.nd rfl (by trivial) (qa G_places_at (hr.mono (by decide)) (mW (pv 0) mY))) (mZ (nM (i:=3) rL.nd rfl (by trivial) (ED (BL (pv 1) vE Fe) rfl rfl (by simp) (by decide))) (mZ (nM (i:=4) rL.nd rfl (by trivial) (pW (mW (pv 1) mY))) (mZ (zN PassesOwn.never (oO CC (nF oJ (by rfl) B.len PySem.boot_len (mW (pv 4) mY)) nq (pH _)) (mZ (nM (i:=5) rL.nd rfl (by trivial) (Ft aq cw cz Fd (pv 4))) (ng (rJ PassesOwn.never rfl (qq (qm pK (pv 0) (pv 5) (λ_ _=>rfl))) (pN (i:=6) rL.nd rfl (by trivial)) (mZ (nM (i:=7) rL.nd rfl (by trivial) (sS (rm hr) (pv 2) (AL xn (pv 6)) (by first|rfl|exact trivial|(intro _ _;rfl)))) (ng (qK (B7 (vx (rm hr) (pv 7) (pv 3))) (mZ (vZ (rm hr) (pv 3) (pv 7) vE rfl) (ng (pO (rP aq aW aX pR (pv 4) (mW (pv 7) mY))))) pB))))))) (ng (oa (nF (FA rfl) (by rfl) B.sorted dA (mW (pv 3) mY)))))))),oC _ (K:=K) (nv (nR (i:=2) (oW (nu (nD 0) nK))) (nv (nR (i:=3) (Cd (mX 1) (SR.kSc vF))) (nv (nR (i:=4) (pY (nu (nD 1) nK))) (nv (Ac 100000 (oP (nC B3 (pJ qt (nc (mX 4) nz)) nr)) (nv (K4 (i:=5) (BD (i:=4))) (xS (Cv (rG 0) (mX 5)) (nv (nR (i:=7) (SR.kSc (uS (mX 2) (AN xD (mX 6))))) (se (uo (vR (mX 7) (mX 3))) (nv (wM (i:=3) (SR.kSc vF) (mX 7)) (xX (i:=4) (nD 7))) pL))))) (oi (OZ (mX 3))))))) h⟩⟩
abbrev xj:Stmt:=Ai 10
theorem uf:nW ["m", "known", "found", "start", "places", "place"] ["m"] (nA xj):=by trivial
theorem MZ  (D:za K mg "pieces" xj ["m"] f fd) (B:Bt mg)   (G_reached:Fn P w K mg base 2 "reached" vp ["m", "start"] (pE K K51.uh) freached fdreached)  : Fn P w K mg base 3 "pieces" xj ["m"] (pE K K51.xG) f fd :=
 ⟨D,D.F.ok uf (λ_ _ _ _=>qj) λrS A outer s H vs Q E hr h=>⟨_,(mZ (nM (i:=1) uf.nd rfl (by trivial) zB) (mZ (nM (i:=2) uf.nd rfl (by trivial) (pW mY)) (mZ (rJ PassesOwn.never rfl (yj (by rfl) B.range (mW (nF oJ (by rfl) B.len PySem.boot_len (mW (pv 0) mY)) mY)) (pN (i:=3) uf.nd rfl (by trivial)) (ng (qK (B7 (vx (rm hr) (pv 3) (pv 1))) (mZ (nM (i:=4) uf.nd rfl (by trivial) (qa G_reached (hr.mono (by decide)) (mW (pv 0) (mW (pv 3) mY)))) (mZ (rJ PassesOwn.never rfl (qq (pv 4)) (pN (i:=5) uf.nd rfl (by trivial)) (ng (vZ (rm hr) (pv 1) (pv 5) vE rfl))) (ng (pO (rP aq aW aX pR (pv 2) (mW (wa (N:=["place", "m"]) (fr:=[0]) rfl rfl (by decide +kernel) rfl (by decide +kernel) rfl (uy.of (by decide +kernel) rfl rfl (by exact⟨rfl,trivial⟩) (by repeat (first|exact trivial|refine⟨(by first|exact λ_=>⟨_,rfl⟩|exact λh=>(by rcases h with h|h <;> cases h)),?_⟩)) (by exact⟨⟨rfl,rfl,rfl⟩,trivial⟩)) (qq (pv 4)) (λ_ _ _ _=>yV) (λ_ _ _ _=>(ug tR (by rfl) B.list cj (mW (qm pK (pv 1) (pv 0) (λ_ _=>rfl)) mY)))) mY)))))) pB))) (ng (oa (pv 2)))))),oC _ (K:=K) (nv (nR (i:=1) Br) (nv (nR (i:=2) (pY nK)) (nv (B9 (nc (pJ qt (nc (mX 0) nz)) nz) (se (uo (vR (mX 3) (mX 1))) (nv (nR (i:=4) (oW (nu (nD 0) (nu (nD 3) nK)))) (nv (xS (nD 4) (wM (i:=1) (SR.kSc vF) (mX 5))) (xX (i:=2) (uk (nD 4) yI (Bw (SL.q (SK.lOf (Cv (rG 1) (mX 0))))))))) pL)) (oi (wH 2))))) h⟩⟩
abbrev oQ:Stmt:=Ai 11
theorem vo:nW ["m"] ["m"] (nA oQ):=by trivial
theorem vg  {sW ve:Addr}  (D:za K mg "refuse_not_one_piece" oQ ["m"] f fd) (B:Bt mg)  (oZ:NL K mg "NotOnePiece" sW ve) (G_pieces:Fn P w K mg base 3 "pieces" xj ["m"] (pE K K51.xG) fpieces fdpieces)  : HM P w K mg base 4 "refuse_not_one_piece" oQ ["m"] (Dl K K51.nJ) f fd :=
 ⟨D,okX D.F vo (λvs H Q E h=>zG h) λrS A outer s H vs Q E hr h=>⟨_,(ng (qK (oO Ot (nF oJ (by rfl) B.len PySem.boot_len (mW (qa G_pieces (hr.mono (by decide)) (mW (pv 0) mY)) mY)) nq (pH _)) (ng (Gk oZ.i.rf Aq rfl (UJ oZ.i))) pB)),vC _ (K:=K) (OM (oP (nC N4 (pJ qt (nc (SK.rOf (oW (nu (nD 0) nK))) nz)) nr)) (Jh oZ.i.rf) (tI pL)) h⟩⟩
abbrev sZ:Stmt:=Ai 13
theorem Ag:nW ["turn", "end", "start"] ["turn", "end"] (nA sZ):=by trivial
theorem FD     (D:za K mg "turn_from" sZ ["turn", "end"] f fd) (B:Bt mg)     : Fn P w K mg base 1 "turn_from" sZ ["turn", "end"] (pE K K31.rO) f fd :=
 ⟨D,D.F.ok Ag (λ_ _ _ _=>qj) λrS A outer s H vs Q E hr h=>⟨_,(mZ (nM (i:=2) Ag.nd rfl (by trivial) (rP aq eO gv Gq (pv 0) (mW (pv 1) mY))) (ng (oa (ox Ie (vQ yi (pv 0) (wm (pv 2)) zd) (vQ yi (pv 0) zd (wm (pv 2))))))),oC _ (K:=K) (nv (nR (i:=2) (SR.kSc (Tc (T := "list") Hh (mX 0) (nc (mX 1) nz)))) (oi (HP (SK.lOf (DU (rG 0) (vX (mX 2)) zf)) (SK.lOf (DU (rG 0) zf (vX (mX 2))))))) h⟩⟩
abbrev qQ:Stmt:=Ai 14
theorem oN:nW ["m", "end", "place_of", "turns", "ends", "known", "spot", "other", "there"] ["m", "end"] (nA qQ):=by trivial
theorem CQ  (D:za K mg "round_turns" qQ ["m", "end"] f fd) (B:Bt mg)  (sR:WD P w K mg base "NotThere" "end" "end" VZ U2 Ti SB) (G_places_at:Fn P w K mg base 1 "places_at" rV ["m"] (pE K Zl.qU) fplaces_at fdplaces_at) (G_turn_from:Fn P w K mg base 1 "turn_from" sZ ["turn", "end"] (pE K K31.rO) fturn_from fdturn_from)  : HM P w K mg base 3 "round_turns" qQ ["m", "end"] (Dl K K31.qh) f fd :=
 ⟨D,okX D.F oN (λvs H Q E h=>zG h) λrS A outer s H vs Q E hr h=>⟨_,(mZ (nM (i:=2) oN.nd rfl (by trivial) (qa G_places_at (hr.mono (by decide)) (mW (pv 0) mY))) (mZ (qK (B7 (vx (rm hr) (pv 1) (pv 2))) (ng (Gk sR.i.rf Aq rfl (Uv sR.i (hr.mono (by decide)) (mW (pv 1) mY)))) pB) (mZ (nM (i:=3) oN.nd rfl (by trivial) (pW (mW (qa G_turn_from (hr.mono (by decide)) (mW (qm pK (pv 0) (sS (rm hr) (pv 2) (pv 1) (by first|rfl|exact trivial|(intro _ _;rfl))) (λ_ _=>rfl)) (mW (pv 1) mY))) mY))) (mZ (nM (i:=4) oN.nd rfl (by trivial) (ug tR (by rfl) B.list cj (mW (qm pK (pv 3) nq (λ_ _=>rfl)) mY))) (mZ (nM (i:=5) oN.nd rfl (by trivial) (ED (BL (sS (rm hr) (pv 2) (pv 1) (by first|rfl|exact trivial|(intro _ _;rfl))) vE Fe) rfl rfl (by simp) (by decide))) (mZ (nM (i:=6) oN.nd rfl (by trivial) nq) (mZ (zN PassesOwn.leaving (oO Th (pv 6) (nF oJ (by rfl) B.len PySem.boot_len (mW (pv 4) mY)) (pH _)) (mZ (nM (i:=7) oN.nd rfl (by trivial) (AL xn (qm pK (pv 4) (pv 6) (λ_ _=>rfl)))) (mZ (nM (i:=8) oN.nd rfl (by trivial) (sS (rm hr) (pv 2) (pv 7) (by first|rfl|exact trivial|(intro _ _;rfl)))) (mZ (qK (B7 (vx (rm hr) (pv 8) (pv 5))) (mZ (vZ (rm hr) (pv 5) (pv 8) vE rfl) (mZ (pO (rP aq aW aX pR (pv 3) (mW (qa G_turn_from (hr.mono (by decide)) (mW (qm pK (pv 0) (pv 8) (λ_ _=>rfl)) (mW (pv 7) mY))) mY))) (ng (pO (rP aq dw dz yl (pv 4) (mW (qm pK (pv 3) (AL xn nq) (λ_ _=>rfl)) mY)))))) pB) (ng (Vs (i:=6) oN.nd rfl (by trivial) nq UV)))))) (ng (oa (pv 3)))))))))),vC _ (K:=K) (rD (tI (nR (i:=2) (oW (nu (nD 0) nK)))) (rD (OM (uo (vR (mX 1) (mX 2))) (L3 sR.i.rf sR.i.nf (nc (mX 1) nz)) (tI pL)) (rD (tI (nR (i:=3) (pY (nu (oW (nu (Cv (rG 0) (uS (mX 2) (mX 1))) (nu (nD 1) nK))) nK)))) (rD (tI (nR (i:=4) (Bw (SL.q (SK.lOf (Cv (rG 3) nr)))))) (rD (tI (nR (i:=5) (Cd (uS (mX 2) (mX 1)) (SR.kSc vF)))) (rD (tI (nR (i:=6) (SR.kSc nr))) (rD (tI (Ac 100000 (oP (nC S9 (mX 6) (pJ qt (nc (mX 4) nz)))) (nv (nR (i:=7) (SR.kSc (AN xD (nC yu (mX 4) (mX 6))))) (nv (nR (i:=8) (SR.kSc (uS (mX 2) (mX 7)))) (nv (se (uo (vR (mX 8) (mX 5))) (nv (wM (i:=5) (SR.kSc vF) (mX 8)) (nv (xX (i:=3) (oW (nu (Cv (rG 0) (mX 8)) (nu (nD 7) nK)))) (Ii (i:=4) (SK.lOf (Cv (rG 3) (AN xD nr)))))) pL) (Vw (i:=6) nr)))))) (tI (oi (wH 3)))))))))) h⟩⟩
abbrev sv:Stmt:=Ai 15
theorem DE:nW ["m", "end"] ["m", "end"] (nA sv):=by trivial
theorem Dp  (D:za K mg "round_ends" sv ["m", "end"] f fd) (B:Bt mg)   (G_told_ends:Fn P w K mg base 1 "told_ends" rN ["turns"] (pE K Zl.qY) ftold_ends fdtold_ends) (G_round_turns:HM P w K mg base 3 "round_turns" qQ ["m", "end"] (Dl K K31.qh) fround_turns fdround_turns)  : HM P w K mg base 4 "round_ends" sv ["m", "end"] (Dl K K31.qE) f fd :=
 ⟨D,okX D.F DE (λvs H Q E h=>zG h) λrS A outer s H vs Q E hr h=>⟨_,(ng (oa (qa G_told_ends (hr.mono (by decide)) (mW (CP G_round_turns (hr.mono (by decide)) vN (mW (pv 0) (mW (pv 1) mY))) mY)))),vC _ (K:=K) (GV (nu (nD 0) (nu (nD 1) nK))) h⟩⟩
abbrev tD:Stmt:=Ai 17
theorem FJ:nW ["spots", "turn"] ["spots", "turn"] (nA tD):=by trivial
theorem FN     (D:za K mg "turn_code" tD ["spots", "turn"] f fd) (B:Bt mg)    (b_tuple:mg "tuple" = none)   : Fn P w K mg base 1 "turn_code" tD ["spots", "turn"] (pE K K33.qB) f fd :=
 ⟨D,D.F.ok FJ (λ_ _ _ _=>qj) λrS A outer s H vs Q E hr h=>⟨_,(ng (oa (ug yC (by rfl) b_tuple eR (mW (wa (N:=["end", "spots"]) (fr:=[0]) rfl rfl (by decide +kernel) rfl (by decide +kernel) rfl (uy.of (by decide +kernel) rfl rfl (by exact⟨rfl,trivial⟩) (by repeat (first|exact trivial|refine⟨(by first|exact λ_=>⟨_,rfl⟩|exact λh=>(by rcases h with h|h <;> cases h)),?_⟩)) (by exact⟨⟨rfl,rfl,rfl⟩,trivial⟩)) (qq (pv 1)) (λ_ _ _ _=>yV) (λ_ _ _ _=>(sS (rm hr) (pv 1) (AL xn (pv 0)) (by first|rfl|exact trivial|(intro _ _;rfl))))) mY)))),oC _ (K:=K) (oi (G6 (SL.q (SK.lOf (uk (nD 1) yI (SR.kSc (uS (mX 1) (AN xD (mX 0))))))))) h⟩⟩
abbrev vi:Stmt:=Ai 16
theorem wj:nW ["turns", "spots", "spot", "end"] ["turns"] (nA vi):=by trivial
theorem JF  (D:za K mg "code_of" vi ["turns"] f fd) (B:Bt mg)    (b_tuple:mg "tuple" = none) (G_told_ends:Fn P w K mg base 1 "told_ends" rN ["turns"] (pE K Zl.qY) ftold_ends fdtold_ends) (G_turn_code:Fn P w K mg base 1 "turn_code" tD ["spots", "turn"] (pE K K33.qB) fturn_code fdturn_code)  : Fn P w K mg base 2 "code_of" vi ["turns"] (pE K K33.vz) f fd :=
 ⟨D,D.F.ok wj (λ_ _ _ _=>qj) λrS A outer s H vs Q E hr h=>⟨_,(mZ (nM (i:=1) wj.nd rfl (by trivial) zB) (mZ (rJ PassesOwn.never rfl (JQ (by rfl) B.enum (mW (qa G_told_ends (hr.mono (by decide)) (mW (pv 0) mY)) mY)) (Pj rfl (zg (pN (i:=2) wj.nd rfl (by trivial)) (zg (pN (i:=3) wj.nd rfl (by trivial)) JW))) (ng (vZ (rm hr) (pv 1) (pv 3) (pv 2) rfl))) (ng (oa (ug yC (by rfl) b_tuple eR (mW (wa (N:=["turn", "spots"]) (fr:=[1]) rfl rfl (by decide +kernel) rfl (by decide +kernel) rfl (uy.of (by decide +kernel) rfl rfl (by exact⟨rfl,trivial⟩) (by repeat (first|exact trivial|refine⟨(by first|exact λ_=>⟨_,rfl⟩|exact λh=>(by rcases h with h|h <;> cases h)),?_⟩)) (by exact⟨⟨rfl,rfl,rfl⟩,trivial⟩)) (qq (pv 0)) (λ_ _ _ _=>yV) (λ_ _ _ _=>(qa G_turn_code (hr.mono (by decide)) (mW (pv 1) (mW (pv 0) mY))))) mY)))))),oC _ (K:=K) (nv (nR (i:=1) Br) (nv (Kl (oW (nu (nD 0) nK)) (wM (i:=1) (nD 2) (mX 3))) (oi (G6 (SL.q (SK.lOf (uk (nD 0) yI (oW (nu (nD 1) (nu (nD 0) nK)))))))))) h⟩⟩
abbrev su:Stmt:=Ai 18
theorem Dy:nW ["m", "end"] ["m", "end"] (nA su):=by trivial
theorem Dq  (D:za K mg "round_code" su ["m", "end"] f fd) (B:Bt mg)   (G_code_of:Fn P w K mg base 2 "code_of" vi ["turns"] (pE K K33.vz) fcode_of fdcode_of) (G_round_turns:HM P w K mg base 3 "round_turns" qQ ["m", "end"] (Dl K K31.qh) fround_turns fdround_turns)  : HM P w K mg base 4 "round_code" su ["m", "end"] (Dl K K33.qF) f fd :=
 ⟨D,okX D.F Dy (λvs H Q E h=>zG h) λrS A outer s H vs Q E hr h=>⟨_,(ng (oa (qa G_code_of (hr.mono (by decide)) (mW (CP G_round_turns (hr.mono (by decide)) vN (mW (pv 0) (mW (pv 1) mY))) mY)))),vC _ (K:=K) (GV (nu (nD 0) (nu (nD 1) nK))) h⟩⟩
abbrev rW:Stmt:=Ai 20
theorem tY:nW ["m", "start", "code", "ends"] ["m"] (nA rW):=by trivial
theorem EK  (D:za K mg "own_turns" rW ["m"] f fd) (B:Bt mg)   (G_refuse_not_one_piece:HM P w K mg base 4 "refuse_not_one_piece" oQ ["m"] (Dl K K51.nJ) frefuse_not_one_piece fdrefuse_not_one_piece) (G_round_code:HM P w K mg base 4 "round_code" su ["m", "end"] (Dl K K33.qF) fround_code fdround_code) (G_round_ends:HM P w K mg base 4 "round_ends" sv ["m", "end"] (Dl K K31.qE) fround_ends fdround_ends)  : HM P w K mg base 5 "own_turns" rW ["m"] (Dl K K39.oE) f fd :=
 ⟨D,okX D.F tY (λvs H Q E h=>zG h) λrS A outer s H vs Q E hr h=>have hu:=hr.units;⟨_,(mZ (pO (CP G_refuse_not_one_piece (hr.mono (by decide)) vN (mW (pv 0) mY))) (mZ (qK (oO AR (nF oJ (by rfl) B.len PySem.boot_len (mW (qm pK (pv 0) nq (λ_ _=>rfl)) mY)) nq (pH _)) (ng (oa (pW (mW (pW mY) mY)))) pB) (mZ (nM (i:=1) tY.nd rfl (by trivial) (qm pK (qm pK (pv 0) nq (λ_ _=>rfl)) nq (λ_ _=>rfl))) (mZ (nM (i:=2) tY.nd rfl (by trivial) (CP G_round_code (hr.mono (by decide)) vN (mW (pv 0) (mW (pv 1) mY)))) (mZ (nM (i:=3) tY.nd rfl (by trivial) (CP G_round_ends (hr.mono (by decide)) vN (mW (pv 0) (mW (pv 1) mY)))) (ng (oa (nF (zU hu) (by rfl) B.sorted dA (mW (wa (N:=["end", "ends", "m", "code"]) (fr:=[3,0,2]) rfl rfl (by decide +kernel) rfl (by decide +kernel) rfl (uy.of (by decide +kernel) rfl rfl (by exact⟨rfl,rfl,rfl,trivial⟩) (by repeat (first|exact trivial|refine⟨(by first|exact λ_=>⟨_,rfl⟩|exact λh=>(by rcases h with h|h <;> cases h)),?_⟩)) (by exact⟨⟨rfl,rfl,rfl⟩,⟨rfl,rfl,rfl⟩,⟨rfl,rfl,rfl⟩,trivial⟩)) (qq (pv 3)) (λ_ _ _ _=>Vc (oO (Iy hu) (Fc G_round_code (hr.mono (by decide)) (mW (pv 2) (mW (pv 0) mY))) (pv 3) (pH _))) (λ_ _ _ _=>(Q0 rfl (by rfl) B.sorted (by rfl) B.zip (mW (pv 1) (mW (Fc G_round_ends (hr.mono (by decide)) (mW (pv 2) (mW (pv 0) mY))) mY))))) mY))))))))),vC _ (K:=K) (rD (P5 (nu (nD 0) nK)) (rD (tI (se (oP (nC zj (pJ qt (nc (nC yu (mX 0) nr) nz)) nr)) (oi (pY (nu (pY nK) nK))) pL)) (rD (tI (nR (i:=1) (SR.kSc (nC yu (nC yu (mX 0) nr) nr)))) (rD (JV (i:=2) (nu (nD 0) (nu (nD 1) nK))) (rD (JV (i:=3) (nu (nD 0) (nu (nD 1) nK))) (tI (oi (DL (uk (nD 3) (oP (nC Jb (SK.rOf (oW (nu (nD 2) (nu (nD 0) nK)))) (mX 3))) (RE (nc (mX 1) (nc (SK.rOf (oW (nu (nD 2) (nu (nD 0) nK)))) nz)))))))))))) h⟩⟩
abbrev vq:Stmt:=Ai 22
theorem L7:nW ["_law_script", "_law_k"] ["_law_script", "_law_k"] (nA vq):=by trivial
theorem Lu     (D:za K mg "_law_cell" vq ["_law_script", "_law_k"] f fd) (B:Bt mg)     : Fn P w K mg base 1 "_law_cell" vq ["_law_script", "_law_k"] (pE K Zl.oj) f fd :=
 ⟨D,D.F.ok L7 (λ_ _ _ _=>qj) λrS A outer s H vs Q E hr h=>⟨_,(mZ (qK (oO Th (pv 1) (nF oJ (by rfl) B.len PySem.boot_len (mW (pv 0) mY)) (pH _)) (ng (oa (qm pK (pv 0) (pv 1) (λ_ _=>rfl)))) pB) (ng (oa nq))),oC _ (K:=K) (nv (se (oP (nC S9 (mX 1) (pJ qt (nc (mX 0) nz)))) (oi (SR.kSc (nC yu (mX 0) (mX 1)))) pL) (oi (SR.kSc nr))) h⟩⟩
abbrev ya:Stmt:=Ai 23
theorem vH:nW ["_law_one", "_law_two", "_law_k", "_law_step", "_law_shift"] ["_law_one", "_law_two", "_law_k"] (nA ya):=by trivial
theorem Mh     (D:za K mg "_law_name" ya ["_law_one", "_law_two", "_law_k"] f fd) (B:Bt mg)     : Fn P w K mg base 1 "_law_name" ya ["_law_one", "_law_two", "_law_k"] (pE K K31.rA) f fd :=
 ⟨D,D.F.ok vH (λ_ _ _ _=>qj) λrS A outer s H vs Q E hr h=>⟨_,(mZ (nM (i:=3) vH.nd rfl (by trivial) nq) (mZ (nM (i:=4) vH.nd rfl (by trivial) nq) (mZ (qK (oO CC (ox sq (pv 0) nq) nq (pH _)) (mZ (nM (i:=3) vH.nd rfl (by trivial) (ox xi nq (ox sq (ox wo (pv 0) nq) (ox Oa nq nq)))) (ng (nM (i:=4) vH.nd rfl (by trivial) (ox sq (ox wo (pv 1) nq) (ox Oa nq nq))))) pB) (ng (oa (ox xi (ox BY (pv 3) (ox xi (ox sq (ox xi (ox BY (ox xi nq (ox sq (pv 1) nq)) (pv 2)) (pv 0)) nq) nq)) (pv 4))))))),oC _ (K:=K) (nv (nR (i:=3) (SR.kSc nr)) (nv (nR (i:=4) (SR.kSc nr)) (nv (se (oP (nC B3 (nC sC (mX 0) nr) nr)) (nv (nR (i:=3) (SR.kSc (nC xJ nr (nC sC (nC yO (mX 0) nr) (nC Qa nr nr))))) (nR (i:=4) (SR.kSc (nC sC (nC yO (mX 1) nr) (nC Qa nr nr))))) pL) (oi (SR.kSc (nC xJ (nC C9 (mX 3) (nC xJ (nC sC (nC xJ (nC C9 (nC xJ nr (nC sC (mX 1) nr)) (mX 2)) (mX 0)) nr) nr)) (mX 4))))))) h⟩⟩
abbrev vB:Stmt:=Ai 24
theorem qk:nW ["_law_cells", "_law_names", "_law_wild", "_law_turns_here", "_law_way", "_law_loose", "_law_left", "_law_cell_here", "_law_here", "_law_at", "_law_end"] ["_law_cells", "_law_names", "_law_wild"] (nA vB):=by trivial
theorem IL     (D:za K mg "_law_turns" vB ["_law_cells", "_law_names", "_law_wild"] f fd) (B:Bt mg)     : Fn P w K mg base 1 "_law_turns" vB ["_law_cells", "_law_names", "_law_wild"] (pE K K31.vk) f fd :=
 ⟨D,D.F.ok qk (λ_ _ _ _=>qj) λrS A outer s H vs Q E hr h=>⟨_,(mZ (nM (i:=3) qk.nd rfl (by trivial) (pW (mW (pW mY) mY))) (mZ (nM (i:=4) qk.nd rfl (by trivial) (pW (mW nq mY))) (mZ (nM (i:=5) qk.nd rfl (by trivial) (pW mY)) (mZ (nM (i:=6) qk.nd rfl (by trivial) (ug tR (by rfl) B.list cj (mW (pv 1) mY))) (mZ (rJ PassesOwn.never rfl (qq (pv 0)) (pN (i:=7) qk.nd rfl (by trivial)) (mZ (nM (i:=8) qk.nd rfl (by trivial) (qm pK (pv 3) (qm pK (pv 4) (ox C8 (nF oJ (by rfl) B.len PySem.boot_len (mW (pv 4) mY)) nq) (λ_ _=>rfl)) (λ_ _=>rfl))) (ng (qK (PW.pt (Iw (oO AR (ox sq (pv 7) nq) nq (pH _)) (Fq (oO CC (nF oJ (by rfl) B.len PySem.boot_len (mW (pv 4) mY)) nq (pH _))))) (ng (pO (Ft aq cw cz Fd (pv 4)))) (ng (qK (PW.pt (Iw (oO AR (ox sq (pv 7) nq) nq (pH _)) (Fq (oO CC (nF oJ (by rfl) B.len PySem.boot_len (mW (pv 5) mY)) nq (pH _))))) (mZ (nM (i:=9) qk.nd rfl (by trivial) (ox C8 (nF oJ (by rfl) B.len PySem.boot_len (mW (pv 5) mY)) nq)) (mZ (qK (wI (pv 2)) (ng (nM (i:=9) qk.nd rfl (by trivial) (ox sq (ox wo (pv 7) nq) (nF oJ (by rfl) B.len PySem.boot_len (mW (pv 5) mY))))) pB) (ng (pO (rP aq aW aX pR (pv 8) (mW (rP aq cw cz GF (pv 5) (mW (pv 9) mY)) mY)))))) (ng (qK (oO CC (nF oJ (by rfl) B.len PySem.boot_len (mW (pv 6) mY)) nq (pH _)) (mZ (nM (i:=10) qk.nd rfl (by trivial) (ox BY (rP aq cw cz GF (pv 6) (mW nq mY)) (ox C8 nq (ox BY nq (ox sq (ox wo (pv 7) nq) nq))))) (mZ (pO (rP aq aW aX pR (pv 8) (mW (pv 10) mY))) (ng (qK (oO AR (ox sq (pv 7) nq) nq (pH _)) (mZ (pO (rP aq aW aX pR (pv 3) (mW (pW (mW (AL xn (pv 10)) mY)) mY))) (ng (pO (rP aq aW aX pR (pv 4) (mW (ox C8 (nF oJ (by rfl) B.len PySem.boot_len (mW (pv 3) mY)) nq) mY))))) (ng (pO (rP aq aW aX pR (pv 5) (mW (AL xn (pv 10)) mY)))))))) pB)))))))) (mZ (zN PassesOwn.never (oO CC (nF oJ (by rfl) B.len PySem.boot_len (mW (pv 5) mY)) nq (pH _)) (ng (pO (rP aq aW aX pR (qm pK (pv 3) (qm pK (pv 4) (ox C8 (nF oJ (by rfl) B.len PySem.boot_len (mW (pv 4) mY)) nq) (λ_ _=>rfl)) (λ_ _=>rfl)) (mW (Ft aq cw cz Fd (pv 5)) mY))))) (ng (oa (pv 3))))))))),oC _ (K:=K) (nv (nR (i:=3) (pY (nu (pY nK) nK))) (nv (nR (i:=4) (pY (nu (SR.kSc nr) nK))) (nv (nR (i:=5) (pY nK)) (nv (nR (i:=6) (Bw (rG 1))) (nv (xS (nD 0) (UO (Jl (Et 3) (nC yu (mX 4) (nC Co (pJ qt (nc (mX 4) nz)) nr))) (PN (Iq (oP (nC zj (nC sC (mX 7) nr) nr)) (oP (nC B3 (pJ qt (nc (mX 4) nz)) nr))) (Tj (Pg (BD (i:=4)))) (PN (Iq (oP (nC zj (nC sC (mX 7) nr) nr)) (oP (nC B3 (pJ qt (nc (mX 5) nz)) nr))) (IJ (Kn (SR.kSc (nC Co (pJ qt (nc (mX 5) nz)) nr)) (by decide)) (IJ (VJ (uo (mX 2)) (Kn (SR.kSc (nC sC (nC yO (mX 7) nr) (pJ qt (nc (mX 5) nz)))) (by decide)) (Qg (λ_ _ _ h=>h))) (Rk (Hg (i:=5) (mX 9))))) (PN (oP (nC B3 (pJ qt (nc (mX 6) nz)) nr)) (IJ (PL (W8 C9 (Hg (i:=6) nr) (nC Co nr (nC C9 nr (nC sC (nC yO (mX 7) nr) nr)))) (by decide)) (Vo (VE (nD 10)) (se (oP (nC zj (nC sC (mX 7) nr) nr)) (nv (xX (i:=3) (pY (nu (SR.kSc (AN xD (mX 10))) nK))) (xX (i:=4) (SR.kSc (nC Co (pJ qt (nc (mX 3) nz)) nr)))) (xX (i:=5) (SR.kSc (AN xD (mX 10))))))) (Tj pL)))))) (nv (Ac 100000 (oP (nC B3 (pJ qt (nc (mX 5) nz)) nr)) (O1 (Jl (Et 3) (nC yu (mX 4) (nC Co (pJ qt (nc (mX 4) nz)) nr))) (BD (i:=5)))) (oi (wH 3)))))))) h⟩⟩
abbrev uD:Stmt:=Ai 25
theorem A4:nW ["_law_turn", "_law_at"] ["_law_turn"] (nA uD):=by trivial
theorem GP     (D:za K mg "_law_turned" uD ["_law_turn"] f fd) (B:Bt mg)     : Fn P w K mg base 1 "_law_turned" uD ["_law_turn"] (pE K Zl.uC) f fd :=
 ⟨D,D.F.ok A4 (λ_ _ _ _=>qj) λrS A outer s H vs Q E hr h=>⟨_,(mZ (qK (oO AR (nF oJ (by rfl) B.len PySem.boot_len (mW (pv 0) mY)) nq (pH _)) (ng (oa (pW mY))) pB) (mZ (nM (i:=1) A4.nd rfl (by trivial) (rP aq eO gv Gq (pv 0) (mW (nF (M3 rfl) (by rfl) B.min gG (mW (pv 0) mY)) mY))) (ng (oa (ox Ie (vQ yi (pv 0) (wm (pv 1)) zd) (vQ yi (pv 0) zd (wm (pv 1)))))))),oC _ (K:=K) (nv (se (oP (nC zj (pJ qt (nc (mX 0) nz)) nr)) (oi (pY nK)) pL) (nv (nR (i:=1) (SR.kSc (Tc (T := "list") Hh (mX 0) (nc (pJ UU (nc (mX 0) nz)) nz)))) (oi (HP (SK.lOf (DU (rG 0) (vX (mX 1)) zf)) (SK.lOf (DU (rG 0) zf (vX (mX 1)))))))) h⟩⟩
abbrev xN:Stmt:=Ai 26
theorem Ly:nW ["_law_turns_here"] ["_law_turns_here"] (nA xN):=by trivial
theorem MW  (D:za K mg "_law_good" xN ["_law_turns_here"] f fd) (B:Bt mg)   (Iz:Fn P w K mg base 1 "_law_turned" uD ["_law_turn"] (pE K Zl.uC) fL_turned fdL_turned)  : Fn P w K mg base 2 "_law_good" xN ["_law_turns_here"] (pE K Zl.pM) f fd :=
 ⟨D,D.F.ok Ly (λ_ _ _ _=>qj) λrS A outer s H vs Q E hr h=>have hu:=hr.units;⟨_,(ng (oa (nF (Fl hu) (by rfl) B.sorted dA (mW (wa (cl:=[]) (N:=["_law_turn"]) (fr:=[]) rfl rfl (by decide +kernel) rfl (by decide +kernel) rfl (uy.none (by decide +kernel)) (qq (pv 0)) (λ_ _ _ _=>yV) (λ_ _ _ _=>(qa Iz (hr.mono (by decide)) (mW (pv 0) mY)))) mY)))),oC _ (K:=K) (oi (MC (uk (nD 0) yI (oW (nu (nD 0) nK))))) h⟩⟩
abbrev vw:Stmt:=Ai 27
theorem Lg:nW ["_law_m"] ["_law_m"] (nA vw):=by trivial
theorem MM     (D:za K mg "_law_copy" vw ["_law_m"] f fd) (B:Bt mg)     : Fn P w K mg base 1 "_law_copy" vw ["_law_m"] (pE K K51.uz) f fd :=
 ⟨D,D.F.ok Lg (λ_ _ _ _=>qj) λrS A outer s H vs Q E hr h=>⟨_,(ng (oa (wa (cl:=[]) (N:=["_law_turn"]) (fr:=[]) rfl rfl (by decide +kernel) rfl (by decide +kernel) rfl (uy.none (by decide +kernel)) (qq (pv 0)) (λ_ _ _ _=>yV) (λ_ _ _ _=>(ug tR (by rfl) B.list cj (mW (pv 0) mY)))))),oC _ (K:=K) (oi (uk (nD 0) yI (Bw (rG 0)))) h⟩⟩
abbrev vU:Stmt:=Ai 28
theorem Jk:nW ["_law_found"] ["_law_found"] (nA vU):=by trivial
theorem IM     (D:za K mg "_law_whole" vU ["_law_found"] f fd) (B:Bt mg)     : Fn P w K mg base 1 "_law_whole" vU ["_law_found"] (pE K K72.ue) f fd :=
 ⟨D,D.F.ok Jk (λ_ _ _ _=>qj) λrS A outer s H vs Q E hr h=>⟨_,(ng (oa (Fm (nF wY (by rfl) B.isi bq (mW (pv 0) (mW (yp (v:=.ty "int") (by rfl) B.int iV rfl) mY))) (Ju (NW (nF wY (by rfl) B.isi bq (mW (pv 0) (mW (yp (v:=.ty "bool") (by rfl) B.bool iR rfl) mY)))))))),oC _ (K:=K) (oi (SR.kSc (Fg (pJ De (nc (mX 0) (nc D3 nz))) (Og (pJ De (nc (mX 0) (nc D3 nz))))))) h⟩⟩
abbrev ur:Stmt:=Ai 29
theorem uL:nW ["_law_m", "_law_follow_here", "_law_turn", "_law_k"] ["_law_m"] (nA ur):=by trivial
theorem HE     (D:za K mg "_law_follow" ur ["_law_m"] f fd) (B:Bt mg)     : Fn P w K mg base 1 "_law_follow" ur ["_law_m"] (pE K K15.vJ) f fd :=
 ⟨D,D.F.ok uL (λ_ _ _ _=>qj) λrS A outer s H vs Q E hr h=>⟨_,(mZ (nM (i:=1) uL.nd rfl (by trivial) zB) (mZ (rJ PassesOwn.never rfl (qq (pv 0)) (pN (i:=2) uL.nd rfl (by trivial)) (ng (rJ PassesOwn.never rfl (yj (by rfl) B.range (mW (nF oJ (by rfl) B.len PySem.boot_len (mW (pv 2) mY)) mY)) (pN (i:=3) uL.nd rfl (by trivial)) (ng (vZ (rm hr) (pv 1) (qm pK (pv 2) (pv 3) (λ_ _=>rfl)) (qm pK (pv 2) (ox sq (ox xi (pv 3) nq) (nF oJ (by rfl) B.len PySem.boot_len (mW (pv 2) mY))) (λ_ _=>rfl)) rfl))))) (ng (oa (pv 1))))),oC _ (K:=K) (nv (nR (i:=1) Br) (nv (xS (nD 0) (B9 (nc (pJ qt (nc (mX 2) nz)) nz) (wM (i:=1) (SR.kSc (nC yu (mX 2) (nC sC (nC xJ (mX 3) nr) (pJ qt (nc (mX 2) nz))))) (nC yu (mX 2) (mX 3))))) (oi (wH 1)))) h⟩⟩
abbrev vm:Stmt:=Ai 30
theorem Cg:nW ["_law_found", "_law_pair"] ["_law_found"] (nA vm):=by trivial
theorem IG  (D:za K mg "_law_pairs" vm ["_law_found"] f fd) (B:Bt mg)    (b_tuple:mg "tuple" = none) (D5:Fn P w K mg base 1 "_law_whole" vU ["_law_found"] (pE K K72.ue) fL_whole fdL_whole)  : Fn P w K mg base 2 "_law_pairs" vm ["_law_found"] (pE K K39.ui) f fd :=
 ⟨D,D.F.ok Cg (λ_ _ _ _=>qj) λrS A outer s H vs Q E hr h=>⟨_,(mZ (qK (xV (wI (nF wY (by rfl) B.isi bq (mW (pv 0) (mW (yp (v:=.ty "list") (by rfl) B.list cj rfl) mY))))) (ng (oa vE)) pB) (mZ (rJ PassesOwn.never rfl (qq (pv 0)) (pN (i:=1) Cg.nd rfl (by trivial)) (mZ (qK (PW.pt (J7 (xV (wI (nF wY (by rfl) B.isi bq (mW (pv 1) (mW (yp (v:=.ty "tuple") (by rfl) b_tuple eR rfl) mY))))) (EB (oO Ot (nF oJ (by rfl) B.len PySem.boot_len (mW (pv 1) mY)) nq (pH _))))) (ng (oa vE)) pB) (ng (qK (PW.pt (J7 (xV (wI (qa D5 (hr.mono (by decide)) (mW (qm xf (pv 1) nq (λ_ _=>rfl)) mY)))) (EB (xV (wI (qa D5 (hr.mono (by decide)) (mW (qm xf (pv 1) nq (λ_ _=>rfl)) mY))))))) (ng (oa vE)) pB)))) (ng (oa vE)))),oC _ (K:=K) (nv (se (xv (uo (pJ De (nc (mX 0) (nc D3 nz))))) (oi (SR.kSc vF)) pL) (nv (xS (nD 0) (nv (se (JM (xv (uo (pJ De (nc (mX 1) (nc D3 nz))))) (oP (nC N4 (pJ qt (nc (mX 1) nz)) nr))) (oi (SR.kSc vF)) pL) (se (JM (xv (uo (sV (nc (nC wZ (mX 1) nr) nz)))) (xv (uo (sV (nc (nC wZ (mX 1) nr) nz))))) (oi (SR.kSc vF)) pL))) (oi (SR.kSc vF)))) h⟩⟩
abbrev xt:Stmt:=Ai 32
theorem vG:nW ["_law_ones", "_law_others", "_law_end", "_law_other", "_law_image", "_law_ahead", "_law_at", "_law_pair"] ["_law_ones", "_law_others", "_law_end", "_law_other"] (nA xt):=by trivial
theorem Mm     (D:za K mg "_law_laid" xt ["_law_ones", "_law_others", "_law_end", "_law_other"] f fd) (B:Bt mg)     : Fn P w K mg base 1 "_law_laid" xt ["_law_ones", "_law_others", "_law_end", "_law_other"] (pE K K39.uG) f fd :=
 ⟨D,D.F.ok vG (λ_ _ _ _=>qj) λrS A outer s H vs Q E hr h=>⟨_,(mZ (nM (i:=4) vG.nd rfl (by trivial) (ED (BL (pv 2) (pv 3) Fe) rfl rfl (by simp) (by decide))) (mZ (nM (i:=5) vG.nd rfl (by trivial) (pW (mW (pv 2) mY))) (mZ (zN PassesOwn.never (oO CC (nF oJ (by rfl) B.len PySem.boot_len (mW (pv 5) mY)) nq (pH _)) (mZ (nM (i:=6) vG.nd rfl (by trivial) (Ft aq cw cz Fd (pv 5))) (ng (rJ PassesOwn.never rfl (qq (pW (mW (JD (mW (AL xn (pv 6)) (mW (AL xn (sS (rm hr) (pv 4) (pv 6) (by first|rfl|exact trivial|(intro _ _;rfl)))) mY))) (mW (JD (mW (sS (rm hr) (pv 0) (pv 6) (by first|rfl|exact trivial|(intro _ _;rfl))) (mW (sS (rm hr) (pv 1) (sS (rm hr) (pv 4) (pv 6) (by first|rfl|exact trivial|(intro _ _;rfl))) (by first|rfl|exact trivial|(intro _ _;rfl))) mY))) mY)))) (pN (i:=7) vG.nd rfl (by trivial)) (ng (qK (B7 (vx (rm hr) (qm xf (pv 7) nq (λ_ _=>rfl)) (pv 4))) (mZ (vZ (rm hr) (pv 4) (qm xf (pv 7) nq (λ_ _=>rfl)) (qm xf (pv 7) nq (λ_ _=>rfl)) rfl) (ng (pO (rP aq aW aX pR (pv 5) (mW (qm xf (pv 7) nq (λ_ _=>rfl)) mY))))) (ng (qK (oO Ot (sS (rm hr) (pv 4) (qm xf (pv 7) nq (λ_ _=>rfl)) (by first|rfl|exact trivial|(intro _ _;rfl))) (qm xf (pv 7) nq (λ_ _=>rfl)) (pH _)) (ng (oa IR)) pB)))))))) (ng (oa (pv 4)))))),oC _ (K:=K) (nv (nR (i:=4) (Cd (mX 2) (nD 3))) (nv (nR (i:=5) (pY (nu (nD 2) nK))) (nv (Ac 100000 (oP (nC B3 (pJ qt (nc (mX 5) nz)) nr)) (nv (K4 (i:=6) (BD (i:=5))) (xS (pY (nu (Ol (nu (SR.kSc (AN xD (mX 6))) (nu (SR.kSc (AN xD (uS (mX 4) (mX 6)))) nK))) (nu (Ol (nu (SR.kSc (Hz (mX 0) (mX 6))) (nu (SR.kSc (Hz (mX 1) (uS (mX 4) (mX 6)))) nK))) nK))) (se (uo (vR (nC wZ (mX 7) nr) (mX 4))) (nv (wM (i:=4) (SR.kSc (nC wZ (mX 7) nr)) (nC wZ (mX 7) nr)) (xX (i:=5) (SR.kSc (nC wZ (mX 7) nr)))) (se (oP (nC N4 (uS (mX 4) (nC wZ (mX 7) nr)) (nC wZ (mX 7) nr))) (oi (SR.kSc Jn)) pL))))) (oi (wH 4))))) h⟩⟩
abbrev xQ:Stmt:=Ai 33
theorem uj:nW ["_law_script", "_law_many", "_law_turns_here", "_law_each", "_law_part", "_law_names", "_law_copy_here"] ["_law_script", "_law_many"] (nA xQ):=by trivial
theorem LI  (D:za K mg "_law_fold" xQ ["_law_script", "_law_many"] f fd) (B:Bt mg)   (Lj:Fn P w K mg base 1 "_law_turns" vB ["_law_cells", "_law_names", "_law_wild"] (pE K K31.vk) fL_turns fdL_turns) (Pa:Fn P w K mg base 1 "_law_name" ya ["_law_one", "_law_two", "_law_k"] (pE K K31.rA) fL_name fdL_name) (xp:Fn P w K mg base 1 "_law_cell" vq ["_law_script", "_law_k"] (pE K Zl.oj) fL_cell fdL_cell)  : Fn P w K mg base 2 "_law_fold" xQ ["_law_script", "_law_many"] (pE K K39.xq) f fd :=
 ⟨D,D.F.ok uj (λ_ _ _ _=>qj) λrS A outer s H vs Q E hr h=>⟨_,(mZ (nM (i:=2) uj.nd rfl (by trivial) (pW (mW (pW mY) mY))) (mZ (nM (i:=3) uj.nd rfl (by trivial) (ox wo nq (pv 1))) (mZ (rJ PassesOwn.never rfl (yj (by rfl) B.range (mW (pv 1) mY)) (pN (i:=4) uj.nd rfl (by trivial)) (mZ (Ra (i:=5) (N:=["_law_k", "_law_script", "_law_part", "_law_each"]) (fr:=[0,4,3]) rfl uj.nd rfl (by trivial) rfl (by decide +kernel) rfl (by decide +kernel) rfl (uy.of (by decide +kernel) rfl rfl (by exact⟨rfl,rfl,rfl,trivial⟩) (by repeat (first|exact trivial|refine⟨(by first|exact λ_=>⟨_,rfl⟩|exact λh=>(by rcases h with h|h <;> cases h)),?_⟩)) (by exact⟨⟨rfl,rfl,rfl⟩,⟨rfl,rfl,rfl⟩,⟨rfl,rfl,rfl⟩,trivial⟩)) (yj (by rfl) B.range (mW (pv 3) mY)) (λ_ _ _ _=>yV) (λ_ _ _ _=>(qa Pa (hr.mono (by decide)) (mW (qa xp (hr.mono (by decide)) (mW (pv 1) (mW nq mY))) (mW (qa xp (hr.mono (by decide)) (mW (pv 1) (mW nq mY))) (mW (ox xi (ox BY (pv 2) (pv 3)) (pv 0)) mY)))))) (mZ (nM (i:=6) uj.nd rfl (by trivial) (qa Lj (hr.mono (by decide)) (mW (vQ yi (pv 0) (wm nq) (wm nq)) (mW (pv 5) (mW (FI AR (ox sq (qa xp (hr.mono (by decide)) (mW (pv 0) (mW nq mY))) nq) nq (pH _)) mY))))) (mZ (pO (rP aq dw dz yl (qm pK (pv 2) nq (λ_ _=>rfl)) (mW (qm pK (pv 6) nq (λ_ _=>rfl)) mY))) (ng (pO (rP aq dw dz yl (pv 2) (mW (vQ yi (pv 6) (wm nq) zd) mY)))))))) (ng (oa (pv 2)))))),oC _ (K:=K) (nv (nR (i:=2) (pY (nu (pY nK) nK))) (nv (nR (i:=3) (SR.kSc (nC yO nr (mX 1)))) (nv (B9 (nc (mX 1) nz) (nv (nR (i:=5) (Lb (nc (mX 3) nz) yI (SR.kSc (sV (nc (sV (nc (mX 1) (nc nr nz))) (nc (sV (nc (mX 1) (nc nr nz))) (nc (nC xJ (nC C9 (mX 2) (mX 3)) (mX 0)) nz))))))) (nv (nR (i:=6) (oW (nu (DU (rG 0) (vX nr) (vX nr)) (nu (nD 5) (nu (SR.kSc (nC zj (nC sC (sV (nc (mX 0) (nc nr nz))) nr) nr)) nK))))) (nv (R9 (Jl (Et 2) nr) (SK.lOf (Cv (rG 6) nr))) (Ii (i:=2) (SK.lOf (DU (rG 6) (vX nr) zf))))))) (oi (wH 2))))) h⟩⟩
abbrev sY:Stmt:=Ai 34
theorem tX:nW ["_law_m", "_law_told", "e"] ["_law_m"] (nA sY):=by trivial
theorem EL  {IX:Addr}{HC:List Value}{sW ve:Addr}{Gr:Addr}{LS:List Value}  (D:za K mg "_law_refused" sY ["_law_m"] f fd) (B:Bt mg)  (sJ:RK K mg "MapError" IX HC) (oZ:NL K mg "NotOnePiece" sW ve) (zi:RK K mg "TooBig" Gr LS) (b_VE:mg "ValueError" = none) (G_own_turns:HM P w K mg base 5 "own_turns" rW ["m"] (Dl K K39.oE) fown_turns fdown_turns) (CD:Fn P w K mg base 1 "_law_copy" vw ["_law_m"] (pE K K51.uz) fL_copy fdL_copy)  : Fn P w K mg base 6 "_law_refused" sY ["_law_m"] (pE K K39.qc) f fd :=
 ⟨D,D.F.ok tX (λ_ _ _ _=>qj) λrS A outer s H vs Q E hr h=>⟨_,(mZ (nM (i:=1) tX.nd rfl (by trivial) IR) (mZ (SN G_own_turns (hr.mono (by decide)) (mW (qa CD (hr.mono (by decide)) (mW (pv 0) mY)) mY) (W3 (i:=2) sJ.xc sJ.base sJ.mgc tX.nd rfl rfl (λ_=>(ng (nM (i:=1) tX.nd rfl (by trivial) (pv 2)))) Ug)) (ng (oa (Fm (nF C5 (by rfl) B.isi bq (mW (pv 1) (mW (KA (v:=.ref sW) (by rfl) (oZ.mgc) rfl) mY))) (Fm (nF C5 (by rfl) B.isi bq (mW (pv 1) (mW (yp (v:=.ty "ValueError") (by rfl) b_VE R5 rfl) mY))) (Ju (NW (nF C5 (by rfl) B.isi bq (mW (pv 1) (mW (KA (v:=.ref Gr) (by rfl) (zi.mgc) rfl) mY))))))))))),oC _ (K:=K) (nv (nR (i:=1) (SR.kSc Jn)) (nv (RX (nu (oW (nu (nD 0) nK)) nK) (Xg sJ.c (nR (i:=1) (nD 2)) Vd)) (oi (SR.kSc (Fg (pJ HW (nc (mX 1) (nc (Qk oZ.c) nz))) (Fg (pJ HW (nc (mX 1) (nc D3 nz))) (Og (pJ HW (nc (mX 1) (nc (Qk zi.c) nz)))))))))) h⟩⟩
abbrev Ad:Stmt:=Ai 35
theorem vT:nW ["_law_m", "_law_follow_here", "_law_found", "_law_start", "_law_end", "_law_image"] ["_law_m"] (nA Ad):=by trivial
theorem Oe  (D:za K mg "_law_all" Ad ["_law_m"] f fd) (B:Bt mg)   (Jd:Fn P w K mg base 1 "_law_follow" ur ["_law_m"] (pE K K15.vJ) fL_follow fdL_follow) (Nw:Fn P w K mg base 1 "_law_laid" xt ["_law_ones", "_law_others", "_law_end", "_law_other"] (pE K K39.uG) fL_laid fdL_laid)  : Fn P w K mg base 2 "_law_all" Ad ["_law_m"] (pE K K39.tU) f fd :=
 ⟨D,D.F.ok vT (λ_ _ _ _=>qj) λrS A outer s H vs Q E hr h=>have hu:=hr.units;⟨_,(mZ (nM (i:=1) vT.nd rfl (by trivial) (qa Jd (hr.mono (by decide)) (mW (pv 0) mY))) (mZ (qK (oO AR (nF Er (by rfl) B.len PySem.boot_len (mW (pv 1) mY)) nq (pH _)) (ng (oa (pW (mW (pW mY) mY)))) pB) (mZ (nM (i:=2) vT.nd rfl (by trivial) (pW mY)) (mZ (nM (i:=3) vT.nd rfl (by trivial) (nF (Lw rfl) (by rfl) B.min gG (mW (pv 1) mY))) (mZ (rJ PassesOwn.never rfl (Xe.Sd (pv 1)) (pN (i:=4) vT.nd rfl (by trivial)) (mZ (nM (i:=5) vT.nd rfl (by trivial) (qa Nw (hr.mono (by decide)) (mW (pv 1) (mW (pv 1) (mW (pv 3) (mW (pv 4) mY)))))) (ng (qK (PW.pt (Iw (oO QO (pv 5) IR (pH _)) (Fq (oO AR (nF Er (by rfl) B.len PySem.boot_len (mW (pv 5) mY)) (nF LY (by rfl) B.len PySem.boot_len (mW (pv 1) mY)) (pH _))))) (ng (pO (rP aq aW aX pR (pv 2) (mW (My rfl (by rfl) B.sorted (pv 5)) mY)))) pB)))) (ng (oa (nF (zU hu) (by rfl) B.sorted dA (mW (pv 2) mY))))))))),oC _ (K:=K) (nv (nR (i:=1) (oW (nu (nD 0) nK))) (nv (se (oP (nC zj (pJ JK (nc (mX 1) nz)) nr)) (oi (pY (nu (pY nK) nK))) pL) (nv (nR (i:=2) (pY nK)) (nv (nR (i:=3) (SR.kSc (pJ Rx (nc (mX 1) nz)))) (nv (Sh (x:=4) (i:=1) (nv (nR (i:=5) (oW (nu (nD 1) (nu (nD 1) (nu (nD 3) (nu (nD 4) nK)))))) (se (Iq (oP (nC QL (mX 5) Jn)) (oP (nC zj (pJ JK (nc (mX 5) nz)) (pJ RM (nc (mX 1) nz))))) (xX (i:=2) (Ml (mX 5))) pL))) (oi (DL (wH 2)))))))) h⟩⟩
abbrev yz:Stmt:=Ai 36
theorem AF:nW ["_law_script", "_law_pick", "_law_m", "_law_handed", "_law_found", "_law_row"] ["_law_script"] (nA yz):=by trivial
theorem UG  (D:za K mg "law" yz ["_law_script"] f fd) (B:Bt mg)   (xp:Fn P w K mg base 1 "_law_cell" vq ["_law_script", "_law_k"] (pE K Zl.oj) fL_cell fdL_cell) (OH:Fn P w K mg base 2 "_law_good" xN ["_law_turns_here"] (pE K Zl.pM) fL_good fdL_good) (CD:Fn P w K mg base 1 "_law_copy" vw ["_law_m"] (pE K K51.uz) fL_copy fdL_copy) (G_own_turns:HM P w K mg base 5 "own_turns" rW ["m"] (Dl K K39.oE) fown_turns fdown_turns) (Pe:Fn P w K mg base 2 "_law_fold" xQ ["_law_script", "_law_many"] (pE K K39.xq) fL_fold fdL_fold) (Kk:Fn P w K mg base 2 "_law_all" Ad ["_law_m"] (pE K K39.tU) fL_all fdL_all) (AU:Fn P w K mg base 6 "_law_refused" sY ["_law_m"] (pE K K39.qc) fL_refused fdL_refused) (LF:Fn P w K mg base 2 "_law_pairs" vm ["_law_found"] (pE K K39.ui) fL_pairs fdL_pairs)  : Fn P w K mg base 7 "law" yz ["_law_script"] (pE K K39.KL) f fd :=
 ⟨D,D.F.ok AF (λ_ _ _ _=>qj) λrS A outer s H vs Q E hr h=>have hu:=hr.units;⟨_,(mZ (nM (i:=1) AF.nd rfl (by trivial) (qa xp (hr.mono (by decide)) (mW (pv 0) (mW nq mY)))) (mZ (nM (i:=2) AF.nd rfl (by trivial) (qa OH (hr.mono (by decide)) (mW (qa Pe (hr.mono (by decide)) (mW (pv 0) (mW (qm pK (pW (mW nq (mW nq (mW nq (mW nq (mW nq (mW nq mY))))))) (ox sq (ox wo (pv 1) nq) nq) (λ_ _=>rfl)) mY))) mY))) (mZ (qK (PW.pt (J7 (xV (wI (qa AU (hr.mono (by decide)) (mW (pW mY) mY)))) (EB (xV (wI (qa AU (hr.mono (by decide)) (mW (ox Ie (ox Vy (pW (mW (pW mY) mY)) (ox xi nq (ox sq (ox wo (pv 1) nq) nq))) (pv 2)) mY))))))) (ng (oa vE)) pB) (mZ (nM (i:=3) AF.nd rfl (by trivial) (qa CD (hr.mono (by decide)) (mW (pv 2) mY))) (mZ (nM (i:=4) AF.nd rfl (by trivial) (Fc G_own_turns (hr.mono (by decide)) (mW (pv 3) mY))) (mZ (qK (PW.pt (J7 (xV (wI (nF wY (by rfl) B.isi bq (mW (pv 4) (mW (yp (v:=.ty "list") (by rfl) B.list cj rfl) mY))))) (EB (oO (N7 hu) (pv 3) (pv 2) (pH _))))) (ng (oa vE)) pB) (mZ (qK (xV (wI (nF (N3 rfl) (by rfl) B.all iW (mW (wa (cl:=[]) (N:=["_law_row"]) (fr:=[]) rfl rfl (by decide +kernel) rfl (by decide +kernel) rfl (uy.none (by decide +kernel)) (qq (pv 4)) (λ_ _ _ _=>yV) (λ_ _ _ _=>(qa LF (hr.mono (by decide)) (mW (pv 0) mY)))) mY)))) (ng (oa vE)) pB) (mZ (qK (oO (N7 hu) (pv 4) (qa Kk (hr.mono (by decide)) (mW (pv 2) mY)) (pH _)) (ng (oa vE)) pB) (mZ (rJ PassesOwn.never rfl (qq (pv 4)) (pN (i:=5) AF.nd rfl (by trivial)) (ng (pO (rP aq aW aX pR (pv 5) (mW (JD (mW nq (mW nq mY))) mY))))) (ng (oa (Fm (FI (Iy hu) (pv 3) (pv 2) (pH _)) (Ju (FI (Iy hu) (Fc G_own_turns (hr.mono (by decide)) (mW (pv 3) mY)) (qa Kk (hr.mono (by decide)) (mW (pv 2) mY)) (pH _))))))))))))))),oC _ (K:=K) (nv (nR (i:=1) (SR.kSc (sV (nc (mX 0) (nc nr nz))))) (nv (nR (i:=2) (oW (nu (oW (nu (nD 0) (nu (SR.kSc (nC yu (SK.rOf (pY (nu (SR.kSc nr) (nu (SR.kSc nr) (nu (SR.kSc nr) (nu (SR.kSc nr) (nu (SR.kSc nr) (nu (SR.kSc nr) nK)))))))) (nC sC (nC yO (mX 1) nr) nr))) nK))) nK))) (nv (se (JM (xv (uo (sV (nc (SK.rOf (pY nK)) nz)))) (xv (uo (sV (nc (SK.rOf (HP (SK.lOf (VQ (SK.lOf (pY (nu (pY nK) nK))) (nC xJ nr (nC sC (nC yO (mX 1) nr) nr)))) (EM 2))) nz))))) (oi (SR.kSc vF)) pL) (nv (nR (i:=3) (oW (nu (nD 2) nK))) (nv (nR (i:=4) (oW (nu (nD 3) nK))) (nv (se (JM (xv (uo (pJ De (nc (mX 4) (nc D3 nz))))) (oP (nC Pi (mX 3) (mX 2)))) (oi (SR.kSc vF)) pL) (nv (se (xv (uo (pJ UL (nc (SK.rOf (QR (uk (nD 4) yI (SR.kSc (sV (nc (mX 0) nz)))))) nz)))) (oi (SR.kSc vF)) pL) (nv (se (oP (nC Pi (mX 4) (SK.rOf (oW (nu (nD 2) nK))))) (oi (SR.kSc vF)) pL) (nv (LL (i:=4) (x:=5)) (oi (SR.kSc (Fg (nC Jb (mX 3) (mX 2)) (nC Jb (SK.rOf (oW (nu (nD 3) nK))) (SK.rOf (oW (nu (nD 2) nK)))))))))))))))) h⟩⟩
end
end K39
namespace Zl
open PySem L2 Mr Z
theorem Fp(ns:List Int) {k:Int}(h:0<=k):oj [.scr ns,.int k]=some (.sh (.int (cell ns k.toNat))):=by
 by_cases c:k<(ns.length:Int)
 .have hk:k.toNat<ns.length:=by lia
  have e:ns.getD k.toNat 0=ns[k.toNat]:=Bl hk
  simp_arith [oj,wy,c,K0 h,gEg hk,cell,e]
 .have hk:ns.length<=k.toNat:=by lia
  have e:ns.getD k.toNat 0=0:=by rw[gDq,bu hk];rfl
  simp_arith [oj,wy,c,cell,e]
theorem XJ(ns:List Int):oj [.scr ns,.int 0]=some (.sh (.int (cell ns 0))):=Fp ns (by decide)
theorem Xo(ns:List Int):oj [.scr ns,.int 1]=some (.sh (.int (cell ns 1))):=Fp ns (by decide)
theorem Nz(ns:List Int):oj [.scr ns,.int 2]=some (.sh (.int (cell ns 2))):=Fp ns (by decide)
theorem Mx{n:Int}{ns:List Int}:ns.foldl min n∈n::ns/\∀x∈n::ns,ns.foldl min n<=x:=⟨qN ns n,λx hx=>(ao.mp hx).elim (λe=>e ▸ (qD ns n).1) ((qD ns n).2 x)⟩
theorem LJ{ns:List Int}(hl:ns.length<=500000):uC [dI ns]=some (aI (zS ns)):=by
 cases ns with
 |nil =>
  have h1:((0:Nat):Int)=0:=rfl
  simp_arith [uC,Av,h1]
  rfl
 |cons n ns =>
  obtain⟨h1,h2⟩:=Mx (n:=n) (ns:=ns);have e:=AY h1 h2;have hle:=Jg (n::ns);have hne:¬ ((n::ns).length:Int)=0:=by simp only[lCq];lia
  have hm:Se [dI (n::ns)]=some (.int (ns.foldl min n)):=by
   show (qi ((n::ns).map D.int)).bind (λns=>(zM ns).map D.int)=_
   rw[rH];rfl
  have hx:AB (dI (n::ns)) [.int (ns.foldl min n)]=some (.int (pZ (n::ns) (n::ns).length:Nat)):=by
   show (qi ((n::ns).map D.int)).bind _=_;rw[rH];show (if _ then _ else _)=_
   rw[nP h1,e]
  generalize hN:n::ns=N at *;have hlen:(N.drop (pZ N N.length)).length+(N.take (pZ N N.length)).length<=qp:=by rw[aR,lTq];show _<=16777216;lia
  simp_arith [uC,Av,hne,hm,hx,CF,K3 N _ hle,An N _ hle,hlen,←mBq,Bp]
  rfl
theorem qb{rs:List (List Int)}{i:Nat}{r:List Int}(h:rs[i]?=some r):(rs.take (i+1)).flatten=(rs.take i).flatten++r:=by
 rw[de,h,fAq];simp
theorem tJ(rs:List (List Int)) (i:Nat):(rs.take i).flatten.length<=rs.flatten.length:=by
 have:=congrArg bb (congrArg List.flatten (bo i rs));rw[fAq,lAq]at this;lia
theorem E2{rs:List (List Int)}{i:Nat}{d:D}(h:(rs.map dI)[i]?=some d):∃r,rs[i]?=some r/\d=dI r:=by
 rw[gMq]at h;obtain⟨r,h1,h2⟩:=oMq.mp h;exact⟨r,h1,h2.symm⟩
theorem QW{ns:List Int}{i:Nat}{d:D}(h:(ns.map D.int)[i]?=some d):∃z,ns[i]?=some z/\d = .int z:=by
 rw[gMq]at h;obtain⟨r,h1,h2⟩:=oMq.mp h;exact⟨r,h1,h2.symm⟩
theorem Ks{rs:List (List Int)}(hl:rs.flatten.length<=500000):qY [dM rs]=some (aI rs.flatten):=by
 have key:=xu (x:=2) (body:=uE) (λi S=>∃v,S=[some (.sh (dM rs)),some (aI (rs.take i).flatten),v]) (ds:=rs.map dI) (S:=[some (.sh (dM rs)),some (.ow []),none]) ⟨none,by simp⟩ (by
  rintro i d S hd ⟨v,rfl⟩;obtain⟨r,hr,rfl⟩:=E2 hd;have h1:=qb hr;have h2:=tJ rs (i+1);rw[h1,lAq]at h2;have h3:(rs.take i).flatten.length+r.length<=qp:=by show _<=16777216;lia
  refine⟨_,?_,some (.sh (dI r)),rfl⟩;rw[h1]
  simp_arith [uE,h3,Bp,←mBq])
 obtain⟨S',e,v,rfl⟩:=key;rw[lMq,bx]at e
 simp_arith [qY,zk,e]
theorem UA{rs:List (List Int)}{d:D}(h:d∈rs.map dI):∃r∈rs,d=dI r:=by
 obtain⟨r,h1,h2⟩:=mMq.mp h;exact⟨r,h1,h2.symm⟩
def Rr:D->List Int
 | .list ds=>(qi ds).getD []
 |_=>[]
theorem Kw(r:List Int):Rr (dI r)=r:=by
 show (qi (r.map D.int)).getD []=r;rw[rH];rfl
theorem PQ{β:Type}(g:List Int->β) (rs:List (List Int)):(rs.map dI).map (λd=>g (Rr d))=rs.map g:=by
 rw[mPq];exact mCq λr _=>by show g (Rr (dI r))=g r;rw[Kw]
theorem GM{rs:List (List Int)}(hl:∀r∈rs,r.length<=500000):qX tL (qo uC (nH (ot 0) oM)) [] (rs.map dI)=some ((rs.map zS).map aI):=by
 rw[sX (λd=>aI (zS (Rr d)))]
 .rw [PQ (λr=>aI (zS r)),mPq]
  rfl
 .intro d hd;obtain⟨r,hr,rfl⟩:=UA hd;refine⟨[some (.sh (dI r))],?_⟩
  simp_arith [LJ (hl r hr),Kw]
theorem Xm{ts:List (List Int)}{a:Nat}(h:a<ts.length):atI (ts.map dI) (a:Int)=some (dI (ts.getD a [])):=by
 rw[SG,K0 (by lia),cY,gDq,gEg h]
 rfl
theorem Ax{rs:List (List Int)}(hl:∀r∈rs,r.length<=500000) (h7:rs.length<=qp):pM [dM rs]=some (.ow ((yZ (rs.map zS)).map aI)):=by
 have h6:=GM (rs:=rs) hl
 simp_arith [pM,vO,h6,h7]
end Zl
namespace Zl
open PySem L2 Mr Z Xe
section
variable {rs:List (List Int)}(hl:rs.flatten.length<=500000)
include hl
end
end Zl
namespace K12
open PySem L2 Mr Z Xe Zl
abbrev aP(part:List (List Int)):AV:=.ow (part.map aI)
theorem N2{α β:Type}(f:α->β) (l:List α) (i:Nat) (a:α):(l.map f).set i (f a)=(l.set i a).map f:=by rw[List.map_set]
structure Wd where
 P0:List (List (List Int))
 last:List (List Int)
 t0:List Nat
 h:Nat
 left:List Int
 used:Nat
abbrev cN(ks:List Nat):List Int:=ks.map λn:Nat=>(n:Int)
def st(v0 v1:Option AV) (w:Wd) (v6 v7 v8 v9:Option AV):AS:=[v0,v1,some (.ow ((w.P0++[w.last]).map aP)),some (aI (cN (w.t0++[w.h]))),some (aI w.left),some (.sh (.int (w.used:Int))),v6,v7,v8,v9]
section
variable {nm:List Int}{P0:List (List (List Int))}{last:List (List Int)}{t0:List Nat}{hd:Nat}{left r:List Int}{used:Nat}{c e:Int}{v0 v1 v8:Option AV}
theorem C1(r:List Int) (e:Int):(r.map λn=>AV.sh (.int n))++[.sh (.int e)]=(r++[e]).map λn=>.sh (.int n):=by rw[mBq];rfl
theorem Rc(r s:List Int):(r.map λn=>AV.sh (.int n))++(s.map D.int).map AV.sh=(r++s).map λn=>.sh (.int n):=by rw[mBq,mPq];rfl
theorem Sb(l:List (List Int)) (e:Int):l.map aI++[.ow [.sh (.int e)]]=(l++[[e]]).map aI:=by rw[mBq];rfl
theorem TJ(ks:List Nat) (n:Nat):(cN ks).map (λn=>AV.sh (.int n))++[.sh (.int (n:Int))]=(cN (ks++[n])).map λn=>.sh (.int n):=by unfold cN;rw[mBq,mBq];rfl
theorem NO{α β:Type}(f:α->β):∀(l:List α) (i:Nat),(l.map f).eraseIdx i=(l.eraseIdx i).map f
 | [],i=>rfl
 |x::l,0=>rfl
 |x::l,i+1=>by rw[aB,cH,cH,NO f l i,aB]
end
theorem Af{x r:List Int}(a:Int):∀{l:List (List Int)}{h:Nat},l[h]?=some r->(l.set h (r++x)).flatten.count a=l.flatten.count a+x.count a
 | [],_,h=>by simp at h
 |s::l,0,h=>by
  cases h;rw[cT,fCq,fCq,cAq,cAq,cAq];lia
 |s::l,h+1,e=>by
  rw[eJ,fCq,fCq,cAq,cAq,Af a (by simpa using e)]
  lia
theorem DJ(a:Int):∀{l:List Int}{j:Nat},j<l.length->(l.eraseIdx j).count a+[l.getD j 0].count a=l.count a
 | [],_,h=>by simp at h
 |x::l,0,_=>by
  rw[eS,show x::l=[x]++l from rfl,cAq]
  show l.count a+[x].count a=_;lia
 |x::l,j+1,h=>by
  have ih:=DJ a (l:=l) (j:=j) (by simpa using h)
  rw[cH,show x::l.eraseIdx j=[x]++l.eraseIdx j from rfl,show (x::l).getD (j+1) 0=l.getD j 0 from rfl,show x::l=[x]++l from rfl,cAq,cAq]
  lia
theorem Km{l:List (List Int)}{h:Nat}{r:List Int}(e:l[h]?=some r):r.length<=l.flatten.length:=eT.length_le (bf (mGq e))
end K12
namespace Zl
open PySem L2 Mr Z
def tG(p:Nat) (r:List Int):List (nO×D):=r.map λe=>(.inl e,.int (p:Int))
def oV:Nat->List (List Int)->List (nO×D)
 |_,[]=>[]
 |p,r::rs=>tG p r++oV (p+1) rs
theorem A0(r:List Int):∀(rs:List (List Int)) (p:Nat),oV p (rs++[r])=oV p rs++tG (p+rs.length) r
 | [],p=>by simp[oV]
 |s::rs,p=>by
  show tG p s++oV (p+1) (rs++[r])=(tG p s++oV (p+1) rs)++_;rw[A0 r rs (p+1),aF,lCq,show p+1+rs.length=p+(rs.length+1) by lia]
theorem xo:∀(rs:List (List Int)) (p:Nat),(oV p rs).map (·.1)=rs.flatten.map az
 | [],p=>rfl
 |r::rs,p=>by
  show (tG p r++oV (p+1) rs).map (·.1)=_;rw[mBq,xo rs (p+1),fCq,mBq];congr 1;unfold tG;rw[mPq];rfl
theorem Ij(rs:List (List Int)) (p:Nat):(oV p rs).length=rs.flatten.length:=by
 have:=congrArg bb (xo rs p)
 rwa [lMq,lMq]at this
theorem B0{kvs:List (nO×D)}{k:nO}{d:D}(h:k∉kvs.map (·.1)):vh kvs k d=kvs++[(k,d)]:=by
 unfold vh;rw[nQ];intro e;obtain⟨kv,hk,e⟩:=eB.mp e;exact h (mMq.mpr ⟨kv,hk,of_decide_eq_true e⟩)
theorem getD_app{k:nO}:∀{a b:List (nO×D)},k∉a.map (·.1)->Z.getD (a++b) k=Z.getD b k
 | [],b,_=>rfl
 |x::a,b,h=>by
  unfold Z.getD;rw[List.cons_append,cg (by
   intro e;exact h (by rw[←of_decide_eq_true e];simp))]
  exact getD_app (k:=k) (a:=a) (b:=b) λm=>h (by simp only[aB,ao];exact .inr m)
theorem Hc{p:Nat}{e:Int}{b:List (nO×D)}:∀{r:List Int},e∈r->Z.getD (tG p r++b) (.inl e)=some (.int p)
 | [],h=>by cases h
 |x::r,h=>by
  unfold Z.getD;show ((((az x:nO),D.int (p:Int))::(tG p r++b)).find? _).map _=_
  by_cases c:x=e
  .subst c;rw[cP (by simp)]
   rfl
  .rw [cg (by simp[c])]
   exact Hc (r:=r) ((ao.mp h).resolve_left λz=>c z.symm)
theorem wq{e:Int}{r:List Int}:∀{rs:List (List Int)}{i:Nat}(p:Nat),rs.flatten.Nodup->rs[i]?=some r->e∈r->Z.getD (oV p rs) (.inl e)=some (.int ((p+i:Nat):Int))
 | [],i,p,_,h,_=>by simp at h
 |s::rs,0,p,hn,h,he=>by
  simp at h;subst h;exact Hc he
 |s::rs,i+1,p,hn,h,he=>by
  rw[fCq,nAq]at hn;have h':rs[i]?=some r:=by simpa using h
  have:=wq (rs:=rs) (i:=i) (p+1) hn.2.1 h' he;rw[show p+1+i=p+(i+1) by lia]at this
  rw[←this];refine getD_app ?_;unfold tG;rw[mPq];intro m;obtain⟨x,hx,e2⟩:=mMq.mp m;cases e2;exact hn.2.2 _ hx _ (mFq.mpr ⟨r,mGq h',he⟩) rfl
theorem Ae{rs:List (List Int)}(hn:rs.flatten.Nodup) (hl:rs.flatten.length<=500000):qU [dM rs]=some (.owd (oV 0 rs)):=by
 have key:=OS (x:=2) (y:=3) (k:=0) (body:=um) (λi S=>∃v2 v3 v4,S=[some (.sh (dM rs)),some (.owd (oV 0 (rs.take i))),v2,v3,v4]) (ds:=rs.map dI) (S:=[some (.sh (dM rs)),some (.owd []),none,none,none]) ⟨none,none,none,rfl⟩ (by
  rintro i d S hd ⟨v2,v3,v4,rfl⟩;rw[bL];obtain⟨r,hr,rfl⟩:=E2 hd;have hfl:=qb hr;have hle:=tJ rs (i+1);have hi:i<rs.length:=(gSq.mp hr).1;have hnd:((rs.take i).flatten++r).Nodup:=by
   rw[←hfl];have e0:rs.flatten=(rs.take (i+1)).flatten++(rs.drop (i+1)).flatten:=by rw[←fAq,bo]
   rw[e0]at hn;exact(nAq.mp hn).1
  rw[hfl,lAq]at hle;have k2:=xu (x:=4) (body:=uH) (λj S=>∃v4,S=[some (.sh (dM rs)),some (.owd (oV 0 (rs.take i)++tG i (r.take j))),some (.sh (.int i)),some (.sh (dI r)),v4]) (ds:=r.map D.int) (S:=[some (.sh (dM rs)),some (.owd (oV 0 (rs.take i))),some (.sh (.int i)),some (.sh (dI r)),v4]) ⟨v4,by simp[tG]⟩ (by
   rintro j d S hd ⟨v4,rfl⟩;obtain⟨z,hz,rfl⟩:=QW hd;have hj:j<r.length:=(gSq.mp hz).1;have h3:(oV 0 (rs.take i)++tG i (r.take j)).length<qp:=Qw (by
    rw[lAq,Ij];unfold tG;rw[lMq,lTq];lia)
   have hput:vh (oV 0 (rs.take i)++tG i (r.take j)) (.inl z) (.int (i:Int))=oV 0 (rs.take i)++tG i (r.take (j+1)):=by
    rw[B0]
    .unfold tG;rw[rd hz,mBq,aF];rfl
    .rw [mBq,xo];intro m;have e1:r.take (j+1)=r.take j++[z]:=rd hz;rcases mAq.mp m with m|m
     .obtain ⟨x,hx,e2⟩:=mMq.mp m;cases e2;exact(nAq.mp hnd).2.2 _ hx _ (mGq hz) rfl
     .unfold tG at m;rw[mPq]at m;obtain⟨x,hx,e2⟩:=mMq.mp m;cases e2;have:=cZ.sublist (bD (j+1) r) (nAq.mp hnd).2.1;rw[e1]at this;exact(nAq.mp this).2.2 _ hx _ (by simp) rfl
   refine⟨_,?_,some (.sh (.int z)),rfl⟩
   simp_arith [uH,h3,hput])
  obtain⟨S2,e2,w4,rfl⟩:=k2;rw[lMq,bx]at e2;refine⟨_,?_,some (.sh (.int i)),some (.sh (dI r)),w4,rfl⟩;rw[rd hr,A0,lTq,cX (by lia),bL]
  simp_arith [um,e2])
 obtain⟨S',e,v2,v3,v4,rfl⟩:=key;rw[bL,lMq,bx]at e
 simp_arith [qU,zL,e]
theorem zo{c:MT}{body:MS}(P:AS->Prop) (μ:AS->Nat) (Qf:AS->Prop) (h:∀S,P S->∃b S1,c S=some (b,S1)/\(b=true->∃S2,body S1=some (.nx S2)/\P S2/\μ S2<μ S)/\(b=false->Qf S1)) :
  ∀(fuel:Nat) (S:AS),P S->μ S<fuel->∃S',qS c body fuel S=some (.nx S')/\Qf S'
 |0,S,_,hm=>absurd hm (cG _)
 |n+1,S,hp,hm=>by
  obtain⟨b,S1,e1,h1,h2⟩:=h S hp;rw[E5,e1,dD];cases b with
  |true =>
   obtain⟨S2,e2,p2,m2⟩:=h1 rfl;rw[nP rfl,e2];exact zo P μ Qf h n S2 p2 (by lia)
  |false =>
   rw[nQ (by simp)]
   exact⟨S1,rfl,h2 rfl⟩
end Zl
namespace Zl
open PySem L2 Mr Z Xe
def kd(ks:List Nat):List (nO×D):=ks.map λk:Nat=>((az (k:Int):nO),D.bl true)
theorem kd_any(ks:List Nat) (t:Nat):(kd ks).any (λkv=>decide (kv.1=(az (t:Int):nO)))=decide (t∈ks):=by
 induction ks with
 |nil=>simp[kd]
 |cons k ks ih =>
  unfold kd at ih ⊢;rw[aB,fe,ih]
  by_cases h:t=k
  .subst h;simp
  .have h':¬ (az (k:Int):nO)=az (t:Int):=λq=>h (by have:=az.inj q;lia)
   simp[h',h]
theorem kd_get(ks:List Nat) (t:Nat):(Z.getD (kd ks) (az (t:Int))).isSome=decide (t∈ks):=by
 unfold Z.getD;rw[dS,←kd_any,bA,fV,eB]
def addN(kn:List Nat) (t:Nat):List Nat:=if t∈kn then kn else kn++[t]
theorem kd_put2(ks:List Nat) (t:Nat):vh (kd ks) (az (t:Int)) (.bl true)=kd (addN ks t):=by
 unfold addN
 by_cases h:t∈ks
 .rw [nP h];unfold vh;rw[kd_any,decide_eq_true h,nP rfl];unfold kd;rw[mPq];refine mCq λk _=>?_
  show (if _ then _ else _)=_
  split <;> rfl
 .rw [nQ h];unfold vh;rw[kd_any,decide_eq_false h,nQ (by simp)]
  simp[kd]
def plc(rs:List (List Int)) (e:Int):Nat:=rs.findIdx λr=>decide (e∈r)
theorem same_place{rs:List (List Int)}(hn:rs.flatten.Nodup) {i j:Nat}{r s:List Int}{e:Int}(hi:rs[i]?=some r) (hj:rs[j]?=some s) (h1:e∈r) (h2:e∈s):i=j:=by
 have a:=wq 0 hn hi h1;have b:=wq 0 hn hj h2;rw[a]at b;have:=D.int.inj (ba.inj b);lia
theorem plc_eq{rs:List (List Int)}(hn:rs.flatten.Nodup) {i:Nat}{r:List Int}{e:Int}(hi:rs[i]?=some r) (h1:e∈r):plc rs e=i:=by
 have hl:rs.findIdx (λr=>decide (e∈r))<rs.length:=eZ ⟨r,mGq hi,decide_eq_true h1⟩
 have h2:=gL (xs:=rs) (p:=λr=>decide (e∈r)) (w:=hl)
 exact same_place hn (gEg hl) hi (of_decide_eq_true h2) h1
structure Mp (rs:List (List Int)):Prop where
 hn:rs.flatten.Nodup
 hl:rs.flatten.length<=1000
 hr:rs.length<=1000
 hneg:∀e∈rs.flatten, -e∈rs.flatten
theorem Mp.at{rs:List (List Int)}(h:Mp rs) {e:Int}(he:e∈rs.flatten):∃r,rs[plc rs e]?=some r/\e∈r:=by
 obtain⟨r,h1,h2⟩:=mFq.mp he;obtain⟨i,h3⟩:=aV.mp h1;exact⟨r,by rw[plc_eq h.hn h3 h2];exact h3,h2⟩
theorem Mp.kv{rs:List (List Int)}(h:Mp rs) {e:Int}(he:e∈rs.flatten):Z.getD (oV 0 rs) (az e)=some (.int (plc rs e:Int)):=by
 obtain⟨r,h1,h2⟩:=h.at he;have:=wq 0 h.hn h1 h2
 rwa [bL]at this
theorem Mp.lt{rs:List (List Int)}(h:Mp rs) {e:Int}(he:e∈rs.flatten):plc rs e<rs.length:=by
 obtain⟨r,h1,_⟩:=h.at he;exact(gSq.mp h1).1
theorem Mp.row{rs:List (List Int)}(h:Mp rs) {k:Nat}{r:List Int}(hk:rs[k]?=some r):r.length<=1000:=by
 have:=eT.length_le (bf (mGq hk));have:=h.hl;lia
theorem LP{α β:Type}{f:α->β->α}{a:α}{r:List β}{i:Nat}{e:β}(he:r[i]?=some e):(r.take (i+1)).foldl f a=f ((r.take i).foldl f a) e:=by
 obtain⟨hi,h2⟩:=gSq.mp he;rw[dm hi,fW,h2];rfl
end Zl
namespace K12
open PySem L2 Mr Z Xe Zl
def Ih(st sh a b k:Int):Int:=st*((a*k+b) % 67+1)+sh
theorem KF{st sh a b:Int}(h1:1<=st) (h2:1<=a) (h3:a<=66) {j k:Nat}(hj:j<67) (hk:k<67) (h:Ih st sh a b j=Ih st sh a b k):j=k:=by
 unfold Ih at h;have e1:st*((a*j+b) % 67+1)=st*((a*k+b) % 67+1):=by lia
 have e2:=Int.eq_of_mul_eq_mul_left (by lia) e1
 have e3:((a*j+b)-(a*k+b)) % 67=0:=Int.emod_eq_emod_iff_emod_sub_eq_zero.mp (by lia)
 have e4:(a*((j:Int)-k)) % 67=0:=by
  rw[←e3];congr 1;rw[Int.mul_sub];lia
 obtain⟨tn,rfl⟩:∃tn:Nat,a=(tn:Int)+1:=⟨(a-1).toNat,by lia⟩
 rcases fQ j k with q|q|q
 .exfalso;refine Mr.KG ⟨tn,by lia⟩ ⟨k-j,by lia⟩ (by show 0<k-j;lia) ?_
  show (tn+1)*(k-j) % 67=0;have e5:(((tn:Int)+1)*((k:Int)-j)) % 67=0:=by
   have:((tn:Int)+1)*((k:Int)-j) = -(((tn:Int)+1)*((j:Int)-k)):=by
    rw[←Int.mul_neg];congr 1;lia
   rw[this];lia
  have e6:(((tn+1)*(k-j) % 67:Nat):Int)=0:=by
   rw[←e5];push_cast [bZ q];rfl
  lia
 .exact q
 .exfalso;refine Mr.KG ⟨tn,by lia⟩ ⟨j-k,by lia⟩ (by show 0<j-k;lia) ?_
  show (tn+1)*(j-k) % 67=0;have e6:(((tn+1)*(j-k) % 67:Nat):Int)=0:=by
   rw[←e4];push_cast [bZ q];rfl
  lia
theorem GB:∀{l:List Int},l.Nodup->(∀x∈l,1<=x)->(l.flatMap λx=>[x, -x]).Nodup
 | [],_,_=>aT
 |x::l,hn,hp=>by
  have hn':=aA.mp hn;have px:=hp x (aD ..);rw[dg,nAq];refine⟨?_,GB hn'.2 λy hy=>hp y (mCo _ hy),λa ha b hb e=>?_⟩
  .rw [aA];refine⟨?_,by simp⟩
   rw[mSq];lia
  .subst e;obtain⟨y,hy,q⟩:=dE.mp hb;have py:=hp y (mCo _ hy);simp at ha q;have:y=x:=by lia
   exact hn'.1 (this ▸ hy)
end K12
namespace K51
open PySem L2 Mr Z Xe Zl
theorem J8{rs:List (List Int)}(hl:rs.length<=500000):uz [dM rs]=some (.ow (rs.map aI)):=by
 have key:=sX (te:=zP (uJ 0)) (cap:=[]) (λd=>match d with|.list ds=>.ow (ds.map .sh)|_=>.sh .non) (ds:=rs.map dI) (by
  intro d hd;obtain⟨r,_,rfl⟩:=mMq.mp hd;refine⟨[some (.sh (dI r))],?_⟩
  simp_arith [dI])
 have h1:rs.length<=qp:=by show _<=16777216;lia
 have e:(rs.map dI).map (λd=>match d with|D.list ds=>AV.ow (ds.map .sh)|_=>.sh .non)=rs.map aI:=by
  rw[mPq];refine mCq λr _=>?_
  show AV.ow ((r.map D.int).map .sh)=aI r;rw[mPq];rfl
 rw[e]at key
 simp_arith [uz,DQ,dM,key,h1]
def kd(ks:List Nat):List (nO×D):=ks.map λk:Nat=>((az (k:Int):nO),D.bl true)
def wd(ws:List Nat):List AV:=ws.map λk:Nat=>AV.sh (.int (k:Int))
theorem kd_any(ks:List Nat) (t:Nat):(kd ks).any (λkv=>decide (kv.1=(az (t:Int):nO)))=decide (t∈ks):=by
 induction ks with
 |nil=>simp[kd]
 |cons k ks ih =>
  unfold kd at ih ⊢;rw[aB,fe,ih]
  by_cases h:t=k
  .subst h;simp
  .have h':¬ (az (k:Int):nO)=az (t:Int):=λq=>h (by have:=az.inj q;lia)
   simp[h',h]
theorem kd_get(ks:List Nat) (t:Nat):(getD (kd ks) (az (t:Int))).isSome=decide (t∈ks):=by
 unfold getD;rw[dS,←kd_any,bA,fV,eB]
theorem O5{ks:List Nat}{t:Nat}(h:t∉ks):vh (kd ks) (az (t:Int)) (.bl true)=kd (ks++[t]):=by
 unfold vh;rw[kd_any,decide_eq_false h,nQ (by simp)]
 simp[kd]
theorem Im{kvs:List (nO×D)}{ks ws:List Nat}{e:Int}{t:Nat}{v0 v1 v5 v7:Option AV}(hg:getD kvs (az (-e))=some (.int (t:Int))) (hk:ks.length<500000) (hw:ws.length<500000) :
  qZ [v0,v1,some (.owd kvs),some (.owd (kd ks)),some (.ow (wd ws)),v5,some (.sh (.int e)),v7]=some (.nx [v0,v1,some (.owd kvs),some (.owd (kd (if t∈ks then ks else ks++[t]))),some (.ow (wd (if t∈ks then ws else ws++[t]))),v5,some (.sh (.int e)),some (.sh (.int (t:Int)))]):=by
 have l1:(kd ks).length<qp:=by unfold kd;rw[lMq];show _<16777216;lia
 have l2:(wd ws).length<qp:=by unfold wd;rw[lMq];show _<16777216;lia
 have hg2:=kd_get ks t
 by_cases h:t∈ks
 .rw [decide_eq_true h]at hg2
  simp_arith [qZ,hg,hg2,h]
 .rw [decide_eq_false h]at hg2;have hp:=O5 h;have hw2:wd ws++[.sh (.int (t:Int))]=wd (ws++[t]):=by simp[wd]
  simp_arith [qZ,hg,hg2,h,hp,l1,l2,hw2]
def Bv(pl:Int->Nat) (x:List Nat×List Nat) (e:Int):List Nat×List Nat:=if pl (-e)∈x.1 then x else (x.1++[pl (-e)],x.2++[pl (-e)])
theorem JX(pl:Int->Nat):∀(r:List Int) (x:List Nat×List Nat),(r.foldl (Bv pl) x).1.length<=x.1.length+r.length/\(r.foldl (Bv pl) x).2.length<=x.2.length+r.length
 | [],x=>⟨ai _,ai _⟩
 |e::r,x=>by
  obtain⟨h1,h2⟩:=JX pl r (Bv pl x e);have h3:(Bv pl x e).1.length<=x.1.length+1/\(Bv pl x e).2.length<=x.2.length+1:=by
   unfold Bv;split
   .exact ⟨bM _,bM _⟩
   .simp
  rw[bV,lCq];lia
theorem LM{kvs:List (nO×D)}{ks ws:List Nat}{r:List Int}{pl:Int->Nat}{v0 v1 v5 v6 v7:Option AV}(hg:∀e∈r,getD kvs (az (-e))=some (.int (pl (-e):Int))) (hk:ks.length+r.length<500000) (hw:ws.length+r.length<500000) :
  ∃v6' v7',qJ 6 qZ (r.map D.int) [v0,v1,some (.owd kvs),some (.owd (kd ks)),some (.ow (wd ws)),v5,v6,v7]=some (.nx [v0,v1,some (.owd kvs),some (.owd (kd (r.foldl (Bv pl) (ks,ws)).1)),some (.ow (wd (r.foldl (Bv pl) (ks,ws)).2)),v5,v6',v7']):=by
 have key:=xu (x:=6) (body:=qZ) (λi S=>∃v6' v7',S=[v0,v1,some (.owd kvs),some (.owd (kd ((r.take i).foldl (Bv pl) (ks,ws)).1)),some (.ow (wd ((r.take i).foldl (Bv pl) (ks,ws)).2)),v5,v6',v7']) (ds:=r.map D.int) (S:=[v0,v1,some (.owd kvs),some (.owd (kd ks)),some (.ow (wd ws)),v5,v6,v7])
  ⟨v6,v7,rfl⟩ (by
  rintro i d S hd ⟨v6',v7',rfl⟩;rw[gMq]at hd;obtain⟨e,he,rfl⟩:=oMq.mp hd;have hi:i<r.length:=(gSq.mp he).1;have hm:e∈r:=mGq he;obtain⟨n1,n2⟩:=JX pl (r.take i) (ks,ws);rw[lTq]at n1 n2;have n1':((r.take i).foldl (Bv pl) (ks,ws)).1.length<=ks.length+min i r.length:=n1;have n2':((r.take i).foldl (Bv pl) (ks,ws)).2.length<=ws.length+min i r.length:=n2;have step:=Im (v0:=v0) (v1:=v1) (v5:=v5) (v7:=v7') (hg e hm) (ks:=((r.take i).foldl (Bv pl) (ks,ws)).1) (ws:=((r.take i).foldl (Bv pl) (ks,ws)).2) (by lia) (by lia)
  have et:(r.take (i+1)).foldl (Bv pl) (ks,ws)=Bv pl ((r.take i).foldl (Bv pl) (ks,ws)) e:=by
   have:r[i]'hi=e:=by rw[gEg hi]at he;exact ba.inj he
   rw[dm hi,fW,this];rfl
  refine⟨_,step,some (.sh (.int e)),some (.sh (.int (pl (-e):Int))),?_⟩;rw[et];unfold Bv;split <;> rfl)
 obtain⟨S',e,v6',v7',rfl⟩:=key;rw[lMq,bx]at e;exact⟨v6',v7',e⟩
theorem Uz:∀(N:Nat) (l:List Nat),l.Nodup->(∀x∈l,x<N)->l.length<=N
 |0,l,_,h=>by
  cases l with
  |nil=>exact ai _
  |cons x l=>exact absurd (h x (aD ..)) (cG _)
 |N+1,l,hn,h=>by
  have h2:=Uz N (l.erase N) (hn.erase N) (λx hx=>by
   have:=(hn.mem_erase_iff).mp hx;have:=h x this.2;lia)
  rw[List.length_erase]at h2;split at h2 <;> lia
def plc(rs:List (List Int)) (e:Int):Nat:=rs.findIdx λr=>decide (e∈r)
theorem same_place{rs:List (List Int)}(hn:rs.flatten.Nodup) {i j:Nat}{r s:List Int}{e:Int}(hi:rs[i]?=some r) (hj:rs[j]?=some s) (h1:e∈r) (h2:e∈s):i=j:=by
 have a:=wq 0 hn hi h1;have b:=wq 0 hn hj h2;rw[a]at b;have:=D.int.inj (ba.inj b);lia
theorem plc_eq{rs:List (List Int)}(hn:rs.flatten.Nodup) {i:Nat}{r:List Int}{e:Int}(hi:rs[i]?=some r) (h1:e∈r):plc rs e=i:=by
 have hl:rs.findIdx (λr=>decide (e∈r))<rs.length:=eZ ⟨r,mGq hi,decide_eq_true h1⟩
 have h2:=gL (xs:=rs) (p:=λr=>decide (e∈r)) (w:=hl)
 exact same_place hn (gEg hl) hi (of_decide_eq_true h2) h1
structure Mp (rs:List (List Int)):Prop where
 hn:rs.flatten.Nodup
 hl:rs.flatten.length<=1000
 hr:rs.length<=1000
 hneg:∀e∈rs.flatten, -e∈rs.flatten
theorem Mp.at{rs:List (List Int)}(h:Mp rs) {e:Int}(he:e∈rs.flatten):∃r,rs[plc rs e]?=some r/\e∈r:=by
 obtain⟨r,h1,h2⟩:=mFq.mp he;obtain⟨i,h3⟩:=aV.mp h1;exact⟨r,by rw[plc_eq h.hn h3 h2];exact h3,h2⟩
theorem Mp.other{rs:List (List Int)}(h:Mp rs) {k:Nat}{r:List Int}{e:Int}(hk:rs[k]?=some r) (he:e∈r):-e∈rs.flatten:=h.hneg e (mFq.mpr ⟨r,mGq hk,he⟩)
theorem Mp.kv{rs:List (List Int)}(h:Mp rs) {e:Int}(he:e∈rs.flatten):getD (oV 0 rs) (az e)=some (.int (plc rs e:Int)):=by
 obtain⟨r,h1,h2⟩:=h.at he;have:=wq 0 h.hn h1 h2
 rwa [bL]at this
theorem Mp.lt{rs:List (List Int)}(h:Mp rs) {e:Int}(he:e∈rs.flatten):plc rs e<rs.length:=by
 obtain⟨r,h1,_⟩:=h.at he;exact(gSq.mp h1).1
theorem Mp.row{rs:List (List Int)}(h:Mp rs) {k:Nat}{r:List Int}(hk:rs[k]?=some r):r.length<=1000:=by
 have:=eT.length_le (bf (mGq hk));have:=h.hl;lia
inductive HJ (rs:List (List Int)) (s:Nat):Nat->Prop
 |base:HJ rs s s
 |step {k:Nat}{r:List Int}{e:Int}:HJ rs s k->rs[k]?=some r->e∈r->HJ rs s (plc rs (-e))
theorem Cj(pl:Int->Nat):∀(r:List Int) (ks ws:List Nat),∃a,r.foldl (Bv pl) (ks,ws)=(ks++a,ws++a)/\(∀k∈a,∃e∈r,k=pl (-e))/\(∀e∈r,pl (-e)∈ks++a)/\(ks.Nodup->(ks++a).Nodup)
 | [],ks,ws=>⟨[],by simp,by simp,by simp,by simp⟩
 |e::r,ks,ws=>by
  rw[bV]
  by_cases h:pl (-e)∈ks
  .have e1:Bv pl (ks,ws) e=(ks,ws):=by unfold Bv;rw[nP h]
   rw[e1];obtain⟨a,h1,h2,h3,h4⟩:=Cj pl r ks ws;refine⟨a,h1,λk hk=>?_,λx hx=>?_,h4⟩
   .obtain ⟨x,hx,q⟩:=h2 k hk;exact⟨x,mCo _ hx,q⟩
   .rcases ao.mp hx with rfl|hx
    .exact mAq.mpr (.inl h)
    .exact h3 x hx
  .have e1:Bv pl (ks,ws) e=(ks++[pl (-e)],ws++[pl (-e)]):=by unfold Bv;rw[nQ h]
   rw[e1];obtain⟨a,h1,h2,h3,h4⟩:=Cj pl r (ks++[pl (-e)]) (ws++[pl (-e)]);refine⟨pl (-e)::a,by rw[h1,aF,aF];rfl,λk hk=>?_,λx hx=>?_,λhn=>?_⟩
   .rcases ao.mp hk with rfl|hk
    .exact ⟨e,aD ..,rfl⟩
    .obtain ⟨x,hx,q⟩:=h2 k hk;exact⟨x,mCo _ hx,q⟩
   .rcases ao.mp hx with rfl|hx
    .exact mAq.mpr (.inr (aD ..))
    .have:=h3 x hx
     rwa [aF]at this
   .have:=h4 (by
     rw[nAq];exact⟨hn,by simp,λx hx y hy q=>h (by rw[mSq.mp hy]at q;rw[←q];exact hx)⟩)
    rwa [aF]at this
structure Inv (rs:List (List Int)) (s:Nat) (ks ws:List Nat):Prop where
 nd:ks.Nodup
 lt:∀k∈ks,k<rs.length
 st:s∈ks
 rc:∀k∈ks,HJ rs s k
 sub:∀w∈ws,w∈ks
 cl:∀k∈ks,k∉ws->∀r e,rs[k]?=some r->e∈r->plc rs (-e)∈ks
 few:2*(rs.length-ks.length)+ws.length<=2*rs.length+1
theorem Inv.go{rs:List (List Int)}(hm:Mp rs) {s h:Nat}{ks ws:List Nat}{r:List Int}(hi:Inv rs s ks (ws++[h])) (hr:rs[h]?=some r):∃a,r.foldl (Bv (plc rs)) (ks,ws)=(ks++a,ws++a)/\Inv rs s (ks++a) (ws++a)/\2*(rs.length-(ks++a).length)+(ws++a).length<2*(rs.length-ks.length)+(ws++[h]).length:=by
 obtain⟨a,h1,h2,h3,h4⟩:=Cj (plc rs) r ks ws;have hh:h∈ks:=hi.sub h (by simp)
 have nd:=h4 hi.nd;have lt:∀k∈ks++a,k<rs.length:=by
  intro k hk;rcases mAq.mp hk with q|q
  .exact hi.lt k q
  .obtain ⟨e,he,rfl⟩:=h2 k q;exact hm.lt (hm.other hr he)
 have pl:=Uz _ _ nd lt;have p0:=hi.few;rw[lAq]at pl;rw[lAq,lSq]at p0;have key:2*(rs.length-(ks++a).length)+(ws++a).length<2*(rs.length-ks.length)+(ws++[h]).length:=by
  rw[lAq,lAq,lAq,lSq];lia
 refine⟨a,h1,⟨nd,lt,mAq.mpr (.inl hi.st),λk hk=>?_,λw hw=>?_,λk hk hw=>?_,?_⟩,key⟩
 .rcases mAq.mp hk with q|q
  .exact hi.rc k q
  .obtain ⟨e,he,rfl⟩:=h2 k q;exact .step (hi.rc h hh) hr he
 .rcases mAq.mp hw with q|q
  .exact mAq.mpr (.inl (hi.sub w (mAq.mpr (.inl q))))
  .exact mAq.mpr (.inr q)
 .intro r' e hr' he;have k1:k∈ks:=(mAq.mp hk).resolve_right λq=>hw (mAq.mpr (.inr q))
  by_cases q:k=h
  .subst q;rw[hr]at hr';cases hr';exact h3 e he
  .exact mAq.mpr (.inl (hi.cl k k1 (λz=>by
    rcases mAq.mp z with z|z
    .exact hw (mAq.mpr (.inl z))
    .exact q (mSq.mp z)) r' e hr' he))
 .rw [lAq,lAq]at key ⊢;rw[lAq,lSq]at key;lia
def mu(N:Nat):AS->Nat
 | [_,_,_,some (.owd kv),some (.ow w),_,_,_]=>2*(N-kv.length)+w.length
 |_=>0
theorem IE{rs:List (List Int)}(hm:Mp rs) {s:Nat}(hs:s<rs.length):∃S',qS (sI (oU GI (tO qu (nh (nj 4) nI)) (rC (.int 0)))) tS 100000 [some (.sh (dM rs)),some (.sh (.int (s:Int))),some (.owd (oV 0 rs)),some (.owd (kd [s])),some (.ow (wd [s])),none,none,none]=some (.nx S') /\
  ∃ks v5 v6 v7,S'=[some (.sh (dM rs)),some (.sh (.int (s:Int))),some (.owd (oV 0 rs)),some (.owd (kd ks)),some (.ow (wd [])),v5,v6,v7]/\Inv rs s ks []:=by
 have h1000:=hm.hr;refine zo (c:=sI (oU GI (tO qu (nh (nj 4) nI)) (rC (.int 0)))) (body:=tS) (λS=>∃ks ws v5 v6 v7,S=[some (.sh (dM rs)),some (.sh (.int (s:Int))),some (.owd (oV 0 rs)),some (.owd (kd ks)),some (.ow (wd ws)),v5,v6,v7]/\Inv rs s ks ws) (mu rs.length) (λS'=>∃ks v5 v6 v7,S'=[some (.sh (dM rs)),some (.sh (.int (s:Int))),some (.owd (oV 0 rs)),some (.owd (kd ks)),some (.ow (wd [])),v5,v6,v7]/\Inv rs s ks []) ?_ 100000 _ ⟨[s],[s],none,none,none,rfl,?_⟩ ?_
 .rintro S ⟨ks,ws,v5,v6,v7,rfl,hi⟩;rcases cV ws with rfl|⟨ws,h,rfl⟩
  .refine ⟨false,_,?_,λq=>(nomatch q),λ_=>⟨ks,v5,v6,v7,rfl,hi⟩⟩
   simp_arith [wd]
   rfl
  .rw [cW]at hi ⊢;have hlt:h<rs.length:=hi.lt h (hi.sub h (by simp))
   have hr:rs[h]?=some rs[h]:=gEg hlt;obtain⟨a,e1,hi2,mlt⟩:=hi.go hm hr;have few:=hi.few;have kl:=Uz _ _ hi.nd hi.lt;have rl:=hm.row hr;rw[lAq,lSq]at few;obtain⟨v6',v7',e2⟩:=LM (kvs:=oV 0 rs) (ks:=ks) (ws:=ws) (r:=rs[h]) (pl:=plc rs) (v0:=some (.sh (dM rs))) (v1:=some (.sh (.int (s:Int)))) (v5:=some (.sh (.int (h:Int)))) (v6:=v6) (v7:=v7) (λe he=>hm.kv (hm.other hr he)) (by lia) (by lia)
   rw[e1]at e2;have hw:wd (ws++[h])=wd ws++[.sh (.int (h:Int))]:=by simp[wd]
   have wl:(wd ws).length=ws.length:=by simp[wd]
   have c1:(0:Int)<((wd ws++[AV.sh (.int (h:Int))]).length:Int):=by
    rw[lAq,lSq];lia
   have p1:(wd ws++[AV.sh (.int (h:Int))])[(wd ws++[AV.sh (.int (h:Int))]).length-1]?=some (.sh (.int (h:Int))):=by
    rw[lAq,lSq,gYq (by lia)]
    simp
   have p2:(wd ws++[AV.sh (.int (h:Int))]).dropLast=wd ws:=dh;have at1:atI (rs.map dI) (h:Int)=some (dI rs[h]):=qd (by rw[gMq,hr];rfl)
   refine⟨true,[some (.sh (dM rs)),some (.sh (.int (s:Int))),some (.owd (oV 0 rs)),some (.owd (kd ks)),some (.ow (wd ws++[.sh (.int (h:Int))])),v5,v6,v7],?_,λ_=>⟨[some (.sh (dM rs)),some (.sh (.int (s:Int))),some (.owd (oV 0 rs)),some (.owd (kd (ks++a))),some (.ow (wd (ws++a))),some (.sh (.int (h:Int))),v6',v7'],?_,⟨_,_,_,_,_,rfl,hi2⟩,?_⟩,λq=>(nomatch q)⟩
   .simp_arith [hw,c1]
   .simp_arith [tS,p1,p2,dM,at1,e2]
   .show 2*(rs.length-(kd (ks++a)).length)+(wd (ws++a)).length<2*(rs.length-(kd ks).length)+(wd (ws++[h])).length;unfold kd wd;rw[lMq,lMq,lMq,lMq];exact mlt
 .refine ⟨by simp,?_,by simp,?_,λw h=>h,?_,?_⟩
  .intro k hk;rw[mSq.mp hk];exact hs
  .intro k hk;rw[mSq.mp hk];exact .base
  .intro k hk hn;exact absurd hk hn
  .simp only [lSq];lia
 .show 2*(rs.length-(kd [s]).length)+(wd [s]).length<100000;simp only[kd,wd,lMq,lSq];lia
theorem ID{rs:List (List Int)}(hm:Mp rs) {s:Nat}(hs:s<rs.length):∃ks,Inv rs s ks []/\uh [dM rs,.int (s:Int)]=some (aI (wu (ks.map λk:Nat=>(k:Int)))):=by
 obtain⟨S',e,ks,v5,v6,v7,rfl,hi⟩:=IE hm hs;have hl:=hm.hl;have pa:=Ae hm.hn (by lia)
 have e1:[((az (s:Int):nO),D.bl true)]=kd [s]:=rfl;have e2:[AV.sh (.int (s:Int))]=wd [s]:=rfl;have e3:tN (kd ks)=some (ks.map λk:Nat=>(k:Int)):=Eo (λk:Nat=>(k:Int)) (λ_=>D.bl true) ks
 have l1:(wd [s]).length<=qp:=by show 1<=16777216;decide
 refine⟨ks,hi,?_⟩
 simp_arith [uh,CB,pa,e1,e2,e,e3,l1]
theorem QK(ks:List Nat):∃ps:List Nat,ps.Perm ks/\ps.Pairwise (·<=·)/\wu (ks.map λk:Nat=>(k:Int))=ps.map λk:Nat=>(k:Int):=by
 have hp:=Al (ks.map λk:Nat=>(k:Int))
 have hs:=AO (ks.map λk:Nat=>(k:Int))
 have hc:(wu (ks.map λk:Nat=>(k:Int)))=((wu (ks.map λk:Nat=>(k:Int))).map gH).map λk:Nat=>(k:Int):=by
  rw[mPq]
  conv=>lhs;rw[←dB (wu (ks.map λk:Nat=>(k:Int)))]
  refine mCq λz hz=>?_
  obtain⟨k,_,rfl⟩:=mMq.mp (hp.mem_iff.mp hz);rfl
 refine⟨(wu (ks.map λk:Nat=>(k:Int))).map gH,?_,?_,hc⟩
 .have:=hp.map gH;rw[mPq]at this;have e:ks.map (gH∘λk:Nat=>(k:Int))=ks:=by
   conv=>rhs;rw[←dB ks]
   refine mCq λk _=>?_
   show gH (k:Int)=k;exact cY k
  rwa [e]at this
 .rw [bg];refine cZ.imp (λh=>?_) hs
  lia
structure Pc (rs:List (List Int)) (s:Nat) (ps:List Nat):Prop where
 nd:ps.Nodup
 so:ps.Pairwise (·<=·)
 lt:∀k∈ps,k<rs.length
 iff:∀k,k∈ps↔HJ rs s k
theorem II{rs:List (List Int)}(hm:Mp rs) {s:Nat}(hs:s<rs.length):∃ps,Pc rs s ps/\uh [dM rs,.int (s:Int)]=some (aI (ps.map λk:Nat=>(k:Int))):=by
 obtain⟨ks,hi,e⟩:=ID hm hs;obtain⟨ps,h1,h2,h3⟩:=QK ks;rw[h3]at e;refine⟨ps,⟨h1.symm.nodup hi.nd,h2,λk hk=>hi.lt k (h1.mem_iff.mp hk),λk=>⟨λhk=>hi.rc k (h1.mem_iff.mp hk),λhk=>h1.mem_iff.mpr ?_⟩⟩,e⟩
 induction hk with
 |base=>exact hi.st
 |step _ a b c=>exact hi.cl _ c (gd) _ _ a b
def addN(kn:List Nat) (t:Nat):List Nat:=if t∈kn then kn else kn++[t]
theorem kd_put2(ks:List Nat) (t:Nat):vh (kd ks) (az (t:Int)) (.bl true)=kd (addN ks t):=by
 unfold addN
 by_cases h:t∈ks
 .rw [nP h];unfold vh;rw[kd_any,decide_eq_true h,nP rfl];unfold kd;rw[mPq];refine mCq λk _=>?_
  show (if _ then _ else _)=_
  split <;> rfl
 .rw [nQ h];exact O5 h
theorem NX(kn:List Nat) (t:Nat):(addN kn t).length<=kn.length+1:=by
 unfold addN;split
 .lia
 .simp
theorem He:∀(ps kn:List Nat),(ps.foldl addN kn).length<=kn.length+ps.length
 | [],kn=>ai _
 |p::ps,kn=>by
  have h1:=He ps (addN kn p);have h2:=NX kn p;rw[bV,lCq];lia
theorem Oi{kn:List Nat}{t k:Nat}:k∈addN kn t↔k∈kn∨k=t:=by
 unfold addN;split
 .rename_i h;exact⟨.inl,λq=>q.elim id λq=>q ▸ h⟩
 .simp
theorem uq:∀{ps kn:List Nat}{k:Nat},k∈ps.foldl addN kn↔k∈kn∨k∈ps
 | [],kn,k=>by simp
 |p::ps,kn,k=>by
  rw[bV,uq,Oi,ao,or_assoc]
theorem Rz{kn:List Nat}{t:Nat}(h:kn.Nodup):(addN kn t).Nodup:=by
 unfold addN;split
 .exact h
 .rename_i q;rw[nAq];exact⟨h,by simp,λx hx y hy z=>q (by rw[mSq.mp hy]at z;rw[←z];exact hx)⟩
theorem J1:∀{ps kn:List Nat},kn.Nodup->(ps.foldl addN kn).Nodup
 | [],kn,h=>h
 |p::ps,kn,h=>by
  rw[bV];exact J1 (Rz h)
theorem LV{ps kn:List Nat}{v0 v2 v3 v4 v5:Option AV}(hk:kn.length+ps.length<500000):∃v5',qJ 5 uP ((ps.map λk:Nat=>(k:Int)).map D.int) [v0,some (.owd (kd kn)),v2,v3,v4,v5]=some (.nx [v0,some (.owd (kd (ps.foldl addN kn))),v2,v3,v4,v5']):=by
 have key:=xu (x:=5) (body:=uP) (λi S=>∃v5',S=[v0,some (.owd (kd ((ps.take i).foldl addN kn))),v2,v3,v4,v5']) (ds:=(ps.map λk:Nat=>(k:Int)).map D.int) (S:=[v0,some (.owd (kd kn)),v2,v3,v4,v5]) ⟨v5,rfl⟩ (by
  rintro i d S hd ⟨v5',rfl⟩;rw[gMq,gMq]at hd;obtain⟨z,hz,rfl⟩:=oMq.mp hd;obtain⟨k,hk',rfl⟩:=oMq.mp hz;have hi:i<ps.length:=(gSq.mp hk').1;have n1:=He (ps.take i) kn;rw[lTq]at n1;have l1:(kd ((ps.take i).foldl addN kn)).length<qp:=by unfold kd;rw[lMq];show _<16777216;lia
  have et:(ps.take (i+1)).foldl addN kn=addN ((ps.take i).foldl addN kn) k:=by
   have:ps[i]'hi=k:=by rw[gEg hi]at hk';exact ba.inj hk'
   rw[dm hi,fW,this];rfl
  have hp:=kd_put2 ((ps.take i).foldl addN kn) k;rw[←et]at hp;refine⟨_,?_,some (.sh (.int (k:Int))),rfl⟩
  simp_arith [uP,l1,hp])
 obtain⟨S',e,v5',rfl⟩:=key;rw[lMq,lMq,bx]at e;exact⟨v5',e⟩
theorem Jz{rs:List (List Int)}{ps:List Nat}(h:∀k∈ps,k<rs.length):qX tL (zP (lOf (OW (uJ 1) (nj 0)))) [some (.sh (dM rs))] ((ps.map λk:Nat=>(k:Int)).map D.int)=some (ps.map λk=>aI (rs.getD k [])):=by
 have key:=sX (te:=zP (lOf (OW (uJ 1) (nj 0)))) (cap:=[some (.sh (dM rs))]) (λd=>match d with|.int k=>aI (rs.getD k.toNat [])|_=>.sh .non) (ds:=(ps.map λk:Nat=>(k:Int)).map D.int) (by
  intro d hd;rw[mPq]at hd;obtain⟨k,hk,rfl⟩:=mMq.mp hd;have at1:=Xm (h k hk);refine⟨[some (.sh (.int (k:Int))),some (.sh (dM rs))],?_⟩
  simp_arith [dM,at1,Function.comp,cY,dI,aI,mPq]
  rfl)
 rw[key,mPq,mPq];rfl
def pA(rs:List (List Int)) (ps:List Nat):AV:=.ow (ps.map λk=>aI (rs.getD k []))
theorem HJ.trans{rs:List (List Int)}{a b c:Nat}(h:HJ rs a b) (h2:HJ rs b c):HJ rs a c:=by
 induction h2 with
 |base=>exact h
 |step _ p q r=>exact .step r p q
theorem HJ.symm{rs:List (List Int)}(hm:Mp rs) {a b:Nat}(h:HJ rs a b):HJ rs b a:=by
 induction h with
 |base=>exact .base
 | @step k r e _ p q ih =>
  obtain⟨r',h1,h2⟩:=hm.at (hm.other p q);have:=HJ.step (s:=plc rs (-e)) .base h1 h2;rw[ir,plc_eq hm.hn p q]at this;exact this.trans ih
structure Ps (rs:List (List Int)) (i:Nat) (kn:List Nat) (PS:List (List Nat)):Prop where
 sub:∀ps∈PS,∀k∈ps,k∈kn
 dj:PS.Pairwise λa b=>∀k∈a,k∉b
 pc:∀ps∈PS,∃s,s<rs.length/\Pc rs s ps
 all:∀k,k<i->k∈kn
 mem:∀k,k∈kn->∃ps∈PS,k∈ps
 nd:kn.Nodup
 lt:∀k∈kn,k<rs.length
 len:PS.length<=i
theorem L0{rs:List (List Int)}(hm:Mp rs):∃kn PS,Ps rs rs.length kn PS/\xG [dM rs]=some (.ow (PS.map (pA rs))):=by
 have h1000:=hm.hr;have key:=xu (x:=3) (body:=uO) (λi S=>∃kn PS v3 v4 v5,S=[some (.sh (dM rs)),some (.owd (kd kn)),some (.ow (PS.map (pA rs))),v3,v4,v5]/\Ps rs i kn PS) (ds:=pD 0 rs.length) (S:=[some (.sh (dM rs)),some (.owd []),some (.ow []),none,none,none])
  ⟨[],[],none,none,none,rfl,⟨by simp,by simp,by simp,by simp,by simp,by simp,by simp,by simp⟩⟩ (by
  rintro i d S hd ⟨kn,PS,v3,v4,v5,rfl,hp⟩;have hi:i<rs.length:=by
   have:=(gSq.mp hd).1
   rwa [qG]at this
  rw[yW hi,hX]at hd;cases hd;have hg:=kd_get kn i
  by_cases c:i∈kn
  .rw [decide_eq_true c]at hg;refine⟨[some (.sh (dM rs)),some (.owd (kd kn)),some (.ow (PS.map (pA rs))),some (.sh (.int (i:Int))),v4,v5],?_,kn,PS,_,_,_,rfl,hp.sub,hp.dj,hp.pc,?_,hp.mem,hp.nd,hp.lt,?_⟩
   .simp_arith [uO,hg]
   .intro k hk;rcases fY.mp hk with q|rfl
    .exact hp.all k q
    .exact c
   .have:=hp.len;lia
  .rw [decide_eq_false c]at hg;obtain⟨ps,h1,e1⟩:=II hm hi;have p1:=Uz _ _ hp.nd hp.lt;have p2:=Uz _ _ h1.nd h1.lt;have p3:=hp.len;have l2:ps.length<=qp:=by show _<=16777216;lia
   have l3:PS.length<qp:=by show _<16777216;lia
   obtain⟨v5',e2⟩:=LV (ps:=ps) (kn:=kn) (v0:=some (.sh (dM rs))) (v2:=some (.ow (PS.map (pA rs)))) (v3:=some (.sh (.int (i:Int)))) (v4:=some (.sh (dI (ps.map λk:Nat=>(k:Int))))) (v5:=v5) (by lia)
   have e3:=Jz h1.lt;refine⟨[some (.sh (dM rs)),some (.owd (kd (ps.foldl addN kn))),some (.ow ((PS++[ps]).map (pA rs))),some (.sh (.int (i:Int))),some (.sh (dI (ps.map λk:Nat=>(k:Int)))),v5'],?_,ps.foldl addN kn,PS++[ps],_,_,_,rfl,?_,?_,?_,?_,?_,J1 hp.nd,?_,?_⟩
   .simp_arith [uO,hg,e1,e2,e3,l2,l3,mBq,pA]
   .intro qs hq k hk;rcases mAq.mp hq with q|q
    .exact uq.mpr (.inl (hp.sub qs q k hk))
    .rw [mSq.mp q]at hk;exact uq.mpr (.inr hk)
   .rw [aQ];refine⟨hp.dj,List.pairwise_singleton ..,λqs hq b hb k hk hk2=>c ?_⟩
    rw[mSq.mp hb]at hk2;obtain⟨s,hs,hc⟩:=hp.pc qs hq;exact hp.sub qs hq i ((hc.iff i).mpr (((hc.iff k).mp hk).trans (((h1.iff k).mp hk2).symm hm)))
   .intro qs hq;rcases mAq.mp hq with q|q
    .exact hp.pc qs q
    .rw [mSq.mp q];exact⟨i,hi,h1⟩
   .intro k hk;rcases fY.mp hk with q|rfl
    .exact uq.mpr (.inl (hp.all k q))
    .exact uq.mpr (.inr ((h1.iff k).mpr .base))
   .intro k hk;rcases uq.mp hk with q|q
    .obtain ⟨qs,a,b⟩:=hp.mem k q;exact⟨qs,mAq.mpr (.inl a),b⟩
    .exact ⟨ps,mAq.mpr (.inr (mSq.mpr rfl)),q⟩
   .intro k hk;rcases uq.mp hk with q|q
    .exact hp.lt k q
    .exact h1.lt k q
   .rw [lAq,lSq];lia)
 obtain⟨S',e,kn,PS,v3,v4,v5,rfl,hp⟩:=key;rw[qG]at hp;have r1:=BB (n:=rs.length) (by lia)
 refine⟨kn,PS,hp,?_⟩
 simp_arith [xG,DM,dM,r1,e]
end K51
namespace K12
open PySem L2 Mr Z Xe Zl
abbrev gm(p:List (List Int)):List (List Int):=yZ (p.map zS)
theorem uN(p:List (List Int)):(gm p).Perm (p.map zS):=zA _
end K12
namespace K11
open PySem L2 Mr Z Xe Zl K12
def Az(p:List (List Int)):Prop:=∀k,0<k->k<p.length->∃j e,j<k/\e∈p.getD j []/\-e∈p.getD k []
theorem zD{l:List (List Int)}{h:Nat}{r x:List Int}(hr:l[h]?=some r) {k:Nat}{e:Int}(he:e∈l.getD k []):e∈(l.set h (r++x)).getD k []:=by
 rw[gDq]at he ⊢
 by_cases q:h=k
 .subst q;have hlt:=(gSq.mp hr).1;rw[aG hlt];rw[hr]at he;exact aU _ he
 .rw [ar q];exact he
theorem EG{l:List (List Int)}{h:Nat}{r x:List Int}(hr:l[h]?=some r) {e:Int}(he:e∈x):e∈(l.set h (r++x)).getD h []:=by
 have hlt:=(gSq.mp hr).1;rw[gDq,aG hlt];exact aE _ he
theorem Az.set{l:List (List Int)}{h:Nat}{r x:List Int}(t:Az l) (hr:l[h]?=some r):Az (l.set h (r++x)):=λk h0 hk=>by
 rw[lZq]at hk;obtain⟨j,e,h1,h2,h3⟩:=t k h0 hk;exact⟨j,e,h1,zD hr h2,zD hr h3⟩
theorem getD_app{l:List (List Int)}{x:List Int}{k:Nat}(h:k<l.length):(l++[x]).getD k []=l.getD k []:=by
 rw[gDq,gDq,gZq h]
theorem Pl{l:List (List Int)}{x:List Int}:(l++[x]).getD l.length []=x:=by
 rw[gDq,gYq (ai _),cf];rfl
theorem Az.add{l:List (List Int)}{h:Nat}{e:Int}(t:Az l) (hh:h<l.length) (he:e∈l.getD h []):Az (l++[[-e]]):=λk h0 hk=>by
 rw[lAq,lSq]at hk
 by_cases q:k<l.length
 .obtain ⟨j,e',h1,h2,h3⟩:=t k h0 q;exact⟨j,e',h1,by rw[getD_app (by lia)];exact h2,by rw[getD_app q];exact h3⟩
 .have ek:k=l.length:=by lia
  subst ek;exact⟨h,e,hh,by rw[getD_app hh];exact he,by rw[Pl];simp⟩
theorem G4(r:List Int):Az [r]:=λk h0 hk=>by
 rw[lSq]at hk;lia
end K11
namespace K31
open PySem L2 Mr Z Xe Zl K12
theorem Sy(one two:Int):∃st sh a b:Int,1<=st/\st<=10 ^ 40/\0<=sh/\sh<10 ^ 40/\1<=a/\a<=66/\∀k:Nat,rA [.int one,.int two,.int (k:Int)]=some (.sh (.int (Ih st sh a b k))):=by
 have a1:0<=two % 66:=bK _ (by decide)
 have a2:two % 66<66:=bH _ (by decide)
 have s1:0<=one / 3 % 10 ^ 40:=bK _ (by decide)
 have s2:one / 3 % 10 ^ 40<10 ^ 40:=bH _ (by decide)
 have s3:0<=two / 66 % 10 ^ 40:=bK _ (by decide)
 have s4:two / 66 % 10 ^ 40<10 ^ 40:=bH _ (by decide)
 have m3:=λi:Int=>rn (i:=i) (j:=3) (by decide)
 have m66:=λi:Int=>rn (i:=i) (j:=66) (by decide)
 have m67:=λi:Int=>rn (i:=i) (j:=67) (by decide)
 have m40:=λi:Int=>rn (i:=i) (j:=10 ^ 40) (by decide)
 have d3:=λi:Int=>xh (i:=i) (j:=3) (by decide) (by decide)
 have d66:=λi:Int=>xh (i:=i) (j:=66) (by decide) (by decide)
 have c1:=λk:Nat=>Ka (i:=1+two % 66) (j:=(k:Int)) (by lia) (by lia)
 by_cases h0:0<one % 3
 .refine ⟨1+one / 3 % 10 ^ 40,two / 66 % 10 ^ 40,1+two % 66,one,by lia,by lia,s3,s4,by lia,by lia,λk=>?_⟩
  have b1:0<=((1+two % 66)*(k:Int)+one) % 67:=bK _ (by decide)
  have b2:((1+two % 66)*(k:Int)+one) % 67<67:=bH _ (by decide)
  have c2:=Kb (i:=1+one / 3 % 10 ^ 40) (j:=((1+two % 66)*(k:Int)+one) % 67+1) (by lia) (by lia)
  simp_arith [rA,AE,h0,m3,m66,m67,m40,d3,d66,c1,c2,ZS,Ih]
 .refine ⟨1,0,1+two % 66,one,by decide,by decide,by decide,by decide,by lia,by lia,λk=>?_⟩
  have b1:0<=((1+two % 66)*(k:Int)+one) % 67:=bK _ (by decide)
  have b2:((1+two % 66)*(k:Int)+one) % 67<67:=bH _ (by decide)
  have c2:=Kb (i:=1) (j:=((1+two % 66)*(k:Int)+one) % 67+1) (by lia) (by lia)
  simp_arith [rA,AE,h0,m3,m66,m67,c1,c2,Ih]
theorem Bd{T:List (List Int)}{h:Nat}{r:List Int}(hr:T[h]?=some r):oy (.ow (T.map aI)) [h]=some (r.map λn=>.sh (.int n)):=by
 rw[A9,gMq,hr];rfl
theorem SZ{T:List (List Int)}{h:Nat}{r r':List Int}(hr:T[h]?=some r):putAt (.ow (T.map aI)) [h] (r'.map λn=>.sh (.int n)) = .ow ((T.set h r').map aI):=by
 rw[IK (a:=aI r) (by rw[gMq,hr];rfl)]
 show AV.ow ((T.map aI).set h (aI r'))=_;rw[N2]
structure Wd where
 T:List (List Int)
 t0:List Nat
 h:Nat
 loose:List Int
 left:List Int
def Du(wild:Bool) (c:Int) (loose:List Int):Nat:=if wild then (c / 8 % loose.length).toNat else loose.length-1
def sg(c x:Int):Int:=x*(1-2*(c / 4 % 2))
def A7(wild:Bool) (w:Wd) (c:Int):Wd :=
 let r:=w.T.getD w.h []
 if c % 4=1/\w.t0≠[] then { w with t0:=w.t0.dropLast,h:=w.t0.getLast?.getD 0 }
 else if c % 4=2/\w.loose≠[] then { w with T:=w.T.set w.h (r++[w.loose.getD (Du wild c w.loose) 0]),loose:=w.loose.eraseIdx (Du wild c w.loose) }
 else match w.left with
  | []=>w
  |x::left=>if c % 4=0 then { w with T:=w.T.set w.h (r++[sg c x])++[[-(sg c x)]],t0:=w.t0++[w.h],h:=w.T.length,left:=left }
   else { w with T:=w.T.set w.h (r++[sg c x]),loose:=w.loose++[-(sg c x)],left:=left }
def st(v0 v1:Option AV) (wild:Bool) (w:Wd) (v7 v8 v9 v10:Option AV):AS:=[v0,v1,some (.sh (.bl wild)),some (.ow (w.T.map aI)),some (aI (cN (w.t0++[w.h]))),some (aI w.loose),some (aI w.left),v7,v8,v9,v10]
section
variable {T:List (List Int)}{t0:List Nat}{hd:Nat}{loose left r:List Int}{c:Int}{wild:Bool}{v0 v1 v8 v9 v10:Option AV}
theorem Pb:atI ((cN (t0++[hd])).map D.int) (((t0++[hd]).length:Int)-1)=some (.int (hd:Int)):=by
 have:((t0++[hd]).length:Int)-1=(t0.length:Int):=by rw[lAq,lSq];lia
 rw[this];refine qd ?_;unfold cN;rw[mBq,mBq,gYq (by simp)]
 simp
theorem BM(l:List Nat):(cN l).length=l.length:=lMq ..
def On:List Nat->MS:=(Hk 3 (sI (oU GI (tO qu (nh (nj 6) nI)) (rC (.int 0)))) (EF 3 (Dg 10 (Sx Bk (yo 6 (rC (.int 0))) (oU B2 (rC (.int 1)) (oU Bk (rC (.int 2)) (oU vf (oU Bi (nj 7) (rC (.int 4))) (rC (.int 2))))))) (λpath=>nY ((Kc 3 (ot 10)) path) (Be (sI (oU Jx (oU vf (nj 7) (rC (.int 4))) (rC (.int 0)))) (nY (Aw 3 (tH (nH (kSc (Kg Ap (nj 10))) oM))) (Aw 4 (kSc (oU B2 (tO qu (nh (nj 3) nI)) (rC (.int 1)))))) (Aw 5 (kSc (Kg Ap (nj 10))))))) (λ_=>qC))
def Qh:List Nat->MS:=(Hk 3 (CI (sI (oU Jx (oU vf (nj 7) (rC (.int 4))) (rC (.int 1)))) (sI (oU GI (tO qu (nh (nj 4) nI)) (rC (.int 1))))) (λ_=>(EY (A6 4))) (Hk 3 (CI (sI (oU Jx (oU vf (nj 7) (rC (.int 4))) (rC (.int 2)))) (sI (oU GI (tO qu (nh (nj 5) nI)) (rC (.int 0))))) (EF 3 (pI 9 (kSc (oU B2 (tO qu (nh (nj 5) nI)) (rC (.int 1))))) (EF 3 (Be (sI (nj 2)) (pI 9 (kSc (oU vf (oU Bi (nj 7) (rC (.int 8))) (tO qu (nh (nj 5) nI))))) qC) (E6 3 (yo 5 (nj 9))))) On))
theorem Rh:qI=(QI 8 3 (V2 3 (K8 3) (oU FP (nj 4) (oU B2 (tO qu (nh (nj 4) nI)) (rC (.int 1))))) Qh):=rfl
theorem PK(hr:T[hd]?=some r):qI (st v0 v1 wild ⟨T,t0,hd,loose,left⟩ (some (.sh (.int c))) v8 v9 v10)=Qh [hd] (st v0 v1 wild ⟨T,t0,hd,loose,left⟩ (some (.sh (.int c))) none v9 v10):=by
 have hh:hd<T.length:=(gSq.mp hr).1;have n1:=Bd hr;have iL:FQ T.length (hd:Int)=some hd:=Fz hh;have sl:=oh (cN (t0++[hd]));have at4:=Pb (t0:=t0) (hd:=hd);have cl:=BM (t0++[hd]);have q:((8:Nat)≠3/\8<11)=True:=by simp
 rw[Rh]
 simp_arith [st,n1,iL,sl,dI,at4,cl,q]
theorem R6{t:List Nat}{h':Nat}(hr:T[hd]?=some r) (h1:c % 4=1):Qh [hd] (st v0 v1 wild ⟨T,t++[h'],hd,loose,left⟩ (some (.sh (.int c))) v8 v9 v10)=some (.nx (st v0 v1 wild ⟨T,t,h',loose,left⟩ (some (.sh (.int c))) v8 v9 v10)):=by
 have m4:=rn (i:=c) (j:=4) (by decide)
 have n1:=Bd hr;have sl:=oh (cN (t++[h']++[hd]));have cl:=BM (t++[h']++[hd]);have k1:(1:Int)<((t++[h']++[hd]).length:Int):=by simp;lia
 have ec:(cN (t++[h']++[hd])).map (λn=>AV.sh (.int n))=(cN (t++[h'])).map (λn=>AV.sh (.int n))++[.sh (.int (hd:Int))]:=(TJ (t++[h']) hd).symm
 have p1:((cN (t++[h'])).map (λn=>AV.sh (.int n))++[AV.sh (.int (hd:Int))])[((cN (t++[h'])).map (λn=>AV.sh (.int n))++[AV.sh (.int (hd:Int))]).length-1]?=some (.sh (.int (hd:Int))):=by
  rw[lAq,lSq,gYq (by lia)]
  simp
 have p2:((cN (t++[h'])).map (λn=>AV.sh (.int n))++[AV.sh (.int (hd:Int))]).dropLast=(cN (t++[h'])).map (λn=>AV.sh (.int n)):=dh
 simp_arith [Qh,st,m4,h1,n1,sl,dI,cl,k1,eq_self,ec,p1,p2]
theorem Re(hr:T[hd]?=some r) (hrl:r.length<500000) (hll:loose.length<500000) (h1:¬ c % 4=1) (h2:c % 4=2) (hne:loose≠[]):Qh [hd] (st v0 v1 wild ⟨T,t0,hd,loose,left⟩ (some (.sh (.int c))) v8 v9 v10)=some (.nx (st v0 v1 wild ⟨T.set hd (r++[loose.getD (Du wild c loose) 0]),t0,hd,loose.eraseIdx (Du wild c loose),left⟩ (some (.sh (.int c))) v8 (some (.sh (.int (Du wild c loose:Nat)))) v10)):=by
 have m4:=rn (i:=c) (j:=4) (by decide)
 have d8:=xh (i:=c) (j:=8) (by decide) (by decide)
 have hpos:0<loose.length:=gT.mpr hne;have ml:=rn (i:=c / 8) (j:=(loose.length:Int)) (by lia)
 have n1:=Bd hr;have l1:r.length<qp:=by show _<16777216;lia
 have sl:=oh loose;have k0:(0:Int)<(loose.length:Int):=by lia
 have hlt:Du wild c loose<loose.length:=by
  unfold Du;have b0:0<=c / 8 % (loose.length:Int):=bK _ (by lia)
  have b1:c / 8 % (loose.length:Int)<(loose.length:Int):=bH _ (by lia)
  split <;> lia
 have ll:loose.length<=qp:=by show _<=16777216;lia
 have g1:(loose.map λn=>AV.sh (.int n))[Du wild c loose]?=some (.sh (.int (loose.getD (Du wild c loose) 0))):=by
  rw[gMq,gEg hlt,gDq,gEg hlt];rfl
 have g2:(loose.map λn=>AV.sh (.int n)).eraseIdx (Du wild c loose)=(loose.eraseIdx (Du wild c loose)).map λn=>.sh (.int n):=NO _ _ _
 have p2:=SZ (r':=r++[loose.getD (Du wild c loose) 0]) hr;have a1:=C1 r (loose.getD (Du wild c loose) 0);have q:(0<=((Du wild c loose:Nat):Int)/\((Du wild c loose:Nat):Int)<(loose.length:Int)/\loose.length<=qp)=True:=by simp[ll,hlt]
 have tn:((Du wild c loose:Nat):Int).toNat=Du wild c loose:=cY _;have h21:¬ (2:Int)=1:=by decide
 cases wild with
 |true =>
  have ea:c / 8 % (loose.length:Int)=((Du true c loose:Nat):Int):=by
   have b0:0<=c / 8 % (loose.length:Int):=bK _ (by lia)
   show _=(((c / 8 % (loose.length:Int)).toNat:Nat):Int);lia
  simp_arith [Qh,st,m4,h2,h21,n1,sl,dI,k0,eq_self,d8,ml,ea,q,tn,g1,g2,l1,a1,p2,true_and]
 |false =>
  have ea:(loose.length:Int)-1=((Du false c loose:Nat):Int):=by
   show _=((loose.length-1:Nat):Int);lia
  simp_arith [Qh,st,m4,h2,h21,n1,sl,dI,k0,eq_self,ea,q,tn,g1,g2,l1,a1,p2,true_and]
theorem Oh(hr:T[hd]?=some r) (h1:¬ (c % 4=1/\t0≠[])) (h2:¬ (c % 4=2/\loose≠[])):Qh [hd] (st v0 v1 wild ⟨T,t0,hd,loose,left⟩ (some (.sh (.int c))) v8 v9 v10)=On [hd] (st v0 v1 wild ⟨T,t0,hd,loose,left⟩ (some (.sh (.int c))) v8 v9 v10):=by
 have m4:=rn (i:=c) (j:=4) (by decide)
 have n1:=Bd hr;have sl:=oh loose;have sw:=oh (cN (t0++[hd]));have cl:=BM (t0++[hd]);have q1:c % 4=1->decide ((1:Int)<((t0++[hd]).length:Int))=false:=λh=>by
  by_cases hn:t0=[]
  .subst hn;simp
  .exact absurd ⟨h,hn⟩ h1
 have q2:c % 4=2->decide ((0:Int)<(loose.length:Int))=false:=λh=>by
  by_cases hn:loose=[]
  .subst hn;simp
  .exact absurd ⟨h,hn⟩ h2
 have h21:¬ (2:Int)=1:=by decide
 have h12:¬ (1:Int)=2:=by decide
 by_cases e1:c % 4=1
 .have q1':=q1 e1
  simp_arith [Qh,On,st,m4,e1,h12,n1,sl,sw,cl,dI,q1',eq_self]
 .by_cases e2:c % 4=2
  .have q2':=q2 e2
   simp_arith [Qh,On,st,m4,e2,h21,n1,sl,sw,cl,dI,q2',eq_self]
  .simp_arith [Qh,On,st,m4,e1,e2,n1,sl,sw,cl,dI,eq_self]
theorem QZ(hr:T[hd]?=some r):On [hd] (st v0 v1 wild ⟨T,t0,hd,loose,[]⟩ (some (.sh (.int c))) v8 v9 v10)=some (.nx (st v0 v1 wild ⟨T,t0,hd,loose,[]⟩ (some (.sh (.int c))) v8 v9 v10)):=by
 have n1:=Bd hr;have k0:decide ((0:Int)<((0:Nat):Int))=false:=by decide
 have sl:=oh []
 simp_arith [On,st,n1,sl,dI,k0]
theorem Vt{x:Int}(hr:T[hd]?=some r) (hrl:r.length<500000) (hTl:T.length<500000) (htl:t0.length<500000) (hll:left.length<500000) (h0:c % 4=0):On [hd] (st v0 v1 wild ⟨T,t0,hd,loose,x::left⟩ (some (.sh (.int c))) v8 v9 v10)=some (.nx (st v0 v1 wild ⟨T.set hd (r++[sg c x])++[[-(sg c x)]],t0++[hd],T.length,loose,left⟩ (some (.sh (.int c))) v8 v9 (some (.sh (.int (sg c x)))))):=by
 have m4:=rn (i:=c) (j:=4) (by decide)
 have d4:=xh (i:=c) (j:=4) (by decide) (by decide)
 have m2:=rn (i:=c / 4) (j:=2) (by decide)
 have b0:0<=c / 4 % 2:=bK _ (by decide)
 have b1:c / 4 % 2<2:=bH _ (by decide)
 have c1:=Ka (i:=2) (j:=c / 4 % 2) (by lia) (by lia)
 have c2:=Kb (i:=x) (j:=1-2*(c / 4 % 2)) (by lia) (by lia)
 have n1:=Bd hr;have sl:=oh (x::left);have k0:(0:Int)<((x::left).length:Int):=by rw[lCq];lia
 have k00:(0:Int)<((left.length+1:Nat):Int):=by lia
 have l1:r.length<qp:=by show _<16777216;lia
 have q:(0:Int)<=0:=gE _;have lL:left.length+1<=qp:=by show _<=16777216;lia
 have t0':(0:Int).toNat=0:=rfl;have es:x*(1-2*(c / 4 % 2))=sg c x:=rfl;have a1:=C1 r (sg c x);have p2:=SZ (r':=r++[sg c x]) hr;have lT:(T.set hd (r++[sg c x])).length=T.length:=lZq;have l2:T.length<qp:=by show _<16777216;lia
 have a3:=Sb (T.set hd (r++[sg c x])) (-(sg c x));have lenT:((T.set hd (r++[sg c x])++[[-(sg c x)]]).length:Int)-1=(T.length:Int):=by rw[lAq,lT,lSq];lia
 have lw:(t0++[hd]).length<qp:=by rw[lAq,lSq];show t0.length+1<16777216;lia
 have a2:=TJ (t0++[hd]) T.length;have cl:=BM (t0++[hd])
 simp_arith [On,st,m4,h0,d4,m2,c1,c2,n1,sl,dI,k0,k00,q,lL,true_and,t0',es,eq_self,l1,a1,p2,lT,l2,a3,lenT,cl,lw,a2,eS]
theorem NF{x:Int}(hr:T[hd]?=some r) (hrl:r.length<500000) (hll:loose.length<500000) (hfl:left.length<500000) (h0:¬ c % 4=0):On [hd] (st v0 v1 wild ⟨T,t0,hd,loose,x::left⟩ (some (.sh (.int c))) v8 v9 v10)=some (.nx (st v0 v1 wild ⟨T.set hd (r++[sg c x]),t0,hd,loose++[-(sg c x)],left⟩ (some (.sh (.int c))) v8 v9 (some (.sh (.int (sg c x)))))):=by
 have m4:=rn (i:=c) (j:=4) (by decide)
 have d4:=xh (i:=c) (j:=4) (by decide) (by decide)
 have m2:=rn (i:=c / 4) (j:=2) (by decide)
 have b0:0<=c / 4 % 2:=bK _ (by decide)
 have b1:c / 4 % 2<2:=bH _ (by decide)
 have c1:=Ka (i:=2) (j:=c / 4 % 2) (by lia) (by lia)
 have c2:=Kb (i:=x) (j:=1-2*(c / 4 % 2)) (by lia) (by lia)
 have n1:=Bd hr;have sl:=oh (x::left);have k0:(0:Int)<((x::left).length:Int):=by rw[lCq];lia
 have k00:(0:Int)<((left.length+1:Nat):Int):=by lia
 have l1:r.length<qp:=by show _<16777216;lia
 have q:(0:Int)<=0:=gE _;have lL:left.length+1<=qp:=by show _<=16777216;lia
 have t0':(0:Int).toNat=0:=rfl;have es:x*(1-2*(c / 4 % 2))=sg c x:=rfl;have a1:=C1 r (sg c x);have p2:=SZ (r':=r++[sg c x]) hr;have l2:loose.length<qp:=by show _<16777216;lia
 have a2:=C1 loose (-(sg c x))
 simp_arith [On,st,m4,h0,d4,m2,c1,c2,n1,sl,dI,k0,k00,q,lL,true_and,t0',es,eq_self,l1,a1,p2,l2,a2,eS]
end
def yr(l:List Int):List Int:=l.flatMap λx=>[x, -x]
theorem Ct(x:Int) (l:List Int) (a:Int):(yr (x::l)).count a=[x, -x].count a+(yr l).count a:=by
 unfold yr;rw[dg,cAq]
theorem wK:∀l:List Int,(yr l).length=2*l.length
 | []=>rfl
 |x::l=>by
  unfold yr;have:=wK l;unfold yr at this;rw[dg,lAq,this];show 2+2*l.length=2*(l.length+1);lia
theorem Qs(a c x:Int):[sg c x].count a+[-(sg c x)].count a=[x, -x].count a:=by
 have b0:0<=c / 4 % 2:=bK _ (by decide)
 have b1:c / 4 % 2<2:=bH _ (by decide)
 rw[show [x, -x]=[x]++[-x] from rfl,cAq]
 unfold sg;have h:c / 4 % 2=0∨c / 4 % 2=1:=by lia
 rcases h with h|h
 .rw [h,show (1:Int)-2*0=1 from rfl,ie]
 .rw [h,show (1:Int)-2*1 = -1 from rfl,Int.mul_neg,ie,ir]
  lia
structure Rb (nm:List Int) (w:Wd) (n:Nat):Prop where
 hh:w.h<w.T.length
 ht:∀k∈w.t0,k<w.T.length
 lw:w.t0.length<=n
 lT:w.T.length<=n+1
 lf:w.left.length<=nm.length
 cnt:∀a,w.T.flatten.count a+w.loose.count a+(yr w.left).count a=(yr nm).count a
 tr:K11.Az w.T
theorem Rb.len{nm:List Int}{w:Wd}{n:Nat}(h:Rb nm w n):w.T.flatten.length+w.loose.length+(yr w.left).length=2*nm.length:=by
 have:(w.T.flatten++w.loose++yr w.left).Perm (yr nm):=by
  rw[dF];intro a;rw[cAq,cAq];exact h.cnt a
 have:=this.length_eq;rw[lAq,lAq,wK nm]at this;exact this
theorem Rb.step{nm:List Int}{w:Wd}{n:Nat}{wild:Bool}(h:Rb nm w n) (c:Int):Rb nm (A7 wild w c) (n+1):=by
 obtain⟨T,t0,hd,loose,left⟩:=w;obtain⟨hh,ht,lw,lT,lf,cnt,tr⟩:=h;simp only at hh ht lw lT lf cnt tr;have hr:T[hd]?=some (T.getD hd []):=by rw[gDq,gEg hh];rfl
 unfold A7;simp only;split
 .rename_i q;rcases cV t0 with z|⟨t,h',z⟩
  .exact absurd z q.2
  .subst z;rw[cW]at ht lw ⊢;rw[dh,gM];simp only[gw,iG,cu];rw[lAq,lSq]at lw;exact⟨ht _ (by simp),λk hk=>ht k (by simp[hk]),(by simp only;lia),(by simp only;lia),lf,cnt,tr⟩
 .split
  .rename_i q;have hpos:0<loose.length:=gT.mpr q.2;have hlt:Du wild c loose<loose.length:=by
    unfold Du;have b0:0<=c / 8 % (loose.length:Int):=bK _ (by lia)
    have b1:c / 8 % (loose.length:Int)<(loose.length:Int):=bH _ (by lia)
    split <;> lia
   refine⟨?_,?_,?_,?_,lf,λa=>?_,?_⟩
   .simp only [lZq];exact hh
   .simp only [lZq];exact ht
   .simp only;lia
   .simp only [lZq];lia
   .simp only;rw[Af a hr,←cnt a,←DJ a hlt];lia
   .exact tr.set hr
  .cases left with
   |nil=>exact⟨hh,ht,(by simp only;lia),(by simp only;lia),lf,cnt,tr⟩
   |cons x left =>
    simp only;rw[lCq]at lf;have cx:=λa=>Ct x left a
    split
    .refine ⟨?_,?_,?_,?_,(by simp only;lia),λa=>?_,?_⟩
     .simp only [lAq,lZq,lSq];lia
     .intro k hk;simp only[lAq,lZq,lSq]at hk ⊢;rcases mAq.mp hk with hk|hk
      .have:=ht k hk;lia
      .rw [mSq.mp hk];lia
     .simp only [lAq,lSq];lia
     .simp only [lAq,lZq,lSq];lia
     .simp only;rw[fAq,aZ,cAq,Af a hr];have:=cnt a;rw[cx a,←Qs a c x]at this;lia
     .exact (tr.set hr).add (by rw[lZq];exact hh) (K11.EG hr (by simp))
    .refine ⟨?_,?_,?_,?_,(by simp only;lia),λa=>?_,?_⟩
     .simp only [lZq];exact hh
     .simp only [lZq];exact ht
     .simp only;lia
     .simp only [lZq];lia
     .simp only;rw[Af a hr,cAq];have:=cnt a;rw[cx a,←Qs a c x]at this;lia
     .exact tr.set hr
theorem Me{nm:List Int}{w:Wd}{n:Nat}{wild:Bool}{c:Int}{v0 v1 v8 v9 v10:Option AV}(h:Rb nm w n) (hn:n<1000) (hm:nm.length<=1000):∃v8' v9' v10',qI (st v0 v1 wild w (some (.sh (.int c))) v8 v9 v10)=some (.nx (st v0 v1 wild (A7 wild w c) (some (.sh (.int c))) v8' v9' v10')):=by
 have hlen:=h.len;obtain⟨T,t0,hd,loose,left⟩:=w;obtain⟨hh,ht,lw,lT,lf,cnt,tr⟩:=h;simp only at hh ht lw lT lf cnt tr hlen;have hr:T[hd]?=some (T.getD hd []):=by rw[gDq,gEg hh];rfl
 have hrl:=Km hr;rw[PK hr];unfold A7;simp only
 by_cases q1:c % 4=1/\t0≠[]
 .rw [nP q1];rcases cV t0 with z|⟨t,h',z⟩
  .exact absurd z q1.2
  .subst z;rw[cW,dh,gM];simp only[gw,iG,cu];exact⟨_,_,_,R6 hr q1.1⟩
 .rw [nQ q1]
  by_cases q2:c % 4=2/\loose≠[]
  .rw [nP q2];exact⟨_,_,_,Re hr (by lia) (by lia) (by have:=q2.1;lia) q2.1 q2.2⟩
  .rw [nQ q2,Oh hr q1 q2];cases left with
   |nil=>exact⟨_,_,_,QZ hr⟩
   |cons x left =>
    simp only;rw[lCq]at lf
    by_cases q0:c % 4=0
    .rw [nP q0];exact⟨_,_,_,Vt hr (by lia) (by lia) (by lia) (by lia) q0⟩
    .rw [nQ q0];exact⟨_,_,_,NF hr (by lia) (by lia) (by lia) q0⟩
def w0(nm:List Int):Wd:=⟨[[]],[],0,[],nm⟩
theorem Ta(nm:List Int):Rb nm (w0 nm) 0:=⟨by simp[w0],(λk h=>by cases h),ai _,ai _,ai _,(λa=>by simp[w0]),K11.G4 _⟩
theorem Cf{nm:List Int}{wild:Bool}:∀(cs:List Int) {w:Wd}{n:Nat},Rb nm w n->Rb nm (cs.foldl (A7 wild) w) (n+cs.length)
 | [],w,n,h=>h
 |c::cs,w,n,h=>by
  have:=Cf (wild:=wild) cs (h.step (wild:=wild) c);rw[bV,lCq,show n+(cs.length+1)=n+1+cs.length by lia]
  exact this
theorem Ig{nm cs:List Int}{wild:Bool}{v7 v8 v9 v10:Option AV}(hc:cs.length<=63) (hn:nm.length<=1000):∃v7' v8' v9' v10',qJ 7 qI (cs.map D.int) (st (some (.sh (dI cs))) (some (.sh (dI nm))) wild (w0 nm) v7 v8 v9 v10)=some (.nx (st (some (.sh (dI cs))) (some (.sh (dI nm))) wild (cs.foldl (A7 wild) (w0 nm)) v7' v8' v9' v10')):=by
 have key:=xu (x:=7) (body:=qI) (λi S=>∃v7 v8 v9 v10,S=st (some (.sh (dI cs))) (some (.sh (dI nm))) wild ((cs.take i).foldl (A7 wild) (w0 nm)) v7 v8 v9 v10) (ds:=cs.map D.int) (S:=st (some (.sh (dI cs))) (some (.sh (dI nm))) wild (w0 nm) v7 v8 v9 v10) ⟨v7,v8,v9,v10,rfl⟩ (by
  rintro i d S hd ⟨v7,v8,v9,v10,rfl⟩;rw[gMq]at hd;obtain⟨c,hc',rfl⟩:=oMq.mp hd;have hi:i<cs.length:=(gSq.mp hc').1;have ok:=Cf (nm:=nm) (wild:=wild) (cs.take i) (Ta nm);rw[lTq]at ok;obtain⟨v8',v9',v10',e⟩:=Me (wild:=wild) (c:=c) (v0:=some (.sh (dI cs))) (v1:=some (.sh (dI nm))) (v8:=v8) (v9:=v9) (v10:=v10) ok (by lia) hn
  refine⟨_,e,some (.sh (.int c)),v8',v9',v10',?_⟩;rw[LP hc'])
 obtain⟨S',e,v7',v8',v9',v10',rfl⟩:=key;rw[lMq,bx]at e;exact⟨v7',v8',v9',v10',e⟩
theorem L8{T:List (List Int)}{t0:List Nat}{hd:Nat}{loose left r:List Int}{wild:Bool}{v0 v1 v7 v8 v9 v10:Option AV}(hr:T[hd]?=some r) (hl:r.length+loose.length<=10000) :
  qS (sI (oU GI (tO qu (nh (nj 5) nI)) (rC (.int 0)))) uc 100000 (st v0 v1 wild ⟨T,t0,hd,loose,left⟩ v7 v8 v9 v10)=some (.nx (st v0 v1 wild ⟨T.set hd (r++loose.reverse),t0,hd,[],left⟩ v7 v8 v9 v10)):=by
 have hh:hd<T.length:=(gSq.mp hr).1;obtain⟨S',e,l2,rfl,z⟩:=zo (c:=sI (oU GI (tO qu (nh (nj 5) nI)) (rC (.int 0)))) (body:=uc)
  (λS=>∃l1 l2,S=st v0 v1 wild ⟨T.set hd (r++l2),t0,hd,l1,left⟩ v7 v8 v9 v10/\loose=l1++l2.reverse)
  (λS=>match S with|[_,_,_,_,_,some (.ow l),_,_,_,_,_]=>l.length|_=>0)
  (λS'=>∃l2,S'=st v0 v1 wild ⟨T.set hd (r++l2),t0,hd,[],left⟩ v7 v8 v9 v10/\loose=l2.reverse) (by
   rintro S ⟨l1,l2,rfl,hz⟩;have hzl:=congrArg bb hz;rw[lAq,List.length_reverse]at hzl;rcases cV l1 with rfl|⟨l,x,rfl⟩
   .refine ⟨false,_,?_,λq=>(nomatch q),λ_=>⟨l2,rfl,by rw[hz];rfl⟩⟩
    have k0:decide ((0:Int)<((0:Nat):Int))=false:=by decide
    have sl:=oh []
    simp_arith [st,sl,dI,k0]
   .rw [cW]at hz hzl ⊢;have hr2:(T.set hd (r++l2))[hd]?=some (r++l2):=aG hh;have n1:=Bd hr2;have iL:FQ T.length (hd:Int)=some hd:=Fz hh;have lT:(T.set hd (r++l2)).length=T.length:=lZq;have sw:=oh (cN (t0++[hd]));have at4:=Pb (t0:=t0) (hd:=hd);have cl:=BM (t0++[hd]);have sl:=oh (l++[x]);have k0:(0:Int)<((l++[x]).length:Int):=by rw[lAq,lSq];lia
    have ex:(l++[x]).map (λn=>AV.sh (.int n))=l.map (λn=>AV.sh (.int n))++[.sh (.int x)]:=by rw[mBq];rfl
    have p1:(l.map (λn=>AV.sh (.int n))++[AV.sh (.int x)])[(l.map (λn=>AV.sh (.int n))++[AV.sh (.int x)]).length-1]?=some (.sh (.int x)):=by
     rw[lAq,lSq,gYq (by lia)]
     simp
    have p2:(l.map (λn=>AV.sh (.int n))++[AV.sh (.int x)]).dropLast=l.map (λn=>AV.sh (.int n)):=dh
    have pp:=SZ (r':=r++l2++[x]) hr2;have a1:=C1 (r++l2) x;have l1':(r++l2).length<qp:=by
     rw[lAq,lSq]at hzl;rw[lAq];show _<16777216;lia
    have ess:(T.set hd (r++l2)).set hd (r++l2++[x])=T.set hd (r++(l2++[x])):=by rw[eQ,aF]
    refine⟨true,st v0 v1 wild ⟨T.set hd (r++l2),t0,hd,l++[x],left⟩ v7 v8 v9 v10,?_,λ_=>⟨st v0 v1 wild ⟨T.set hd (r++(l2++[x])),t0,hd,l,left⟩ v7 v8 v9 v10,?_,⟨l,l2++[x],rfl,by rw[hz];simp⟩,?_⟩,λq=>(nomatch q)⟩
    .simp_arith [st,sl,dI,k0]
    .simp_arith [uc,st,n1,iL,lT,sw,dI,at4,cl,ex,p1,p2,l1',a1,pp,ess,eq_self,true_and]
    .show (l.map _).length<((l++[x]).map _).length;rw[lMq,lMq,lAq,lSq];lia) 100000 (st v0 v1 wild ⟨T,t0,hd,loose,left⟩ v7 v8 v9 v10) ⟨loose,[],by rw[aNq,Z.FG hr],by simp⟩ (by
   show (loose.map _).length<100000;rw[lMq];lia)
 rw[e,z,fk]
theorem Ql{nm cs:List Int}{wild:Bool}(hc:cs.length<=63) (hn:nm.length<=100):∃(T:List (List Int)) (left:List Int),vk [dI cs,dI nm,.bl wild]=some (.ow (T.map aI))/\(∀a,T.flatten.count a+(yr left).count a=(yr nm).count a)/\K11.Az T/\0<T.length/\T.length<=64:=by
 obtain⟨v7,v8,v9,v10,e⟩:=Ig (nm:=nm) (wild:=wild) (v7:=none) (v8:=none) (v9:=none) (v10:=none) hc (by lia)
 have ok:=Cf (nm:=nm) (wild:=wild) cs (Ta nm);rw[bL]at ok;generalize cs.foldl (A7 wild) (w0 nm)=w at e ok;have hlen:=ok.len;obtain⟨T,t0,hd,loose,left⟩:=w;obtain⟨hh,ht,lw,lT,lf,cnt,tr⟩:=ok;simp only at hh ht lw lT lf cnt tr hlen;have hr:T[hd]?=some (T.getD hd []):=by rw[gDq,gEg hh];rfl
 have hrl:=Km hr;generalize T.getD hd []=r at hr hrl;have e2:=L8 (t0:=t0) (loose:=loose) (left:=left) (wild:=wild) (v0:=some (.sh (dI cs))) (v1:=some (.sh (dI nm))) (v7:=v7) (v8:=v8) (v9:=v9) (v10:=v10) hr (by lia)
 have e':qJ 7 qI (cs.map D.int) [some (.sh (dI cs)),some (.sh (dI nm)),some (.sh (.bl wild)),some (.ow [.ow []]),some (.ow [.sh (.int 0)]),some (.ow []),some (aI nm),none,none,none,none]=some (.nx (st (some (.sh (dI cs))) (some (.sh (dI nm))) wild ⟨T,t0,hd,loose,left⟩ v7 v8 v9 v10)):=e;refine⟨T.set hd (r++loose.reverse),left,?_,λa=>?_,tr.set hr,by rw[lZq];lia,by rw[lZq];lia⟩
 .have e3:((nm.map D.int).map AV.sh)=nm.map λn=>AV.sh (.int n):=by rw[mPq];rfl
  simp_arith [vk,BQ,dI,e3]
  simp -implicitDefEqProofs only [Z.Zh,gR,gS,gf,gg,fo,↓reduceIte,reduceCtorEq,dI]at e';rw[e']
  simp_arith [e2]
  simp_arith [st]
 .rw [Af a hr,List.count_reverse,cnt a]
end K31
namespace K31
open PySem L2 Mr Z Xe Zl
def rot(r:List Int) (e:Int):List Int:=r.drop (r.idxOf e)++r.take (r.idxOf e)
theorem rot_perm(r:List Int) (e:Int):(rot r e).Perm r:=by
 unfold rot;exact bW.trans (by rw[bo])
theorem rot_len(r:List Int) (e:Int):(rot r e).length=r.length:=(rot_perm r e).length_eq
theorem zw{r:List Int}{e:Int}(he:e∈r) (hl:r.length<=500000):rO [dI r,.int e]=some (aI (rot r e)):=by
 have hle:r.idxOf e<=r.length:=bZ (dr.mpr he);have hx:AB (dI r) [.int e]=some (.int (r.idxOf e:Nat)):=by
  show (qi (r.map D.int)).bind _=_;rw[rH];show (if _ then _ else _)=_
  rw[nP he]
 have hlen:(r.drop (r.idxOf e)).length+(r.take (r.idxOf e)).length<=qp:=by rw[aR,lTq];show _<=16777216;lia
 simp_arith [rO,zz,hx,CF,K3 r _ hle,An r _ hle,hlen,←mBq,Bp]
 rfl
def xk(rs:List (List Int)) (s:List (List Int)×List Nat) (o:Int):List (List Int)×List Nat:=if plc rs o∈s.2 then s else (s.1++[rot (rs.getD (plc rs o) []) o],s.2++[plc rs o])
def HK(rs:List (List Int)):Nat->Nat->List (List Int)×List Nat->List (List Int)×List Nat
 |0,_,s=>s
 |f+1,i,s=>if i<s.1.flatten.length then HK rs f (i+1) (xk rs s (-(s.1.flatten.getD i 0))) else s
def yK(rs:List (List Int)) (e:Int):List (List Int)×List Nat:=([rot (rs.getD (plc rs e) []) e],[plc rs e])
def rnd(rs:List (List Int)) (e:Int):List (List Int)×List Nat:=HK rs 2000 0 (yK rs e)
structure RI (rs:List (List Int)) (e:Int) (s:List (List Int)×List Nat) (i:Nat):Prop where
 pm:s.1.flatten.Perm (s.2.flatMap λp=>rs.getD p [])
 hd:∃Q,s.1=rot (rs.getD (plc rs e) []) e::Q
 nd:s.2.Nodup
 lt:∀p∈s.2,p<rs.length
 le:i<=s.1.flatten.length
 cl:∀j,j<i->plc rs (-(s.1.flatten.getD j 0))∈s.2
 ln:s.1.length=s.2.length
theorem Mu{a b:List Int}{j:Nat}(h:j<a.length):(a++b).getD j 0=a.getD j 0:=by
 rw[gDq,gDq,gZq h]
theorem Gw{g:Nat->List Int}:∀{ps l:List Nat},ps.Nodup->(∀p∈ps,p∈l)->(ps.flatMap g).length<=(l.flatMap g).length
 | [],l,_,_=>aY _
 |p::ps,l,hn,hs=>by
  have hn':=aA.mp hn;have pe:=List.perm_cons_erase (hs p (by simp))
  have h1:=Gw (g:=g) (l:=l.erase p) hn'.2 λq hq=>(eg (λz:q=p=>hn'.1 (z ▸ hq))).mpr (hs q (by simp[hq]))
  rw[(pe.flatMap_right g).length_eq,dg,dg,lAq,lAq];lia
theorem B1(rs:List (List Int)):(cL rs.length).flatMap (λp=>rs.getD p [])=rs.flatten:=by
 have e2:rs=(cL rs.length).map λp=>rs.getD p []:=by
  refine ip (by simp) λi a b=>?_
  simp[a]
 conv=>rhs;rw[e2]
 rfl
theorem SY{ps:List Nat}{rs:List (List Int)}(hn:ps.Nodup) (hl:∀p∈ps,p<rs.length):(ps.flatMap λp=>rs.getD p []).length<=rs.flatten.length:=by
 rw[←B1];exact Gw hn λp hp=>cB.mpr (hl p hp)
theorem RI.few{rs:List (List Int)}{e:Int}{s:List (List Int)×List Nat}{i:Nat}(h:RI rs e s i):s.1.flatten.length<=rs.flatten.length:=by
 rw[h.pm.length_eq];exact SY h.nd h.lt
theorem RI.mem{rs:List (List Int)}(hm:Mp rs) {e:Int}{s:List (List Int)×List Nat}{i:Nat}(h:RI rs e s i) {x:Int}(hx:x∈s.1.flatten):x∈rs.flatten/\plc rs x∈s.2:=by
 obtain⟨p,hp,hx⟩:=dE.mp (h.pm.mem_iff.mp hx);have hlt:=h.lt p hp;have hr:rs[p]?=some rs[p]:=gEg hlt;rw[gDq,hr,cu]at hx;rw[plc_eq hm.hn hr hx];exact⟨mFq.mpr ⟨_,mGq hr,hx⟩,hp⟩
theorem RI.step{rs:List (List Int)}(hm:Mp rs) {e:Int}{s:List (List Int)×List Nat}{i:Nat}(h:RI rs e s i) (hi:i<s.1.flatten.length):RI rs e (xk rs s (-(s.1.flatten.getD i 0))) (i+1):=by
 have hx:s.1.flatten.getD i 0∈s.1.flatten:=by
  rw[gDq,gEg hi];exact gRq hi
 obtain⟨m1,m2⟩:=h.mem hm hx;have hlt:=hm.lt (hm.hneg _ m1);unfold xk;split
 .rename_i q;refine⟨h.pm,h.hd,h.nd,h.lt,hi,λj hj=>?_,h.ln⟩
  by_cases hji:j<i
  .exact h.cl j hji
  .have:j=i:=by lia
   subst this;exact q
 .rename_i q;obtain⟨Q,hQ⟩:=h.hd;refine⟨?_,⟨Q++[_],by rw[hQ];rfl⟩,?_,?_,?_,λj hj=>?_,by simp[h.ln]⟩
  .simp only [fAq,aZ,gU,gC];exact h.pm.append (rot_perm _ _)
  .exact nAq.mpr ⟨h.nd,by simp,λa ha b hb z=>q (by rw[mSq]at hb;rw[←hb,←z];exact ha)⟩
  .intro p hp;rcases mAq.mp hp with hp|hp
   .exact h.lt p hp
   .rw [mSq.mp hp];exact hlt
  .simp only [fAq,lAq];lia
  .simp only [fAq,aZ];have hj':j<s.1.flatten.length:=by lia
   rw[Mu hj']
   by_cases hji:j<i
   .exact aU _ (h.cl j hji)
   .have:j=i:=by lia
    subst this;exact aE _ (by simp)
theorem CW{rs:List (List Int)}(hm:Mp rs) {e:Int}(he:e∈rs.flatten):RI rs e (yK rs e) 0:=by
 refine⟨?_,⟨[],rfl⟩,by simp[yK],?_,aY _,λj hj=>absurd hj (cG _),rfl⟩
 .simp only [yK,aZ,gC];exact rot_perm _ _
 .intro p hp;simp only[yK,mSq]at hp;rw[hp];exact hm.lt he
theorem Ni{rs:List (List Int)}(hm:Mp rs) {e:Int}:∀(f:Nat) {i:Nat}{s:List (List Int)×List Nat},RI rs e s i->rs.flatten.length-i<f->RI rs e (HK rs f i s) (HK rs f i s).1.flatten.length
 |0,i,s,h,hf=>absurd hf (cG _)
 |f+1,i,s,h,hf=>by
  unfold HK;split
  .rename_i q;have:=h.few;exact Ni hm f (h.step hm q) (by lia)
  .have:i=s.1.flatten.length:=by have:=h.le;lia
   subst this;exact h
theorem AD{rs:List (List Int)}(hm:Mp rs) {e:Int}(he:e∈rs.flatten):RI rs e (rnd rs e) (rnd rs e).1.flatten.length:=Ni hm 2000 (CW hm he) (by have:=hm.hl;lia)
def VX(Q:List (List Int)):AV:=.ow (Q.map λr=>.sh (dI r))
def HN(rs:List (List Int)) (e:Int) (s:List (List Int)×List Nat) (i:Nat) (v7 v8:Option AV):AS:=[some (.sh (dM rs)),some (.sh (.int e)),some (.owd (oV 0 rs)),some (VX s.1),some (aI s.1.flatten),some (.owd (kd s.2)),some (.sh (.int (i:Int))),v7,v8]
theorem Ea(Q:List (List Int)):(Q.map λr=>AV.sh (dI r)).map ny=Q.map dI:=by
 rw[mPq];rfl
theorem UM{ks:List Nat}{t:Nat}(h:t∉ks):vh (kd ks) (az (t:Int)) (.bl true)=kd (ks++[t]):=by
 rw[kd_put2];unfold addN;rw[nQ h]
theorem H0{rs:List (List Int)}(hm:Mp rs) {e:Int}{s:List (List Int)×List Nat}{i:Nat}{v7 v8:Option AV}(h:RI rs e s i) (hi:i<s.1.flatten.length):∃v7' v8',pQ (HN rs e s i v7 v8)=some (.nx (HN rs e (xk rs s (-(s.1.flatten.getD i 0))) (i+1) v7' v8')):=by
 have hx:s.1.flatten.getD i 0∈s.1.flatten:=by
  rw[gDq,gEg hi];exact gRq hi
 obtain⟨m1,m2⟩:=h.mem hm hx;have hn:=hm.hneg _ m1;have hlt:=hm.lt hn;have few:=h.few;have hl:=hm.hl;have hrr:=hm.hr;have pl:=K51.Uz _ _ h.nd h.lt;have ln:=h.ln;obtain⟨Q,ps⟩:=s;simp only at hi hx m1 m2 hn hlt few pl ln h ⊢;have at1:atI (Q.flatten.map D.int) (i:Int)=some (.int (Q.flatten.getD i 0)):=qd (by rw[gMq,gDq,gEg hi];rfl)
 have sE:=oh Q.flatten;generalize hx0:Q.flatten.getD i 0=x at *;have kv:=hm.kv hn;have kg:=kd_get ps (plc rs (-x));refine⟨some (.sh (.int (-x))),some (.sh (.int (plc rs (-x):Int))),?_⟩;have ei:((i+1:Nat):Int)=(i:Int)+1:=by lia
 unfold xk
 by_cases q:plc rs (-x)∈ps
 .have kg':(Z.getD (kd ps) (az (plc rs (-x):Int))).isSome=true:=by rw[kg];simp[q]
  simp only[q,if_true]
  simp_arith [pQ,HN,VX,sE,dI,at1,kv,kg',ei]
 .have kg':(Z.getD (kd ps) (az (plc rs (-x):Int))).isSome=false:=by rw[kg];simp[q]
  simp only[q,if_false];obtain⟨r,hr,hxr⟩:=hm.at hn;have gr:rs.getD (plc rs (-x)) []=r:=by rw[gDq,hr];rfl
  have rl:=hm.row hr;have tf:=zw hxr (by lia)
  have at2:atI (rs.map dI) (plc rs (-x):Int)=some (dI r):=qd (by rw[gMq,hr];rfl)
  have kn:=UM q;have kl:(kd ps).length<qp:=by unfold kd;rw[lMq];show _<16777216;lia
  have lQ:Q.length<qp:=by show _<16777216;lia
  have sQ:=Ea Q;have e1:(Q.map λr=>AV.sh (dI r))++[aI (rot r (-x))]=(Q.map λr=>AV.sh (dI r))++[.ow ((rot r (-x)).map λn=>.sh (.int n))]:=rfl
  have s1:((Q.map λr=>AV.sh (dI r))++[aI (rot r (-x))]).map ny=(Q++[rot r (-x)]).map dI:=by
   rw[mBq,sQ,mBq];show _++[ny (aI (rot r (-x)))]=_;rw[oh];rfl
  have at3:atI ((Q++[rot r (-x)]).map dI) (-1)=some (dI (rot r (-x))):=by rw[mBq];exact PJ _ _
  have rrl:=rot_len r (-x);have lE:Q.flatten.length+(rot r (-x)).length<=qp:=by rw[rrl];show _<=16777216;lia
  have e4:(Q.flatten.map λn=>AV.sh (.int n))++((rot r (-x)).map D.int).map AV.sh=(Q.flatten++rot r (-x)).map λn=>.sh (.int n):=by rw[mBq,mPq];rfl
  have e4':(Q.flatten.map λn=>AV.sh (.int n))++((rot r (-x)).map λn=>AV.sh (.int n))=(Q.flatten++rot r (-x)).map λn=>.sh (.int n):=mBq.symm
  have e5:(Q++[rot r (-x)]).flatten=Q.flatten++rot r (-x):=by simp
  have e6:((Q++[rot r (-x)]).map dI).map AV.sh=(Q++[rot r (-x)]).map λr=>AV.sh (dI r):=by rw[mPq];rfl
  have t1:(dI (rot r (-x))) = .list ((rot r (-x)).map D.int):=rfl;rw[gr]
  simp_arith [pQ,HN,VX,sE,at1,kv,kg',ei,kn,kl,lQ,dM,at2,tf,s1,at3,e6,t1,lE,e4,e4',e5]
theorem Ia{rs:List (List Int)}(hm:Mp rs) {e:Int}(he:e∈rs.flatten):∃i v7 v8,qS (sI (oU V4 (nj 6) (tO qu (nh (nj 4) nI)))) pQ 100000 (HN rs e (yK rs e) 0 none none)=some (.nx (HN rs e (rnd rs e) i v7 v8)):=by
 have hl:=hm.hl;obtain⟨S',ew,i,v7,v8,rfl⟩:=zo (c:=sI (oU V4 (nj 6) (tO qu (nh (nj 4) nI)))) (body:=pQ)
  (λS=>∃s i v7 v8,S=HN rs e s i v7 v8/\RI rs e s i/\HK rs (2000-i) i s=rnd rs e)
  (λS=>match S with|[_,_,_,_,_,_,some (.sh (.int i)),_,_]=>2000-i.toNat|_=>0)
  (λS'=>∃i v7 v8,S'=HN rs e (rnd rs e) i v7 v8) (by
   rintro S ⟨s,i,v7,v8,rfl,h,hg⟩;have few:=h.few;have sE:=oh s.1.flatten
   by_cases hi:i<s.1.flatten.length
   .have c1:(i:Int)<(s.1.flatten.length:Int):=by lia
    obtain⟨v7',v8',e1⟩:=H0 hm (v7:=v7) (v8:=v8) h hi;refine⟨true,HN rs e s i v7 v8,?_,λ_=>⟨_,e1,⟨_,_,_,_,rfl,h.step hm hi,?_⟩,?_⟩,λq=>(nomatch q)⟩
    .simp_arith [HN,sE,dI,c1]
    .rw [show 2000-i=(2000-(i+1))+1 by lia]at hg
     unfold HK at hg;rw[nP hi]at hg;exact hg
    .show 2000-((i+1:Nat):Int).toNat<2000-(i:Int).toNat;lia
   .have c1:¬ (i:Int)<(s.1.flatten.length:Int):=by lia
    refine⟨false,HN rs e s i v7 v8,?_,λq=>(nomatch q),λ_=>⟨i,v7,v8,?_⟩⟩
    .simp_arith [HN,sE,dI,c1]
    .have:HK rs (2000-i) i s=s:=by
      cases 2000-i with
      |zero=>rfl
      |succ f =>
       unfold HK;rw[nQ hi]
     rw[←hg,this]) 100000 (HN rs e (yK rs e) 0 none none) ⟨_,_,_,_,rfl,CW hm he,rfl⟩ (by
   show 2000-(0:Int).toNat<100000;lia)
 exact⟨i,v7,v8,ew⟩
theorem xg{rs:List (List Int)}(hm:Mp rs) {e:Int}(he:e∈rs.flatten):qh [dM rs,.int e]=some (.ok (VX (rnd rs e).1)):=by
 have hl:=hm.hl;obtain⟨i,v7,v8,ew⟩:=Ia hm he;have pa:=Ae hm.hn (by lia)
 have kv:=hm.kv he;obtain⟨r,hr,hxr⟩:=hm.at he;have gr:rs.getD (plc rs e) []=r:=by rw[gDq,hr];rfl
 have rl:=hm.row hr;have tf:=zw hxr (by lia)
 have at2:atI (rs.map dI) (plc rs e:Int)=some (dI r):=qd (by rw[gMq,hr];rfl)
 have s1:=oh (rot r e);have at0:atI [dI (rot r e)] 0=some (dI (rot r e)):=rfl;have t1:(dI (rot r e)) = .list ((rot r e).map D.int):=rfl;have e3:((rot r e).map D.int).map AV.sh=(rot r e).map λn=>AV.sh (.int n):=by rw[mPq];rfl
 have e4:[((az (plc rs e:Int):nO),D.bl true)]=kd [plc rs e]:=rfl;have l1:(1:Nat)<=qp:=by decide
 have e5:[some (.sh (dM rs)),some (.sh (.int e)),some (.owd (oV 0 rs)),some (.ow [.sh (dI (rot r e))]),some (.ow ((rot r e).map λn=>AV.sh (.int n))),some (.owd (kd [plc rs e])),some (.sh (.int 0)),none,none]=HN rs e (yK rs e) 0 none none:=by
  unfold HN yK VX;rw[gr];simp
 simp_arith [qh,xW,pa,kv,eF,dM,at2,tf,s1,at0,e3,e4,l1]
 simp -implicitDefEqProofs only [Z.Zh,gR,gS,gf,gg,fo,↓reduceIte,reduceCtorEq,dM]at e5;rw[e5,ew]
 simp_arith [HN]
theorem GL(Q:List (List Int)):ny (VX Q)=dM Q:=by
 unfold VX;rw[tm,Ea]
theorem yv{rs:List (List Int)}(hm:Mp rs) {e:Int}(he:e∈rs.flatten):qE [dM rs,.int e]=some (.ok (aI (rnd rs e).1.flatten)):=by
 have hl:=hm.hl;have h1:=xg hm he;have h2:=(AD hm he).few;have h3:=Ks (rs:=(rnd rs e).1) (by lia)
 have h4:=GL (rnd rs e).1
 simp_arith [qE,yH,h1,h4,h3]
structure Nm (nm:List Int):Prop where
 len:nm.length<=100
 nd:nm.Nodup
 lo:∀x∈nm,1<=x
structure Wm (nm:List Int) (T:List (List Int)):Prop where
 cnt:∃left,∀a,T.flatten.count a+(yr left).count a=(yr nm).count a
 tr:K11.Az T
 pos:0<T.length
 len:T.length<=64
theorem Em{nm:List Int}(h:Nm nm):(yr nm).Nodup:=K12.GB h.nd h.lo
theorem J4(l:List Int) (a:Int):(yr l).count (-a)=(yr l).count a:=by
 induction l with
 |nil=>rfl
 |cons x l ih =>
  rw[Ct,Ct,ih];congr 1;rw[show [x, -x]=[x]++[-x] from rfl,cAq,cAq]
  simp only[List.count_singleton];have e1:(x == -a)=(-x == a):=by rw[bA];simp <;> lia
  have e2:(-x == -a)=(x == a):=by rw[bA];simp <;> lia
  rw[e1,e2];lia
theorem Wm.nodup{nm:List Int}{T:List (List Int)}(hn:Nm nm) (h:Wm nm T):T.flatten.Nodup:=by
 obtain⟨left,hc⟩:=h.cnt;rw[dk];intro a;have h1:=dk.mp (Em hn) a;have:=hc a;lia
theorem Wm.neg{nm:List Int}{T:List (List Int)}(hn:Nm nm) (h:Wm nm T) {z:Int}(hz:z∈T.flatten):-z∈T.flatten:=by
 obtain⟨left,hc⟩:=h.cnt;have h1:=eK.mpr hz;have h2:=dk.mp (Em hn) z;have e1:=hc z;have e2:=hc (-z);rw[J4,J4]at e2;exact eK.mp (by lia)
theorem Wm.le{nm:List Int}{T:List (List Int)}(h:Wm nm T):T.flatten.length<=2*nm.length:=by
 obtain⟨left,hc⟩:=h.cnt;have:(T.flatten++yr left).Perm (yr nm):=by
  rw[dF];intro a;rw[cAq];exact hc a
 have:=this.length_eq;rw[lAq,wK nm]at this;lia
abbrev gm:=K12.gm
theorem JZ(T:List (List Int)):(gm T).flatten.Perm T.flatten:=(FH (K12.uN T)).trans (vM yg T)
theorem Fu(T:List (List Int)):(gm T).length=T.length:=by rw[(K12.uN T).length_eq,lMq]
theorem Wm.mp{nm:List Int}{T:List (List Int)}(hn:Nm nm) (h:Wm nm T):Mp (gm T):=by
 have pf:=JZ T;have:=h.le;have:=hn.len;have:=h.len;refine⟨pf.nodup_iff.mpr (h.nodup hn),by rw[pf.length_eq];lia,by rw[Fu];lia,λe he=>pf.mem_iff.mpr (h.neg hn (pf.mem_iff.mp he))⟩
def tj(rs:List (List Int)):Prop:=∀P:Nat->Prop,(∃s,s<rs.length/\P s)->(∀(p:Nat) (r:List Int) (x:Int),rs[p]?=some r->x∈r->P p->P (plc rs (-x)))->∀q,q<rs.length->P q
theorem O0{T:List (List Int)}(hm:Mp (gm T)) {r:List Int}(hr:r∈T):∃p,(gm T)[p]?=some (zS r)/\∀x∈r,plc (gm T) x=p:=by
 have h1:zS r∈gm T:=(K12.uN T).mem_iff.mpr (mMq.mpr ⟨r,hr,rfl⟩);obtain⟨p,hp⟩:=aV.mp h1;exact⟨p,hp,λx hx=>plc_eq hm.hn hp ((yg r).mem_iff.mpr hx)⟩
theorem Wm.conn{nm:List Int}{T:List (List Int)}(hn:Nm nm) (h:Wm nm T):tj (gm T):=by
 intro P ⟨s,hs,ps⟩ hc q hq;have hm:=h.mp hn
 by_cases h1:T.length=1
 .rw [Fu,h1]at hs hq;have:q=s:=by lia
  rw[this];exact ps
 have hpos:=h.pos;have rowne:∀k,k<T.length->∃z,z∈T.getD k []:=λk hk=>by
  by_cases hk0:k=0
  .subst hk0;obtain⟨j,e,hj,a,b⟩:=h.tr 1 (by lia) (by lia)
   have:j=0:=by lia
   subst this;exact⟨e,a⟩
  .obtain ⟨j,e,hj,a,b⟩:=h.tr k (by lia) hk
   exact⟨_,b⟩
 have rmem:∀k,k<T.length->T.getD k []∈T:=λk hk=>by
  rw[gDq,gEg hk];exact gRq hk
 have ends:∀k,k<T.length->∀z,z∈T.getD k []->z∈(gm T).flatten:=λk hk z hz=>(JZ T).mem_iff.mpr (mFq.mpr ⟨_,rmem k hk,hz⟩)
 have same:∀k,k<T.length->∀z w,z∈T.getD k []->w∈T.getD k []->P (plc (gm T) z)->P (plc (gm T) w):=λk hk z w hz hw hp=>by
  obtain⟨p,_,hp2⟩:=O0 hm (rmem k hk);rw[hp2 w hw];rw[hp2 z hz]at hp;exact hp
 have cross:∀z,z∈(gm T).flatten->P (plc (gm T) z)->P (plc (gm T) (-z)):=λz hz hp=>by
  obtain⟨r,hr,hx⟩:=hm.at hz;exact hc _ r z hr hx hp
 have down:(∀z,z∈T.getD 0 []->P (plc (gm T) z))->∀k,k<T.length->∀z,z∈T.getD k []->P (plc (gm T) z):=λh0 k=>by
  induction k using iA with
  |ind k ih =>
   intro hk z hz
   by_cases hk0:k=0
   .subst hk0;exact h0 z hz
   .obtain ⟨j,e,hj,a,b⟩:=h.tr k (by lia) hk
    exact same k hk _ z b hz (cross e (ends j (by lia) e a) (ih j hj (by lia) e a))
 have up:∀k,k<T.length->(∀z,z∈T.getD k []->P (plc (gm T) z))->∀z,z∈T.getD 0 []->P (plc (gm T) z):=λk=>by
  induction k using iA with
  |ind k ih =>
   intro hk hz
   by_cases hk0:k=0
   .subst hk0;exact hz
   .obtain ⟨j,e,hj,a,b⟩:=h.tr k (by lia) hk
    have p1:=cross (-e) (ends k hk _ b) (hz _ b);rw[ir]at p1;exact ih j hj (by lia) λz hz'=>same j (by lia) e z a hz' p1
 have find:∀q,q<(gm T).length->∃k,k<T.length/\∃z,z∈T.getD k []/\plc (gm T) z=q:=λq hq=>by
  have hr:=gEg hq;obtain⟨r,hr2,e⟩:=mMq.mp ((K12.uN T).mem_iff.mp (gRq hq));obtain⟨k,hk,e2⟩:=bF.mp hr2;have e3:T.getD k []=r:=by rw[gDq,gEg hk,e2];rfl
  obtain⟨z,hz⟩:=rowne k hk;refine⟨k,hk,z,hz,plc_eq hm.hn hr ?_⟩;rw[←e];exact(yg r).mem_iff.mpr (e3 ▸ hz)
 obtain⟨k,hk,z,hz,ez⟩:=find s hs;have z0:=up k hk λw hw=>same k hk z w hz hw (by rw[ez];exact ps)
 obtain⟨k',hk',z',hz',ez'⟩:=find q hq;have:=down z0 k' hk' z' hz';rw[ez']at this;exact this
theorem ye{rs:List (List Int)}(hm:Mp rs) (hc:tj rs) {e:Int}(he:e∈rs.flatten):(rnd rs e).2.Perm (cL rs.length)/\(rnd rs e).1.flatten.Perm rs.flatten:=by
 have h:=AD hm he;have all:∀q,q<rs.length->q∈(rnd rs e).2:=hc (λp=>p∈(rnd rs e).2) (by
   obtain⟨Q,hQ⟩:=h.hd;have h1:(rnd rs e).2≠[]:=λz=>by
    have:=h.ln;rw[hQ,z]at this;simp at this
   obtain⟨p,l,hp⟩:=List.exists_cons_of_ne_nil h1;exact⟨p,h.lt p (by rw[hp];simp),by rw[hp];simp⟩) (λp r x hr hx hp=>by
   have hxm:x∈(rnd rs e).1.flatten:=h.pm.mem_iff.mpr (dE.mpr ⟨p,hp,by rw[gDq,hr];exact hx⟩)
   obtain⟨j,hj,ej⟩:=bF.mp hxm;have:=h.cl j hj;rw[gDq,gEg hj,cu,ej]at this;exact this)
 have p1:(rnd rs e).2.Perm (cL rs.length):=by
  rw[dF];intro a
  by_cases ha:a<rs.length
  .have c1:=dk.mp h.nd a;have c2:=eK.mpr (all a ha);have c3:=dk.mp (iu (n:=rs.length)) a;have c4:=eK.mpr (cB.mpr ha);lia
  .rw [ft λz=>ha (h.lt a z),ft λz=>ha (cB.mp z)]
 refine⟨p1,h.pm.trans ((p1.flatMap_right _).trans ?_)⟩;rw[B1]
end K31
namespace K31
open PySem L2 Mr Z Xe Zl
open K12 (Ih KF)
def D2(st sh a b:Int) (n:Nat):List Int:=(cL n).map λk:Nat=>Ih st sh a b k
theorem Rp{st sh a b:Int}(h1:1<=st) (h2:0<=sh) (k:Nat):1<=Ih st sh a b k:=by
 have b1:0<=(a*(k:Int)+b) % 67:=bK _ (by decide)
 have l1:1*1<=st*((a*(k:Int)+b) % 67+1):=Int.mul_le_mul h1 (by lia) (by decide) (by lia)
 show 1<=st*((a*(k:Int)+b) % 67+1)+sh;lia
theorem Ub{st sh a b:Int}{n:Nat}(hn:n<=67) (h1:1<=st) (h2:0<=sh) (h3:1<=a) (h4:a<=66):Nm (D2 st sh a b n):=by
 refine⟨by unfold D2;rw[lMq,bz];lia,?_,λx h=>?_⟩
 .unfold D2;rw[bw,bg];refine cZ.imp_of_mem (λ{x y} hx hy hne e=>hne (KF h1 h3 h4 (by have:=cB.mp hx;lia) (by have:=cB.mp hy;lia) e)) (bw.mp iu)
 .obtain ⟨k,_,rfl⟩:=mMq.mp h;exact Rp h1 h2 k
end K31
namespace K33
open PySem L2 Mr Z Xe Zl
theorem rot_at{u v:List Int}{o:Int}(h:o∉u):K31.rot (u++o::v) o=o::v++u:=by
 have e:(u++o::v).idxOf o=u.length:=by
  rw[List.idxOf_append,nQ h,fq,bL]
 unfold K31.rot;rw[e,List.drop_left,iH]
theorem Ku{f:Int->Int}:∀{l:List Int}{x:Int},(∀y∈l,f y=f x->y=x)->(l.map f).idxOf (f x)=l.idxOf x
 | [],x,_=>rfl
 |y::l,x,h=>by
  rw[aB,fu,fu,Ku λz hz=>h z (mCo _ hz)]
  have e:(f y == f x)=(y == x):=by
   rw[bA];simp only[beq_iff_eq];exact⟨h y (by simp),λq=>by rw[q]⟩
  rw[e]
structure Z5 (f:Int->Int) (E:List Int):Prop where
 odd:∀x∈E,f (-x) = -(f x)
 inj:∀x∈E,∀y∈E,f x=f y->x=y
section
variable {f:Int->Int}{R:List (List Int)}
abbrev RD(f:Int->Int) (R:List (List Int)):List (List Int):=R.map λt=>t.map f
theorem C4(f:Int->Int) (R:List (List Int)):(RD f R).flatten=R.flatten.map f:=by
 unfold RD;rw[iw]
theorem OL{f:Int->Int}:∀{E:List Int},E.Nodup->(∀x∈E,∀y∈E,f x=f y->x=y)->(E.map f).Nodup
 | [],_,_=>aT
 |x::E,hn,h=>by
  have hn':=aA.mp hn;rw[aB,aA];refine⟨λz=>?_,OL hn'.2 λa ha b hb=>h a (mCo _ ha) b (mCo _ hb)⟩
  obtain⟨y,hy,e⟩:=mMq.mp z;have:=h y (mCo _ hy) x (by simp) e
  exact hn'.1 (this ▸ hy)
theorem Nn{R:List (List Int)}(hn:R.flatten.Nodup) {t:List Int}(ht:t∈R):t.Nodup:=hn.sublist (bf ht)
def code(Q:List (List Int)):List (List Int):=Q.map λr=>r.map λx=>(Q.flatten.idxOf (-x):Int)
theorem Nf{Q:List (List Int)}(hr:Z5 f Q.flatten) (hneg:∀x∈Q.flatten, -x∈Q.flatten):code (RD f Q)=code Q:=by
 unfold code;rw[C4];unfold RD;rw[mPq];refine mCq λr hrQ=>?_
 show (r.map f).map _=_;rw[mPq];refine mCq λx hx=>?_
 have hxm:x∈Q.flatten:=mFq.mpr ⟨r,hrQ,hx⟩;show (((Q.flatten.map f).idxOf (-(f x)):Nat):Int)=_;rw[←hr.odd x hxm,Ku λy hy e=>hr.inj y hy (-x) (hneg x hxm) e]
end
abbrev cR(r:List Int):D:=.tup (r.map .int)
abbrev cD(c:List (List Int)):D:=.tup (c.map cR)
def tRow(r:List Int):PyData:=.tuple (r.map .int)
theorem Yu(r:List Int):py (cR r)=some (tRow r):=by
 show py (.tup _)=_;simp only[py,Gy];rfl
theorem WV(c:List (List Int)):DR (c.map cR)=some (c.map tRow):=by
 induction c with
 |nil=>simp[DR]
 |cons r rs ih =>
  show DR (cR r::rs.map cR)=_;simp only[DR,Yu,ih];rfl
theorem Xy(c:List (List Int)):py (cD c)=some (.tuple (c.map tRow)):=by
 show py (.tup _)=_;simp only[py,WV];rfl
theorem KN:∀c:List (List Int),PyData.depthAll (c.map tRow)<=2
 | []=>by simp[PyData.depthAll]
 |r::c=>by
  have h1:=W.depthAll_ints r;have h2:=KN c;simp only[aB,PyData.depthAll,tRow,PyData.depth];lia
theorem Tq:∀c:List (List Int),PyData.canLayAll0 (c.map tRow)=true
 | []=>by simp[PyData.canLayAll0]
 |r::c=>by
  have h1:=W.canLayAll0_ints r;have h2:=Tq c;simp only[aB,PyData.canLayAll0,tRow,PyData.canLay0];simp[h1,h2]
theorem GN(c:List (List Int)):SeqAt.shaped (.tuple (c.map tRow))=true:=by
 have h1:=KN c;have h2:PyData.depth (.tuple (c.map tRow))<=64:=by simp only[PyData.depth];lia
 show (PyData.canLay0 (.tuple (c.map tRow)) && decide (PyData.depth (.tuple (c.map tRow))<=64))=true;rw[dC];exact⟨by simp only[PyData.canLay0];exact Tq c,decide_eq_true h2⟩
theorem KI:∀rs ts:List (List Int),SeqAt.noMixAll (rs.map tRow) (ts.map tRow)=true
 | [],[]=>by simp[SeqAt.noMixAll]
 | [],_::_=>by simp[SeqAt.noMixAll]
 |_::_,[]=>by simp[SeqAt.noMixAll]
 |r::rs,t::ts=>by simp[SeqAt.noMixAll,tRow,SeqAt.noMix,W.noMix_ints r t,KI rs ts]
theorem Nj:∀rs ts:List (List Int),PySem.Spec.sameAll (rs.map tRow) (ts.map tRow)=decide (rs=ts)
 | [],[]=>by simp[PySem.Spec.sameAll]
 | [],_::_=>by simp[PySem.Spec.sameAll]
 |_::_,[]=>by simp[PySem.Spec.sameAll]
 |r::rs,t::ts=>by
  simp only[aB,PySem.Spec.sameAll,tRow,PySem.Spec.same,W.same_ints r t];rw[Nj rs ts]
  by_cases h:r=t <;> simp[h]
theorem Vb(c e:List (List Int)):yN (cD c) (cD e)=some (.bl (decide (c=e))):=by
 unfold yN;rw[Xy,Xy];show (if _ then _ else _)=_
 rw[nP ⟨GN c,GN e,by simp only[SeqAt.noMix];exact KI c e⟩]
 simp only[PySem.Spec.same,Nj]
def Da:Nat->List Int->List (nO×D)
 |_,[]=>[]
 |k,x::l=>((az x:nO),D.int (k:Int))::Da (k+1) l
theorem FZ(x:Int):∀(l:List Int) (k:Nat),Da k (l++[x])=Da k l++[((az x:nO),D.int ((k+l.length:Nat):Int))]
 | [],k=>by simp[Da]
 |y::l,k=>by
  show _::Da (k+1) (l++[x])=(_::Da (k+1) l)++_;rw[FZ x l (k+1),lCq,show k+1+l.length=k+(l.length+1) by lia]
  rfl
theorem Cm:∀(l:List Int) (k:Nat),(Da k l).map (·.1)=l.map az
 | [],k=>rfl
 |y::l,k=>by
  show _::(Da (k+1) l).map (·.1)=_;rw[Cm l (k+1)];rfl
theorem Rg(l:List Int) (k:Nat):(Da k l).length=l.length:=by
 have:=congrArg bb (Cm l k)
 rwa [lMq,lMq]at this
theorem Kj{x:Int}:∀{l:List Int}{k:Nat},x∈l->Z.getD (Da k l) (.inl x)=some (.int ((k+l.idxOf x:Nat):Int))
 | [],k,h=>by cases h
 |y::l,k,h=>by
  unfold Z.getD;show ((((az y:nO),D.int (k:Int))::Da (k+1) l).find? _).map _=_
  by_cases c:y=x
  .subst c;rw[cP (by simp),fq]
   rfl
  .rw [cg (by simp[c])]
   have:=Kj (l:=l) (k:=k+1) ((ao.mp h).resolve_left λz=>c z.symm)
   rw[fu,show (y == x)=false by simp[c]]
   show Z.getD (Da (k+1) l) (.inl x)=_;rw[this];show some (D.int ((k+1+l.idxOf x:Nat):Int))=some (D.int ((k+(l.idxOf x+1):Nat):Int));rw[show k+1+l.idxOf x=k+(l.idxOf x+1) by lia]
theorem zY{E r:List Int}(h:∀x∈r, -x∈E) (hl:r.length<=500000):qB [.dict (Da 0 E),dI r]=some (.sh (cR (r.map λx=>(E.idxOf (-x):Int)))):=by
 have key:qX tL (kSc (xZ (nj 1) (Kg Ap (nj 0)))) [some (.sh (.dict (Da 0 E)))] (r.map D.int)=some (r.map λx=>.sh (.int (E.idxOf (-x):Int))):=by
  rw[Z.sX λd=>match d with|.int x=>.sh (.int (E.idxOf (-x):Int))|_=>.sh .non]
  .rw [mPq];rfl
  .intro d hd;obtain⟨x,hx,rfl⟩:=mMq.mp hd;have g:=Kj (k:=0) (h x hx);rw[bL]at g;refine⟨[some (.sh (.int x)),some (.sh (.dict (Da 0 E)))],?_⟩
   simp_arith [g]
 have e:(r.map λx=>AV.sh (.int (E.idxOf (-x):Int))).map ny=(r.map λx=>(E.idxOf (-x):Int)).map D.int:=by
  rw[mPq,mPq];rfl
 have lk:r.length<=qp:=by show _<=16777216;lia
 simp_arith [qB,zW,dI,key,lk,e]
theorem JC{Q:List (List Int)}(hn:Q.flatten.Nodup) (hneg:∀x∈Q.flatten, -x∈Q.flatten) (hl:Q.flatten.length<=1000) (hQ:Q.length<=1000):vz [dM Q]=some (.sh (cD (code Q))):=by
 have to:=Ks (rs:=Q) (by lia)
 have sE:=oh Q.flatten;have cl:qX tL (qo K33.qB (nH (ot 1) (nH (ot 0) oM))) [some (.sh (.dict (Da 0 Q.flatten)))] (Q.map dI)=some (Q.map λr=>.sh (cR (r.map λx=>(Q.flatten.idxOf (-x):Int)))):=by
  rw[Z.sX λd=>match d with|.list l=>(qB [.dict (Da 0 Q.flatten),.list l]).getD (.sh .non)|_=>.sh .non]
  .rw [mPq];refine congrArg some (mCq λr hr=>?_)
   have tc:=zY (E:=Q.flatten) (r:=r) (λx hx=>hneg x (mFq.mpr ⟨r,hr,hx⟩)) (by have:=eT.length_le (bf hr);lia)
   show (qB [.dict (Da 0 Q.flatten),dI r]).getD (.sh .non)=_;rw[tc];rfl
  .intro d hd;obtain⟨r,hr,rfl⟩:=mMq.mp hd;have tc:=zY (E:=Q.flatten) (r:=r) (λx hx=>hneg x (mFq.mpr ⟨r,hr,hx⟩)) (by have:=eT.length_le (bf hr);lia)
   refine⟨[some (.sh (dI r)),some (.sh (.dict (Da 0 Q.flatten)))],?_⟩
   simp_arith [tc,cu]
 obtain⟨S',e,v2,v3,rfl⟩:=OS (x:=2) (y:=3) (k:=0) (body:=wF) (λi S=>∃v2 v3,S=[some (.sh (dM Q)),some (.owd (Da 0 (Q.flatten.take i))),v2,v3]) (ds:=Q.flatten.map D.int) (S:=[some (.sh (dM Q)),some (.owd []),none,none]) ⟨none,none,rfl⟩ (by
  rintro i d S hd ⟨v2,v3,rfl⟩;rw[bL];rw[gMq]at hd;obtain⟨x,hx,rfl⟩:=oMq.mp hd;have hi:i<Q.flatten.length:=(gSq.mp hx).1;have h3:(Da 0 (Q.flatten.take i)).length<qp:=by rw[Rg,lTq];show _<16777216;lia
  have hput:vh (Da 0 (Q.flatten.take i)) (.inl x) (.int (i:Int))=Da 0 (Q.flatten.take (i+1)):=by
   rw[B0]
   .rw [rd hx,FZ,lTq,cX (by lia),bL]
   .rw [Cm];intro m;obtain⟨y,hy,e2⟩:=mMq.mp m;cases e2;have:=hn.sublist (bD (i+1) Q.flatten);rw[rd hx]at this;exact(nAq.mp this).2.2 _ hy _ (by simp) rfl
  refine⟨_,?_,some (.sh (.int (i:Int))),some (.sh (.int x)),rfl⟩
  simp_arith [wF,h3,hput])
 rw[lMq,bL,bx]at e;have st:(Q.map λr=>AV.sh (cR (r.map λx=>(Q.flatten.idxOf (-x):Int)))).map ny=(code Q).map cR:=by
  unfold code;rw[mPq,mPq];rfl
 have lQ:Q.length<=qp:=by show _<=16777216;lia
 simp_arith [vz,CZ,to,sE,dI,e,dM,cl,lQ,st]
theorem CJ{rs:List (List Int)}(hn:rs.flatten.Nodup):∀{ps:List Nat},ps.Nodup->(∀p∈ps,p<rs.length)->(ps.flatMap λp=>rs.getD p []).Nodup
 | [],_,_=>aT
 |p::ps,hp,hl=>by
  have hp':=aA.mp hp;have row:∀q,q<rs.length->rs[q]?=some (rs.getD q []):=λq hq=>by rw[gDq,gEg hq];rfl
  rw[dg,nAq];refine⟨Nn hn (mGq (row p (hl p (by simp)))),CJ hn hp'.2 λq hq=>hl q (by simp[hq]),λa ha b hb e=>?_⟩
  subst e;obtain⟨q,hq,hb⟩:=dE.mp hb;have:=same_place hn (row p (hl p (by simp))) (row q (hl q (by simp[hq]))) ha hb
  exact hp'.1 (this ▸ hq)
section
variable {rs:List (List Int)}{e:Int}
theorem Ph(hm:Mp rs) (he:e∈rs.flatten):(K31.rnd rs e).1.flatten.Nodup:=by
 have h:=K31.AD hm he;exact h.pm.nodup_iff.mpr (CJ hm.hn h.nd h.lt)
theorem Bs(hm:Mp rs) (he:e∈rs.flatten):∀x∈(K31.rnd rs e).1.flatten, -x∈(K31.rnd rs e).1.flatten:=λx hx=>by
 have h:=K31.AD hm he;obtain⟨j,hj,ej⟩:=bF.mp hx;have hp:=h.cl j hj;rw[gDq,gEg hj,cu,ej]at hp;obtain⟨r,hr,hxr⟩:=hm.at (hm.hneg x (h.mem hm hx).1);refine h.pm.mem_iff.mpr (dE.mpr ⟨_,hp,?_⟩);rw[gDq,hr];exact hxr
theorem yB(hm:Mp rs) (he:e∈rs.flatten):qF [dM rs,.int e]=some (.ok (.sh (cD (code (K31.rnd rs e).1)))):=by
 have h1:=K31.xg hm he;have h:=K31.AD hm he;have h2:=h.few;have h5:=K51.Uz _ _ h.nd h.lt;have h6:=h.ln;have hl:=hm.hl;have hr:=hm.hr;have h3:=JC (Ph hm he) (Bs hm he) (by lia) (by lia)
 have h4:=K31.GL (K31.rnd rs e).1
 simp_arith [qF,yG,h1,h4,h3]
end
end K33
namespace K51
open PySem L2 Mr Z Xe Zl
def rot(r:List Int):List Int:=r.drop 1++r.take 1
def qr(r:List Int):List (nO×Int):=(r.zip (rot r)).map λp=>(.inl p.1,p.2)
def qg(rs:List (List Int)):List (nO×Int):=(rs.map qr).flatten
def yY(ps:List (nO×Int)):List (nO×D):=ps.map λp=>(p.1,D.int p.2)
theorem rot_len(r:List Int):(rot r).length=r.length:=by
 unfold rot;rw[lAq,aR,lTq];lia
theorem rot_perm(r:List Int):(rot r).Perm r:=by
 unfold rot;refine bW.trans ?_;rw[bo]
theorem xU(r:List Int):(qr r).length=r.length:=by
 unfold qr;rw[lMq,List.length_zip,rot_len,Nat.min_self]
theorem zK(r:List Int):(qr r).map (·.1)=r.map az:=by
 unfold qr;rw[mPq];have:r.map az=((r.zip (rot r)).map Prod.fst).map (az:Int->nO):=by rw[List.map_fst_zip (by rw[rot_len];exact ai _)]
 rw[this,mPq];rfl
theorem E4(r:List Int):(qr r).map (·.2)=rot r:=by
 unfold qr;rw[mPq];have:rot r=(r.zip (rot r)).map Prod.snd:=by rw[List.map_snd_zip (by rw[rot_len];exact ai _)]
 exact this.symm
theorem rK:∀(rs:List (List Int)),(qg rs).map (·.1)=rs.flatten.map az
 | []=>rfl
 |r::rs=>by
  show (qr r++qg rs).map (·.1)=_;rw[mBq,zK,rK rs,fCq,mBq]
theorem B6:∀(rs:List (List Int)),((qg rs).map (·.2)).Perm rs.flatten
 | []=>.nil
 |r::rs=>by
  show ((qr r++qg rs).map (·.2)).Perm _;rw[mBq,E4,fCq];exact(rot_perm r).append (B6 rs)
theorem Ar(rs:List (List Int)):(qg rs).length=rs.flatten.length:=by
 have:=congrArg bb (rK rs)
 rwa [lMq,lMq]at this
theorem Iv(rs:List (List Int)) (r:List Int):qg (rs++[r])=qg rs++qr r:=by
 unfold qg;rw[mBq,fAq];simp
theorem Ru(ps:List (nO×Int)):(yY ps).length=ps.length:=lMq _
theorem Sa(a b:List (nO×Int)):yY (a++b)=yY a++yY b:=mBq
theorem OO(ps:List (nO×Int)):(yY ps).map (·.1)=ps.map (·.1):=by
 unfold yY;rw[mPq];rfl
theorem BK{r:List Int}{j:Nat}{z y:Int}(h:r[j]?=some z) (h2:(rot r)[j]?=some y):(qr r)[j]?=some (.inl z,y):=by
 unfold qr;rw[gMq,fU (z:=(z,y)).mpr ⟨h,h2⟩];rfl
theorem PP{rs:List (List Int)}{i j:Nat}{r:List Int}{z y:Int}(hn:rs.flatten.Nodup) (hr:rs[i]?=some r) (hz:r[j]?=some z) (hy:(rot r)[j]?=some y) :
  vh (yY (qg (rs.take i)++(qr r).take j)) (.inl z) (.int y)=yY (qg (rs.take i)++(qr r).take (j+1)):=by
 have hfl:=qb hr;have hnd:((rs.take i).flatten++r).Nodup:=by
  rw[←hfl];have e0:rs.flatten=(rs.take (i+1)).flatten++(rs.drop (i+1)).flatten:=by rw[←fAq,bo]
  rw[e0]at hn;exact(nAq.mp hn).1
 rw[B0]
 .rw [rd (BK hz hy),←aF,Sa (_++_) [_]];rfl
 .rw [OO,mBq,rK,fg,zK,←fg];intro m;rcases mAq.mp m with m|m
  .obtain ⟨x,hx,e2⟩:=mMq.mp m;cases e2;exact(nAq.mp hnd).2.2 _ hx _ (mGq hz) rfl
  .obtain ⟨x,hx,e2⟩:=mMq.mp m;cases e2;have:=cZ.sublist (bD (j+1) r) (nAq.mp hnd).2.1;rw[rd hz]at this;exact(nAq.mp this).2.2 _ hx _ (by simp) rfl
theorem Lv{rs:List (List Int)}{i j:Nat}{r:List Int}(hl:rs.flatten.length<=1000) (hr:rs[i]?=some r):(yY (qg (rs.take i)++(qr r).take j)).length<qp:=by
 refine Qw ?_;have h1:=tJ rs (i+1);rw[qb hr,lAq]at h1;rw[Ru,lAq,Ar,lTq,xU];lia
theorem Ao{rs:List (List Int)}(hm:Mp rs):∃kn PS,Ps rs rs.length kn PS/\nJ [dM rs]=if PS.length=1 then some (.ok (.sh .non)) else some (.ex "NotOnePiece" []):=by
 obtain⟨kn,PS,hp,e⟩:=L0 hm;refine⟨kn,PS,hp,?_⟩
 by_cases h:PS.length=1
 .have h':((PS.length:Nat):Int)=1:=by lia
  rw[nP h]
  simp_arith [nJ,qz,e,h']
 .have h':¬ ((PS.length:Nat):Int)=1:=by lia
  simp_arith [nJ,qz,e,h',h]
end K51
namespace Zl
open PySem L2 Mr Z Xe
def QA(f:Int->Int):Nat->Int->Int
 |0,e=>e
 |n+1,e=>f (QA f n e)
theorem Uq:∀(l E:List Int),l.Nodup->(∀x∈l,x∈E)->l.length<=E.length
 | [],E,_,_=>aY _
 |x::l,E,hn,h=>by
  have hn':=aA.mp hn;have hx:=h x (aD ..);have h2:=Uq l (E.erase x) hn'.2 (λy hy=>by
   refine(eg ?_).mpr (h y (mCo _ hy));intro e;exact hn'.1 (e ▸ hy))
  rw[fZ hx]at h2;have:=bQ hx;rw[lCq];lia
section
variable {f:Int->Int}{E:List Int}
structure Cy (f:Int->Int) (e:Int) (l:List Int):Prop where
 len:1<=l.length
 get:l=(cL l.length).map λn=>QA f n e
 back:QA f l.length e=e
 nd:l.Nodup
end
end Zl
namespace K15
open PySem L2 Mr Z Xe Zl
theorem zJ{ps:List (nO×Int)}{k:nO}{n:Int}(hn:(ps.map (·.1)).Nodup) (h:(k,n)∈ps):Z.getD (K51.yY ps) k=some (.int n):=by
 induction ps with
 |nil=>cases h
 |cons p ps ih =>
  rw[aB,aA]at hn;unfold Z.getD;show (((p.1,D.int p.2)::K51.yY ps).find? _).map _=_;rcases ao.mp h with e|e
  .rw [←e,cP (by simp)]
   rfl
  .rw [cg (by
    intro z;have z':p.1=k:=by simpa using z
    exact hn.1 (by rw[z'];exact mMq.mpr ⟨_,e,rfl⟩))]
   exact ih hn.2 e
def nx(rs:List (List Int)) (e:Int):Int:=match Z.getD (K51.yY (K51.qg rs)) (.inl e) with
 |some (.int n)=>n
 |_=>0
section
variable {rs:List (List Int)}
theorem EO(hn:rs.flatten.Nodup):((K51.qg rs).map (·.1)).Nodup:=by
 rw[K51.rK,bw,bg];exact cZ.imp (λh e=>h (az.inj e)) (bw.mp hn)
theorem JI(hn:rs.flatten.Nodup) {e:Int}(he:e∈rs.flatten):(az e,nx rs e)∈K51.qg rs:=by
 have hk:(az e:nO)∈(K51.qg rs).map (·.1):=by rw[K51.rK];exact mMq.mpr ⟨e,he,rfl⟩
 obtain⟨⟨k,n⟩,hp,rfl⟩:=mMq.mp hk;have:=zJ (EO hn) hp;unfold nx;rw[this];exact hp
theorem NY(hn:rs.flatten.Nodup) {e:Int}(he:e∈rs.flatten):Z.getD (K51.yY (K51.qg rs)) (.inl e)=some (.int (nx rs e)):=zJ (EO hn) (JI hn he)
theorem CL(hn:rs.flatten.Nodup) {e:Int}(he:e∈rs.flatten):nx rs e∈rs.flatten:=(K51.B6 rs).mem_iff.mp (mMq.mpr ⟨_,JI hn he,rfl⟩)
theorem XU(rs:List (List Int)):(K51.yY (K51.qg rs)).map (λp=>kD p.1)=rs.flatten.map D.int:=by
 have:(K51.yY (K51.qg rs)).map (λp=>kD p.1)=((K51.qg rs).map (·.1)).map kD:=by
  unfold K51.yY;rw[mPq,mPq];rfl
 rw[this,K51.rK,mPq];rfl
end
section
variable {rs:List (List Int)}
theorem rot_at{r:List Int}{j:Nat}(hj:j<r.length):(K51.rot r)[j]?=r[(j+1) % r.length]?:=by
 unfold K51.rot
 by_cases h:j+1<r.length
 .rw [fi h,gZq (by rw[aR];lia),cS,hW]
 .have e:j+1=r.length:=by lia
  rw[e,iQ,gYq (by rw[aR];lia),aR,dq (by lia)]
  congr 1;lia
theorem DT(hm:Mp rs):vJ [dM rs]=some (.owd (K51.yY (K51.qg rs))):=by
 have hn:=hm.hn;have hl:=hm.hl;have key:=xu (x:=2) (body:=wk) (λi S=>∃v2 v3,S=[some (.sh (dM rs)),some (.owd (K51.yY (K51.qg (rs.take i)))),v2,v3]) (ds:=rs.map dI) (S:=[some (.sh (dM rs)),some (.owd []),none,none]) ⟨none,none,rfl⟩ (by
  rintro i d S hd ⟨v2,v3,rfl⟩;obtain⟨r,hr,rfl⟩:=E2 hd;have hrl:=hm.row hr;have k2:=xu (x:=3) (body:=wN) (λj S=>∃v3,S=[some (.sh (dM rs)),some (.owd (K51.yY (K51.qg (rs.take i)++(K51.qr r).take j))),some (.sh (dI r)),v3]) (ds:=pD 0 r.length) (S:=[some (.sh (dM rs)),some (.owd (K51.yY (K51.qg (rs.take i)))),some (.sh (dI r)),v3]) ⟨v3,by simp⟩ (by
   rintro j d S hd ⟨v3,rfl⟩;have hj:j<r.length:=by
    have:=(gSq.mp hd).1
    rwa [qG]at this
   rw[yW hj,hX]at hd;cases hd;have hz:r[j]?=some r[j]:=gEg hj;have hm2:(j+1) % r.length<r.length:=gV _ (by lia)
   have hy:(K51.rot r)[j]?=some r[(j+1) % r.length]:=by rw[rot_at hj];exact gEg hm2
   have h3:=K51.Lv (j:=j) hl hr;have hput:=K51.PP hn hr hz hy;have a1:atI (r.map D.int) (j:Int)=some (.int r[j]):=qd (by rw[gMq,hz];rfl)
   have md:=rn (i:=(j:Int)+1) (j:=(r.length:Int)) (by lia)
   have em:((j:Int)+1) % (r.length:Int)=(((j+1) % r.length:Nat):Int):=by push_cast;rfl
   rw[em]at md;have a2:atI (r.map D.int) (((j+1) % r.length:Nat):Int)=some (.int r[(j+1) % r.length]):=qd (by rw[gMq,gEg hm2];rfl)
   refine⟨_,?_,some (.sh (.int (j:Int))),rfl⟩
   simp_arith [wN,dI,a1,md,a2,h3,hput])
  obtain⟨S2,e2,w3,rfl⟩:=k2;rw[qG,←K51.xU,bx]at e2;have rg:CA [.int (r.length:Int)]=some (pD 0 r.length):=BB (by lia)
  rw[K51.xU]at e2;refine⟨_,?_,some (.sh (dI r)),w3,rfl⟩;rw[rd hr,K51.Iv]
  simp_arith [wk,dI,rg,e2])
 obtain⟨S',e,v2,v3,rfl⟩:=key;rw[lMq,bx]at e
 simp_arith [vJ,BP,e]
end
end K15
namespace K32
open PySem L2 Mr Z Xe Zl
structure RH (rs:List (List Int)) (Q:List (List Int)):Prop where
 row:∀q∈Q,∃r o,r∈rs/\o∈r/\q=K31.rot r o
 ord:∀i,0<i->i<Q.length->∃t x,t<(Q.take i).flatten.length/\Q.flatten[t]?=some x/\(Q.getD i [])[0]?=some (-x)/\-x∉(Q.take i).flatten/\∀j y,j<t->Q.flatten[j]?=some y->-y∈(Q.take i).flatten
section
variable {rs:List (List Int)}{e:Int}
theorem zm{r:List Int}{o:Int}(ho:o∈r):(K31.rot r o)[0]?=some o:=by
 obtain⟨u,v,rfl,h1⟩:=List.eq_append_cons_of_mem ho;rw[K33.rot_at h1];rfl
theorem vd(hm:Mp rs) {o:Int}(ho:o∈rs.flatten):rs.getD (plc rs o) []∈rs/\o∈rs.getD (plc rs o) []:=by
 obtain⟨r,hr,h⟩:=hm.at ho;rw[gDq,hr];exact⟨mGq hr,h⟩
theorem MN(Q:List (List Int)) (i:Nat):Q.flatten=(Q.take i).flatten++(Q.drop i).flatten:=by rw[←fAq,bo]
theorem SX(hm:Mp rs) {s:List (List Int)×List Nat}{i:Nat}(h:K31.RI rs e s i) {z:Int}(hz:z∈rs.flatten) (hp:plc rs z∈s.2):z∈s.1.flatten:=h.pm.mem_iff.mpr (dE.mpr ⟨_,hp,(vd hm hz).2⟩)
theorem RH.step(hm:Mp rs) {s:List (List Int)×List Nat}{i:Nat}(h:K31.RI rs e s i) (g:RH rs s.1) (hi:i<s.1.flatten.length):RH rs (K31.xk rs s (-(s.1.flatten.getD i 0))).1:=by
 have hx:s.1.flatten.getD i 0∈s.1.flatten:=by
  rw[gDq,gEg hi];exact gRq hi
 have hx':s.1.flatten[i]?=some (s.1.flatten.getD i 0):=by rw[gDq,gEg hi];rfl
 obtain⟨m1,m2⟩:=h.mem hm hx;have hn:=hm.hneg _ m1;unfold K31.xk;split
 .exact g
 .rename_i q;obtain⟨a1,a2⟩:=vd hm hn;refine⟨λq' hq=>?_,λk h0 hk=>?_⟩
  .rcases mAq.mp hq with hq|hq
   .exact g.row q' hq
   .rw [mSq.mp hq];exact⟨_,_,a1,a2,rfl⟩
  .simp only [lAq,lSq]at hk;simp only[fAq,aZ]
   by_cases c:k<s.1.length
   .obtain ⟨t,x,t1,t2,t3,t4,t5⟩:=g.ord k h0 c;have et:(s.1++[K31.rot (rs.getD (plc rs (-(s.1.flatten.getD i 0))) []) (-(s.1.flatten.getD i 0))]).take k=s.1.take k:=List.take_append_of_le_length (by lia)
    have lt:t<s.1.flatten.length:=(gSq.mp t2).1;rw[et];refine⟨t,x,t1,by rw[gZq lt];exact t2,?_,t4,λj y hj hy=>t5 j y hj ?_⟩
    .rw [gDq,gZq c,←gDq];exact t3
    .rw [gZq (by lia)]at hy
     exact hy
   .have:k=s.1.length:=by lia
    subst this;rw[iH];refine⟨i,_,hi,by rw[gZq hi];exact hx',?_,λz=>q (h.mem hm z).2,λj y hj hy=>?_⟩
    .rw [gDq,gYq (ai _),cf];exact zm a2
    .rw [gZq (by lia)]at hy
     have hj':=(gSq.mp hy).1;have:=h.cl j hj;rw[gDq,hy,cu]at this;exact SX hm h (hm.hneg _ (h.mem hm (mGq hy)).1) this
theorem T3(hm:Mp rs):∀(f:Nat) {i:Nat}{s:List (List Int)×List Nat},K31.RI rs e s i->RH rs s.1->RH rs (K31.HK rs f i s).1
 |0,i,s,_,g=>g
 |f+1,i,s,h,g=>by
  unfold K31.HK;split
  .rename_i q;exact T3 hm f (h.step hm q) (g.step hm h q)
  .exact g
theorem Qu(hm:Mp rs) (he:e∈rs.flatten):RH rs (K31.rnd rs e).1:=T3 hm 2000 (K31.CW hm he) (by
 obtain⟨a1,a2⟩:=vd hm he;refine⟨λq hq=>?_,λk h0 hk=>?_⟩
 .rw [show (K31.yK rs e).1=[K31.rot (rs.getD (plc rs e) []) e] from rfl,mSq]at hq
  exact⟨_,_,a1,a2,hq⟩
 .rw [show (K31.yK rs e).1.length=1 from rfl]at hk
  lia)
theorem JN(hm:Mp rs) (S:Int->Prop) (h1:∀r∈rs,∀x∈r,S x->∀y∈r,S y) (h2:∀x∈rs.flatten,S x->S (-x)):∀(f:Nat) {i:Nat}{s:List (List Int)×List Nat},K31.RI rs e s i->(∀x∈s.1.flatten,S x)->∀x∈(K31.HK rs f i s).1.flatten,S x
 |0,i,s,_,g=>g
 |f+1,i,s,h,g=>by
  unfold K31.HK;split
  .rename_i q;refine JN hm S h1 h2 f (h.step hm q) ?_;have hx:s.1.flatten.getD i 0∈s.1.flatten:=by
    rw[gDq,gEg q];exact gRq q
   obtain⟨m1,m2⟩:=h.mem hm hx;obtain⟨a1,a2⟩:=vd hm (hm.hneg _ m1);unfold K31.xk;split
   .exact g
   .intro y hy;simp only[fAq,aZ]at hy;rcases mAq.mp hy with hy|hy
    .exact g y hy
    .exact h1 _ a1 _ a2 (h2 _ m1 (g _ hx)) y ((K31.rot_perm _ _).mem_iff.mp hy)
  .exact g
theorem Pd(hm:Mp rs) (he:e∈rs.flatten) (S:Int->Prop) (h1:∀r∈rs,∀x∈r,S x->∀y∈r,S y) (h2:∀x∈rs.flatten,S x->S (-x)) (h0:S e):∀x∈(K31.rnd rs e).1.flatten,S x:=JN hm S h1 h2 2000 (K31.CW hm he) (by
 obtain⟨a1,a2⟩:=vd hm he;intro x hx;rw[show (K31.yK rs e).1.flatten=K31.rot (rs.getD (plc rs e) []) e by simp[K31.yK]]at hx
 exact h1 _ a1 _ a2 h0 x ((K31.rot_perm _ _).mem_iff.mp hx))
theorem Wp(hn:rs.flatten.Nodup) {r:List Int}(hr:r∈rs) {j:Nat}{z y:Int}(hz:r[j]?=some z) (hy:r[(j+1) % r.length]?=some y):K15.nx rs z=y:=by
 have hj:=(gSq.mp hz).1;have h1:=K51.BK hz ((K15.rot_at hj).trans hy);have h2:(az z,y)∈K51.qg rs:=by
  unfold K51.qg;exact mFq.mpr ⟨_,mMq.mpr ⟨r,hr,rfl⟩,mGq h1⟩
 have h3:=K15.zJ (K15.EO hn) h2;unfold K15.nx;rw[h3]
end
theorem Kr{r:List Int}{k j:Nat}(hk:k<r.length) (hj:j<r.length):(r.drop k++r.take k)[j]?=r[(k+j) % r.length]?:=by
 by_cases c:k+j<r.length
 .rw [gZq (by rw[aR];lia),cS,fi c]
 .rw [gYq (by rw[aR];lia),aR,dq (by lia)]
  have:(k+j) % r.length=j-(r.length-k):=by
   rw[Nat.mod_eq_sub_mod (by lia),fi (by lia)]
   lia
  rw[this]
theorem Jy{rs:List (List Int)}(hn:rs.flatten.Nodup) {r:List Int}(hr:r∈rs) {o:Int}(ho:o∈r) {j:Nat}{z y:Int}(hz:(K31.rot r o)[j]?=some z) (hy:(K31.rot r o)[(j+1) % (K31.rot r o).length]?=some y):K15.nx rs z=y:=by
 have hl:=K31.rot_len r o;have hj:=(gSq.mp hz).1;rw[hl]at hj hy;have hk:r.idxOf o<r.length:=dr.mpr ho;have hp:0<r.length:=by lia
 unfold K31.rot at hz hy;rw[Kr hk hj]at hz;rw[Kr hk (gV _ hp)]at hy;refine Wp hn hr hz ?_;have:((r.idxOf o+j) % r.length+1) % r.length=(r.idxOf o+(j+1) % r.length) % r.length:=by
  rw[iB,Nat.add_mod_mod];rfl
 rw[this];exact hy
section
variable {rs:List (List Int)}{e:Int}
theorem Cb{Q:List (List Int)}{i:Nat}{q:List Int}(h:Q[i]?=some q):(Q.take (i+1)).flatten=(Q.take i).flatten++q:=qb h
theorem zV{Q:List (List Int)}{i:Nat}{q:List Int}(h:Q[i]?=some q) {k:Nat}(hk:k<q.length):Q.flatten[(Q.take i).flatten.length+k]?=q[k]?:=by
 rw[MN Q (i+1),Cb h,aF,gYq (by lia),dG,gZq hk]
end
end K32
namespace K19
open PySem L2 Mr Z Xe Zl K15
section
variable {rs:List (List Int)}
theorem XS{f:Int->Int}{l:List Int}{e:Int}(h0:l[0]?=some e) (hs:∀j z y,l[j]?=some z->l[(j+1) % l.length]?=some y->f z=y) (hn:l.Nodup):Cy f e l:=by
 have hp:0<l.length:=(gSq.mp h0).1;have it:∀n,l[n % l.length]?=some (QA f n e):=λn=>by
  induction n with
  |zero=>rw[Nat.zero_mod];exact h0
  |succ n ih =>
   have hm:(n+1) % l.length<l.length:=gV _ hp;have hm2:(n % l.length+1) % l.length=(n+1) % l.length:=by rw[iB]
   obtain⟨y,hg⟩:∃y,l[(n+1) % l.length]?=some y:=⟨_,gEg hm⟩;have q:=hs _ _ _ ih (hm2 ▸ hg);rw[hg];exact congrArg some q.symm
 refine⟨hp,?_,?_,hn⟩
 .refine dW λi=>?_
  rw[gMq]
  by_cases hi:i<l.length
  .rw [gQ hi,dQ,←it i,fi hi]
  .rw [bu (by lia),bu (by rw[bz];lia)]
   rfl
 .have:=it l.length;rw[iQ,h0]at this;exact(ba.inj this).symm
end
end K19
namespace K34
open PySem L2 Mr Z Xe Zl
section
variable {rs:List (List Int)}
theorem UN(h:Mp rs):K51.Mp rs:=⟨h.hn,h.hl,h.hr,h.hneg⟩
theorem Ei(hm:Mp rs) (hc:K31.tj rs) (hp:0<rs.length):K51.nJ [dM rs]=some (.ok (.sh .non)):=by
 obtain⟨kn,PS,h,e⟩:=K51.Ao (UN hm);have h1:PS.length=1:=by
  obtain⟨ps,hps,_⟩:=h.mem 0 (h.all 0 hp);have pos:0<PS.length:=bQ hps
  by_cases c:PS.length=1
  .exact c
  .obtain ⟨a,b,L,rfl⟩:∃a b L,PS=a::b::L:=by
    match PS,pos,c with
    | [a],_,c=>exact absurd rfl c
    |a::b::L,_,_=>exact⟨a,b,L,rfl⟩
   obtain⟨s1,l1,p1⟩:=h.pc a (by simp)
   obtain⟨s2,l2,p2⟩:=h.pc b (by simp)
   have r12:K51.HJ rs s1 s2:=hc (λk=>K51.HJ rs s1 k) ⟨s1,l1,.base⟩ (λp r x hr hx hp=>.step hp hr hx) s2 l2
   have dj:=(fG.mp h.dj).1 b (by simp)
   exact absurd ((p2.iff s2).mpr .base) (dj s2 ((p1.iff s2).mpr r12))
 rw[e,nP h1]
theorem Oz:K51.nJ [dM []]=some (.ex "NotOnePiece" []):=by
 obtain⟨kn,PS,h,e⟩:=K51.Ao (rs:=[]) ⟨aT,aY _,aY _,λe he=>by cases he⟩
 rw[e,nQ (by have:=h.len;simp at this;rw[this];simp)]
theorem D7(hm:Mp ([]::rs)) (hp:0<rs.length):K51.nJ [dM ([]::rs)]=some (.ex "NotOnePiece" []):=by
 obtain⟨kn,PS,h,e⟩:=K51.Ao (UN hm);have stay:∀k,K51.HJ ([]::rs) 0 k->k=0:=λk hk=>by
  induction hk with
  |base=>rfl
  |step _ a b c =>
   subst c;cases a;cases b
 rw[e,nQ λh1=>?_]
 obtain⟨ps,rfl⟩:=List.length_eq_one_iff.mp h1;obtain⟨s,ls,p⟩:=h.pc ps (by simp)
 have in0:0∈ps:=by
  obtain⟨q,hq,hk⟩:=h.mem 0 (h.all 0 (by simp))
  rw[mSq.mp hq]at hk;exact hk
 have in1:1∈ps:=by
  obtain⟨q,hq,hk⟩:=h.mem 1 (h.all 1 (by simp;exact hp))
  rw[mSq.mp hq]at hk;exact hk
 have:=stay 1 (((p.iff 0).mp in0).symm (UN hm) |>.trans ((p.iff 1).mp in1));lia
end
end K34
namespace K39
open PySem L2 Mr Z Xe Zl
structure Au (G:List (List Int)) (f:Int->Int):Prop where
 mem:∀x∈G.flatten,f x∈G.flatten
 odd:∀x∈G.flatten,f (-x) = -(f x)
 nx:∀x∈G.flatten,f (K15.nx G x)=K15.nx G (f x)
section
variable {G:List (List Int)}{f:Int->Int}
theorem IC(hm:Mp G) {r:List Int}(hr:r∈G) {x:Int}(hx:x∈r):Cy (K15.nx G) x (K31.rot r x) :=
 K19.XS (K32.zm hx) (λj z y hz hy=>K32.Jy hm.hn hr hx hz hy) ((K31.rot_perm r x).nodup_iff.mpr (K33.Nn hm.hn hr))
theorem Ir{g:Int->Int}{e y:Int}{l:List Int}(c:Cy g e l) (h:y∈l):∃n,n<l.length/\y=QA g n e:=by
 rw[c.get]at h;obtain⟨n,hn,rfl⟩:=mMq.mp h;exact⟨n,cB.mp hn,rfl⟩
theorem T8{g:Int->Int}{e:Int}{l m:List Int}(c:Cy g e l) (d:Cy g e m):l=m:=by
 have key:∀{l m:List Int},Cy g e l->Cy g e m->¬ l.length<m.length:=λ{l m} c d h=>by
  have a:=d.nd;rw[d.get,bw,bg]at a;have:=bJ.mp a 0 l.length (by rw[bz];lia) (by rw[bz];exact h) c.len
  rw[fK,fK,c.back]at this;exact this rfl
 have e1:l.length=m.length:=by
  have:=key c d;have:=key d c;lia
 rw[c.get,d.get,e1]
theorem BX(hm:Mp G) (hc:K31.tj G) (S:Int->Prop) {s:Int}(hs:s∈G.flatten) (h0:S s) (h1:∀x∈G.flatten,S x->S (-x)) (h2:∀x∈G.flatten,S x->S (K15.nx G x)):∀x∈G.flatten,S x:=λx hx=>by
 refine K32.Pd hm hs S (λr hr x hx sx y hy=>?_) h1 h0 x ((K31.ye hm hc hs).2.mem_iff.mpr hx)
 obtain⟨n,hn,rfl⟩:=Ir (IC hm hr hx) ((K31.rot_perm r x).mem_iff.mpr hy)
 clear hy hn
 have hx':x∈G.flatten:=mFq.mpr ⟨r,hr,hx⟩;have key:QA (K15.nx G) n x∈G.flatten/\S (QA (K15.nx G) n x):=by
  induction n with
  |zero=>exact⟨hx',sx⟩
  |succ n ih=>exact⟨K15.CL hm.hn ih.1,h2 _ ih.1 ih.2⟩
 exact key.2
theorem Au.sur(h:Au G f) (hm:Mp G) (hc:K31.tj G) {s:Int}(hs:s∈G.flatten):∀y∈G.flatten,∃x∈G.flatten,f x=y:=by
 refine BX hm hc (λy=>∃x∈G.flatten,f x=y) (h.mem s hs) ⟨s,hs,rfl⟩ (λy hy ⟨x,hx,e⟩=>⟨-x,hm.hneg x hx,?_⟩) λy hy ⟨x,hx,e⟩=>⟨K15.nx G x,K15.CL hm.hn hx,?_⟩
 .rw [h.odd x hx,e]
 .rw [h.nx x hx,e]
theorem Au.inj(h:Au G f) (hm:Mp G) (hc:K31.tj G):∀a∈G.flatten,∀b∈G.flatten,f a=f b->a=b:=λa ha b hb e=>by
 refine fX λn=>?_
 have:=Uq G.flatten ((G.flatten.erase b).map f) hm.hn λy hy=>by
  obtain⟨x,hx,rfl⟩:=h.sur hm hc ha y hy
  by_cases c:x=b
  .exact mMq.mpr ⟨a,(eg n).mpr ha,by rw[e,c]⟩
  .exact mMq.mpr ⟨x,(eg c).mpr hx,rfl⟩
 rw[lMq,fZ hb]at this;have:=bQ hb;lia
theorem Au.cy(h:Au G f) (hm:Mp G) (hc:K31.tj G) {x:Int}{l:List Int}(hx:x∈G.flatten) (c:Cy (K15.nx G) x l):Cy (K15.nx G) (f x) (l.map f):=by
 have key:∀n,QA (K15.nx G) n x∈G.flatten/\f (QA (K15.nx G) n x)=QA (K15.nx G) n (f x):=λn=>by
  induction n with
  |zero=>exact⟨hx,rfl⟩
  |succ n ih =>
   refine⟨K15.CL hm.hn ih.1,?_⟩;show f (K15.nx G _)=K15.nx G _;rw[h.nx _ ih.1,ih.2]
 refine⟨by rw[lMq];exact c.len,?_,?_,?_⟩
 .rw [lMq];have g:=c.get;rw[g,lMq,bz,mPq];exact mCq λn _=>(key n).2
 .rw [lMq,← (key _).2,c.back]
 .refine K33.OL c.nd λa ha b hb e=>?_
  obtain⟨n,_,rfl⟩:=Ir c ha;obtain⟨m,_,rfl⟩:=Ir c hb;exact h.inj hm hc _ (key n).1 _ (key m).1 e
theorem Au.rot(h:Au G f) (hm:Mp G) (hc:K31.tj G) {o:Int}(ho:o∈G.flatten):K31.rot (G.getD (plc G (f o)) []) (f o)=(K31.rot (G.getD (plc G o) []) o).map f:=by
 obtain⟨a1,a2⟩:=K32.vd hm ho;obtain⟨b1,b2⟩:=K32.vd hm (h.mem o ho);exact T8 (IC hm b1 b2) (h.cy hm hc ho (IC hm a1 a2))
theorem KY(hm:Mp G) {x y:Int}(hx:x∈G.flatten) (hy:y∈G.flatten):plc G y=plc G x↔y∈K31.rot (G.getD (plc G x) []) x:=by
 rw[(K31.rot_perm _ _).mem_iff];refine⟨λe=>by rw[←e];exact(K32.vd hm hy).2,λe=>?_⟩
 obtain⟨r,hr,_⟩:=hm.at hx;refine plc_eq hm.hn hr ?_;rw[gDq,hr]at e;exact e
theorem Au.plc(h:Au G f) (hm:Mp G) (hc:K31.tj G) {x y:Int}(hx:x∈G.flatten) (hy:y∈G.flatten):Zl.plc G y=Zl.plc G x↔Zl.plc G (f y)=Zl.plc G (f x):=by
 rw[KY hm hx hy,KY hm (h.mem x hx) (h.mem y hy),h.rot hm hc hx];refine⟨λq=>mMq.mpr ⟨y,q,rfl⟩,λq=>?_⟩
 obtain⟨z,hz,e⟩:=mMq.mp q;have hz':z∈G.flatten:=mFq.mpr ⟨_,(K32.vd hm hx).1,(K31.rot_perm _ _).mem_iff.mp hz⟩;rw[←h.inj hm hc z hz' y hy e];exact hz
def X3(f:Int->Int) (G:List (List Int)) (s s':List (List Int)×List Nat):Prop:=s'.1=K33.RD f s.1/\∀x∈G.flatten,Zl.plc G x∈s.2↔Zl.plc G (f x)∈s'.2
theorem Au.ini(h:Au G f) (hm:Mp G) (hc:K31.tj G) {e:Int}(he:e∈G.flatten):X3 f G (K31.yK G e) (K31.yK G (f e)):=by
 refine⟨?_,λx hx=>?_⟩
 .show [_]=_;rw[h.rot hm hc he];rfl
 .show _∈[_]↔_∈[_];rw[mSq,mSq];exact h.plc hm hc he hx
theorem Au.step(h:Au G f) (hm:Mp G) (hc:K31.tj G) {s s':List (List Int)×List Nat}(q:X3 f G s s') {o:Int}(ho:o∈G.flatten):X3 f G (K31.xk G s o) (K31.xk G s' (f o)):=by
 obtain⟨q1,q2⟩:=q;unfold K31.xk
 by_cases c:Zl.plc G o∈s.2
 .rw [nP c,nP ((q2 o ho).mp c)];exact⟨q1,q2⟩
 .rw [nQ c,nQ λz=>c ((q2 o ho).mpr z)]
  refine⟨?_,λx hx=>?_⟩
  .show s'.1++[_]=K33.RD f (s.1++[_]);rw[h.rot hm hc ho,q1];unfold K33.RD;rw[mBq];rfl
  .show _∈s.2++[_]↔_∈s'.2++[_];rw[mAq,mAq,mSq,mSq,q2 x hx,h.plc hm hc ho hx]
theorem Au.go(h:Au G f) (hm:Mp G) (hc:K31.tj G) {e:Int}:∀(n i:Nat) {s s':List (List Int)×List Nat},K31.RI G e s i->X3 f G s s'->(K31.HK G n i s').1=K33.RD f (K31.HK G n i s).1
 |0,i,s,s',_,q=>q.1
 |n+1,i,s,s',hi,q=>by
  unfold K31.HK;have e1:s'.1.flatten=s.1.flatten.map f:=by rw[q.1,K33.C4]
  by_cases c:i<s.1.flatten.length
  .have c':i<s'.1.flatten.length:=by rw[e1,lMq];exact c
   rw[nP c,nP c'];have hx:s.1.flatten.getD i 0∈s.1.flatten:=by
    rw[gDq,gEg c];exact gRq c
   have hxG:=(hi.mem hm hx).1;have e2:-(s'.1.flatten.getD i 0)=f (-(s.1.flatten.getD i 0)):=by
    rw[h.odd _ hxG,e1,gDq,gMq,gDq,gEg c];rfl
   rw[e2];exact h.go hm hc n (i+1) (hi.step hm c) (h.step hm hc q (hm.hneg _ hxG))
  .have c':¬ i<s'.1.flatten.length:=by rw[e1,lMq];exact c
   rw[nQ c,nQ c'];exact q.1
theorem Au.rnd(h:Au G f) (hm:Mp G) (hc:K31.tj G) {e:Int}(he:e∈G.flatten):(K31.rnd G (f e)).1=K33.RD f (K31.rnd G e).1:=h.go hm hc 2000 0 (K31.CW hm he) (h.ini hm hc he)
theorem Au.code(h:Au G f) (hm:Mp G) (hc:K31.tj G) {e:Int}(he:e∈G.flatten):K33.code (K31.rnd G (f e)).1=K33.code (K31.rnd G e).1:=by
 rw[h.rnd hm hc he];have sub:∀x∈(K31.rnd G e).1.flatten,x∈G.flatten:=λx hx=>(K31.ye hm hc he).2.mem_iff.mp hx
 exact K33.Nf ⟨λx hx=>h.odd x (sub x hx),λx hx y hy=>h.inj hm hc x (sub x hx) y (sub y hy)⟩ (K33.Bs hm he)
end
section
variable {G:List (List Int)}
theorem Oc{Q R:List (List Int)}(h:Q.map bb=R.map bb) (a:Nat):(Q.take a).flatten.length=(R.take a).flatten.length:=by
 rw[gW,gW,fg,fg,h]
theorem DH(Q:List (List Int)):(K33.code Q).flatten=Q.flatten.map λx=>(Q.flatten.idxOf (-x):Int):=by
 unfold K33.code;rw[iw]
theorem G8(Q:List (List Int)):(K33.code Q).map bb=Q.map bb:=by
 unfold K33.code;rw[mPq];exact mCq λr _=>lMq ..
theorem NT:∀{l:List Int}{i:Nat}{x:Int},l.Nodup->l[i]?=some x->l.idxOf x=i
 | [],i,x,_,h=>by cases h
 |a::l,0,x,_,h=>by cases h;exact fq
 |a::l,i+1,x,n,h=>by
  have h:l[i]?=some x:=by simpa using h
  have n:=aA.mp n;have ne:a≠x:=λz=>n.1 (z ▸ mGq h)
  rw[fu,beq_false_of_ne ne,NT n.2 h];rfl
theorem HQ{l:List Int}{x:Int}(h:x∈l):l[l.idxOf x]?=some x:=by
 have hl:=List.idxOf_lt_length_of_mem h;rw[gEg hl];exact congrArg some (fF hl)
theorem Tp(hm:Mp G) {e:Int}(he:e∈G.flatten):(K31.rnd G e).1.flatten[0]?=some e:=by
 obtain⟨Q,hQ⟩:=(K31.AD hm he).hd;have h:=K32.zm (K32.vd hm he).2;rw[hQ,fCq,gZq (gSq.mp h).1];exact h
theorem Ro(hm:Mp G) (hc:K31.tj G) {s e:Int}(hs:s∈G.flatten) (he:e∈G.flatten) (h:K33.code (K31.rnd G e).1=K33.code (K31.rnd G s).1):∃f,Au G f/\f s=e:=by
 have r1:=K32.Qu hm hs;have r2:=K32.Qu hm he;have s0:=Tp hm hs;have e0:=Tp hm he;have p1:=(K31.ye hm hc hs).2;have p2:=(K31.ye hm hc he).2;have n1:=K33.Ph hm hs;have g1:=K33.Bs hm hs;have g2:=K33.Bs hm he;generalize (K31.rnd G s).1=Q at h r1 s0 p1 n1 g1;generalize (K31.rnd G e).1=R at h r2 e0 p2 g2;have hl:Q.map bb=R.map bb:=by rw[←G8,←G8 R,h]
 have hz:Q.flatten.length=R.flatten.length:=by rw[p1.length_eq,p2.length_eq]
 have hf:∀(i:Nat) (x y:Int),Q.flatten[i]?=some x->R.flatten[i]?=some y->Q.flatten.idxOf (-x)=R.flatten.idxOf (-y):=λi x y a b=>by
  have q:=congrArg (λc=>c.flatten[i]?) h
  rw[DH,DH,gMq,gMq,a,b]at q;have q:((R.flatten.idxOf (-y):Nat):Int)=(Q.flatten.idxOf (-x):Nat):=by simpa using q
  lia
 have key:∀(i:Nat) (x y:Int),Q.flatten[i]?=some x->R.flatten[i]?=some y->R.flatten.getD (Q.flatten.idxOf x) 0=y:=λi x y a b=>by
  rw[NT n1 a,gDq,b];rfl
 have at2:∀(i:Nat) (x:Int),Q.flatten[i]?=some x->∃y,R.flatten[i]?=some y:=λi x a=>⟨_,gEg (by have:=(gSq.mp a).1;lia)⟩
 refine⟨λx=>R.flatten.getD (Q.flatten.idxOf x) 0,⟨λx hx=>?_,λx hx=>?_,λx hx=>?_⟩,key 0 s e s0 e0⟩
 .have a:=HQ (p1.mem_iff.mpr hx);obtain⟨y,b⟩:=at2 _ _ a;show R.flatten.getD _ 0∈_;rw[key _ _ _ a b];exact p2.mem_iff.mp (mGq b)
 .have hx':=p1.mem_iff.mpr hx;have a:=HQ hx';obtain⟨y,b⟩:=at2 _ _ a;show R.flatten.getD _ 0 = -R.flatten.getD _ 0;rw[key _ _ _ a b,hf _ _ _ a b,gDq,HQ (g2 y (mGq b))];rfl
 .obtain ⟨q,hq,hxq⟩:=mFq.mp (p1.mem_iff.mpr hx);obtain⟨a,ha⟩:=aV.mp hq;obtain⟨k,hk⟩:=aV.mp hxq;have hkl:=(gSq.mp hk).1;have hl2:=congrArg (·[a]?) hl;rw[gMq,gMq,ha]at hl2;obtain⟨t,ht,htl⟩:=oMq.mp hl2.symm;have hm2:(k+1) % q.length<q.length:=gV _ (by lia)
  obtain⟨y,hy⟩:∃y,t[k]?=some y:=⟨_,gEg (by lia)⟩
  obtain⟨x2,hx2⟩:∃x2,q[(k+1) % q.length]?=some x2:=⟨_,gEg hm2⟩;obtain⟨y2,hy2⟩:∃y2,t[(k+1) % t.length]?=some y2:=⟨_,gEg (by rw[htl];exact hm2)⟩
  obtain⟨c,o,c1,c2,rfl⟩:=r1.row q hq;obtain⟨d,o2,d1,d2,rfl⟩:=r2.row t (mGq ht);have f1:=key _ x y ((K32.zV ha hkl).trans hk) (by rw[Oc hl];exact(K32.zV ht (by lia)).trans hy)
  rw[htl]at hy2;have f2:=key _ x2 y2 ((K32.zV ha hm2).trans hx2) (by rw[Oc hl];exact(K32.zV ht (by lia)).trans hy2)
  rw[←htl]at hy2;show R.flatten.getD (Q.flatten.idxOf (K15.nx G x)) 0=K15.nx G (R.flatten.getD _ 0);rw[f1,K32.Jy hm.hn c1 c2 hk hx2,K32.Jy hm.hn d1 d2 hy hy2,f2]
theorem NR(hm:Mp G) (hc:K31.tj G) {s e:Int}(hs:s∈G.flatten) (he:e∈G.flatten):K33.code (K31.rnd G e).1=K33.code (K31.rnd G s).1↔∃f,Au G f/\f s=e :=
 ⟨Ro hm hc hs he,λ⟨f,h,e1⟩=>by rw[←e1];exact h.code hm hc hs⟩
theorem Au.one{f g:Int->Int}(h:Au G f) (k:Au G g) (hm:Mp G) (hc:K31.tj G) {s:Int}(hs:s∈G.flatten) (e:f s=g s):∀x∈G.flatten,f x=g x :=
 BX hm hc (λx=>f x=g x) hs e (λx hx e=>by rw[h.odd x hx,k.odd x hx,e]) λx hx e=>by rw[h.nx x hx,k.nx x hx,e]
end
abbrev HL(im:List (Int×Int)):List (nO×D):=im.map λp=>(az p.1,D.int p.2)
theorem E3{im:List (Int×Int)}{x y:Int}(hn:(im.map (·.1)).Nodup) (h:(x,y)∈im):Z.getD (HL im) (.inl x)=some (.int y):=by
 have:=K15.zJ (ps:=im.map λp=>(az p.1,p.2)) (k:=.inl x) (n:=y) (by
  rw[mPq,bw,bg];rw[bw,bg]at hn;exact hn.imp λh e=>h (az.inj e)) (mMq.mpr ⟨_,h,rfl⟩)
 unfold K51.yY at this;rw[mPq]at this;exact this
theorem Kz(im:List (Int×Int)) (x:Int):(HL im).any (λkv=>decide (kv.1=(az x:nO)))=decide (x∈im.map (·.1)):=by
 rw[bA,eB,decide_eq_true_iff];constructor
 .rintro ⟨p,hp,e⟩;obtain⟨q,hq,rfl⟩:=mMq.mp hp;exact mMq.mpr ⟨q,hq,az.inj (of_decide_eq_true e)⟩
 .intro h;obtain⟨q,hq,e⟩:=mMq.mp h;exact⟨_,mMq.mpr ⟨q,hq,rfl⟩,decide_eq_true (congrArg az e)⟩
theorem OB(im:List (Int×Int)) (x:Int):(Z.getD (HL im) (.inl x)).isSome=decide (x∈im.map (·.1)):=by
 unfold Z.getD;rw[dS,←Kz,bA,fV,eB]
theorem SE{im:List (Int×Int)}{x y:Int}(h:x∉im.map (·.1)):vh (HL im) (az x) (.int y)=HL (im++[(x,y)]):=by
 unfold vh;rw[Kz,decide_eq_false h,nQ (by simp)]
 simp[HL]
section
variable {d0 d1:List (nO×D)}{s e:Int}{im:List (Int×Int)}{ah:List Int}{v6:Option AV}{x y y':Int}
abbrev ls(d0 d1:List (nO×D)) (s e:Int) (im:List (Int×Int)) (ah:List Int) (v6 v7:Option AV):AS:=[some (.sh (.fd d0)),some (.sh (.fd d1)),some (.sh (.int s)),some (.sh (.int e)),some (.owd (HL im)),some (aI ah),v6,v7]
theorem XT(x y:Int):Ab (.tup [.int x,.int y]) (.int 0)=some (.int x):=rfl
theorem Zo(x y:Int):Ab (.tup [.int x,.int y]) (.int 1)=some (.int y):=rfl
theorem Px(h:x∉im.map (·.1)) (hl:im.length<5000) (ha:ah.length<5000):oS (ls d0 d1 s e im ah v6 (some (.sh (.tup [.int x,.int y]))))=some (.nx (ls d0 d1 s e (im++[(x,y)]) (ah++[x]) v6 (some (.sh (.tup [.int x,.int y]))))):=by
 have h1:(Z.getD (HL im) (.inl x)).isSome=false:=by rw[OB,decide_eq_false h]
 have h2:=SE (y:=y) h;have l1:(im.length<qp)=True:=eq_true (by show _<16777216;lia)
 have l2:(ah.length<qp)=True:=eq_true (by show _<16777216;lia)
 have e2:(ah.map λn=>AV.sh (.int n))++[.sh (.int x)]=(ah++[x]).map λn=>.sh (.int n):=by rw[mBq];rfl
 simp_arith [oS,XT,Zo,h1,h2,l1,l2,e2]
theorem M0(hn:(im.map (·.1)).Nodup) (h:(x,y)∈im):oS (ls d0 d1 s e im ah v6 (some (.sh (.tup [.int x,.int y]))))=some (.nx (ls d0 d1 s e im ah v6 (some (.sh (.tup [.int x,.int y]))))):=by
 have h0:=E3 hn h;have h1:(Z.getD (HL im) (.inl x)).isSome=true:=by rw[h0];rfl
 simp_arith [oS,XT,Zo,h0,eF]
theorem Od(hn:(im.map (·.1)).Nodup) (h:(x,y')∈im) (hy:¬ y'=y):oS (ls d0 d1 s e im ah v6 (some (.sh (.tup [.int x,.int y]))))=some (.rt (.sh .non)):=by
 have h0:=E3 hn h;have h1:(Z.getD (HL im) (.inl x)).isSome=true:=by rw[h0];rfl
 simp_arith [oS,XT,Zo,h0,hy,eF]
end
structure Li (G:List (List Int)) (s e:Int) (im:List (Int×Int)) (dn:Int->Prop):Prop where
 nd:(im.map (·.1)).Nodup
 sub:∀p∈im,p.1∈G.flatten/\p.2∈G.flatten
 hd:(s,e)∈im
 cm:∀p∈im,dn p.1->(-p.1, -p.2)∈im/\(K15.nx G p.1,K15.nx G p.2)∈im
 au:∀f,Au G f->f s=e->∀p∈im,p.2=f p.1
section
variable {G:List (List Int)}{s e:Int}{im:List (Int×Int)}{dn:Int->Prop}
theorem Li.len(h:Li G s e im dn):im.length<=G.flatten.length:=by
 have:=Uq (im.map (·.1)) G.flatten h.nd λx hx=>by
  obtain⟨p,hp,rfl⟩:=mMq.mp hx;exact(h.sub p hp).1
 rwa [lMq]at this
theorem Li.put(hm:Mp G) (h:Li G s e im dn) {ah:List Int}(ha:ah.length<4000) {d0 d1:List (nO×D)}{v6:Option AV}{x y:Int}(hx:x∈G.flatten) (hy:y∈G.flatten) (hf:∀f,Au G f->f s=e->y=f x) (hdn:x∉im.map (·.1)->¬ dn x) :
  (∃im' ah',oS (ls d0 d1 s e im ah v6 (some (.sh (.tup [.int x,.int y]))))=some (.nx (ls d0 d1 s e im' ah' v6 (some (.sh (.tup [.int x,.int y])))))/\Li G s e im' dn/\(x,y)∈im'/\(∀p∈im,p∈im')/\(∀z∈ah,z∈ah')/\(∀p∈im',p∈im∨p.1∈ah')/\(∀z∈ah',z∈ah∨z∈im'.map (·.1))/\2*im.length+ah'.length<=2*im'.length+ah.length/\ah'.length<=ah.length+1) ∨
  (oS (ls d0 d1 s e im ah v6 (some (.sh (.tup [.int x,.int y]))))=some (.rt (.sh .non))/\¬ ∃f,Au G f/\f s=e):=by
 have hl:=h.len;have hG:=hm.hl
 by_cases c:x∈im.map (·.1)
 .obtain ⟨⟨x',y'⟩,hp,rfl⟩:=mMq.mp c
  by_cases c2:y'=y
  .subst c2;exact .inl ⟨im,ah,M0 h.nd hp,h,hp,λp hp=>hp,λz hz=>hz,λp hp=>.inl hp,λz hz=>.inl hz,by lia,by lia⟩
  .refine .inr ⟨Od h.nd hp c2,λ⟨f,a,b⟩=>c2 ?_⟩
   rw[hf f a b];exact h.au f a b _ hp
 .refine .inl ⟨im++[(x,y)],ah++[x],Px c (by lia) (by lia),⟨?_,λp hp=>?_,aU _ h.hd,λp hp hd=>?_,λf a b p hp=>?_⟩,by simp,λp hp=>aU _ hp,λz hz=>aU _ hz,λp hp=>?_,λz hz=>?_,?_,?_⟩
  .rw [mBq,nAq];exact⟨h.nd,by simp,λa ha b hb z=>by
    have hb:b=x:=by simpa using hb
    exact c (hb ▸ z ▸ ha)⟩
  .rcases mAq.mp hp with q|q
   .exact h.sub p q
   .rw [mSq.mp q];exact⟨hx,hy⟩
  .rcases mAq.mp hp with q|q
   .have:=h.cm p q hd;exact⟨aU _ this.1,aU _ this.2⟩
   .rw [mSq.mp q]at hd;exact absurd hd (hdn c)
  .rcases mAq.mp hp with q|q
   .exact h.au f a b p q
   .rw [mSq.mp q];exact hf f a b
  .rcases mAq.mp hp with q|q
   .exact .inl q
   .rw [mSq.mp q];exact .inr (by simp)
  .rcases mAq.mp hz with q|q
   .exact .inl q
   .rw [mSq.mp q];exact .inr (by simp)
  .simp only [lAq,lCq,bB];lia
  .simp
theorem Li.mono{dn':Int->Prop}(h:Li G s e im dn) (k:∀p∈im,dn' p.1->dn p.1):Li G s e im dn':=⟨h.nd,h.sub,h.hd,λp hp q=>h.cm p hp (k p hp q),h.au⟩
abbrev nd(G:List (List Int)):List (nO×D):=K51.yY (K51.qg G)
abbrev TB:MT:=sI (oU GI (tO qu (nh (nj 5) nI)) (rC (.int 0)))
theorem LR{ah:List Int}{a b:Int}{v6 v7:Option AV}(hm:Mp G) (hn:(im.map (·.1)).Nodup) (h:(a,b)∈im) (ha:a∈G.flatten) (hb:b∈G.flatten) :
  qW (ls (nd G) (nd G) s e im (ah++[a]) v6 v7)=qJ 7 oS [.tup [.int (-a),.int (-b)],.tup [.int (K15.nx G a),.int (K15.nx G b)]] (ls (nd G) (nd G) s e im ah (some (.sh (.int a))) v7):=by
 have h0:=E3 hn h;have h1:=K15.NY hm.hn ha;have h2:=K15.NY hm.hn hb;have p1:((ah++[a]).map λn=>AV.sh (.int n))[((ah++[a]).map λn=>AV.sh (.int n)).length-1]?=some (.sh (.int a)):=by simp
 have p2:((ah++[a]).map λn=>AV.sh (.int n)).dropLast=ah.map λn=>.sh (.int n):=by simp
 have p3:=p1;rw[lMq]at p3
 simp_arith [qW,h0,h1,h2,p1,p2,p3]
theorem LW{ah:List Int}{a:Int}{v6 v7:Option AV}(hm:Mp G) (h:Li G s e im λz=>z∉ah++[a]) (hs:∀z∈ah++[a],z∈im.map (·.1)) (hl:(ah++[a]).length<=2*im.length) :
  (∃im' ah' v7',qW (ls (nd G) (nd G) s e im (ah++[a]) v6 v7)=some (.nx (ls (nd G) (nd G) s e im' ah' (some (.sh (.int a))) v7'))/\Li G s e im' (λz=>z∉ah')/\(∀z∈ah',z∈im'.map (·.1))/\ah'.length<=2*im'.length/\ah'.length+2*im.length<=ah.length+2*im'.length) ∨
  (qW (ls (nd G) (nd G) s e im (ah++[a]) v6 v7)=some (.rt (.sh .non))/\¬ ∃f,Au G f/\f s=e):=by
 obtain⟨⟨a',b⟩,hab,rfl⟩:=mMq.mp (hs a (by simp))
 have ha:a'∈G.flatten:=(h.sub _ hab).1;have hb:b∈G.flatten:=(h.sub _ hab).2;dsimp only at h hs hl ⊢;have hlen:=h.len;have hG:=hm.hl;rw[lAq]at hl;rw[LR hm h.nd hab ha hb];have h':Li G s e im λz=>z∈im.map (·.1)/\z∉ah++[a']:=h.mono λp _ q=>q.2
 have e1:(ls (nd G) (nd G) s e im ah (some (.sh (.int a'))) v7).set 7 (some (.sh (.tup [.int (-a'),.int (-b)])))=ls (nd G) (nd G) s e im ah (some (.sh (.int a'))) (some (.sh (.tup [.int (-a'),.int (-b)]))):=rfl;rw[qJ,e1];rcases h'.put (x:=-a') (y:=-b) (ah:=ah) hm (by simp at hl;lia) (hm.hneg _ ha) (hm.hneg _ hb) (λf p q=>by rw[p.odd a' ha,←h.au f p q _ hab]) (λc z=>c z.1) with ⟨im1,ah1,g1,l1,m1,i1,j1,k1,o1,w1,w1'⟩|⟨g1,g2⟩
 .rw [g1];show (∃im' ah' v7',qJ 7 oS [.tup [.int (K15.nx G a'),.int (K15.nx G b)]] (ls (nd G) (nd G) s e im1 ah1 (some (.sh (.int a'))) (some (.sh (.tup [.int (-a'),.int (-b)]))))=_/\_)∨(qJ 7 oS [.tup [.int (K15.nx G a'),.int (K15.nx G b)]] (ls (nd G) (nd G) s e im1 ah1 (some (.sh (.int a'))) (some (.sh (.tup [.int (-a'),.int (-b)]))))=_/\_);have e2:(ls (nd G) (nd G) s e im1 ah1 (some (.sh (.int a'))) (some (.sh (.tup [.int (-a'),.int (-b)])))).set 7 (some (.sh (.tup [.int (K15.nx G a'),.int (K15.nx G b)])))=ls (nd G) (nd G) s e im1 ah1 (some (.sh (.int a'))) (some (.sh (.tup [.int (K15.nx G a'),.int (K15.nx G b)]))):=rfl;rw[qJ,e2];have len1:=l1.len;rcases l1.put (x:=K15.nx G a') (y:=K15.nx G b) (ah:=ah1) hm (by simp at hl;lia) (K15.CL hm.hn ha) (K15.CL hm.hn hb) (λf p q=>by rw[p.nx a' ha,←h.au f p q _ hab]) (λc z=>c (by
   obtain⟨p,hp,e⟩:=mMq.mp z.1;exact mMq.mpr ⟨p,i1 p hp,e⟩)) with ⟨im2,ah2,g2,l2,m2,i2,j2,k2,o2,w2,w2'⟩|⟨g2,g3⟩
  .rw [g2];refine .inl ⟨im2,ah2,_,rfl,⟨l2.nd,l2.sub,l2.hd,λp hp hd=>?_,l2.au⟩,λz hz=>?_,?_,?_⟩
   .have hp0:p∈im:=by
     rcases k2 p hp with q|q
     .rcases k1 p q with r|r
      .exact r
      .exact absurd (j2 _ r) hd
     .exact absurd q hd
    by_cases c:p.1=a'
    .have:p=(a',b):=by
      have hn:=h.nd;rw[bw,bg]at hn;refine fX λne=>?_
      have hp2:(p∈im):=hp0;obtain⟨i,hi⟩:=aV.mp hp0;obtain⟨j,hj⟩:=aV.mp hab;obtain⟨Ec,hi2⟩:=gSq.mp hi;obtain⟨hj1,hj2⟩:=gSq.mp hj;rcases fQ i j with q|q|q
      .exact bJ.mp hn i j Ec hj1 q (by rw[hi2,hj2];exact c)
      .subst q;exact ne (hi2.symm.trans hj2)
      .exact bJ.mp hn j i hj1 Ec q (by rw[hi2,hj2];exact c.symm)
     rw[this];exact⟨i2 _ m1,m2⟩
    .exact l2.cm p hp ⟨mMq.mpr ⟨p,hp0,rfl⟩,λm=>by
      rcases mAq.mp m with q|q
      .exact hd (j2 _ (j1 _ q))
      .exact c (mSq.mp q)⟩
   .have up1:∀z,z∈im.map (·.1)->z∈im1.map (·.1):=λz hz=>by
     obtain⟨p,hp,e⟩:=mMq.mp hz;exact mMq.mpr ⟨p,i1 p hp,e⟩
    have up2:∀z,z∈im1.map (·.1)->z∈im2.map (·.1):=λz hz=>by
     obtain⟨p,hp,e⟩:=mMq.mp hz;exact mMq.mpr ⟨p,i2 p hp,e⟩
    rcases o2 z hz with q|q
    .rcases o1 z q with r|r
     .exact up2 z (up1 z (hs z (aU _ r)))
     .exact up2 z r
    .exact q
   .simp only [lCq,bB]at hl;lia
   .lia
  .rw [g2];exact .inr ⟨rfl,g3⟩
 .rw [g1];exact .inr ⟨rfl,g2⟩
theorem DG(hm:Mp G):∀(n:Nat) {im:List (Int×Int)}{ah:List Int}{v6 v7:Option AV},Li G s e im (λz=>z∉ah)->(∀z∈ah,z∈im.map (·.1))->ah.length<=2*im.length->2*G.flatten.length+ah.length<n+2*im.length ->
  (∃im' v6' v7',qS TB qW n (ls (nd G) (nd G) s e im ah v6 v7)=some (.nx (ls (nd G) (nd G) s e im' [] v6' v7'))/\Li G s e im' λ_=>True) ∨
  (qS TB qW n (ls (nd G) (nd G) s e im ah v6 v7)=some (.rt (.sh .non))/\¬ ∃f,Au G f/\f s=e)
 |0,im,ah,v6,v7,h,_,_,hn=>by
  have:=h.len;lia
 |n+1,im,ah,v6,v7,h,hs,hl,hn=>by
  rcases cV ah with rfl|⟨ah0,a,rfl⟩
  .refine .inl ⟨im,v6,v7,?_,h.mono λp _ _=>by simp⟩
   have c:TB (ls (nd G) (nd G) s e im [] v6 v7)=some (false,ls (nd G) (nd G) s e im [] v6 v7):=by
    have z:((0:Int)<((0:Nat):Int))=False:=by simp
    simp_arith [TB,z]
   rw[E5,c];rfl
  .have c:TB (ls (nd G) (nd G) s e im (ah0++[a]) v6 v7)=some (true,ls (nd G) (nd G) s e im (ah0++[a]) v6 v7):=by
    have z:((0:Int)<((ah0++[a]).length:Int))=True:=eq_true (by rw[lAq];simp only[lCq,bB];lia)
    simp_arith [TB,z]
   rw[cW]at h hs hl hn ⊢;rw[E5,c,dD,nP rfl];rcases LW (v6:=v6) (v7:=v7) hm h hs hl with ⟨im',ah',v7',g1,g2,g3,g4,g5⟩|⟨g1,g2⟩
   .rw [g1];rw[lAq]at hn;simp only[lCq,bB]at hn;exact DG hm n g2 g3 g4 (by lia)
   .rw [g1];exact .inr ⟨rfl,g2⟩
end
theorem fn_of:∀{im:List (Int×Int)},(im.map (·.1)).Nodup->∃f:Int->Int,∀p∈im,f p.1=p.2
 | [],_=>⟨id,λp hp=>by cases hp⟩
 |q::im,h=>by
  have h:=aA.mp (show (q.1::im.map (·.1)).Nodup from h)
  obtain⟨f,hf⟩:=fn_of h.2;refine⟨λx=>if x=q.1 then q.2 else f x,λp hp=>?_⟩
  rcases ao.mp hp with z|z
  .rw [z];exact nP rfl
  .show (if p.1=q.1 then q.2 else f p.1)=p.2
   rw[nQ λc:p.1=q.1=>h.1 (c ▸ mMq.mpr ⟨p,z,rfl⟩),hf p z]
section
variable {G:List (List Int)}{s e:Int}
theorem Li.done{im:List (Int×Int)}(h:Li G s e im λ_=>True) (hm:Mp G) (hc:K31.tj G) (hs:s∈G.flatten):∃f,Au G f/\f s=e/\im.Perm (G.flatten.map λx=>(x,f x)):=by
 obtain⟨f,hf⟩:=fn_of h.nd;have all:∀x∈G.flatten,(x,f x)∈im:=BX hm hc (λx=>(x,f x)∈im) hs (by have:=hf _ h.hd;dsimp only at this;rw[this];exact h.hd) (λx hx q=>by
  have:=(h.cm _ q trivial).1;dsimp only at this;have e1:=hf _ this;dsimp only at e1;rw[e1];exact this) λx hx q=>by
  have:=(h.cm _ q trivial).2;dsimp only at this;have e1:=hf _ this;dsimp only at e1;rw[e1];exact this
 refine⟨f,⟨λx hx=>(h.sub _ (all x hx)).2,λx hx=>hf _ (h.cm _ (all x hx) trivial).1,λx hx=>hf _ (h.cm _ (all x hx) trivial).2⟩,hf _ h.hd,?_⟩
 have e1:im=(im.map (·.1)).map λx=>(x,f x):=by
  rw[mPq];have:=mCq (l:=im) (f:=id) (g:=(λx=>(x,f x))∘λx=>x.1) λp hp=>by
   show p=(p.1,f p.1);rw[hf p hp]
  rw[dB]at this;exact this
 rw[e1];refine bU.map _ ?_;refine(List.perm_ext_iff_of_nodup h.nd hm.hn).mpr λx=>⟨λq=>?_,λq=>mMq.mpr ⟨_,all x q,rfl⟩⟩
 obtain⟨p,hp,rfl⟩:=mMq.mp q;exact(h.sub p hp).1
theorem Ss(hm:Mp G) (hc:K31.tj G) (hs:s∈G.flatten) (he:e∈G.flatten):(∃f im,Au G f/\f s=e/\uG [.fd (nd G),.fd (nd G),.int s,.int e]=some (.owd (HL im))/\im.Perm (G.flatten.map λx=>(x,f x)))∨(uG [.fd (nd G),.fd (nd G),.int s,.int e]=some (.sh .non)/\¬ ∃f,Au G f/\f s=e):=by
 have h0:Li G s e [(s,e)] λz=>z∉[s]:=⟨by simp,λp hp=>by rw[mSq.mp hp];exact⟨hs,he⟩,by simp,λp hp hd=>absurd (by rw[mSq.mp hp];simp) hd,λf a b p hp=>by rw[mSq.mp hp];exact b.symm⟩
 have hG:=hm.hl;have e0:ls (nd G) (nd G) s e [(s,e)] [s] none none=[some (.sh (.fd (nd G))),some (.sh (.fd (nd G))),some (.sh (.int s)),some (.sh (.int e)),some (.owd [(az s,.int e)]),some (.ow [.sh (.int s)]),none,none]:=rfl;rcases DG (v6:=none) (v7:=none) hm 100000 h0 (λz hz=>by simpa using hz) (by simp) (by simp only[lCq,bB];lia) with ⟨im,v6,v7,g1,g2⟩|⟨g1,g2⟩
 .obtain ⟨f,a1,a2,a3⟩:=g2.done hm hc hs;refine .inl ⟨f,im,a1,a2,?_,a3⟩;rw[e0]at g1;unfold TB at g1
  simp_arith [uG,Am,EW,g1]
 .refine .inr ⟨?_,g2⟩;rw[e0]at g1;unfold TB at g1
  simp_arith [uG,Am,EW,g1]
end
def Ok(G:List (List Int)) (s e:Int):Prop:=∃f,Au G f/\f s=e
def V0(G:List (List Int)) (s e:Int):Bool:=@decide (Ok G s e) (cK _)
theorem By{G:List (List Int)}{s e:Int}:V0 G s e=true↔Ok G s e:=@decide_eq_true_iff _ (cK _)
def af(G:List (List Int)) (s e:Int):Int->Int:=@dite _ (Ok G s e) (cK _) (λh=>Classical.choose h) λ_=>id
theorem Xb{G:List (List Int)}{s e:Int}(h:Ok G s e):Au G (af G s e)/\af G s e s=e:=by
 unfold af;rw[dif_pos h];exact Classical.choose_spec h
def RN(G:List (List Int)) (s e:Int):List (List Int):=yZ (G.flatten.map λx=>[x,af G s e x])
def Dm(G:List (List Int)) (s:Int) (E:List Int):List (List (List Int)):=(E.filter (V0 G s)).map (RN G s)
theorem LU{a b:List (List Int)}(hp:a.Perm b):yZ a=yZ b:=Jc ((zA a).trans hp) (yL a)
section
variable {G:List (List Int)}{s e:Int}
theorem OU(hm:Mp G) (hc:K31.tj G) (hs:s∈G.flatten) {f:Int->Int}(a:Au G f) (b:f s=e) {L:List (List Int)}(h:L.Perm (G.flatten.map λx=>[x,f x])):yZ L=RN G s e:=by
 have k:=Xb ⟨f,a,b⟩;have eq:=a.one k.1 hm hc hs (b.trans k.2.symm);unfold RN;rw[LU h];exact congrArg yZ (mCq λx hx=>by rw[eq x hx])
theorem O2{E F:List Int}(h:E.Perm F):Ak (Dm G s E)=Ak (Dm G s F):=Kt ((yf _).trans ((h.filter _).map _)) (A2 _)
theorem GH(f:Int->Int):∀E:List Int,cJ (λx y=>[x,y]) E (E.map f)=E.map λx=>[x,f x]
 | []=>rfl
 |x::E=>by rw[aB,List.zipWith_cons_cons,GH f E];rfl
theorem Ny(hm:Mp G) (hc:K31.tj G) (hs:s∈G.flatten):qX (sI (oU yN (rOf (qo (Z.okX K33.qF) (nH (ot 2) (nH (ot 0) oM)))) (nj 3))) (X5 (nh (nj 1) (nh (rOf (qo (Z.okX K31.qE) (nH (ot 2) (nH (ot 0) oM)))) nI))) [some (.sh (dI (K31.rnd G s).1.flatten)),some (.sh (dM G)),some (.sh (K33.cD (K33.code (K31.rnd G s).1)))] ((K31.rnd G s).1.flatten.map D.int)=some ((Dm G s (K31.rnd G s).1.flatten).map aP):=by
 have pm:=(K31.ye hm hc hs).2;rw[Z.AZ (λd=>match d with|.int e=>V0 G s e|_=>false) λd=>match d with|.int e=>aP (RN G s e)|_=>.sh .non]
 .unfold Dm;rw[List.filter_map,mPq,mPq];rfl
 .intro d hd;obtain⟨e,he,rfl⟩:=mMq.mp hd;have heG:=pm.mem_iff.mp he;have rc:=K33.yB hm heG;have re:=K31.yv hm heG;have dc:=K33.Vb (K33.code (K31.rnd G e).1) (K33.code (K31.rnd G s).1);have ob:decide (K33.code (K31.rnd G e).1=K33.code (K31.rnd G s).1)=V0 G s e:=by
   rw[bA,decide_eq_true_iff,By];exact NR hm hc hs heG
  rw[ob]at dc;refine⟨[some (.sh (.int e)),some (.sh (dI (K31.rnd G s).1.flatten)),some (.sh (dM G)),some (.sh (K33.cD (K33.code (K31.rnd G s).1)))],?_,λhok=>?_⟩
  .simp_arith [rc,dc]
  .obtain ⟨f,a,b⟩:=By.mp hok;have hE:(K31.rnd G e).1.flatten=(K31.rnd G s).1.flatten.map f:=by rw[←b,a.rnd hm hc hs,K33.C4]
   have pz:=K9 (ns:=(K31.rnd G s).1.flatten) (ms:=(K31.rnd G e).1.flatten) (by rw[hE,lMq])
   have sr:yZ (cJ (λx y=>[x,y]) (K31.rnd G s).1.flatten (K31.rnd G e).1.flatten)=RN G s e:=OU hm hc hs a b (by
    rw[hE,GH];exact pm.map _)
   have sE:=oh (K31.rnd G e).1.flatten;refine⟨[some (.sh (.int e)),some (.sh (dI (K31.rnd G s).1.flatten)),some (.sh (dM G)),some (.sh (K33.cD (K33.code (K31.rnd G s).1)))],?_⟩
   simp_arith [Zb,re,sE,dI,pz,sr]
theorem UP(hm:Mp G) (hc:K31.tj G) {r:List Int}(h0:G[0]?=some (s::r)):oE [dM G]=some (.ok (.ow ((Ak (Dm G s G.flatten)).map aP))):=by
 have hp:0<G.length:=(gSq.mp h0).1;have hs:s∈G.flatten:=mFq.mpr ⟨_,mGq h0,by simp⟩
 have op:=K34.Ei hm hc hp;have rc:=K33.yB hm hs;have re:=K31.yv hm hs;have pm:=(K31.ye hm hc hs).2;have hl:=hm.hl;have oc:=Ny hm hc hs;have ix:FP (dM G) (.int 0)=some (dI (s::r)):=by
  show atI (G.map dI) ((0:Nat):Int)=_;exact qd (by rw[gMq,h0];rfl)
 have ix2:FP (dI (s::r)) (.int 0)=some (.int s):=by
  show atI ((s::r).map D.int) ((0:Nat):Int)=_;exact qd rfl
 have ln:qu [dI (s::r)]=some (.int ((r.length+1:Nat):Int)):=by
  show some (D.int (((s::r).map D.int).length:Int))=_;rw[lMq];rfl
 have hne:¬ ((r.length+1:Nat):Int)=0:=by lia
 have sE:=oh (K31.rnd G s).1.flatten;have lE:((K31.rnd G s).1.flatten.length<=qp)=True:=eq_true (by show _<=16777216;rw[pm.length_eq];lia)
 have pa:=Ci (Dm G s (K31.rnd G s).1.flatten);have ap:=O2 (G:=G) (s:=s) pm
 simp_arith [oE,tW,op,ix,ix2,ln,hne,rc,re,sE,oc,lE,G3,pa,ap]
end
section
variable {G:List (List Int)}{s:Int}
theorem Qr(E:List Int) (e:Int):Dm G s (E++[e])=if V0 G s e=true then Dm G s E++[RN G s e] else Dm G s E:=by
 unfold Dm;rw[List.filter_append,mBq]
 by_cases c:V0 G s e=true
 .rw [nP c,gn c];rfl
 .rw [nQ c,gq c];simp
theorem KZ(E:List Int):(Dm G s E).length<=E.length:=by
 unfold Dm;rw[lMq];exact List.length_filter_le _ _
abbrev sA(G:List (List Int)) (s:Int) (L:List (List (List Int))) (v4 v5:Option AV):AS:=[some (.sh (dM G)),some (.sh (.fd (nd G))),some (.ow (L.map aP)),some (.sh (.int s)),v4,v5]
theorem OE(hm:Mp G) (hc:K31.tj G) (hs:s∈G.flatten) {e:Int}(he:e∈G.flatten) {E:List Int}(hl:E.length<=1000) {v5:Option AV}:∃v5',sP (sA G s (Dm G s E) (some (.sh (.int e))) v5)=some (.nx (sA G s (Dm G s (E++[e])) (some (.sh (.int e))) v5')):=by
 rw[Qr];have ln:(nd G).length=G.flatten.length:=by show (K51.yY (K51.qg G)).length=_;unfold K51.yY;rw[lMq,K51.Ar]
 have lf:Kp [.fd (nd G)]=some (.int (G.flatten.length:Int)):=by show some (D.int ((nd G).length:Int))=_;rw[ln]
 have lL:((Dm G s E).length<qp)=True:=eq_true (by have:=KZ (G:=G) (s:=s) E;show _<16777216;lia)
 rcases Ss hm hc hs he with ⟨f,im,a,b,g1,g2⟩|⟨g1,g2⟩
 .rw [nP (By.mpr ⟨f,a,b⟩)];have hne:im≠[]:=λz=>by
   have:=g2.length_eq;rw[z,lMq]at this;have:=bQ hs;simp at *;lia
  have q1:Gd (.dict (HL im)) .non=some (.bl true):=rfl;have q2:CO [.dict (HL im)]=some (.int (G.flatten.length:Int)):=by show some (D.int ((HL im).length:Int))=_;rw[lMq,g2.length_eq,lMq]
  have q3:∀S,J9 (.dict (HL im)) S=some (aP (RN G s e),S):=λS=>by
   rw[Ul S hne,OU hm hc hs a b];have:=g2.map Tb;rw[mPq]at this;exact this
  have e2:(Dm G s E).map aP++[aP (RN G s e)]=(Dm G s E++[RN G s e]).map aP:=by rw[mBq];rfl
  refine⟨some (.owd (HL im)),?_⟩
  simp_arith [sP,g1,q1,q2,lf,YX,q3,lL,e2]
 .rw [nQ λc=>g2 (By.mp c)]
  have q1:Gd .non .non=some (.bl false):=rfl;refine⟨some (.sh .non),?_⟩
  simp_arith [sP,g1,q1]
theorem Pu(hm:Mp G) (hc:K31.tj G) (hs:s∈G.flatten):∃v4 v5,qJ 4 sP (G.flatten.map D.int) (sA G s [] none none)=some (.nx (sA G s (Dm G s G.flatten) v4 v5)):=by
 have hl:=hm.hl;have key:=xu (x:=4) (body:=sP) (λi S=>∃v4 v5,S=sA G s (Dm G s (G.flatten.take i)) v4 v5) (ds:=G.flatten.map D.int) (S:=sA G s [] none none) ⟨none,none,rfl⟩ (by
  rintro i d S hd ⟨v4,v5,rfl⟩;rw[gMq]at hd;obtain⟨e,he,rfl⟩:=oMq.mp hd;obtain⟨v5',g⟩:=OE hm hc hs (mGq he) (E:=G.flatten.take i) (by rw[lTq];lia) (v5:=v5)
  refine⟨_,g,some (.sh (.int e)),v5',?_⟩;rw[rd he])
 obtain⟨S',g,v4,v5,rfl⟩:=key;rw[lMq,bx]at g;exact⟨v4,v5,g⟩
theorem UZ(hm:Mp G) (hc:K31.tj G) (hs:s∈G.flatten) (hmin:∀x∈G.flatten,s<=x):tU [dM G]=some (.ow ((Ak (Dm G s G.flatten)).map aP)):=by
 have nk:=K15.DT hm;obtain⟨v4,v5,g⟩:=Pu hm hc hs;have e0:sA G s [] none none=[some (.sh (dM G)),some (.sh (.fd (nd G))),some (.ow []),some (.sh (.int s)),none,none]:=rfl;rw[e0]at g;have ln:(nd G).length=G.flatten.length:=by show (K51.yY (K51.qg G)).length=_;unfold K51.yY;rw[lMq,K51.Ar]
 have q1:CO [.dict (nd G)]=some (.int (G.flatten.length:Int)):=by show some (D.int ((nd G).length:Int))=_;rw[ln]
 have hne:¬ ((G.flatten.length:Nat):Int)=0:=by have:=bQ hs;lia
 have ks:∀l:List (nO×Int),∀ns:List Int,l.map (·.1)=ns.map az->tN (K51.yY l)=some ns:=λl=>by
  induction l with
  |nil=>intro ns h;cases ns with|nil=>rfl|cons _ _=>cases h
  |cons p l ih =>
   intro ns h;cases ns with
   |nil=>cases h
   |cons n ns =>
    rw[aB,aB]at h;have h1:=List.head_eq_of_cons_eq h;have h2:=ih ns (List.tail_eq_of_cons_eq h);show tN ((p.1,D.int p.2)::K51.yY l)=_;rw[h1];show (tN (K51.yY l)).map (n :: ·)=_;rw[h2];rfl
 have q2:K2 [.dict (nd G)]=some (.int s):=by
  show ((tN (nd G)).bind λns=>(zM ns).map D.int)=_
  rw[ks _ _ (K51.rK G)];cases hG:G.flatten with
  |nil=>rw[hG]at hs;cases hs
  |cons n ns =>
   show some (D.int (ns.foldl min n))=_;rw[hG]at hs hmin;have a1:=hmin _ (qN ns n);have a2:=qD ns n;have a3:ns.foldl min n<=s:=by
    rcases ao.mp hs with z|z
    .rw [z];exact a2.1
    .exact a2.2 s z
   rw[show ns.foldl min n=s by lia]
 have kk:=K15.XU G;have q41:((4:Nat)≠1)=True:=by simp
 have pa:=Ci (Dm G s G.flatten)
 simp_arith [tU,CT,nk,q1,hne,q2,q41,kk,g,G3,pa]
end
end K39
namespace K39
open PySem L2 Mr Z Xe Zl
open K31 (yr Nm Wm D2)
open K12 (Ih)
def Qx(st sh a b:Int) (o n:Nat):List Int:=(cL n).map λk:Nat=>Ih st sh a b ((o+k:Nat):Int)
theorem Ry(st sh a b:Int) (o n:Nat):D2 st sh a b (o+n)=D2 st sh a b o++Qx st sh a b o n:=by
 unfold D2 Qx;rw[List.range_add,mBq,mPq];rfl
theorem Jt{ns:List Int}{st sh a b:Int}{p n:Nat}(hp:p<12) (hn:n<=12) (h:∀k:Nat,K31.rA [.int (cell ns 0),.int (cell ns 1),.int (k:Int)]=some (.sh (.int (Ih st sh a b k)))):qX tL (kSc (tK K31.rA (nh (tK Zl.oj (nh (nj 1) (nh (rC (.int 0)) nI))) (nh (tK Zl.oj (nh (nj 1) (nh (rC (.int 1)) nI))) (nh (oU BJ (oU Bk (nj 2) (nj 3)) (nj 0)) nI))))) [some (.sh (.scr ns)),some (.sh (.int (p:Int))),some (.sh (.int (n:Int)))] (pD 0 n)=some ((Qx st sh a b (p*n) n).map λz=>.sh (.int z)):=by
 rw[Z.sX (λd=>match d with|.int k=>.sh (.int (Ih st sh a b ((p*n:Nat)+k)))|_=>.sh .non)]
 .rw [xx,mPq];unfold Qx;rw[mPq];refine congrArg some (mCq λk _=>?_)
  show AV.sh (.int _)=AV.sh (.int _);push_cast;rfl
 .intro d hd;rw[xx]at hd;obtain⟨k,_,rfl⟩:=mMq.mp hd;have hk:=h (p*n+k);push_cast at hk;have q1:Bk (.int (p:Int)) (.int (n:Int))=some (.int ((p:Int)*n)):=Ka (by lia) (by lia)
  refine⟨[some (.sh (.int (k:Int))),some (.sh (.scr ns)),some (.sh (.int (p:Int))),some (.sh (.int (n:Int)))],?_⟩
  simp_arith [XJ,Xo,q1,hk]
  push_cast;rfl
structure Fw (nm:List Int) (T:List (List Int)):Prop where
 cnt:∃left,∀z,T.flatten.count z+(yr left).count z=(yr nm).count z
 tr:K11.Az T
theorem K5(a b:List Int) (z:Int):(yr (a++b)).count z=(yr a).count z+(yr b).count z:=by
 unfold yr;rw[gU,cAq]
theorem Fw.add{n1 n2 r0 c0:List Int}{rest cs:List (List Int)}(h:Fw n1 (r0::rest)) (k:Fw n2 (c0::cs)):Fw (n1++n2) ((r0++c0)::(rest++cs)):=by
 obtain⟨l1,c1⟩:=h.cnt;obtain⟨l2,c2⟩:=k.cnt;refine⟨⟨l1++l2,λz=>?_⟩,λi h0 hi=>?_⟩
 .have a1:=c1 z;have a2:=c2 z;rw[K5,K5,fCq,fAq,cAq,cAq,cAq];rw[fCq,cAq]at a1 a2;lia
 .obtain ⟨i,rfl⟩:∃j,i=j+1:=⟨i-1,by lia⟩
  rw[lCq,lAq]at hi
  by_cases c:i<rest.length
  .obtain ⟨j,e,hj,e1,e2⟩:=h.tr (i+1) (by lia) (by rw[lCq];lia)
   refine⟨j,e,hj,?_,?_⟩
   .cases j with
    |zero=>exact aU _ e1
    |succ j =>
     show e∈(rest++cs).getD j [];rw[gDq,gZq (by lia),←gDq]
     exact e1
   .show -e∈(rest++cs).getD i [];rw[gDq,gZq c,←gDq];exact e2
  .obtain ⟨j,e,hj,e1,e2⟩:=k.tr (i-rest.length+1) (by lia) (by rw[lCq];lia)
   have q2:-e∈(rest++cs).getD i []:=by
    rw[gDq,gYq (by lia),←gDq]
    exact e2
   cases j with
   |zero=>exact⟨0,e,by lia,aE _ e1,q2⟩
   |succ j =>
    refine⟨rest.length+j+1,e,by lia,?_,q2⟩
    show e∈(rest++cs).getD (rest.length+j) [];rw[gDq,gYq (by lia),dG,←gDq]
    exact e1
abbrev fs(ns:List Int) (many each:Nat) (r0:List Int) (rest:List (List Int)) (v4 v5 v6:Option AV):AS:=[some (.sh (.scr ns)),some (.sh (.int (many:Int))),some (.ow (aI r0::rest.map λr=>.sh (dI r))),some (.sh (.int (each:Int))),v4,v5,v6]
theorem Ep{nm:List Int}{T:List (List Int)}(h:Fw nm T):T.length<=1+2*nm.length:=by
 have hw:T.flatten.length<=2*nm.length:=by
  obtain⟨left,c⟩:=h.cnt;have:(T.flatten++yr left).Perm (yr nm):=dF.mpr λz=>by rw[cAq];exact c z
  have:=this.length_eq;rw[lAq,K31.wK,K31.wK]at this;lia
 cases T with
 |nil=>simp
 |cons r T =>
  have ne:∀t∈T,1<=t.length:=λt ht=>by
   obtain⟨i,hi⟩:=aV.mp ht;obtain⟨j,e,_,_,e2⟩:=h.tr (i+1) (by lia) (by rw[lCq];have:=(gSq.mp hi).1;lia)
   have e2:-e∈T.getD i []:=e2;rw[gDq,hi]at e2;exact bQ e2
  have key:∀T:List (List Int),(∀t∈T,1<=t.length)->T.length<=T.flatten.length:=λT=>by
   induction T with
   |nil=>intro _;exact ai _
   |cons t T ih =>
    intro h;have:=ih λt ht=>h t (mCo _ ht)
    have:=h t (aD ..);rw[fCq,lAq,lCq];lia
  have:=key T ne;rw[fCq,lAq]at hw;rw[lCq];lia
theorem M6{ns:List Int}(hns:ns.length<=63) {st sh a b:Int}(h:∀k:Nat,K31.rA [.int (cell ns 0),.int (cell ns 1),.int (k:Int)]=some (.sh (.int (Ih st sh a b k)))) {many each p:Nat}(he:each<=12) (hp:p<12) {r0:List Int}{rest:List (List Int)}(hw:Fw (D2 st sh a b (p*each)) (r0::rest)) {v5 v6:Option AV} :
  ∃r0' rest' v5' v6',uR (fs ns many each r0 rest (some (.sh (.int (p:Int)))) v5 v6)=some (.nx (fs ns many each r0' rest' (some (.sh (.int (p:Int)))) v5' v6'))/\Fw (D2 st sh a b ((p+1)*each)) (r0'::rest'):=by
 have fn:=Jt (p:=p) (n:=each) hp he h;have hcs:yP ns (some 3) (some 66)=(ns.drop 3).take 63:=OT ns 3 66;have hl:((ns.drop 3).take 63).length<=63:=by rw[lTq];exact Nat.min_le_left ..
 generalize (ns.drop 3).take 63=cs at hcs hl;have nl:(Qx st sh a b (p*each) each).length=each:=by unfold Qx;rw[lMq,bz]
 obtain⟨T,left,et,cnt,tr,tp,tl⟩:=K31.Ql (nm:=Qx st sh a b (p*each) each) (cs:=cs) (wild:=decide (cell ns 2 % 2=1)) hl (by lia)
 have hk:Fw (Qx st sh a b (p*each) each) T:=⟨⟨left,cnt⟩,tr⟩;obtain⟨c0,ct,rfl⟩:∃c0 ct,T=c0::ct:=by
  cases T with
  |nil=>cases tp
  |cons c ct=>exact⟨c,ct,rfl⟩
 have hadd:=hw.add hk;rw[←Ry,show p*each+each=(p+1)*each by rw[iN]]at hadd
 have rl:=Ep hadd;have ll:(D2 st sh a b ((p+1)*each)).length=(p+1)*each:=by unfold D2;rw[lMq,bz]
 have mb:(p+1)*each<=12*12:=Nat.mul_le_mul (by lia) he
 have fl:((r0++c0)::(rest++ct)).flatten.length<=2*((p+1)*each):=by
  obtain⟨left,c⟩:=hadd.cnt;have:(((r0++c0)::(rest++ct)).flatten++yr left).Perm (yr (D2 st sh a b ((p+1)*each))):=dF.mpr λz=>by rw[cAq];exact c z
  have:=this.length_eq;rw[lAq,K31.wK,K31.wK,ll]at this;lia
 rw[fCq,lAq,lAq]at fl;rw[lCq,lAq]at rl;have sn:=oh (Qx st sh a b (p*each) each);have m2:=λi:Int=>rn (i:=i) (j:=2) (by decide)
 have rE:CA [.int (each:Int)]=some (pD 0 each):=BB (n:=each) (by lia)
 have lE:((pD 0 each).length<=qp)=True:=eq_true (by rw[qG];show _<=16777216;lia)
 have sT:((c0::ct).map aI).map ny=(c0::ct).map dI:=by rw[mPq];exact mCq λr _=>oh r
 have ixT:atI (D.list (c0.map D.int)::ct.map dI) 0=some (.list (c0.map D.int)):=qd (j:=0) rfl;have cuT:yP (D.list (c0.map D.int)::ct.map dI) (some 1) none=ct.map dI:=An (D.list (c0.map D.int)::ct.map dI) 1 (by simp)
 have s6:(ct.map λr=>AV.sh (.list (r.map D.int))).map ny=ct.map dI:=by rw[mPq];exact mCq λ_ _=>rfl
 have pt:∀X as',Z.putAt (.ow (.ow (r0.map λn=>.sh (.int n))::X)) [0] as' = .ow (.ow as'::X):=λ_ _=>rfl
 have e5:=K12.Rc r0 c0;have e7:(rest.map λr=>AV.sh (.list (r.map D.int)))++(ct.map dI).map AV.sh=(rest++ct).map λr=>.sh (.list (r.map D.int)):=by rw[mBq,mPq];rfl
 refine⟨r0++c0,rest++ct,some (.sh (dI (Qx st sh a b (p*each) each))),some (.ow ((c0::ct).map λr=>.sh (dI r))),?_,hadd⟩
 have XT:FQ (rest.length+1) 0=some 0:=Fz (i:=0) (by lia)
 have l1:(r0.length+c0.length<=qp)=True:=eq_true (by show _<=16777216;lia)
 have l2:(rest.length+1+ct.length<=qp)=True:=eq_true (by show _<=16777216;lia)
 simp_arith [uR,rE,lE,fn,sn,dI,CF,hcs,Nz,m2,et,sT,ixT,cuT,s6,pt,e5,e7,XT,l1,l2,A9]
 rw[←mBq,←mBq]
theorem Yr(st sh a b:Int) (n:Nat):Fw (D2 st sh a b (0*n)) [[]]:=⟨⟨[],λz=>by rw[Nat.zero_mul];rfl⟩,K11.G4 _⟩
theorem S0{ns:List Int}(hns:ns.length<=63) {st sh a b:Int}(h:∀k:Nat,K31.rA [.int (cell ns 0),.int (cell ns 1),.int (k:Int)]=some (.sh (.int (Ih st sh a b k)))) {many each:Nat}(hm0:0<many) (hm:many<=12) (he:12 / many=each):∃r0 rest,xq [.scr ns,.int (many:Int)]=some (.ow (aI r0::rest.map λr=>.sh (dI r)))/\Fw (D2 st sh a b (many*each)) (r0::rest):=by
 have he12:each<=12:=by rw[←he];exact Nat.div_le_self ..
 have key:=xu (x:=4) (body:=uR) (λi S=>∃r0 rest v4 v5 v6,S=fs ns many each r0 rest v4 v5 v6/\Fw (D2 st sh a b (i*each)) (r0::rest)) (ds:=pD 0 many) (S:=fs ns many each [] [] none none none) ⟨[],[],none,none,none,rfl,Yr ..⟩ (by
  rintro i d S hd ⟨r0,rest,v4,v5,v6,rfl,hw⟩;rw[xx,gMq]at hd;obtain⟨k,hk,rfl⟩:=oMq.mp hd;obtain⟨hk1,hk2⟩:=gSq.mp hk;rw[bz]at hk1;rw[fK]at hk2;subst hk2;obtain⟨r0',rest',v5',v6',g1,g2⟩:=M6 hns h (many:=many) he12 (show i<12 by lia) hw (v5:=v5) (v6:=v6)
  exact⟨_,g1,r0',rest',_,v5',v6',rfl,g2⟩)
 obtain⟨S',g,r0,rest,v4,v5,v6,rfl,hw⟩:=key;rw[qG]at hw;refine⟨r0,rest,?_,hw⟩;have e0:fs ns many each [] [] none none none=[some (.sh (.scr ns)),some (.sh (.int (many:Int))),some (.ow [.ow []]),some (.sh (.int (each:Int))),none,none,none]:=rfl;rw[e0]at g;have dv:Bi (.int 12) (.int (many:Int))=some (.int (each:Int)):=by
  rw[xh (by lia) (by lia),←he]
  rfl
 have rM:CA [.int (many:Int)]=some (pD 0 many):=BB (n:=many) (by lia)
 simp_arith [xq,D9,dv,rM,g]
end K39
namespace K34
open PySem L2 Mr Z Xe Zl
theorem ES{rs:List (List Int)}(h:Mp rs) (hl:rs.length<=999):Mp ([]::rs):=by
 have e:([]::rs).flatten=rs.flatten:=rfl;exact⟨by rw[e];exact h.hn,by rw[e];exact h.hl,by rw[lCq];lia,λx hx=>by rw[e]at hx ⊢;exact h.hneg x hx⟩
theorem OI{α:Type}(l:List α):O4 [.list ((l.map λ_=>AV.sh (.bl true)).map ny)]=some (.bl true):=by
 have e:(l.map λ_=>AV.sh (.bl true)).map ny=(l.map λ_=>true).map D.bl:=by
  rw[mPq,mPq];exact mCq λc _=>by simp
 rw[e,XF,G7];have:(l.map λ_=>true).all id=true:=by rw[fh];intro b hb;obtain⟨_,_,rfl⟩:=mMq.mp hb;rfl
 rw[dQ,this]
end K34
namespace K35
open PySem PySem.Spec PyProof.Rows L2 Mr Z Xe Zl
open K12 (gm uN)
theorem IF:∀{ds:List D}{ps:List PyData},ds.length=ps.length->(∀(i:Nat) (d:D) (p:PyData),ds[i]?=some d->ps[i]?=some p->py d=some p)->DR ds=some ps
 | [],[],_,_=>by simp[DR]
 |d::ds,p::ps,l,h=>by
  have h0:=h 0 d p rfl rfl;have ih:=IF (ds:=ds) (ps:=ps) (by simpa using l) λi d p a b=>h (i+1) d p a b
  simp[DR,h0,ih]
theorem U9{n:Nat}{d:D}{p:PyData}(h:DF n d p):py d=some p:=by
 induction h with
 |non=>rfl
 |bl=>rfl
 |int=>rfl
 |str _=>rfl
 |list l _ ih=>rw[py,IF l ih];rfl
 |tup l _ ih=>rw[py,IF l ih];rfl
theorem RO{n:Nat}{d:D}{p:PyData}(h:DF n d p) (hn:n<=64):yN d d=some (.bl true):=by
 have hp:=U9 h;unfold yN;rw[hp];show (if _ then _ else _)=_
 rw[nP ⟨h.shaped hn,h.shaped hn,h.mix⟩,same_self]
theorem FO{α:Type}{f:α->D}{g:α->PyData}{n:Nat}(l:List α) (h:∀x,DF n (f x) (g x)):∀(i:Nat) (d:D) (p:PyData),(l.map f)[i]?=some d->(l.map g)[i]?=some p->DF n d p:=λi d p a b=>by
 rw[gMq]at a b;obtain⟨x,hx,rfl⟩:=oMq.mp a;rw[hx]at b;cases b;exact h x
end K35
namespace K39
open PySem L2 Mr Z Xe Zl
open K31 (yr Nm Wm D2 gm)
theorem Ln{r:List Int}(h:r≠[]):∃M t,zS r=M::t/\∀x∈r,M<=x:=by
 cases r with
 |nil=>exact absurd rfl h
 |cons n ns =>
  have m1:=qN ns n;have m2:=qD ns n;have low:∀x∈n::ns,ns.foldl min n<=x:=λx hx=>(ao.mp hx).elim (λe=>e ▸ m2.1) (m2.2 x)
  have e:zS (n::ns)=K31.rot (n::ns) (ns.foldl min n):=by
   show (n::ns).drop _++(n::ns).take _=_;rw[←AY m1 low];rfl
  have h0:=K32.zm m1;rw[←e]at h0;cases hg:zS (n::ns) with
  |nil=>rw[hg]at h0;cases h0
  |cons a t =>
   rw[hg]at h0;cases h0;exact⟨_,t,rfl,low⟩
theorem Lr{T:List (List Int)}(hT:0<T.length) (hne:∀t∈T,t≠[]):∃s r,(gm T)[0]?=some (s::r)/\∀x∈(gm T).flatten,s<=x:=by
 have pm:=K12.uN T;have row:∀g∈gm T,∃M t,g=M::t/\∀x∈g,M<=x:=λg hg=>by
  obtain⟨t,ht,rfl⟩:=mMq.mp (pm.mem_iff.mp hg);obtain⟨M,u,e,low⟩:=Ln (hne t ht);exact⟨M,u,e,λx hx=>low x ((yg t).mem_iff.mp hx)⟩
 have so:=yL (T.map zS);have hl:=K31.Fu T
 change (gm T).Pairwise _ at so
 cases hG:gm T with
 |nil=>rw[hG]at hl;simp at hl;lia
 |cons g G =>
  rw[hG]at row so;obtain⟨s,r,rfl,low⟩:=row g (by simp)
  refine⟨s,r,rfl,λx hx=>?_⟩
  obtain⟨k,hk,hxk⟩:=mFq.mp hx;rcases ao.mp hk with z|z
  .exact low x (z ▸ hxk)
  .have q:=(fG.mp so).1 k z;obtain⟨M,t,rfl,lowM⟩:=row k hk;have:=lowM x hxk;rw[HT.sL]at q
   by_cases c:M=s
   .lia
   .rw [nQ c]at q;have:=of_decide_eq_false q;lia
theorem RQ{T:List (List Int)}(h:K11.Az T) (hf:T.flatten≠[]):∀t∈T,t≠[]:=λt ht e=>by
 obtain⟨i,hi⟩:=aV.mp ht;have il:=(gSq.mp hi).1;subst e;cases i with
 |succ i =>
  obtain⟨j,e,_,_,e2⟩:=h (i+1) (by lia) il
  rw[gDq,hi]at e2;cases e2
 |zero =>
  by_cases c:1<T.length
  .obtain ⟨j,e,hj,e1,_⟩:=h 1 (by lia) c
   have:j=0:=by lia
   rw[this,gDq,hi]at e1;cases e1
  .refine hf ?_
   match T,il,c,hi with
   | [t],_,_,hi=>cases hi;rfl
   |_::_::_,_,c,_=>simp at c
theorem LB{T:List (List Int)}(h:K11.Az T) (hp:0<T.length) (hf:T.flatten=[]):T=[[]]:=by
 match T,hp with
 | [t],_ =>
  have:t=[]:=by simpa using hf
  rw[this]
 |t::u::T,_ =>
  obtain⟨j,e,_,e1,e2⟩:=h 1 (by lia) (by simp)
  have:-e∈(t::u::T).flatten:=mFq.mpr ⟨u,by simp,e2⟩
  rw[hf]at this;cases this
theorem Mf:K31.tj [[]]:=λP ⟨s,hs,ps⟩ _ q hq=>by
 simp only[lSq]at hs hq;have:q=s:=by lia
 rw[this];exact ps
theorem KC:Mp [[]]:=⟨aT,aY _,by simp,λe he=>by simp at he⟩
theorem Nc:oE [dM [[]]]=some (.ok (.ow ([[]].map aP))):=by
 have op:=K34.Ei KC Mf (by simp)
 have ix:FP (dM [[]]) (.int 0)=some (dI []):=by
  show atI ([[]].map dI) ((0:Nat):Int)=_;exact qd rfl
 have ln:qu [dI []]=some (.int 0):=rfl;have z0:decide ((0:Int)=0)=true:=by decide
 simp_arith [oE,tW,op,ix,ln,z0]
 rfl
theorem Of:tU [dM [[]]]=some (.ow ([[]].map aP)):=by
 have nk:=K15.DT KC;have q1:CO [.dict (K51.yY (K51.qg [[]]))]=some (.int 0):=rfl;have z0:decide ((0:Int)=0)=true:=by decide
 simp_arith [tU,CT,nk,q1,z0]
 rfl
abbrev dP(m:List (List Int)):D:=.list (m.map BI)
def X7(m:List (List Int)):Prop:=m.length<=1000/\∀r∈m,∃x y,r=[x,y]
theorem FT(i:Int):K72.ue [.int i]=some (.sh (.bl true)):=by simp_arith [K72.ue,K72.Cn]
theorem Nh{m:List (List Int)}(h:X7 m):ui [dP m]=some (.sh (.bl true)):=by
 have key:=xu (x:=1) (body:=wG) (λ_ S=>∃v1,S=[some (.sh (dP m)),v1]) (ds:=m.map BI) (S:=[some (.sh (dP m)),none]) ⟨none,rfl⟩ (by
  rintro i d S hd ⟨v1,rfl⟩;rw[gMq]at hd;obtain⟨r,hr,rfl⟩:=oMq.mp hd;obtain⟨x,y,rfl⟩:=h.2 r (mGq hr);have it:yM [BI [x,y],.ty "tuple"]=some (.bl true):=rfl;have lt:qu [BI [x,y]]=some (.int 2):=rfl;have i0:Ab (BI [x,y]) (.int 0)=some (.int x):=rfl;have i1:Ab (BI [x,y]) (.int 1)=some (.int y):=rfl;have w1:=FT x;have w2:=FT y;have n2:V6 (.int 2) (.int 2)=some (.bl false):=rfl;refine⟨_,?_,some (.sh (BI [x,y])),rfl⟩
  simp_arith [wG,it,lt,n2,i0,i1,w1,w2])
 obtain⟨S',g,v1,rfl⟩:=key;have il:yM [dP m,.ty "list"]=some (.bl true):=rfl;have lm:(m.length<=qp)=True:=eq_true (by have:=h.1;show _<=16777216;lia)
 simp_arith [ui,Cz,il,lm,g]
theorem Ic{ms:List (List (List Int))}(h:∀m∈ms,X7 m):qX tL (kSc (tK K39.ui (nh (nj 0) nI))) [] (ms.map dP)=some (ms.map λ_=>.sh (.bl true)):=by
 rw[Z.sX λ_=>.sh (.bl true)]
 .rw [mPq];rfl
 .intro d hd;obtain⟨m,hm,rfl⟩:=mMq.mp hd;have p:=Nh (h m hm);refine⟨[some (.sh (dP m))],?_⟩
  simp_arith [p]
theorem Tz(ms:List (List (List Int))):yN (.list (ms.map dP)) (.list (ms.map dP))=some (.bl true):=by
 obtain⟨p,h⟩:∃p,DF 3 (.list (ms.map dP)) p:=⟨_,.list (ps:=ms.map λc=>.list (c.map λr=>.tuple (r.map .int))) (by rw[lMq,lMq]) (K35.FO ms λc=>.list (by rw[lMq,lMq]) (K35.FO c λr=>.tup (by rw[lMq,lMq]) (K35.FO r λi=>.int)))⟩
 exact K35.RO h (by decide)
theorem XM(ms:List (List (List Int))):Je (.list (ms.map dP)) (.list (ms.map dP))=some (.bl false):=by unfold Je;rw[Tz];rfl
theorem Nb(m:List (List Int)):ny (aP m)=dP m:=by
 rw[tm,mPq];exact congrArg D.list (mCq λr _=>si _)
theorem Qo(ms:List (List (List Int))):(ms.map aP).map ny=ms.map dP:=by rw[mPq];exact mCq λm _=>Nb m
theorem N8(d:D):∀{ms:List (List (List Int))},(∀m∈ms,X7 m)->∃bs,xT d (ms.map aP)=some bs
 | [],_=>⟨[],rfl⟩
 |m::ms,h=>by
  obtain⟨bs,hb⟩:=N8 d λx hx=>h x (mCo _ hx)
  refine⟨.ow ((m.map λr=>AV.sh (BI r))++[.sh d])::bs,?_⟩
  rw[aB];show tM ((m.map λr=>AV.sh (BI r)).length<qp) ((xT d (ms.map aP)).map _)=_
  rw[tZ (by rw[lMq];have:=(h m (aD ..)).1;show _<16777216;lia),hb]
  rfl
theorem yJ{rs:List (List Int)}(hl:rs.length<=1000) (h:K51.nJ [dM rs]=some (.ex "NotOnePiece" [])):qc [dM rs]=some (.sh (.bl true)):=by
 have lc:oE [dM rs]=some (.ex "NotOnePiece" []):=by simp_arith [oE,tW,h]
 have cp:=K51.J8 (rs:=rs) (by lia)
 have sG:(rs.map aI).map ny=rs.map dI:=by rw[mPq];exact mCq λr _=>oh r
 have u1:under "NotOnePiece" "TooBig" = false:=by decide
 simp_arith [qc,ze,cp,sG,lc,u1]
theorem Q6{nm:List Int}{T:List (List Int)}(hn:Nm nm) (hw:Wm nm T) (hp:0<T.length):∃ms:List (List (List Int)),oE [dM (gm T)]=some (.ok (.ow (ms.map aP)))/\tU [dM (gm T)]=some (.ow (ms.map aP))/\(∀m∈ms,X7 m)/\ms.length<=1000:=by
 have mp:=hw.mp hn;have cn:=hw.conn hn
 by_cases c:T.flatten=[]
 .have:=LB hw.tr hp c;subst this;have e:gm [[]]=[[]]:=by
   have:=(K12.uN [[]]).length_eq;have h:(gm [[]]).Perm [[]]:=K12.uN [[]];exact List.perm_singleton.mp h
  rw[e];exact⟨[[]],Nc,Of,λm hm=>by rw[mSq.mp hm];exact⟨by simp,λr hr=>by cases hr⟩,by simp⟩
 .obtain ⟨s,r,h0,low⟩:=Lr hp (RQ hw.tr c);have hs:s∈(gm T).flatten:=mFq.mpr ⟨_,mGq h0,by simp⟩
  have hl:=mp.hl;refine⟨Ak (Dm (gm T) s (gm T).flatten),UP mp cn h0,UZ mp cn hs low,λm hm=>?_,?_⟩
  .obtain ⟨e,_,rfl⟩:=mMq.mp ((yf _).mem_iff.mp hm);have pm:=zA ((gm T).flatten.map λx=>[x,af (gm T) s e x])
   refine⟨by show (yZ _).length<=_;rw[pm.length_eq,lMq];exact hl,λr hr=>?_⟩
   obtain⟨x,_,rfl⟩:=mMq.mp (pm.mem_iff.mp hr);exact⟨_,_,rfl⟩
  .rw [(yf _).length_eq];have:=KZ (G:=gm T) (s:=s) (gm T).flatten;lia
theorem RG(x:Int):∃many each:Nat,0<many/\many<=12/\12 / many=each/\many*each=12/\atI [D.int 1,.int 2,.int 3,.int 4,.int 6,.int 12] (x % 6)=some (.int (many:Int)):=by
 have h:x % 6=((0:Nat):Int)∨x % 6=((1:Nat):Int)∨x % 6=((2:Nat):Int)∨x % 6=((3:Nat):Int)∨x % 6=((4:Nat):Int)∨x % 6=((5:Nat):Int):=by lia
 rcases h with h|h|h|h|h|h <;> rw[h]
 .exact ⟨1,12,by decide,by decide,rfl,rfl,qd rfl⟩
 .exact ⟨2,6,by decide,by decide,rfl,rfl,qd rfl⟩
 .exact ⟨3,4,by decide,by decide,rfl,rfl,qd rfl⟩
 .exact ⟨4,3,by decide,by decide,rfl,rfl,qd rfl⟩
 .exact ⟨6,2,by decide,by decide,rfl,rfl,qd rfl⟩
 .exact ⟨12,1,by decide,by decide,rfl,rfl,qd rfl⟩
theorem Vi{ns:List Int}(hns:ns.length<=63):KL [.scr ns]=some (.sh (.bl true)):=by
 obtain⟨st,sh,a,b,h1,_,h2,_,h3,h4,en⟩:=K31.Sy (cell ns 0) (cell ns 1);have hnm:=K31.Ub (b:=b) (n:=12) (by decide) h1 h2 h3 h4
 obtain⟨many,each,p1,p2,p3,p4,pk⟩:=RG (cell ns 2 / 2);obtain⟨r0,rest,ef,fw⟩:=S0 hns en p1 p2 p3;rw[p4]at fw;have hnl:=hnm.len;have l12:(D2 st sh a b 12).length=12:=by unfold D2;rw[lMq,bz]
 generalize D2 st sh a b 12=nm at hnm fw hnl l12;have tl:=Ep fw;have hw:Wm nm (r0::rest):=⟨fw.cnt,fw.tr,by simp,by lia⟩
 have mp:=hw.mp hnm;have hle:=hw.le;have ig:pM [dM (r0::rest)]=some (.ow ((gm (r0::rest)).map aI)):=Ax (rs:=r0::rest) (λr hr=>by
  have:=eT.length_le (bf hr);lia) (by show _<=16777216;lia)
 have lG:=K31.Fu (r0::rest);obtain⟨ms,eo,ea,hms,lms⟩:=Q6 hnm hw (by simp)
 have sT:(rest.map λr=>AV.sh (.list (r.map D.int))).map ny=rest.map dI:=by rw[mPq];exact mCq λr _=>rfl
 have sr0:=oh r0;generalize gm (r0::rest)=G at mp lG ig eo ea;have ig2:pM [.list (.list (r0.map D.int)::rest.map dI)]=some (.ow (G.map aI)):=ig;have sG:(G.map aI).map ny=G.map dI:=by rw[mPq];exact mCq λr _=>oh r
 rw[lCq]at lG tl;have hpos:0<G.length:=by lia
 have f0:qc [.list []]=some (.sh (.bl true)):=yJ (rs:=[]) (by simp) K34.Oz
 have f1:qc [.list (.list []::G.map dI)]=some (.sh (.bl true)):=yJ (rs:=[]::G) (by rw[lCq];lia) (K34.D7 (K34.ES mp (by lia)) hpos)
 have f2:qc [.list (.list [] :: .list []::G.map dI)]=some (.sh (.bl true)):=yJ (rs:=[]::[]::G) (by rw[lCq,lCq];lia) (K34.D7 (K34.ES (K34.ES mp (by lia)) (by rw[lCq];lia)) (by simp))
 have m2:=λi:Int=>rn (i:=i) (j:=2) (by decide)
 have m6:=λi:Int=>rn (i:=i) (j:=6) (by decide)
 have d2:=λi:Int=>xh (i:=i) (j:=2) (by decide) (by decide)
 have d12:=λi:Int=>xh (i:=i) (j:=12) (by decide) (by decide)
 have l1:(1+G.length<=qp)=True:=eq_true (by show _<=16777216;lia)
 have l2:(2+G.length<=qp)=True:=eq_true (by show _<=16777216;lia)
 have e6:(G.map dI).map AV.sh=G.map λr=>AV.sh (dI r):=by rw[mPq];rfl
 have s6:(G.map λr=>AV.sh (.list (r.map D.int))).map ny=G.map dI:=by rw[mPq];exact mCq λ_ _=>rfl
 have cp:=K51.J8 (rs:=G) (by have:=mp.hr;lia)
 have sM:=Qo ms;have pc:=Ic hms;have at1:=K34.OI ms;have lM:(ms.length<=qp)=True:=eq_true (by show _<=16777216;lia)
 have eq:=Tz ms;have ne:=XM ms;obtain⟨bs,hb⟩:=N8 (.tup [.int 0,.int 0]) hms;have cl:∀l:List (List (List Int)),we (.ow (l.map λ_=>AV.sh (.bl true)))=true:=λl=>by
  induction l with
  |nil=>rfl
  |cons x l ih=>exact ih
 have h01:cell ns 2 / 12 % 2=0∨cell ns 2 / 12 % 2=1:=by lia
 rcases h01 with h01|h01
 .have rp:(ay (1+(0:Int)).toNat [D.list []]).flatten=[.list []]:=rfl;have c0:(-2 ^ 63<=(1:Int)+0/\(1:Int)+0<2 ^ 63/\1*((1:Int)+0).toNat<=qp)=True:=eq_true ⟨by decide,by decide,by decide⟩
  simp_arith [KL,Jw,Nz,m2,m6,d2,d12,pk,ef,sT,sr0,ig2,sG,dM,dI,f0,h01,Te,rp,c0,f1,l1,e6,s6,cp,eo,ea,sM,pc,lM,at1,N0,Eb,Gm,cl,ne,eq,zc,hb,or_self]
 .have rp:(ay (1+(1:Int)).toNat [D.list []]).flatten=[.list [],.list []]:=rfl;have c0:(-2 ^ 63<=(1:Int)+1/\(1:Int)+1<2 ^ 63/\1*((1:Int)+1).toNat<=qp)=True:=eq_true ⟨by decide,by decide,by decide⟩
  simp_arith [KL,Jw,Nz,m2,m6,d2,d12,pk,ef,sT,sr0,ig2,sG,dM,dI,f0,h01,Te,rp,c0,f2,l2,e6,s6,cp,eo,ea,sM,pc,lM,at1,N0,Eb,Gm,cl,ne,eq,zc,hb,or_self]
end K39
namespace K39
open PySem L2 Mr Z Xe
theorem Uk{l:W.OpenLaw}{w:ji}{K:W.Frag}{h:Heap}{mg:Str->Option Value}{fa:Addr}(X:K.In h) (G:h.Ns jh mg) (hfa:mg "law" = some (.ref fa))
  {M:Addr}
  {sN:Addr}
  {rq:Addr}
  {Cu:Addr}
  (a0:At K "told_ends" rN f0 fd0)
  (a1:At K "places_at" rV f1 fd1)
  (a2:At K "reached" vp f2 fd2)
  (a3:At K "pieces" xj f3 fd3)
  (a4:At K "refuse_not_one_piece" oQ f4 fd4)
  (a5:At K "turn_from" sZ f5 fd5)
  (a6:At K "round_turns" qQ f6 fd6)
  (a7:At K "round_ends" sv f7 fd7)
  (a8:At K "turn_code" tD f8 fd8)
  (a9:At K "code_of" vi f9 fd9)
  (a10:At K "round_code" su f10 fd10)
  (a11:At K "own_turns" rW f11 fd11)
  (a12:At K "_law_cell" vq f12 fd12)
  (a13:At K "_law_name" ya f13 fd13)
  (a14:At K "_law_turns" vB f14 fd14)
  (a15:At K "_law_turned" uD f15 fd15)
  (a16:At K "_law_good" xN f16 fd16)
  (a17:At K "_law_copy" vw f17 fd17)
  (a18:At K "_law_whole" vU f18 fd18)
  (a19:At K "_law_follow" ur f19 fd19)
  (a20:At K "_law_pairs" vm f20 fd20)
  (a21:At K "_law_laid" xt f21 fd21)
  (a22:At K "_law_fold" xQ f22 fd22)
  (a23:At K "_law_refused" sY f23 fd23)
  (a24:At K "_law_all" Ad f24 fd24)
  (a25:W.nsIn K jh "law" = some (some (.ref f25))) (l25:K.lookup f25=some ⟨oc25,od25,.func (W.fnOf "law" "law" (sU yz) (rB yz) (nA yz) .none kV25 dc25 pm25 an25 cd25 ct25),sl25⟩) (c25:W.codeIn K cd25 "law" = true) (k25:W.keepIn K (.ref f25)=true)
  (aM:W.nsIn K jh "MapError" = some (some (.ref M))) (xM:vv K "MapError" M uV=true)
  (rM:W.readsIn K M (.type "type")=true) (sM:W.specialIn K (.ref M) "__getattribute__" = some (some (.builtin "type.__getattribute__"))) (fM:W.findCls K (.ref M) (.type "type") "__init__" = some (.val (.builtin "ValueError.__init__")))
  (Cq:W.nsIn K jh "NotThere" = some (some (.ref sN))) (IB:vv K "NotThere" sN (.ref M::uV)=true) (Jq:V3 K sN=true)
  (Ji:W.findIn K (.ref sN) "__init__" = some (some (.ref yU))) (CH:K.lookup yU=some ⟨TH,Td,.func (W.fnOf "__init__" "NotThere.__init__" (sU tE) (rB tE) (nA tE) .none TQ TY Tg TF Ge To),T5⟩) (Cp:W.codeIn K Ge "NotThere.__init__" = true) (C7:W.keepIn K (.ref yU)=true) (GD:W.isFn K (.ref yU)=true) (Ha:W.keepIn K (.ref sN)=true) (Hd:W.findIn K (.ref sN) "end" = some none)
  (Dz:W.nsIn K jh "NotOnePiece" = some (some (.ref rq))) (Dn:vv K "NotOnePiece" rq (.ref M::uV)=true) (DC:V3 K rq=true)
  (Dw:W.findIn K (.ref rq) "__init__" = some (some (.builtin "ValueError.__init__"))) (Ca:W.keepIn K (.ref rq)=true)
  (Nq:W.nsIn K jh "TooBig" = some (some (.ref Cu))) (Pz:vv K "TooBig" Cu (.ref M::uV)=true) (Na:V3 K Cu=true)
  (bve:W.nsIn K jh "ValueError" = some none)
  (btu:W.nsIn K jh "tuple" = some none)
  (z0:W.nsIn K jh "len" = some none) (z1:W.nsIn K jh "min" = some none) (z2:W.nsIn K jh "max" = some none) (z3:W.nsIn K jh "abs" = some none) (z4:W.nsIn K jh "all" = some none) (z5:W.nsIn K jh "sorted" = some none) (z6:W.nsIn K jh "isinstance" = some none) (z7:W.nsIn K jh "list" = some none) (z8:W.nsIn K jh "int" = some none) (z9:W.nsIn K jh "bool" = some none) (z10:W.nsIn K jh "str" = some none) (z11:W.nsIn K jh "dict" = some none) (z12:W.nsIn K jh "zip" = some none) (z13:W.nsIn K jh "enumerate" = some none) (z14:W.nsIn K jh "range" = some none) (z15:W.nsIn K jh "reversed" = some none) :
  ∃fd:jr,(∀(s:Shared) (v:Value),mB s fd ⟨[v],[]⟩ [("_law_script", v)])/\∀base:Heap,K.In base->base.Ns jh mg->yt l.prog w K mg base Tn 7 fa fd ["_law_script"] (JR K):=by
 have e:=hfa.symm.trans (W.mg_of X G a25);cases e;have B:Bt mg:=⟨W.mg_none_of X G z0,W.mg_none_of X G z1,W.mg_none_of X G z2,W.mg_none_of X G z3,W.mg_none_of X G z4,W.mg_none_of X G z5,W.mg_none_of X G z6,W.mg_none_of X G z7,W.mg_none_of X G z8,W.mg_none_of X G z9,W.mg_none_of X G z10,W.mg_none_of X G z11,W.mg_none_of X G z12,W.mg_none_of X G z13,W.mg_none_of X G z14,W.mg_none_of X G z15⟩;have D25:za K mg "law" yz ["_law_script"] _ _:=⟨Dh l25 c25 k25,W.mg_of X G a25,b1 (Dh l25 c25 k25) λ_ _ _ _ _ _ _=>rfl⟩
 refine⟨W.fnOf "law" "law" (sU yz) (rB yz) (nA yz) .none kV25 dc25 pm25 an25 cd25 ct25,λs v=>.of_eq rfl,λbase kb nb=>?_⟩
 have bTU:=W.mg_none_of X G btu;have sJ:=Q5 X G aM xM;have bVE:=W.mg_none_of X G bve;have IV:=Iu Cq aM IB xM Jq;have sR:=Fh (P:=l.prog) (w:=w) (base:=base) (Dh CH Cp C7) (b2 (Dh CH Cp C7) λ_ _ _ _ _ _ _ _=>rfl) IV (W.mg_of X G aM) rM sM fM Ji GD Ha Hd (W.mg_of X G Cq)
 have Dr:=Iu Dz aM Dn xM DC;have oZ:=SV X G Dr Dw Ca;have PM:=Iu Nq aM Pz xM Na;have zi:=Ve X G PM;have F0:=FK (P:=l.prog) (w:=w) (base:=base) (Bj X G a0 (b1 a0.F λ_ _ _ _ _ _ _=>rfl)) B
 have F1:=EI (P:=l.prog) (w:=w) (base:=base) (Bj X G a1 (b1 a1.F λ_ _ _ _ _ _ _=>rfl)) B
 have F2:=Io (Bj X G a2 (b2 a2.F λ_ _ _ _ _ _ _ _=>rfl)) B F1
 have F3:=MZ (Bj X G a3 (b1 a3.F λ_ _ _ _ _ _ _=>rfl)) B F2
 have F4:=vg (Bj X G a4 (b1 a4.F λ_ _ _ _ _ _ _=>rfl)) B oZ F3
 have F5:=FD (P:=l.prog) (w:=w) (base:=base) (Bj X G a5 (b2 a5.F λ_ _ _ _ _ _ _ _=>rfl)) B
 have F6:=CQ (Bj X G a6 (b2 a6.F λ_ _ _ _ _ _ _ _=>rfl)) B sR F1 F5
 have F7:=Dp (Bj X G a7 (b2 a7.F λ_ _ _ _ _ _ _ _=>rfl)) B F0 F6
 have F8:=FN (P:=l.prog) (w:=w) (base:=base) (Bj X G a8 (b2 a8.F λ_ _ _ _ _ _ _ _=>rfl)) B bTU
 have F9:=JF (Bj X G a9 (b1 a9.F λ_ _ _ _ _ _ _=>rfl)) B bTU F0 F8
 have F10:=Dq (Bj X G a10 (b2 a10.F λ_ _ _ _ _ _ _ _=>rfl)) B F9 F6
 have F11:=EK (Bj X G a11 (b1 a11.F λ_ _ _ _ _ _ _=>rfl)) B F4 F10 F7
 have F12:=Lu (P:=l.prog) (w:=w) (base:=base) (Bj X G a12 (b2 a12.F λ_ _ _ _ _ _ _ _=>rfl)) B
 have F13:=Mh (P:=l.prog) (w:=w) (base:=base) (Bj X G a13 (b3 a13.F λ_ _ _ _ _ _ _ _ _=>rfl)) B
 have F14:=IL (P:=l.prog) (w:=w) (base:=base) (Bj X G a14 (b3 a14.F λ_ _ _ _ _ _ _ _ _=>rfl)) B
 have F15:=GP (P:=l.prog) (w:=w) (base:=base) (Bj X G a15 (b1 a15.F λ_ _ _ _ _ _ _=>rfl)) B
 have F16:=MW (Bj X G a16 (b1 a16.F λ_ _ _ _ _ _ _=>rfl)) B F15
 have F17:=MM (P:=l.prog) (w:=w) (base:=base) (Bj X G a17 (b1 a17.F λ_ _ _ _ _ _ _=>rfl)) B
 have F18:=IM (P:=l.prog) (w:=w) (base:=base) (Bj X G a18 (b1 a18.F λ_ _ _ _ _ _ _=>rfl)) B
 have F19:=HE (P:=l.prog) (w:=w) (base:=base) (Bj X G a19 (b1 a19.F λ_ _ _ _ _ _ _=>rfl)) B
 have F20:=IG (Bj X G a20 (b1 a20.F λ_ _ _ _ _ _ _=>rfl)) B bTU F18
 have F21:=Mm (P:=l.prog) (w:=w) (base:=base) (Bj X G a21 (b4 a21.F λ_ _ _ _ _ _ _ _ _ _=>rfl)) B
 have F22:=LI (Bj X G a22 (b2 a22.F λ_ _ _ _ _ _ _ _=>rfl)) B F14 F13 F12
 have F23:=EL (Bj X G a23 (b1 a23.F λ_ _ _ _ _ _ _=>rfl)) B sJ oZ zi bVE F11 F17
 have F24:=Oe (Bj X G a24 (b1 a24.F λ_ _ _ _ _ _ _=>rfl)) B F19 F21
 have F25:=UG D25 B F12 F16 F17 F11 F22 F24 F23 F20;exact F25.ok.imp (S4 λns h=>Vi h)
theorem YJ{l:W.OpenLaw}{q:jg}{loose:List Str}{XP:(Str->Option Value)->Heap->Prop}{YP:ji->Heap->Prop}{d:DefRec}{K:Params->W.Frag}(hn:l.most=some 63) (hdf:d.params.defaults=[])
  (hY:∀(w:ji) (h:Heap),YP w h->(K w.params).In h)
  (F:∀(w:ji) (mg:Str->Option Value) (fa:Addr) (h:Heap),(K w.params).In h->h.Ns jh mg->mg d.name=some (.ref fa) ->
   ∃fd:jr,(∀(s:Shared) (u:Value),mB s fd ⟨[u],[]⟩ [("_law_script", u)])/\∀base:Heap,(K w.params).In base->base.Ns jh mg->yt l.prog w (K w.params) mg base Tn 7 fa fd ["_law_script"] (JR (K w.params))) :
  W.WalkO q loose XP YP l.row.toRowW d [] (λf vs=>PySem.call f vs) :=
 L2.Rf (n:=63) (k:=7) (x := "_law_script") (CX:=λ_=>Tn) (sp:=λw=>JR (K w.params)) hn (by decide) hdf ⟨rfl,by decide,by decide⟩ hY F (λ_ _ a ns hl _ hS=>⟨a,ns,rfl,hS,hl,λ_=>rfl⟩) λ_ _ _ _ _ z=>z
end K39
structure PySem.W.Fast:Prop where(tw18337967150218081432 tw13438252250590935302 tw14242554027393443385 tw12354632672389940038 tw11769820472541730757 tw999625164459901276 tw1413856592097669851 tw11520628548013831848 tw4757668162979454867 tw12196513880534939342 tw8859527380730081114 tw14491521913470785342 tw10173506551640906450 tw3418427283428178654 tw15379179036908170200 tw7171770357901222185 tw13599793159414532067 tw18210298299255205770 tw9022777990696019654 tw7902997205081750653 tw2080023367374696126 tw12871063465482807198 tw14061125620203075900 tw7689485618610109609 tw4171047479384596070 tw4788918073491094194 tw12630713566160649128 tw11301372944809787259 tw16198678087143971445 tw10267829413120037570 tw1895878351670327844 tw9485768901785464727 tw3611064062369128244 tw16529661889378402857 tw11602539565250208505 tw17161048375801429207 tw16569289983818121644 tw1166101754360820652 tw7328775833196067272 tw5172813529484376544 tw15973746082511882021 tw17046111772260041440 tw11310126710217345413 tw8737733513820501695 tw2920967920194341139 tw16582084199148049195 tw6491323598495492116 tw16965582278575686788 tw3270562594623133554 tw1941615114381723317 tw17581176162697371083 tw10818464659279654115 tw9323479255714298782 tw1181865769693807128 tw58900160767908363 tw7818486892656039697 tw16895803270011950309 tw149600398068608579 tw6279807167215342488 tw8126837605052097512 tw12407868761970854182 tw14771759683948858617 tw12813862313150822350 tw15534860065730899905 tw2457952581571286815 tw5554616503739883204 tw10840025545905813028 tw8635550524134699577 tw5010498112379469355 tw818748135957559444 tw6859456995312293383 tw8085815549200515517 tw13737516439653776114 tw8345397743576934550 tw12361902067845374777 tw17197395186755774766 tw16176614209549342561 tw7777018472229028212 tw13881690883871212277 tw16595139134257891189 tw646213508615152103 tw13968656875259622610 tw7528657773764195091 tw1315627542158672509 tw3850942136062609951 tw8592842522039347469 tw15593033057028585656 tw1381264221505327278 tw10140075688266649539 tw6249186887047756143 tw11119003953388225927 tw15980026653810007078 tw524654667663111170 tw13848972232147848349 tw17865442150069118558 tw7701183863903863524 tw7315435003978206524 tw14344359902626874071 tw10009342457070821288 tw13699410596863414616 tw12751547909897974865 tw2718226761691898653 tw13337923198534305223 tw6352545480093330632 tw13699702572145304492 tw15884131122730348315 tw9847283251546646741 tw669321008669768584 tw13165596213158531303 tw2829198085262971192 tw5890321431275053041 tw2318042669799292591 tw17084848389619496435 tw16494270040689225387 tw13195614714810933917 tw1072065966173261087 tw13245248937184823925 tw7014102242941066331 tw15624147922512501727 tw4997467137336542548 tw904735565248372937 tw18009146317718935962 tw10680461406596323214 tw11489071503071386717 tw14952269549326832 tw12462612620748821743 tw16232023443100006109 tw15992665549473678828 tw6205732492938352246 tw10120072593771508973 tw1814102315101307911 tw750096296796466710 tw13772155688504809138 tw6195666395411396007 tw9576426222845272324 tw6775678117161181567 tw9177706903947820902 tw11473621309087787677 tw1299235628960482420 tw15050092486750476390 tw6018275258091452562 tw3039485563117459270 tw7139266426333290735 tw5381587963293014605 tw16954897052814593627 tw11953587482492029936 tw16020506354959095635 tw11083983833344659146 tw9525804927536523998 tw10630302137644354423 tw14973375615507938277 tw12511467111636414624 tw16761034644314932576 tw2072339703603714972 tw10549343112559105831 tw14405119135496923460 tw16947235578746445371 tw11376162618054526642 tw2283321563235086273:True)
open PySem PySem.W PyProof.Rows
set_option maxRecDepth 100000 in
set_option maxHeartbeats 0 in
theorem PySem.Challenge.cw_mapround_k39_own_turns_holds : PySem.Challenge.rw_mapround_k39_own_turns.Holds := by
 w_on;o_law;k_head;(case hw=>w_witness2)
 k_fill
 refine K39.YJ (l:=PySem.Challenge.rw_mapround_k39_own_turns) rfl rfl (λw h Y=>W.kIn_of Y) ?F
 case F =>
  intro w mg fa h KX G hmg;apply K39.Uk KX G hmg
  all_goals first|exact Mr.Xf (by k_is) (by k_is) (by k_is) (by k_is)|exact Mr.atM_mk (by k_is) (by k_is) (by k_is) (by k_is) (by k_is)|k_is|kernel_rfl

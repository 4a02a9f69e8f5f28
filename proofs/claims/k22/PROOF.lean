import PyProof.Rows.All
import Wide.All
import OpenK.AllK
import Wide.FinOn
import Lean
import PyProof.EqAt
import PyProof.EqKinds
import PyProof.TupleCall
import KE.KIntText
import PyProof.ConsumeWalk
import PySem.Challenge.RW_mapround_k22_puts_refused
set_option Elab.async false
set_option linter.all false
set_option bootstrap.genMatcherCode false
set_option genSizeOf false
set_option compiler.extract_closed false
set_option maxRecDepth 100000
set_option maxHeartbeats 4000000
open Option renaming bind_eq_some_iff->oBq,map_eq_some_iff->oMq
open List renaming getElem?_eq_some_iff->gSq,getElem?_eq_getElem->gEg,getD_eq_getElem?_getD->gDq,length_append->lAq,length_map->lMq,mem_append->mAq,mem_flatten->mFq,mem_map->mMq,getElem?_map->gMq,mem_of_getElem?->mGq,map_congr_left->mCq,getElem_mem->gRq,length_singleton->lSq,mem_singleton->mSq,length_take->lTq,nodup_append->nAq,append_nil->aNq,flatten_append->fAq,getElem?_append_right->gYq,getElem?_append_left->gZq,length_cons->lCq,map_map->mPq,map_append->mBq,mem_cons_of_mem->mCo,length_set->lZq,flatten_cons->fCq,count_append->cAq,mem_cons->ak,getElem?_set_ne->ao,size_toArray->aq,append_assoc->ar,length_drop->au,map_cons->aw,mem_append_right->aC,replicate->aD,nodup_cons->aK,drop_eq_getElem_cons->aL,getElem?_set_self->aN,flatten_singleton->aO,pairwise_append->aQ,take_append_drop->aR,nodup_nil->aT,mem_of_mem_take->aU,take_sublist->aW,nodup_iff_pairwise_ne->aY,getElem?_set->aZ,length_range->ba,Pairwise->bf,take_of_length_le->bg,mem_of_mem_drop->bh,sublist_flatten_of_mem->bj,mem_cons_self->bo,contains_cons->bp,take_length->br,range->bu,getElem?_take_of_lt->bw,getElem?_replicate->bD,mem_reverse->bF,Perm->bG,drop_sublist->bH,pairwise_map->bI,perm_append_comm->bJ,getElem?_eq_none->bK,mem_iff_getElem?->bL,idxOf_lt_length_iff->bM,any_eq_true->bO,lookup->bQ,drop_eq_nil_of_le->bT,pairwise_iff_getElem->bV,mem_range->bW,mem_append_left->bY,mem_iff_getElem->bZ,nil_append->cm,length->cu,eraseIdx_cons_succ->cx,length_eq_zero_iff->cA,drop_length->cF,drop_of_length_le->cH,getElem?_drop->cI,set_cons_zero->cJ,length_replicate->cL,perm_ext_iff_of_nodup->cO,map_nil->cQ,any_cons->cU,take_add_one->cW,getElem?_zip_eq_some->cX,eq_of_mem_replicate->cY,drop_zero->df,find?_cons->dq,length_filter_le->du,length_eraseIdx->dC,length_pos_iff->dG,extract_eq_take_drop->dJ,getElem?_range->dO,length_nil->dP,filter_map->dQ,getElem_idxOf->dU,pairwise_cons->dW,set_cons_succ->dY,getElem_drop->eB,ext_getElem?->eC,isEmpty_cons->eE,find?_cons_of_pos->eF,find?_cons_of_neg->eG,findIdx_lt_length_of_exists->eI,eraseIdxIfInBounds_toArray->eJ,set_getElem_self->eN,perm_middle->eP,mem_filter->eS,of_mem_zip->eT,foldl_cons->eU,Sublist->eW,filterMap_cons->eX,map_id->fh,getElem_take->fk,map_take->fu,flatMap_cons->fv,not_mem_nil->fD,map_fst_zip->fE,mem_flatMap->fF,pairwise_mergeSort->fK,flatten_eq_nil_iff->fP,length_pos_of_mem->fQ,not_of_lt_findIdx->fS,pairwise_lt_range->fU,filter_eq_nil_iff->fV,set_append_right->fX,count_cons_of_ne->gi,length_dropLast->gj,reverse_reverse->gk,getElem_toArray->gq,dropLast_concat->gu,findIdx_getElem->gv,all_cons->gw,reverse_append->gB,mergeSort_perm->gC,replicate_succ->gD,flatMap_append->gE,perm_iff_count->gF,mem_filterMap->gH,map_replicate->gI,set_set->gK,any_map->gL,findIdx_cons->gS,drop_append->gV,cons_append->gW,all_eq_true->gZ,lookup_cons->hR,getElem_map->hU,countP_map->hW,take_zero->ij,mapM_cons->il,cons->iu,map_drop->iw,flatten->iB
open And renaming intro->aa
open PySem.Heap renaming get?_push_of_some->ae,lt_size->aj,get?_push_size->bb,get?_update_other->bz,get?_none_of_le->bX,get?_update_self->cM,get?_update_ne->dk,size_update->dE,SameBut->dZ,size_push->eA,get?_push_ne->eD,MadeExcOf->eZ,update_setField_same->fo,get?_push_at->fq
open Nat renaming le_refl->af,lt_of_lt_of_le->aE,ne_of_lt->aF,zero_le->aV,le_trans->bB,le_of_lt->bC,sub_self->bP,le_succ->bR,lt_succ_of_lt->cj,lt_irrefl->cC,zero_add->cR,not_lt_zero->cS,lt_succ_iff_lt_or_eq->de,lt_succ_self->dh,min_eq_left->dr,add_one_sub_one->dN,lt_or_eq_of_le->dS,ne_of_gt->ee,le_of_eq->ef,add_assoc->eK,le_add_right->eM,min_eq_right->eO,pos_of_ne_zero->fb,mod_eq_of_lt->fG,add_sub_cancel_left->fJ,add_comm->fO,le_of_ble_eq_true->fZ,sub_zero->gJ,mod_self->gM,le_of_lt_succ->gO,lt_trichotomy->gP,max_eq_right->gX,lt_trans->iz,add_zero->iA
open Array renaming getElem?_eq_getElem->ag,length_toList->ax,getElem?_eq_some_iff->aG,toList_append->aH,getElem?_toList->aJ,getElem_mem->aX,toList_reverse->cc,toList_push->cV,toList_extract->dB,size_extract->dX,mem_toList_iff->eR,toList_setIfInBounds->ff,getElem?_extract->fT,getD->gA,append_assoc->gG,Perm->hZ,size_map->ik
open PySem.F renaming plainAttrs_list->ah,slot_list_append->aA,type_list_append->aB,slot_list_index->bE,type_list_index->cB,slot_list_extend->cZ,type_list_extend->dc,typeOf_object_class->dz,excBase_ValueError->dD,slot_gs_get->eY,excAttr_ValueError->fg,args_list_index_2->ft,entry_list_index->fB,slot_list_count->fL,entry_bexc_ga->fY,slot_list_pop->gc,type_list_pop->gg,store_object->gm
open PySem.Value renaming ref->ai,builtin->cD,none->cP,type->dg,int->fW,str->gN,bool->hX,isStrOf->iq,isInt->iE,bytes->iF,float->iG
open Bool renaming false_ne_true->ay,not_eq_true->bN,eq_iff_iff->cg,and_eq_true->cE,false_eq_true->cK,or_true->dm,or_false->fA,not_eq_true'->gQ,eq_false_iff->gR,noConfusion->gY,false_and->ie,false_or->ir,not_true->iy
open PyProof.Rows renaming boot_isinstance->az,boot_list->bU,callWith_type1->dw,boot_sorted->dR,boot_tuple->eh,callWith_builtin1->eQ,boot_min->gb,boot_str->gh,boot_bool->iD,boot_int->iI,boot_abs->iJ,lt_int->iK
open Option renaming some->aS,map_some->cT,bind_some->dF,isSome_map->fj,getD_none->gT,none->iH
open Int renaming emod_lt_of_pos->bq,emod_nonneg->bA,toNat_natCast->bS,zero_add->dA,le_of_lt->eV,le_refl->gU,neg_neg->hV,mul_le_mul->ip
open Sum renaming inl->bx,inr->fi
open Classical renaming propDecidable->fN
open Prod renaming ext->iC
open PySem renaming Shared->iM,model->iQ,wpAny->iS,wpAny_bind->iT,mainGlobals->iV,Program->iW,sizeLine->iX,starEach->iY,World->iZ,wpAny_loadPart_at->ja,FuncData->jb,wpAny_pure->jd,typeLookup->je,call_isinstance->jf,wpAny_mono->jg,excClassObj->jh,wpAny_isSubtype_exc->ji,sizeLine_eq->jj,backTo->jl,wpAny_Call_Name_kw->jo,codeAny_call_builtin->jq,wpAny_truthy_bool->jt,OwnTail->ju,compareOp->jv,sysModules->jA,cLine->jB,wpAny_passesOwn->jC,isinstance_true->jD,wpAny_execs_nil->jF,wpAny_call->jG,call_meets->jH,Scope->jJ,keywordEach->jK,codeAny_mono->jL,bootBuiltins->jM,getMethod->jN,isinstance_false_int->jO,Model->jQ,sliceBounds->jR,codeAny->jT,behindInMarks->jX,attributeBase->jY,checkBuiltinCall->jZ,binaryOp->ke,backToKw->kf,swapsWith->kg,standAt->ki,holding->kj,plainObj_wpAny_Assign_Attribute->km,letOwnedTupleGo->ko,rawInt->kr,recursionLimit->ku,callWith->kx,GenState->ky,relabel->kz,tupleKind_room_in1->kA,setFlight->kB,wpAny_newFunctionEnv_cells->kC,wpAny_standAt->kE,wpAny_holding->kF,foldedSetIterable->kG,wpAny_check_type_call_sub->kH,codeAny_call_builtin_code->kJ,assignEach->kK,valueAt->kL,callerA->kM,BindsTo->kN,wpAny_comprehension_free->kO,wpAny_execs_cons->kP,handleBy->kQ,codeAny_call_builtin_at->kR,codeAny_builtin->kT,tupleKind->kU,noteFrame->kW,cellsFrom->kX,bindL->kY,bindC->kZ,atKey->lg,wpAny_field->lu,subscripted->ly,wpAny_isTrue_Compare1->lz,wpAny_check_init_subT->lB,isinstance_false_none->lC,codeAny_handlers_test->lD,codeAny_call_function->lE,wpAny_setField->lF,isSubtype_type->lG,getItem->lH,wpAny_check_new_subT->lI,unbindBehindTheSuite->lJ,lookup_relabel_local->lK,isinstance_false_str->lL,codeAny_exc_new_subT->lO,isInstance->lS,wpAny_handleBy_cons->lV,seqIndex?->lX,leaving->lY,getAttr->lZ,OsState->mh,unsupported->mi
open PyProof.Rows renaming Keyed->iO,wpS_bind->iR,wpS_pure->iU,arrOf->jc,envOfC->jk,wpS_forRange->jm,setArr->jn,wpS_mono->jr,elem'->jw,seqObj->jx,SortKind->jy,IntsAre->jz,pairsOf->jE,pendingOf->jI,wpS_modify->jP,wpS_get->jS,getElem?_mirror_all->jU,AllBare->jV,reverseSlice'->jW,oneType'->ka,gallopOf->kc,pairsOf_size->kq,get?_update_seq->kS,subscriptTail_builtinR->lj,subscriptTail->lT,listUpdate_at->lU,seqEpoch_at->mj
noncomputable section
open Array renaming mem_of_getElem?->aQq
local macro_rules|`(tactic|trivial)=>`(tactic|first|exact Or.inl rfl|exact Or.inr rfl|exact Or.inr (Or.inl rfl)|exact Or.inr (Or.inr rfl)|exact⟨rfl,rfl,rfl,by decide +kernel,rfl,by decide +kernel,by decide +kernel⟩|fail)
def oJ{c:Prop}{_:Decidable c}(h:c){α}{t e:α}:ite c t e=t:=if_pos h
def oO{c:Prop}{_:Decidable c}(h:¬c){α}{t e:α}:ite c t e=e:=if_neg h
namespace L2
open PySem PySem.Spec PyProof.Rows
abbrev pN:=Sum Int Str
def Hc:pN->Value->Bool
 | .inl k,v=>iE k v
 | .inr x,v=>iq x v
def ad6(w:iZ):pN->Int
 | .inl k=>hashInt k
 | .inr x=>hashStr w x
def qQ:∀{k:pN}{v:Value},Hc k v=true->(∃i t,k=bx i/\v=fW i t)∨(∃x t,k=fi x/\v=gN x t)
 | .inl i,v,h=>by
  obtain⟨t,e⟩:=Value.isInt_shape (k:=i) (v:=v) h;exact .inl ⟨i,t,rfl,e⟩
 | .inr x,v,h=>by
  obtain⟨t,e⟩:=Value.isStrOf_shape (x:=x) (v:=v) h;exact .inr ⟨x,t,rfl,e⟩
def Oq(i:Int) (t:Tok):Hc (.inl i) (.int i t)=true:=by simp[Hc,iE]
def OL(x:Str) (t:Tok):Hc (.inr x) (.str x t)=true:=by simp[Hc,iq]
def YQ(a b:Int):decide ((bx a:pN)=bx b)=(a == b):=by
 by_cases e:a=b
 .subst e;simp
 .have h:¬ (bx a:pN)=bx b:=λq=>e (bx.inj q)
  rw[decide_eq_false h];exact(beq_eq_false_iff_ne.mpr e).symm
def ZC(a b:Str):decide ((fi a:pN)=fi b)=decide (a=b):=by
 by_cases e:a=b
 .subst e;simp
 .have h:¬ (fi a:pN)=fi b:=λq=>e (fi.inj q)
  rw[decide_eq_false h,decide_eq_false e]
def ZU(a:Int) (b:Str):decide ((bx a:pN)=fi b)=false:=decide_eq_false (λq=>nomatch q)
def XZ(a:Str) (b:Int):decide ((fi a:pN)=bx b)=false:=decide_eq_false (λq=>nomatch q)
def rV(prog:iW) (w:iZ):PySem.KeyKind prog w pN where
 is:=Hc
 hash:=ad6 w
 inj:=λv a b ha hb=>by
  rcases qQ ha with ⟨i,t,rfl,rfl⟩|⟨x,t,rfl,rfl⟩
  .rcases qQ hb with ⟨j,u,rfl,e⟩|⟨y,u,rfl,e⟩
   .injection e with e1 _;rw[e1]
   .exact nomatch e
  .rcases qQ hb with ⟨j,u,rfl,e⟩|⟨y,u,rfl,e⟩
   .exact nomatch e
   .injection e with e1 _;rw[e1]
 byValue:=λk v h=>by
  rcases qQ h with ⟨i,t,rfl,rfl⟩|⟨x,t,rfl,rfl⟩ <;> rfl
 pyHash:=λhv h=>by
  rcases qQ hv with ⟨i,t,rfl,rfl⟩|⟨x,t,rfl,rfl⟩
  .exact wpAny_pyHash_int h
  .exact wpAny_pyHash_str h
 eqBool:=λhu hv h=>by
  rcases qQ hu with ⟨i,t,rfl,rfl⟩|⟨x,t,rfl,rfl⟩
  .rcases qQ hv with ⟨j,u,rfl,rfl⟩|⟨y,u,rfl,rfl⟩
   .rw [YQ]at h;exact wpAny_eqBool_int h
   .rw [ZU]at h;exact SeqAt.EqAt.int_str i t y u _ _ _ _ h
  .rcases qQ hv with ⟨j,u,rfl,rfl⟩|⟨y,u,rfl,rfl⟩
   .rw [XZ]at h;exact SeqAt.EqAt.str_int x t j u _ _ _ _ h
   .rw [ZC]at h;exact wpAny_eqBool_str h
 «strs»:=λk x t v h=>by
  rcases qQ h with ⟨i,u,rfl,e⟩|⟨y,u,rfl,e⟩
  .exact nomatch e
  .injection e with e1 _
   subst e1;cases v <;> rfl
def JE(prog:iW) (w:iZ) (i:Int) (t:Tok):(rV prog w).is (.inl i) (.int i t)=true:=Oq i t
def KB(prog:iW) (w:iZ) (x:Str) (t:Tok):(rV prog w).is (.inr x) (.str x t)=true:=OL x t
inductive V where
 |non|bl (b:Bool)|int (i:Int)|str (x:Str)|byt (b:Array UInt8)|flt (b:UInt64)|ref (a:Addr)|ty (n:String)
 deriving DecidableEq
def qb:V->Value->Prop
 | .non,u=>u=cP
 | .bl b,u=>u=hX b
 | .int i,u=>∃t,u=fW i t
 | .str x,u=>∃t,u=gN x t
 | .byt b,u=>∃t,u=iF b t
 | .flt b,u=>∃t,u=iG b t
 | .ref a,u=>u=ai a
 | .ty n,u=>u=dg n
abbrev oV:List V->List Value->Prop:=Paired qb
theorem oV.length{xs:List V}{us:List Value}(r:oV xs us):xs.length=us.length:=Paired.length r
theorem oV.get:∀{xs:List V}{us:List Value}{i:Nat}{x:V},oV xs us->xs[i]?=some x->∃u,us[i]?=some u/\qb x u
 |_,_,_,_,.nil,e=>by simp at e
 |_,_,0,_,.cons r _,e=>by simp at e;subst e;exact⟨_,rfl,r⟩
 |_,_,i+1,x,.cons _ t,e=>by
  obtain⟨u,h1,h2⟩:=oV.get (i:=i) (x:=x) t (by simpa using e)
  exact⟨u,by simpa using h1,h2⟩
theorem oV.set{x:V}{u:Value}(r:qb x u):∀{xs:List V}{us:List Value}(i:Nat),oV xs us->oV (xs.set i x) (us.set i u)
 |_,_,_,.nil=>.nil
 |_,_,0,.cons _ t=>.cons r t
 |_,_,i+1,.cons q t=>.cons q (oV.set r i t)
theorem oV.append:∀{xs ys:List V}{us ws:List Value},oV xs us->oV ys ws->oV (xs++ys) (us++ws)
 |_,_,_,_,.nil,s=>s
 |_,_,_,_,.cons r t,s=>.cons r (oV.append t s)
theorem oV.take:∀{xs:List V}{us:List Value}(n:Nat),oV xs us->oV (xs.take n) (us.take n)
 |_,_,0,_=>.nil
 |_,_,_+1,.nil=>.nil
 |_,_,n+1,.cons r t=>.cons r (oV.take n t)
theorem oV.drop:∀{xs:List V}{us:List Value}(n:Nat),oV xs us->oV (xs.drop n) (us.drop n)
 |_,_,0,r=>r
 |_,_,_+1,.nil=>.nil
 |_,_,n+1,.cons _ t=>oV.drop n t
def Ag:Option V->Option Value->Prop
 |some v,some u=>qb v u
 |none,none=>True
 |_,_=>False
def KV{κ:Type}:List (κ×V)->List (κ×Value)->Prop:=Paired λ(p:κ×V) (q:κ×Value)=>p.1=q.1/\qb p.2 q.2
def kV:pN->V
 | .inl i=>.int i
 | .inr x=>.str x
inductive HO where
 /-- a list -/
 |lst (xs:List V)
 /-- a tuple (never changes) -/
 |tup (xs:List V)
 /-- a dict whose keys are ints and texts;one whose keys are tuples of ints and texts (the empty one is BW) -/
 |dK (nV:List (pN×V))|dT (nV:List (List pN×V))
 /-- a set of ints: its members,its size -/
 |set (S:Int->Bool) (n:Nat)
 /-- an instance of the class at C,its dict at dx,its attributes -/
 |ins (C dx:Addr) (fs:List (Str×V))
 /-- the dict of the instance at x -/
 |own (x:Addr)
 /-- the dict of an exception -/
 |xd (fs:List (Str×V))
 /-- a bound method,f of x -/
 |met (f x:Addr)
 /-- a range object lo,lo+1,.. below hi -/
 |rng (lo hi:Int)
 /-- a thing that is known to the object (the script;a dict while a loop walks it): read,never written while it is so -/
 |frz (o:Obj) (u:HO)
 /-- a code object's table -/
 |tbl (ps:Array Value)
 /-- any other thing,by what is true of its one object (a def of one's own: SetO a S n:=HO.ext λh=>..) -/
 |ext (φ:Heap->Prop)
abbrev Hp:=Addr->Option HO
noncomputable def pY(H:Hp) (a:Addr) (o:HO):Hp:=λb=>if b=a then some o else H b
def og{H:Hp}{a:Addr}{o:HO}:pY H a o a=some o:=by unfold pY;rw[oJ rfl]
def nT{H:Hp}{a b:Addr}{o:HO}(h:b≠a):pY H a o b=H b:=by unfold pY;rw[oO h]
def CT{H:Hp}{a:Addr}{o u:HO}:pY (pY H a o) a u=pY H a u:=by
 funext b;unfold pY;split <;> rfl
def acr{H:Hp}{a b:Addr}{o u:HO}(h:H a=some o) (h':H b=some u) (d:o≠u):a≠b:=by
 intro e;subst e;rw[h]at h';exact d (aS.inj h')
def qq{H:Hp}{a b:Addr}{o:HO}(h:H a=some o) (h':H b=none):a≠b:=by
 intro e;subst e;rw[h]at h';cases h'
section
variable (P:iW) (w:iZ)
def qJ(H:Hp) (h:Heap) (a:Addr):HO->Prop
 | .lst xs=>xs.length<=iX/\∃(its:List Value) (n:Nat),oV xs its/\h.get? a=some { cls:=.type "list", data:=.seq its.toArray n }
 | .tup xs=>xs.length<=iX/\∃its:List Value,oV xs its/\IsTup h a its.toArray
 | .dK nV=>nV.length<=iX/\(a == jA)=false/\∃vs,KV nV vs/\h.DictOf (rV P w) a vs
 | .dT nV=>nV.length<=iX/\(a == jA)=false/\∃xs:List (List pN×Addr×Value),
   Paired (λ(p:List pN×V) (q:List pN×Addr×Value)=>p.1=q.1/\H q.2.1=some (.tup (p.1.map kV))/\qb p.2 q.2.2) nV xs /\
   ∃o es ep,h.get? a=some o/\o.ExactDict/\o.data = .dict es ep/\es.toList=xs.map (entryOfKey (kU (rV P w)))/\(xs.map (·.1)).Nodup
 | .set S n=>h.SetOf (intKind P w) a S n
 | .ins C dx fs=>H dx=some (.own a)/\fs.length<=1000/\dx≠a/\h.get? a=some (W.instObj C dx) /\
   ∃mA,h.Ns1 dx mA/\(∀f,Ag (fs.lookup f) (mA f))/\PySem.Within mA (fs.map (·.1))
 | .own _=>∃o,h.get? a=some o
 | .xd fs=>∃mA,h.Ns1 a mA/\∀f,Ag (fs.lookup f) (mA f)
 | .rng lo hi=>∃t u v,h.get? a=some { cls:=.type "range", data:=.fields #[.int lo t,.int hi u,.int 1 v] }
 | .frz o u=>h.get? a=some o/\qJ H h a u
 | .tbl ps=>h.get? a=some { cls:=.none,data:=.fields ps }
 | .met f x=>h.get? a=some (W.methodObj (.ref f) (.ref x))
 | .ext φ=>φ h/\(∃o,h.get? a=some o)/\∀h1 h2:Heap,φ h1->(∀o,h1.get? a=some o->h2.get? a=some o)->φ h2
def Aj(H:Hp) (h:Heap):Prop:=∀a o,H a=some o->qJ P w H h a o
end
section
variable {P:iW}{w:iZ}{H H':Hp}{h h':Heap}{a:Addr}{o:HO}
theorem qJ.lt(x:qJ P w H h a o):a<h.objs.size:=by
 cases o with
 |lst xs=>obtain⟨_,_,_,_,e⟩:=x;exact aj e
 |tup xs=>obtain⟨_,_,_,p⟩:=x;exact p.lt
 |dK nV=>obtain⟨_,_,_,_,o,_,_,e,_⟩:=x;exact aj e
 |dT nV=>obtain⟨_,_,_,_,o,_,_,e,_⟩:=x;exact aj e
 |set S n=>obtain⟨o,_,_,_,e,_⟩:=x;exact aj e
 |ins C dx fs=>obtain⟨_,_,_,e,_⟩:=x;exact aj e
 |own y=>obtain⟨_,e⟩:=x;exact aj e
 |xd fs=>obtain⟨_,⟨_,_,_,e,_⟩,_⟩:=x;exact aj e
 |rng lo hi=>obtain⟨_,_,_,e⟩:=x;exact aj e
 |frz ob u=>obtain⟨e,_⟩:=x;exact aj e
 |tbl ps=>exact aj (show h.get? a=some _ from x)
 |met f y=>exact aj (show h.get? a=some _ from x)
 |ext φ=>obtain⟨_,⟨_,e⟩,_⟩:=x;exact aj e
theorem Paired.mapP{α β:Type}{F G:α->β->Prop}:∀{l₁:List α}{l₂:List β},Paired F l₁ l₂->(∀a b,F a b->G a b)->Paired G l₁ l₂
 |_,_,.nil,_=>.nil
 |_,_,.cons r t,f=>.cons (f _ _ r) (Paired.mapP t f)
def qJ.stay(x:qJ P w H h a o) (k:∀b u,(b=a∨H b=some (.own a))->h.get? b=some u->h'.get? b=some u)
  (ho:∀b,H b=some (.own a)->H' b=some (.own a)) (ht:∀b xs,H b=some (.tup xs)->H' b=some (.tup xs)):qJ P w H' h' a o:=by
 induction o with
 |lst xs=>obtain⟨z,its,n,r,e⟩:=x;exact⟨z,its,n,r,k _ _ (.inl rfl) e⟩
 |tup xs=>obtain⟨z,its,r,ob,e,c⟩:=x;exact⟨z,its,r,ob,k _ _ (.inl rfl) e,c⟩
 |dK nV=>obtain⟨z,y,vs,r,ob,es,ep,e,c⟩:=x;exact⟨z,y,vs,r,ob,es,ep,k _ _ (.inl rfl) e,c⟩
 |dT nV =>
  obtain⟨z,y,xs,r,ob,es,ep,e,c⟩:=x;exact⟨z,y,xs,Paired.mapP r λp q z=>⟨z.1,ht _ _ z.2.1,z.2.2⟩,ob,es,ep,k _ _ (.inl rfl) e,c⟩
 |set S n=>obtain⟨ob,es,ep,t,e,c⟩:=x;exact⟨ob,es,ep,t,k _ _ (.inl rfl) e,c⟩
 |ins C dx fs =>
  obtain⟨d,z,ne,e,mA,⟨od,es,ep,e2,c⟩,r⟩:=x;exact⟨ho _ d,z,ne,k _ _ (.inl rfl) e,mA,⟨od,es,ep,k _ _ (.inr d) e2,c⟩,r⟩
 |own y=>obtain⟨ob,e⟩:=x;exact⟨ob,k _ _ (.inl rfl) e⟩
 |xd fs=>obtain⟨mA,⟨od,es,ep,e,c⟩,r⟩:=x;exact⟨mA,⟨od,es,ep,k _ _ (.inl rfl) e,c⟩,r⟩
 |rng lo hi=>obtain⟨t,u,v,e⟩:=x;exact⟨t,u,v,k _ _ (.inl rfl) e⟩
 |frz ob u ih=>obtain⟨e,q⟩:=x;exact⟨k _ _ (.inl rfl) e,ih q⟩
 |tbl ps =>
  have e:h.get? a=some { cls:=.none,data:=.fields ps }:=x;show h'.get? a=some { cls:=.none,data:=.fields ps };exact k a _ (.inl rfl) e
 |met f y =>
  have e:h.get? a=some (W.methodObj (.ref f) (.ref y)):=x;show h'.get? a=some (W.methodObj (.ref f) (.ref y));exact k a _ (.inl rfl) e
 |ext φ=>obtain⟨p,⟨o,e⟩,st⟩:=x;exact⟨st _ _ p λo q=>k _ _ (.inl rfl) q,⟨o,k _ _ (.inl rfl) e⟩,st⟩
theorem Aj.lt(x:Aj P w H h) (e:H a=some o):a<h.objs.size:=(x a o e).lt
def Aj.fresh(x:Aj P w H h) (e:h.objs.size<=a):H a=none:=by
 cases q:H a with
 |none=>rfl
 |some u=>exact absurd (aE (x.lt q) e) (cC _)
def Aj.kept(x:Aj P w H h) (k:∀b u,h.get? b=some u->h'.get? b=some u):Aj P w H h':=λa o e =>
 (x a o e).stay (λb u _ q=>k b u q) (λ_ q=>q) λ_ _ q=>q
def Aj.laid(x:Aj P w H h) (k:∀b u,h.get? b=some u->h'.get? b=some u) (hp:h.objs.size<=a) (new:qJ P w (pY H a o) h' a o):Aj P w (pY H a o) h':=λb u e=>by
 have hn:=x.fresh hp
 by_cases hb:b=a
 .subst hb;rw[og]at e;cases e;exact new
 .rw [nT hb]at e;exact(x b u e).stay (λc v _ q=>k c v q) (λc q=>by rw[nT (qq q hn)];exact q) λc xs q=>by rw[nT (qq q hn)];exact q
end
def Rd(H:Hp) (a:Addr) (u:HO):Prop:=H a=some u∨∃o,H a=some (.frz o u)
def Rd.ok{P:iW}{w:iZ}{H:Hp}{h:Heap}{a:Addr}{u:HO}(r:Rd H a u) (x:Aj P w H h):qJ P w H h a u:=by
 rcases r with r|⟨o,r⟩
 .exact x a u r
 .obtain ⟨_,q⟩:=x a _ r;exact q
def Mut:Option HO->Prop
 |some (.lst _)=>True
 |some (.dK _)=>True
 |some (.dT _)=>True
 |some (.set _ _)=>True
 |some (.ins _ _ _)=>True
 |some (.ext _)=>True
 |_=>False
section
variable {P:iW}{w:iZ}{H:Hp}{h h':Heap}{x e:Addr}{o':HO}
def Aj.write(ok:Aj P w H h) (mu:Mut (H x)) (he:e=x∨H e=some (.own x)) (k:∀b u,b≠e->h.get? b=some u->h'.get? b=some u) (heo:∃u,h'.get? e=some u)
  (new:qJ P w (pY H x o') h' x o'):Aj P w (pY H x o') h':=λb u q=>by
 have nown:∀c y,H c=some (.own y)->c≠x:=λc y r z=>by subst z;rw[r]at mu;exact mu
 have ntup:∀c xs,H c=some (.tup xs)->c≠x:=λc xs r z=>by subst z;rw[r]at mu;exact mu
 by_cases hb:b=x
 .subst hb;rw[og]at q;cases q;exact new
 .rw [nT hb]at q
  by_cases hbe:b=e
  .have q':H b=some (.own x):=by
    rcases he with z|z
    .exact absurd (hbe.trans z) hb
    .rw [hbe];exact z
   rw[q]at q';cases q';obtain⟨v,hv⟩:=heo;exact⟨v,by rw[hbe];exact hv⟩
  .refine (ok b u q).stay (λc v hc r=>k c v ?_ r) (λc r=>by rw[nT (nown c b r)];exact r) λc xs r=>by rw[nT (ntup c xs r)];exact r
   rcases hc with rfl|hc
   .exact hbe
   .rintro rfl;rcases he with z|z
    .exact nown c b hc z
    .rw [hc]at z;cases z;exact hb rfl
end
structure Un (fs ex:List Addr) (H H':Hp) (h h':Heap):Prop where
 keep:∀b o,h.get? b=some o->H b=none->b∉fs->b∉ex->h'.get? b=some o
 slot:∀b o,h.get? b=some o->H b=none->b∈fs->b∉ex->∃sl,h'.get? b=some { o with slots:=sl }
 free:∀b o,h.get? b=some o->H b=none->b∉ex->H' b=none
 there:∀b o,h.get? b=some o->b∉ex->∃o',h'.get? b=some o'
 tups:∀b xs,H b=some (.tup xs)->H' b=some (.tup xs)
 frzs:∀b o u,H b=some (.frz o u)->H' b=some (.frz o u)
 tbls:∀b ps,H b=some (.tbl ps)->∃more,H' b=some (.tbl (ps++more))
section
variable {fs fs' ex ex':List Addr}{H H1 H2:Hp}{h h1 h2 h':Heap}{a x e:Addr}{o:HO}
def Un.any(u:Un fs ex H H1 h h1) {b:Addr}{ob:Obj}(q:h.get? b=some ob) (n:H b=none) (hx:b∉ex):∃sl,h1.get? b=some { ob with slots:=sl }:=by
 by_cases hb:b∈fs
 .exact u.slot b ob q n hb hx
 .exact ⟨ob.slots,u.keep b ob q n hb hx⟩
def Un.kept(k:∀b u,h.get? b=some u->h'.get? b=some u):Un fs ex H H h h' :=
 ⟨λb ob q _ _ _=>k b ob q,λb ob q _ _ _=>⟨ob.slots,k b ob q⟩,λ_ _ _ n _=>n,λb ob q _=>⟨ob,k b ob q⟩,λ_ _ q=>q,λ_ _ _ q=>q,λ_ ps q=>⟨#[],by rw[q];simp⟩⟩
def Un.refl:Un fs ex H H h h:=Un.kept λ_ _ q=>q
def Un.laid(k:∀b u,h.get? b=some u->h'.get? b=some u) (hp:h.objs.size<=a) (hn:H a=none):Un fs ex H (pY H a o) h h' where
 keep:=λb u q _ _ _=>k b u q
 slot:=λb u q _ _ _=>⟨u.slots,k b u q⟩
 free:=λb u q n _=>by rw[nT (aF (aE (aj q) hp))];exact n
 there:=λb u q _=>⟨u,k b u q⟩
 tups:=λb xs q=>by rw[nT (qq q hn)];exact q
 frzs:=λb u xs q=>by rw[nT (qq q hn)];exact q
 tbls:=λb ps q=>⟨#[],by rw[nT (qq q hn),q];simp⟩
def Un.write(mu:Mut (H x)) (he:e=x∨H e=some (.own x)) (k:∀b u,b≠e->h.get? b=some u->h'.get? b=some u) (heo:∃u,h'.get? e=some u):Un fs ex H (pY H x o) h h':=by
 have hx:∀b,H b=none->b≠x:=λb n z=>by subst z;rw[n]at mu;exact mu
 have hb:∀b,H b=none->b≠e:=λb n z=>by
  subst z;rcases he with r|r
  .exact hx b n r
  .rw [n]at r;cases r
 have hm:∀b u,H b=some u->¬ Mut (some u)->b≠x:=λb u q nm z=>by subst z;rw[q]at mu;exact nm mu
 refine⟨λb u q n _ _=>k b u (hb b n) q,λb u q n _ _=>⟨u.slots,k b u (hb b n) q⟩,λb u q n _=>by rw[nT (hx b n)];exact n,λb u q _=>?_,
  λb xs q=>by rw[nT (hm b _ q λz=>z)];exact q,λb u xs q=>by rw[nT (hm b _ q λz=>z)];exact q,λb ps q=>⟨#[],by rw[nT (hm b _ q λz=>z),q];simp⟩⟩
 by_cases hbe:b=e
 .subst hbe;exact heo
 .exact ⟨u,k b u hbe q⟩
end
noncomputable def trk(h:Heap) (H:Hp):List Addr:=(bu h.objs.size).filter λa=>(H a).isSome
def HG(h:Heap) (H:Hp):Heap:=W.hideAll h (trk h H)
def OX(h:Heap) (H:Hp):(HG h H).objs.size=h.objs.size:=W.hideAll_size _ _
def Su{h:Heap}{H:Hp}{b:Addr}{o:Obj}(e:h.get? b=some o) (n:H b=none):(HG h H).get? b=some o :=
 W.hideAll_get _ e λhm=>by
  have q:(H b).isSome=true:=(eS.mp hm).2;rw[n]at q;simp at q
def WD{h:Heap}{H:Hp}{b:Addr}{o:Obj}(e:(HG h H).get? b=some o):h.get? b=some o/\H b=none:=by
 have e':h.get? b=some o:=W.of_hideAll (trk h H) e;refine⟨e',?_⟩;cases q:H b with
 |none=>rfl
 |some x =>
  have hm:b∈trk h H:=eS.mpr ⟨bW.mpr (aj e'),by simp[q]⟩
  have z:(HG h H).get? b=none:=W.hideAll_none (trk h H) hm;rw[z]at e;cases e
noncomputable def WN(g h:Heap) (L:Addr):List (Addr×Obj):=(bu h.objs.size).filterMap λa=>if a=L∨(g.get? a).isSome=true then none else (h.get? a).map λo=>(a,o)
def rest(g h:Heap) (L d:Addr):List (Addr×Obj):=(WN g h L).filter λp=>decide (p.1≠d)
structure Mod (K:W.Frag) (mg:Str->Option Value) (base:Heap):Prop where
 kin:K.In base
 glob:base.Ns iV mg
 blt:∃mb,base.Ns builtinsNs mb/\∀x:Str,x ≠ "__name__" -> mb x=jM x
 nolimit:base.NoLimit
structure Cx where
 prog:iW
 w:iZ
 K:W.Frag
 mg:Str->Option Value
 base:Heap
 A:Around
 N:List Str
 s₀:iM
 H₀:Hp
 env:Env
 outer:List Env
 stack:List Env
 ex:List Addr
 fn:Str->Bool
 calm:Bool
 pn:List (Addr×Obj)
 xe:Value->iM->Prop
noncomputable def Ld(l:List Env):List Addr:=l.filterMap (·.frame)
abbrev Cx.fs(X:Cx):List Addr:=Ld X.outer
def Vis(sc:jJ) (x:Str):Prop:=sc.names.lookup x=some .local∨sc.names.lookup x=some .cell∨sc.names.lookup x=some .free
def Loc(sc:jJ) (x:Str):Prop:=sc.names.lookup x=some .local∨sc.names.lookup x=some .cell
def aaZ(env:Env) (h:Heap) (m:Str->Option Value) (x:Str) (u:Value):Prop :=
 (env.kindOf x=some .local/\m x=some u)∨((env.kindOf x=some .cell∨env.kindOf x=some .free)/\∃c,env.cells.lookup x=some c/\h.IsCell c (some u))
structure Cx.Ok (X:Cx):Prop where
 mod:Mod X.K X.mg X.base
 kind:X.env.scope.kind = .function
 glob:X.env.globals=iV
 blt:X.env.builtins=builtinsNs
 above:X.s₀.heap.objs.size<=X.env.locals
 inj:∀x y c,X.env.cells.lookup x=some c->X.env.cells.lookup y=some c->x=y
 has:∀x,(X.env.kindOf x=some .cell∨X.env.kindOf x=some .free)->∃c,X.env.cells.lookup x=some c
 cab:∀x c,X.fn x=true->X.env.cells.lookup x=some c->X.s₀.heap.objs.size<=c
 hd:X.calm=true->X.A.handled=none
 frames:X.A.frames=some X.stack
 stk:X.stack=X.outer∨(X.stack=X.env::X.outer/\X.env.frame=some X.env.locals)
 exf:∀b∈X.ex,b≠X.env.locals/\∀x c,X.env.cells.lookup x=some c->c≠b
 bs:∀b o,X.base.get? b=some o->X.s₀.heap.get? b=some o/\X.H₀ b=none
 bsz:X.base.objs.size<=X.s₀.heap.objs.size
 noex:∀b o,X.base.get? b=some o->b∉X.ex
 exfs:∀b∈X.ex,b∉X.fs
 funs:X.s₀.heap.FunFrames X.base X.outer
 frf:∀b∈X.fs,X.H₀ b=none
structure Inv (X:Cx) (mZ:List (Addr×Obj)) (σ:List (Option V)) (H:Hp) (s:iM):Prop where
 ok:X.Ok
 os:s.os=X.s₀.os
 bare:jV s.gens
 base:Un X.fs X.ex X.H₀ H X.s₀.heap s.heap
 loc:∃m,s.heap.Ns X.env.locals m/\∀(i:Nat) (x:Str) (v:V),X.N[i]?=some x->σ[i]?=some (some v)->Vis X.env.scope x->∃u,qb v u/\aaZ X.env s.heap m x u
 cell:∀x c,X.env.cells.lookup x=some c->∃v,s.heap.IsCell c v
 free:H X.env.locals=none
 freeC:∀x c,X.env.cells.lookup x=some c->H c=none
 pin:∀p∈X.pn++mZ,s.heap.get? p.1=some p.2/\H p.1=none/\p.1≠X.env.locals/\p.1∉X.fs/\∀v,p.2.data ≠ .cell v
 hok:Aj X.prog X.w H s.heap
 len:σ.length=X.N.length
section
variable {X:Cx}{mZ:List (Addr×Obj)}{σ:List (Option V)}{H H':Hp}{s:iM}{h':Heap}
def Cx.Ok.nofr(ok:X.Ok) {b:Addr}{o:Obj}(e:X.base.get? b=some o):b∉X.fs:=λhb=>by
 have:=(ok.funs.mem hb).1;rw[e]at this;cases this
theorem Inv.bs(I:Inv X mZ σ H s):∀b o,X.base.get? b=some o->s.heap.get? b=some o/\H b=none:=λb o e =>
 ⟨I.base.keep b o (I.ok.bs b o e).1 (I.ok.bs b o e).2 (I.ok.nofr e) (I.ok.noex b o e),I.base.free b o (I.ok.bs b o e).1 (I.ok.bs b o e).2 (I.ok.noex b o e)⟩
def Inv.bk(I:Inv X mZ σ H s):∀b o,X.base.get? b=some o->s.heap.get? b=some o:=λb o e=>(I.bs b o e).1
theorem Inv.mod(I:Inv X mZ σ H s):Mod X.K X.mg X.base:=I.ok.mod
def Inv.kIn(I:Inv X mZ σ H s):X.K.In s.heap:=I.ok.mod.kin.keeps I.bk
theorem Inv.lt(I:Inv X mZ σ H s):X.env.locals<s.heap.objs.size:=let ⟨_,hn,_⟩:=I.loc;hn.lt
def Inv.sz(I:Inv X mZ σ H s):X.s₀.heap.objs.size<=s.heap.objs.size:=bB I.ok.above (bC I.lt)
def Inv.nofs(I:Inv X mZ σ H s) {a:Addr}(h:s.heap.objs.size<=a):a∉X.fs:=λhb=>by
 obtain⟨_,o,ho,_⟩:=I.ok.funs.mem hb;exact absurd (aE (aj ho) (bB I.sz h)) (cC _)
def Inv.cne(I:Inv X mZ σ H s):∀x c,X.env.cells.lookup x=some c->c≠X.env.locals:=λx c e z=>by
 obtain⟨v,o,ho,hd⟩:=I.cell x c e;obtain⟨m,⟨o',es,ep,ho',hd',_⟩,_⟩:=I.loc;rw[z,ho']at ho;cases ho;rw[hd']at hd;cases hd
theorem Inv.funs(I:Inv X mZ σ H s):s.heap.FunFrames X.base X.outer:=by
 have all:∀(l:List Env),(∀b∈Ld l,b∈X.fs)->X.s₀.heap.FunFrames X.base l->s.heap.FunFrames X.base l:=by
  intro l
  induction l with
  |nil=>intro _ _;trivial
  |cons env r ih =>
   intro hs hl;obtain⟨hk,⟨L,o,hf,hn,ho,hd⟩,hr⟩:=hl;have hL:L∈X.fs:=hs L (by unfold Ld;rw[eX,hf];exact bo)
   obtain⟨sl,e⟩:=I.base.slot L o ho (I.ok.frf L hL) hL λz=>I.ok.exfs L z hL
   exact⟨hk,⟨L,_,hf,hn,e,hd⟩,ih (λb hb=>hs b (by unfold Ld;rw[eX,hf];exact mCo _ hb)) hr⟩
 exact all X.outer (λ_ hb=>hb) I.ok.funs
theorem Inv.stack(I:Inv X mZ σ H s):s.heap.FunFrames X.base X.stack:=by
 rcases I.ok.stk with e|⟨e,hf⟩
 .rw [e];exact I.funs
 .rw [e];obtain⟨m,hn,_⟩:=I.loc;refine .cons (by rw[I.ok.kind];decide) hf hn ?_ I.funs
  exact bX (bB I.ok.bsz I.ok.above)
def Inv.stkSub(I:Inv X mZ σ H s):∀b∈Ld X.stack,b∈X.env.locals::X.fs:=λb hb=>by
 rcases I.ok.stk with e|⟨e,hf⟩
 .rw [e]at hb;exact mCo _ hb
 .rw [e]at hb;unfold Ld at hb;rw[eX,hf]at hb;exact hb
def Inv.stkFree(I:Inv X mZ σ H s):∀b∈Ld X.stack,H b=none:=λb hb=>by
 rcases ak.mp (I.stkSub b hb) with e|hb
 .rw [e];exact I.free
 .obtain ⟨_,o,ho,_⟩:=I.ok.funs.mem hb;exact I.base.free b o ho (I.ok.frf b hb) λz=>I.ok.exfs b z hb
def Inv.step{g':Array ky}{t':Nat}{d':Drawn}{ch:List Addr}(I:Inv X mZ σ H s)
  (hch:∀b∈ch,(b∈X.ex∨X.s₀.heap.objs.size<=b)/\b≠X.env.locals/\(∀x c,X.env.cells.lookup x=some c->c≠b)/\∀p∈X.pn++mZ,p.1≠b)
  (keep:∀b o,b≠X.env.locals->b∉X.fs->b∉ch->s.heap.get? b=some o->H b=none->h'.get? b=some o)
  (slot:∀b o,b≠X.env.locals->b∈X.fs->b∉ch->s.heap.get? b=some o->H b=none->∃sl,h'.get? b=some { o with slots:=sl }) (free:∀b o,b∉ch->s.heap.get? b=some o->H b=none->H' b=none)
  (there:∀b o,b∉ch->s.heap.get? b=some o->∃o',h'.get? b=some o')
  (tups:∀b xs,H b=some (.tup xs)->H' b=some (.tup xs)) (frzs:∀b o u,H b=some (.frz o u)->H' b=some (.frz o u)) (tbls:∀b ps,H b=some (.tbl ps)->∃more,H' b=some (.tbl (ps++more)))
  (ns:∀m,s.heap.Ns X.env.locals m->h'.Ns X.env.locals m) (hok:Aj X.prog X.w H' h') (hg:jV g') :
  Inv X mZ σ H' { s with heap:=h',gens:=g',drawn:=d',toks:=t' }:=by
 have neL:∀b o,X.s₀.heap.get? b=some o->b≠X.env.locals:=λb o e=>aF (aE (aj e) I.ok.above)
 have neC:∀b o,X.s₀.heap.get? b=some o->b∉X.ex->b∉ch:=λb o e hx hb=>by
  rcases (hch b hb).1 with z|z
  .exact hx z
  .exact absurd (aE (aj e) z) (cC _)
 have cellK:∀x c,X.env.cells.lookup x=some c->∀v,s.heap.IsCell c v->h'.IsCell c v:=λx c e v ⟨o,ho,hd⟩=>by
  have nch:c∉ch:=λz=>(hch c z).2.2.1 x c e rfl
  by_cases hc:c∈X.fs
  .obtain ⟨sl,q⟩:=slot c o (I.cne x c e) hc nch ho (I.freeC x c e);exact⟨_,q,hd⟩
  .exact ⟨o,keep c o (I.cne x c e) hc nch ho (I.freeC x c e),hd⟩
 refine⟨I.ok,I.os,hg,⟨λb o e n hb hx=>?_,λb o e n hb hx=>?_,λb o e n hx=>?_,λb o e hx=>?_,λb xs e=>tups b xs (I.base.tups b xs e),λb o xs e=>frzs b o xs (I.base.frzs b o xs e),λb ps e=>?_⟩,?_,λx c e=>?_,?_,λx c e=>?_,λp hp=>?_,hok,I.len⟩
 .exact keep b o (neL b o e) hb (neC b o e hx) (I.base.keep b o e n hb hx) (I.base.free b o e n hx)
 .obtain ⟨sl,e1⟩:=I.base.slot b o e n hb hx;obtain⟨sl',e2⟩:=slot b _ (neL b o e) hb (neC b o e hx) e1 (I.base.free b o e n hx);exact⟨sl',e2⟩
 .obtain ⟨o',e1⟩:=I.base.there b o e hx;exact free b o' (neC b o e hx) e1 (I.base.free b o e n hx)
 .obtain ⟨o',e1⟩:=I.base.there b o e hx;exact there b o' (neC b o e hx) e1
 .obtain ⟨m1,e1⟩:=I.base.tbls b ps e;obtain⟨m2,e2⟩:=tbls b _ e1;exact⟨m1++m2,by rw[e2,gG]⟩
 .obtain ⟨m,hn,hl⟩:=I.loc;refine⟨m,ns m hn,λi x v e1 e2 e3=>?_⟩
  obtain⟨u,r,l⟩:=hl i x v e1 e2 e3;refine⟨u,r,?_⟩;rcases l with l|⟨k,c,e,z⟩
  .exact .inl l
  .exact .inr ⟨k,c,e,cellK x c e _ z⟩
 .obtain ⟨v,z⟩:=I.cell x c e;exact⟨v,cellK x c e v z⟩
 .obtain ⟨m,⟨o,_,_,ho,_⟩,_⟩:=I.loc;exact free _ o (λz=>(hch _ z).2.1 rfl) ho I.free
 .obtain ⟨v,o,ho,hd⟩:=I.cell x c e;exact free c o (λz=>(hch c z).2.2.1 x c e rfl) ho (I.freeC x c e)
 .obtain ⟨e,n,ne,nf,d⟩:=I.pin p hp;have nch:p.1∉ch:=λz=>(hch p.1 z).2.2.2 p hp rfl
  exact⟨keep p.1 p.2 ne nf nch e n,free p.1 p.2 nch e n,ne,nf,d⟩
def Inv.un{t':Nat}(I:Inv X mZ σ H s) (u:Un X.fs [] H H' s.heap h') (hok:Aj X.prog X.w H' h'):Inv X mZ σ H' { s with heap:=h',toks:=t' }:=by
 obtain⟨m,⟨o,es,ep,ho,r⟩,_⟩:=id I.loc;obtain⟨sl,hL⟩:=u.any ho I.free (by simp)
 exact I.step (g':=s.gens) (d':=s.drawn) (ch:=[]) (λ_ z=>nomatch z) (λb o _ hb _ e n=>u.keep b o e n hb (by simp)) (λb o _ hb _ e n=>u.slot b o e n hb (by simp)) (λb o _ e n=>u.free b o e n (by simp)) (λb o _ e=>u.there b o e (by simp)) u.tups u.frzs u.tbls (λm' hm=>by
  obtain⟨o',es',ep',ho',r'⟩:=hm;rw[ho]at ho';cases ho';exact⟨_,es',ep',hL,r'⟩) hok I.bare
def Inv.call{g':Array ky}{t':Nat}{d':Drawn}{ch:List Addr}(I:Inv X mZ σ H s) (u:Un (Ld X.stack) ch H H' s.heap h') (hok:Aj X.prog X.w H' h') (hg:jV g')
  (hch:∀b∈ch,(b∈X.ex∨X.s₀.heap.objs.size<=b)/\b≠X.env.locals/\(∀x c,X.env.cells.lookup x=some c->c≠b)/\∀p∈X.pn++mZ,p.1≠b) :
  Inv X mZ σ H' { s with heap:=h',gens:=g',drawn:=d',toks:=t' }:=by
 obtain⟨m,⟨o,es,ep,ho,r⟩,_⟩:=id I.loc;obtain⟨sl,hL⟩:=u.any ho I.free λz=>(hch _ z).2.1 rfl
 exact I.step (ch:=ch) hch (λb o hL hb hc e n=>u.keep b o e n (λz=>(ak.mp (I.stkSub b z)).elim hL hb) hc) (λb o _ _ hc e n=>u.any e n hc) (λb o hc e n=>u.free b o e n hc) (λb o hc e=>u.there b o e hc) u.tups u.frzs u.tbls (λm' hm=>by
  obtain⟨o',es',ep',ho',r'⟩:=hm;rw[ho]at ho';cases ho';exact⟨_,es',ep',hL,r'⟩) hok hg
def Inv.turned{t':Nat}{it:Addr}(I:Inv X mZ σ H s) (k:∀b o,b≠it->s.heap.get? b=some o->h'.get? b=some o) (hn:H it=none) (hL:it≠X.env.locals)
  (h1:it∈X.ex∨X.s₀.heap.objs.size<=it) (h2:∀x c,X.env.cells.lookup x=some c->c≠it) (h3:∀p∈X.pn++mZ,p.1≠it):Inv X mZ σ H { s with heap:=h',toks:=t' }:=by
 have nit:∀b u,H b=some u->b≠it:=λb u e z=>by rw[z,hn]at e;cases e
 refine I.step (g':=s.gens) (d':=s.drawn) (ch:=[it]) (λb hb=>?_) (λb o _ _ hc e _=>k b o (λz=>hc (by simp[z])) e) (λb o _ _ hc e _=>⟨o.slots,k b o (λz=>hc (by simp[z])) e⟩) (λ_ _ _ _ n=>n)
  (λb o hc e=>⟨o,k b o (λz=>hc (by simp[z])) e⟩) (λ_ _ e=>e) (λ_ _ _ e=>e) (λb ps e=>⟨#[],by rw[e];simp⟩) (λm hm=>?_) (λb u e=>?_) I.bare
 .have e:b=it:=by simpa using hb
  subst e;exact⟨h1,hL,h2,h3⟩
 .obtain ⟨o,es,ep,ho,r⟩:=hm;exact⟨o,es,ep,k _ o (Ne.symm hL) ho,r⟩
 .refine (I.hok b u e).stay (λc v hc q=>k c v ?_ q) (λ_ q=>q) λ_ _ q=>q
  rcases hc with z|z
  .rw [z];exact nit b u e
  .exact nit c _ z
def Inv.tok(I:Inv X mZ σ H s) (t:Nat):Inv X mZ σ H { s with toks:=t }:=I.un (h':=s.heap) (t':=t) Un.refl I.hok
theorem Inv.kept{t':Nat}(I:Inv X mZ σ H s) (k:∀b u,s.heap.get? b=some u->h'.get? b=some u):Inv X mZ σ H { s with heap:=h',toks:=t' }:=I.un (Un.kept k) (I.hok.kept k)
theorem Inv.laid{a:Addr}{o:HO}{t':Nat}(I:Inv X mZ σ H s) (k:∀b u,s.heap.get? b=some u->h'.get? b=some u) (hp:s.heap.objs.size<=a) (new:qJ X.prog X.w (pY H a o) h' a o) :
  Inv X mZ σ (pY H a o) { s with heap:=h',toks:=t' }:=I.un (Un.laid k hp (I.hok.fresh hp)) (I.hok.laid k hp new)
theorem Inv.write{x e:Addr}{o:HO}{t':Nat}(I:Inv X mZ σ H s) (mu:Mut (H x)) (he:e=x∨H e=some (.own x)) (k:∀b u,b≠e->s.heap.get? b=some u->h'.get? b=some u) (heo:∃u,h'.get? e=some u)
  (new:qJ X.prog X.w (pY H x o) h' x o):Inv X mZ σ (pY H x o) { s with heap:=h',toks:=t' }:=I.un (Un.write mu he k heo) (I.hok.write mu he k heo new)
def Inv.pins_of{pins':List (Addr×Obj)}(I:Inv X mZ σ H s) (h:∀p∈pins',s.heap.get? p.1=some p.2/\H p.1=none/\p.1≠X.env.locals/\p.1∉X.fs/\∀v,p.2.data ≠ .cell v):Inv X pins' σ H s :=
 ⟨I.ok,I.os,I.bare,I.base,I.loc,I.cell,I.free,I.freeC,λp hp=>(mAq.mp hp).elim (λz=>I.pin p (bY _ z)) (h p),I.hok,I.len⟩
def EX{N:List Str}(hN:N.Nodup) {i j:Nat}{x:Str}(a:N[i]?=some x) (b:N[j]?=some x):i=j:=by
 obtain⟨h1,e1⟩:=gSq.mp a;obtain⟨h2,e2⟩:=gSq.mp b;exact(List.getElem_inj hN).mp (e1.trans e2.symm)
def P1{M:jQ}{A:Around}{E:Value->iM->Prop}{i:Nat}{x:Str}{v:V}{u:Value}{Q:Unit->iM->Prop}(I:Inv X mZ σ H s) (hN:X.N.Nodup) (hi:X.N[i]?=some x) (hx:Loc X.env.scope x) (r:qb v u)
  (h:∀s',Inv X mZ (σ.set i (some v)) H s'->(∃a,dZ a s.heap s'.heap/\(a=X.env.locals∨X.env.cells.lookup x=some a))->Q () s') (hf:X.fn x=true∨X.env.scope.names.lookup x=some .local:=by trivial):iS M A (storeName X.env x u) Q E s:=by
 obtain⟨m,hn,hl⟩:=id I.loc;have hcls:(X.env.scope.kind == .class || (X.env.scope.kind == .module && X.env.locals != X.env.globals))=false:=by rw[I.ok.kind];rfl
 have hiσ:i<σ.length:=by rw[I.len];exact(gSq.mp hi).1
 have cne:=I.cne;have tracked:∀{a:Addr}{h':Heap},(∃o,s.heap.get? a=some o/\H a=none)->dZ a s.heap h'->Aj X.prog X.w H h':=λ{a h'} ha hs b ob e=>by
  obtain⟨_,_,hfree⟩:=ha;refine(I.hok b ob e).stay (λc w' hc q=>(hs.2 c ?_).trans q) (λ_ q=>q) λ_ _ q=>q
  rintro rfl;rcases hc with rfl|hc
  .rw [hfree]at e;cases e
  .rw [hfree]at hc;cases hc
 rcases hx with hk|hk
 .refine wpAny_storeName_local hk hn (λh' hn' hs=>?_) hcls
  obtain⟨oL,_,_,hoL,_⟩:=id hn;refine h _ ⟨I.ok,I.os,I.bare,⟨λb o e n hb hx=>?_,λb o e n hb hx=>?_,I.base.free,λb o e hx=>?_,I.base.tups,I.base.frzs,I.base.tbls⟩,⟨_,hn',λj y v' e1 e2 e3=>?_⟩,λy c e=>?_,I.free,I.freeC,λp hp=>?_,tracked ⟨oL,hoL,I.free⟩ hs,by simpa using I.len⟩ ⟨_,hs,.inl rfl⟩
  .exact (hs.2 b (aF (aE (aj e) I.ok.above))).trans (I.base.keep b o e n hb hx)
  .obtain ⟨sl,e1⟩:=I.base.slot b o e n hb hx;exact⟨sl,(hs.2 b (aF (aE (aj e) I.ok.above))).trans e1⟩
  .obtain ⟨o',e1⟩:=I.base.there b o e hx;exact⟨o',(hs.2 b (aF (aE (aj e) I.ok.above))).trans e1⟩
  .by_cases hj:j=i
   .subst hj;rw[hi]at e1;cases e1;rw[aN hiσ]at e2;cases e2;exact⟨u,r,.inl ⟨hk,by simp⟩⟩
   .rw [ao (Ne.symm hj)]at e2;obtain⟨u',r',q⟩:=hl j y v' e1 e2 e3;refine⟨u',r',?_⟩;rcases q with ⟨k,e⟩|⟨k,c,e,z⟩
    .refine .inl ⟨k,?_⟩;have:y≠x:=λe=>hj (EX hN e1 (e ▸ hi))
     simp[this,e]
    .exact .inr ⟨k,c,e,z.sameBut hs (cne y c e)⟩
  .obtain ⟨w',z⟩:=I.cell y c e;exact⟨w',z.sameBut hs (cne y c e)⟩
  .obtain ⟨e,n,ne,nf,d⟩:=I.pin p hp;exact⟨(hs.2 p.1 ne).trans e,n,ne,nf,d⟩
 .have hfn:X.fn x=true:=by
   rcases hf with z|z
   .exact z
   .rw [z]at hk;cases hk
  obtain⟨c,hc⟩:=I.ok.has x (.inl hk);obtain⟨w',z⟩:=I.cell x c hc;refine wpAny_storeName_cell I.ok.kind hk hc z (λh' hc' hs=>?_)
  obtain⟨oc,hoc,hocd⟩:=id z;refine h { s with heap:=h' } ⟨I.ok,I.os,I.bare,⟨λb o e n hb hx=>?_,λb o e n hb hx=>?_,I.base.free,λb o e hx=>?_,I.base.tups,I.base.frzs,I.base.tbls⟩,⟨m,hn.sameBut hs (Ne.symm (cne x c hc)),λj y v' e1 e2 e3=>?_⟩,λy c' e=>?_,I.free,I.freeC,λp hp=>?_,tracked ⟨oc,hoc,I.freeC x c hc⟩ hs,by simpa using I.len⟩ ⟨c,hs,.inr hc⟩
  .exact (hs.2 b (aF (aE (aj e) (I.ok.cab x c hfn hc)))).trans (I.base.keep b o e n hb hx)
  .obtain ⟨sl,e1⟩:=I.base.slot b o e n hb hx;exact⟨sl,(hs.2 b (aF (aE (aj e) (I.ok.cab x c hfn hc)))).trans e1⟩
  .obtain ⟨o',e1⟩:=I.base.there b o e hx;exact⟨o',(hs.2 b (aF (aE (aj e) (I.ok.cab x c hfn hc)))).trans e1⟩
  .by_cases hj:j=i
   .subst hj;rw[hi]at e1;cases e1;rw[aN hiσ]at e2;cases e2;exact⟨u,r,.inr ⟨.inl hk,c,hc,hc'⟩⟩
   .rw [ao (Ne.symm hj)]at e2;obtain⟨u',r',q⟩:=hl j y v' e1 e2 e3;refine⟨u',r',?_⟩;rcases q with q|⟨k,c',e,z'⟩
    .exact .inl q
    .refine .inr ⟨k,c',e,z'.sameBut hs ?_⟩;rintro rfl;exact hj (EX hN e1 (I.ok.inj _ _ _ e hc ▸ hi))
  .by_cases hcc:c'=c
   .subst hcc;exact⟨_,hc'⟩
   .obtain ⟨w2,z2⟩:=I.cell y c' e;exact⟨w2,z2.sameBut hs hcc⟩
  .obtain ⟨e,n,ne,nf,d⟩:=I.pin p hp;refine⟨(hs.2 p.1 ?_).trans e,n,ne,nf,d⟩;intro q;rw[q,hoc]at e;have q':oc=p.2:=aS.inj e;exact d w' (by rw[←q'];exact hocd)
def Dh{M:jQ}{A:Around}{E:Value->iM->Prop}{i:Nat}{x:Str}{v:V}{u:Value}{Q:Unit->iM->Prop}(I:Inv X mZ σ H s) (hN:X.N.Nodup) (hi:X.N[i]?=some x) (hx:Loc X.env.scope x) (r:qb v u)
  (h:∀s',Inv X mZ (σ.set i (some v)) H s'->Q () s') (hf:X.fn x=true∨X.env.scope.names.lookup x=some .local:=by trivial):iS M A (storeName X.env x u) Q E s :=
 P1 I hN hi hx r (λs' I' _=>h s' I') hf
def Inv.call'{s':iM}{ch:List Addr}(I:Inv X mZ σ H s) (ho:s'.os=s.os) (u:Un (Ld X.stack) ch H H' s.heap s'.heap) (hok:Aj X.prog X.w H' s'.heap) (hg:jV s'.gens)
  (hch:∀b∈ch,(b∈X.ex∨X.s₀.heap.objs.size<=b)/\b≠X.env.locals/\(∀x c,X.env.cells.lookup x=some c->c≠b)/\∀p∈X.pn++mZ,p.1≠b):Inv X mZ σ H' s':=by
 obtain⟨h',g',d',t',o'⟩:=s';have e:o'=s.os:=ho;subst e;exact I.call (g':=g') (t':=t') (d':=d') u hok hg hch
end
abbrev XK:=Value->Option Addr->Hp->Prop
abbrev St:=List (Option V)
abbrev VK:=V->Hp->Prop
abbrev TE:=St->Hp->VK->Prop
abbrev TT:=St->Hp->(Bool->Hp->Prop)->Prop
abbrev TA:=St->Hp->(List V->Hp->Prop)->Prop
structure wL where
 nx:St->Hp->Prop
 rt:VK
 bk:St->Hp->Prop:=λ_ _=>False
 ct:St->Hp->Prop:=λ_ _=>False
abbrev TS:=wL->St->Hp->Prop
def EP(X:Cx) (mZ:List (Addr×Obj)) (σ:St) (Q:VK) (u:Value) (s':iM):Prop:=∃v H',Inv X mZ σ H' s'/\qb v u/\Q v H'
def TP(X:Cx) (mZ:List (Addr×Obj)) (σ:St) (Q:Bool->Hp->Prop) (b:Bool) (s':iM):Prop:=∃H',Inv X mZ σ H' s'/\Q b H'
def AP(X:Cx) (mZ:List (Addr×Obj)) (σ:St) (Q:List V->Hp->Prop) (us:List Value) (s':iM):Prop:=∃vs H',Inv X mZ σ H' s'/\oV vs us/\Q vs H'
def SP(X:Cx) (mZ:List (Addr×Obj)) (D:wL) (f:Flow) (s':iM):Prop :=
 match f with
 | .next=>∃σ' H',Inv X mZ σ' H' s'/\D.nx σ' H'
 | .brk=>∃σ' H',Inv X mZ σ' H' s'/\D.bk σ' H'
 | .cont=>∃σ' H',Inv X mZ σ' H' s'/\D.ct σ' H'
 | .ret u=>∃v σ' H',Inv X mZ σ' H' s'/\qb v u/\D.rt v H'
def PE(X:Cx) (e:Expr) (t:TE):Prop :=
 ∀(mZ:List (Addr×Obj)) (s:iM) (σ:St) (H:Hp) (Q:VK),Inv X mZ σ H s->t σ H Q->iS (iQ X.prog X.w) X.A (eval e X.env) (EP X mZ σ Q) X.xe s
def PT(X:Cx) (e:Expr) (t:TT):Prop :=
 ∀(mZ:List (Addr×Obj)) (s:iM) (σ:St) (H:Hp) (Q:Bool->Hp->Prop),Inv X mZ σ H s->t σ H Q->iS (iQ X.prog X.w) X.A (isTrue e X.env (eval e X.env)) (TP X mZ σ Q) X.xe s
def PW(X:Cx) (e:Expr) (t:TT):Prop :=
 ∀(whole:Sem Value) (mZ:List (Addr×Obj)) (s:iM) (σ:St) (H:Hp) (Q:Bool->Hp->Prop),Inv X mZ σ H s->t σ H Q->iS (iQ X.prog X.w) X.A (isTrue e X.env whole) (TP X mZ σ Q) X.xe s
def PW.pt{X:Cx}{e:Expr}{t:TT}(h:PW X e t):PT X e t:=h _
def PA(X:Cx) (es:List Expr) (t:TA):Prop :=
 ∀(pos:Pos) (mZ:List (Addr×Obj)) (s:iM) (σ:St) (H:Hp) (Q:List V->Hp->Prop),Inv X mZ σ H s->t σ H Q->iS (iQ X.prog X.w) X.A (spliced (jl pos (iY es X.env))) (AP X mZ σ Q) X.xe s
def PS(X:Cx) (st:Stmt) (t:TS):Prop :=
 ∀(mZ:List (Addr×Obj)) (s:iM) (σ:St) (H:Hp) (D:wL),Inv X mZ σ H s->t D σ H->iS (iQ X.prog X.w) X.A (exec st X.env) (SP X mZ D) X.xe s
def JI(X:Cx) (st:List Stmt) (t:TS):Prop :=
 ∀(mZ:List (Addr×Obj)) (s:iM) (σ:St) (H:Hp) (D:wL),Inv X mZ σ H s->t D σ H->iS (iQ X.prog X.w) X.A (execs st X.env) (SP X mZ D) X.xe s
def rL{α:Type}{t:Sem α}{Q Q':α->iM->Prop}{M:jQ}{A:Around}{E:Value->iM->Prop}{s:iM}(h:iS M A t Q E s) (hQ:∀a s,Q a s->Q' a s):iS M A t Q' E s:=jg h hQ λ_ _ x=>x
section
variable {X:Cx}
def uS(i:Nat):TE:=λσ H Q=>∃v,σ[i]?=some (some v)/\Q v H
def tC(v:V):TE:=λ_ H Q=>Q v H
def X6{i:Nat}{x:Str}{pos:Pos}(hN:X.N[i]?=some x) (hv:Vis X.env.scope x) (hd:(x == ("__debug__" : Str))=false:=by decide) (hcd:(x == ("__classdict__" : Str))=false:=by decide):PE X (.Name x pos) (uS i):=by
 intro mZ s σ H Q I h;obtain⟨v,e,h⟩:=h;obtain⟨m,hn,hl⟩:=I.loc;obtain⟨u,r,l⟩:=hl i x v hN e hv;have fin:EP X mZ σ Q u s:=⟨v,H,I,r,h⟩;rcases l with ⟨hk,hm⟩|⟨hk,c,hc,hcell⟩
 .exact wpAny_Name (wpAny_loadName_local I.ok.kind hk hn hm fin) hd
 .rcases hk with hk|hk
  .exact wpAny_Name (wpAny_loadName_cell I.ok.kind hk hc hcell fin) hd
  .exact wpAny_Name (wpAny_loadName_free I.ok.kind hk hc hcell fin hcd) hd
def nK{i j pos}:PE X (.Constant (.int i) j pos) (tC (.int i)):=λ_ _ _ H _ I h=>wpAny_Constant_int ⟨.int i,H,I.tok _,⟨_,rfl⟩,h⟩
def As{b j pos}:PE X (.Constant (.bool b) j pos) (tC (.bl b)):=λ_ _ _ H _ I h=>Constant_bool ⟨.bl b,H,I,rfl,h⟩
def sU{j pos}:PE X (.Constant .none j pos) (tC .non):=λ_ _ _ H _ I h=>Constant_none ⟨.non,H,I,rfl,h⟩
def qm{x j pos}:PE X (.Constant (.str x) j pos) (tC (.str x)):=λ_ _ _ H _ I h=>Calls.Constant_str ⟨.str x,H,I.tok _,⟨_,rfl⟩,h⟩
def Gl(X:Cx) (x:Str):Prop:=X.env.kindOf x=some .globalImplicit
def xV{E:Value->iM->Prop}{mZ:List (Addr×Obj)}{s:iM}{σ:St}{H:Hp}{x:Str}{u:Value}{pos:Pos}{Q:Value->iM->Prop}(I:Inv X mZ σ H s) (hg:Gl X x) (hm:X.mg x=some u) (h:Q u s)
  (hd:(x == ("__debug__" : Str))=false:=by decide):iS (iQ X.prog X.w) X.A (eval (.Name x pos) X.env) Q E s :=
 Calls.Name_function_global I.ok.kind hg (Calls.loadGlobal_global (by rw[I.ok.glob];exact I.mod.glob.keeps I.bk) hm h) hd
def E8{E:Value->iM->Prop}{mZ:List (Addr×Obj)}{s:iM}{σ:St}{H:Hp}{x:Str}{u:Value}{pos:Pos}{Q:Value->iM->Prop}(I:Inv X mZ σ H s) (hg:Gl X x) (hm:X.mg x=none) (hv:jM x=some u) (h:Q u s)
  (hn:x ≠ "__name__" := by decide) (hd:(x == ("__debug__" : Str))=false:=by decide):iS (iQ X.prog X.w) X.A (eval (.Name x pos) X.env) Q E s:=by
 obtain⟨mb,h1,h2⟩:=I.mod.blt;exact Calls.Name_function_global I.ok.kind hg (Calls.loadGlobal_builtin (by rw[I.ok.glob];exact I.mod.glob.keeps I.bk) hm (by rw[I.ok.blt];exact h1.keeps I.bk) ((h2 x hn).trans hv) h) hd
def Bj{x:Str}{v:V}{u:Value}{pos:Pos}(hg:Gl X x) (hm:X.mg x=some u) (r:qb v u) (hd:(x == ("__debug__" : Str))=false:=by decide):PE X (.Name x pos) (tC v) :=
 λ_ _ _ H _ I h=>xV I hg hm ⟨v,H,I,r,h⟩ hd
def vg{x:Str}{v:V}{u:Value}{pos:Pos}(hg:Gl X x) (hm:X.mg x=none) (hv:jM x=some u) (r:qb v u) (hn:x ≠ "__name__" := by decide) (hd:(x == ("__debug__" : Str))=false:=by decide):PE X (.Name x pos) (tC v) :=
 λ_ _ _ H _ I h=>E8 I hg hm hv ⟨v,H,I,r,h⟩ hn hd
variable {a b:Expr}{ta tb:TE}{pos:Pos}
def PC(X:Cx) (op:CmpOp) (a b:Expr) (t:TE):Prop :=
 ∀(mZ:List (Addr×Obj)) (s:iM) (σ:St) (H:Hp) (Q:VK),Inv X mZ σ H s->t σ H Q ->
  iS (iQ X.prog X.w) X.A (eval a X.env) (λv s₁=>iS (iQ X.prog X.w) X.A (eval b X.env) (λu s₂=>iS (iQ X.prog X.w) X.A (jv op v u) (EP X mZ σ Q) X.xe s₂) X.xe s₁) X.xe s
def tB(t:TE):TT:=λσ H Q=>t σ H λx H1=>∃c,x = .bl c/\Q c H1
def Mh{op:CmpOp}{t:TE}(h:PC X op a b t) (h1:jX op b=false:=by first|exact nobehind _ (by decide) (by decide)|rfl):PT X (.Compare a [op] [b] pos) (tB t):=by
 intro mZ s σ H Q I hw;refine lz (rL (h mZ s σ H _ I hw) λv s1 h1=>rL h1 λu s2 h2=>rL h2 λc s3 ⟨x,H1,I1,r1,q1⟩=>?_) h1
 obtain⟨d,rfl,q⟩:=q1;cases r1;exact jt ⟨H1,I1,q⟩
def uu{e:Expr}{t:TE}(h:PE X e t) (he:∀whole,isTrue e X.env whole=(do let v ←whole;ki e.pos;kj [v] (truthy v)):=by intro _;rfl):PT X e (tB t):=by
 intro mZ s σ H Q I hw;refine isTrue_plain (rL (h mZ s σ H _ I hw) λv s1 ⟨x,H1,I1,r1,q1⟩=>?_) (he _)
 obtain⟨d,rfl,q⟩:=q1;cases r1;exact jt ⟨H1,I1,q⟩
variable {tA tB':TT}{rest:List Expr}
noncomputable def abc(t u:TT):TT:=λσ H Q=>t σ H λc H1=>if c=true then u σ H1 Q else Q false H1
noncomputable def tOr(t u:TT):TT:=λσ H Q=>t σ H λc H1=>if c=true then Q true H1 else u σ H1 Q
def abn(t:TT):TT:=λσ H Q=>t σ H λc H1=>Q (!c) H1
def HE(ha:PT X a tA):PW X (.BoolOp .And [a] pos) tA:=by
 intro wh mZ s σ H Q I h;refine isTrue_and (rL (ha mZ s σ H Q I h) λc s1 e=>?_)
 cases c with
 |true=>exact isTrue_and_nil e
 |false=>exact e
def FL(ha:PT X a tA):PW X (.BoolOp .Or [a] pos) tA:=by
 intro wh mZ s σ H Q I h;refine isTrue_or (rL (ha mZ s σ H Q I h) λc s1 e=>?_)
 cases c with
 |false=>exact isTrue_or_nil e
 |true=>exact e
def LS(ha:PT X a tA) (hb:PW X (.BoolOp .And (b::rest) pos) tB'):PW X (.BoolOp .And (a::b::rest) pos) (abc tA tB'):=by
 intro wh mZ s σ H Q I h;refine isTrue_and (rL (ha mZ s σ H _ I h) λc s1 ⟨H1,I1,q1⟩=>?_)
 cases c with
 |true=>exact hb wh mZ s1 σ H1 Q I1 q1
 |false=>exact⟨H1,I1,q1⟩
def Kv(ha:PT X a tA) (hb:PW X (.BoolOp .Or (b::rest) pos) tB'):PW X (.BoolOp .Or (a::b::rest) pos) (tOr tA tB'):=by
 intro wh mZ s σ H Q I h;refine isTrue_or (rL (ha mZ s σ H _ I h) λc s1 ⟨H1,I1,q1⟩=>?_)
 cases c with
 |true=>exact⟨H1,I1,q1⟩
 |false=>exact hb wh mZ s1 σ H1 Q I1 q1
def vI(ha:PT X a tA):PT X (.UnaryOp .Not a pos) (abn tA):=by
 intro mZ s σ H Q I h;exact isTrue_not (ha mZ s σ H (λc H1=>Q (!c) H1) I h)
noncomputable def W6(ta tb:TE):TE:=λσ H Q=>ta σ H λx H1=>∃c,x = .bl c/\if c=true then tb σ H1 Q else Q (.bl false) H1
noncomputable def Xq(ta:TE):TE:=λσ H Q=>ta σ H λx H1=>∃c,x = .bl c/\Q (.bl (!c)) H1
def MV{op} {t:TE}(h:PE X a t):PE X (.BoolOp op [a] pos) t:=λmZ s σ H Q I hw=>BoolOp_one (h mZ s σ H Q I hw)
def Ja(ha:PE X a ta) (hb:PE X (.BoolOp .And (b::rest) pos) tb):PE X (.BoolOp .And (a::b::rest) pos) (W6 ta tb):=by
 intro mZ s σ H Q I h;refine BoolOp_and (rL (ha mZ s σ H _ I h) λv s1 ⟨x,H1,I1,r1,q1⟩=>?_)
 obtain⟨c,rfl,q1⟩:=q1;cases r1;refine jt ?_;cases c with
 |true=>exact hb mZ s1 σ H1 Q I1 q1
 |false=>exact⟨.bl false,H1,I1,rfl,q1⟩
def aak(ha:PE X a ta):PE X (.UnaryOp .Not a pos) (Xq ta):=by
 intro mZ s σ H Q I h;refine UnaryOp_ (rL (ha mZ s σ H _ I h) λv s1 ⟨x,H1,I1,r1,q1⟩=>?_)
 obtain⟨c,rfl,q1⟩:=q1;cases r1;exact not_of (jt ⟨.bl (!c),H1,I1,rfl,q1⟩)
noncomputable def tIf(t:TT) (ta tb:TE):TE:=λσ H Q=>t σ H λc H1=>if c=true then ta σ H1 Q else tb σ H1 Q
def J6{c:Expr}(hc:PT X c tA) (ha:PE X a ta) (hb:PE X b tb):PE X (.IfExp c a b pos) (tIf tA ta tb):=by
 intro mZ s σ H Q I h;refine wpAny_IfExp (rL (hc mZ s σ H _ I h) λd s1 ⟨H1,I1,q1⟩=>?_)
 cases d with
 |true=>exact ha mZ s1 σ H1 Q I1 q1
 |false=>exact hb mZ s1 σ H1 Q I1 q1
end
def rR(K:W.Frag) (H:Hp) (a:Addr) (xs:List V):Prop :=
 Rd H a (.lst xs) ∨
  ∃(o:Obj) (its:Array Value) (n:Nat),K.lookup a=some o/\o.cls = .type "list" /\ o.dict=none/\o.data = .seq its n/\its.size<=iX/\oV xs its.toList
def Gm(K:W.Frag) (H:Hp) (a:Addr) (xs:List V):Prop :=
 Rd H a (.tup xs) ∨
  ∃(o:Obj) (its:Array Value) (n:Nat),K.lookup a=some o/\o.cls = .type "tuple" /\ o.data = .seq its n/\its.size<=iX/\oV xs its.toList
noncomputable def ac6:Value->Option V
 | .none=>some .non
 | .bool b=>some (.bl b)
 | .int i _=>some (.int i)
 | .str x _=>some (.str x)
 | .bytes b _=>some (.byt b)
 | .float b _=>some (.flt b)
 | .ref a=>some (.ref a)
 | .type n=>some (.ty n)
 |_=>none
def qb.abs{x:V}{u:Value}(r:qb x u):ac6 u=some x:=by
 cases x with
 |non=>cases r;rfl
 |bl _=>cases r;rfl
 |int _=>obtain⟨t,rfl⟩:=r;rfl
 |str _=>obtain⟨t,rfl⟩:=r;rfl
 |byt _=>obtain⟨t,rfl⟩:=r;rfl
 |flt _=>obtain⟨t,rfl⟩:=r;rfl
 |ref _=>cases r;rfl
 |ty _=>cases r;rfl
theorem qb.inj{x y:V}{u:Value}(r:qb x u) (q:qb y u):x=y:=aS.inj (r.abs.symm.trans q.abs)
theorem oV.inj:∀{xs ys:List V}{us:List Value},oV xs us->oV ys us->xs=ys
 |_,_,_,.nil,.nil=>rfl
 |_,_,_,.cons r t,.cons r' t'=>by rw[r.inj r',oV.inj t t']
section
variable {X:Cx}{mZ:List (Addr×Obj)}{σ:St}{H:Hp}{s:iM}{a:Addr}{xs ys:List V}
def rR.of{K:W.Frag}(h:H a=some (.lst xs)):rR K H a xs:=.inl (.inl h)
def Gm.of{K:W.Frag}(h:H a=some (.tup xs)):Gm K H a xs:=.inl (.inl h)
def Inv.list(I:Inv X mZ σ H s) (h:rR X.K H a xs):∃its:List Value,oV xs its/\PlainL s.heap a its.toArray/\xs.length<=iX:=by
 rcases h with h|⟨o,its,n,hk,hc,hd,hs,hz,r⟩
 .obtain ⟨z,its,n,r,e⟩:=h.ok I.hok;exact⟨its,r,⟨_,n,e,rfl,rfl,rfl⟩,z⟩
 .refine ⟨its.toList,r,⟨o,n,I.kIn a o hk,hc,hd,by simpa using hs⟩,?_⟩
  have e:=r.length;simp only[ax]at e;lia
def Inv.tuple(I:Inv X mZ σ H s) (h:Gm X.K H a xs):∃its:List Value,oV xs its/\IsTup s.heap a its.toArray/\xs.length<=iX:=by
 rcases h with h|⟨o,its,n,hk,hc,hs,hz,r⟩
 .obtain ⟨z,its,r,p⟩:=h.ok I.hok;exact⟨its,r,p,z⟩
 .refine ⟨its.toList,r,⟨o,I.kIn a o hk,hc,n,by simpa using hs⟩,?_⟩
  have e:=r.length;simp only[ax]at e;lia
def Inv.list_inj(I:Inv X mZ σ H s) (h:rR X.K H a xs) (h':rR X.K H a ys):xs=ys:=by
 obtain⟨its,r,⟨o,n,e,_,_,d⟩,_⟩:=I.list h;obtain⟨its',r',⟨o',n',e',_,_,d'⟩,_⟩:=I.list h';rw[e]at e';cases e';rw[d]at d';injection d' with d1 _
 have:its=its':=by simpa using congrArg Array.toList d1
 subst this;exact r.inj r'
end
noncomputable abbrev Cx.wish(X:Cx) (E:Value->iM->Prop):Cx:={ X with xe:=E }
abbrev Cx.nox(X:Cx):Cx:=X.wish λ_ _=>False
theorem Cx.Ok.wish{X:Cx}(ok:X.Ok) (E:Value->iM->Prop):(X.wish E).Ok :=
 ⟨ok.mod,ok.kind,ok.glob,ok.blt,ok.above,ok.inj,ok.has,ok.cab,ok.hd,ok.frames,ok.stk,ok.exf,ok.bs,ok.bsz,ok.noex,ok.exfs,ok.funs,ok.frf⟩
def Cx.Ok.unwish{X:Cx}{E:Value->iM->Prop}(ok:(X.wish E).Ok):X.Ok :=
 ⟨ok.mod,ok.kind,ok.glob,ok.blt,ok.above,ok.inj,ok.has,ok.cab,ok.hd,ok.frames,ok.stk,ok.exf,ok.bs,ok.bsz,ok.noex,ok.exfs,ok.funs,ok.frf⟩
section
variable {X:Cx}{mZ:List (Addr×Obj)}{σ:St}{H:Hp}{s:iM}{E:Value->iM->Prop}
theorem Inv.wish(I:Inv X mZ σ H s) (E:Value->iM->Prop):Inv (X.wish E) mZ σ H s:=⟨I.ok.wish E,I.os,I.bare,I.base,I.loc,I.cell,I.free,I.freeC,I.pin,I.hok,I.len⟩
theorem Inv.unwish(I:Inv (X.wish E) mZ σ H s):Inv X mZ σ H s:=⟨I.ok.unwish,I.os,I.bare,I.base,I.loc,I.cell,I.free,I.freeC,I.pin,I.hok,I.len⟩
theorem SP.unwish{D:wL}{f:Flow}{s':iM}(h:SP (X.wish E) mZ D f s'):SP X mZ D f s':=by
 cases f with
 |next=>obtain⟨σ',H',I,q⟩:=h;exact⟨σ',H',I.unwish,q⟩
 |brk=>obtain⟨σ',H',I,q⟩:=h;exact⟨σ',H',I.unwish,q⟩
 |cont=>obtain⟨σ',H',I,q⟩:=h;exact⟨σ',H',I.unwish,q⟩
 |ret u=>obtain⟨v,σ',H',I,r,q⟩:=h;exact⟨v,σ',H',I.unwish,r,q⟩
theorem JI.nox{st:List Stmt}{t:TS}(h:JI X.nox st t):JI X st t:=λmZ s σ H D I hw =>
 jg (h mZ s σ H D (I.wish _) hw) (λ_ _ q=>q.unwish) λ_ _ z=>False.elim z
end
section
variable {X:Cx}{st:Stmt}{rest:List Stmt}{t u:TS}{e:Expr}{te:TE}{pos:Pos}
def Xl:TS:=λD σ H=>D.nx σ H
def Ik(t u:TS):TS:=λD σ H=>t { D with nx:=u D } σ H
def ox:JI X [] Xl:=λ_ _ σ H _ I h=>jF ⟨σ,H,I,h⟩
def nj(h1:PS X st t) (h2:JI X rest u):JI X (st::rest) (Ik t u):=by
 intro mZ s σ H D I h;refine kP (rL (h1 mZ s σ H { D with nx:=u D } I h) λf s1 q=>?_)
 cases f with
 |next =>
  obtain⟨σ',H',I',q⟩:=q;exact h2 mZ s1 σ' H' D I' q
 |ret v=>exact q
 |brk=>exact q
 |cont=>exact q
def nB(h1:PS X st t):JI X [st] t:=by
 intro mZ s σ H D I h;refine kP (rL (h1 mZ s σ H D I h) λf s1 q=>?_)
 cases f with
 |next=>exact jF q
 |ret v=>exact q
 |brk=>exact q
 |cont=>exact q
def Inv.quiet{mZ:List (Addr×Obj)}{σ:St}{H:Hp}{s:iM}(I:Inv X mZ σ H s):interactive X.env=false:=by simp[interactive,I.ok.kind]
def Aa(te:TE):TS:=λD σ H=>te σ H λ_ H1=>D.nx σ H1
def pQ(he:PE X e te) (hs:kg e none pos.line X.env=pure false:=by rfl):PS X (.Expr e pos) (Aa te):=by
 intro mZ s σ H D I h;exact wpAny_Expr_any (rL (he mZ s σ H _ I h) λv s1 ⟨x,H1,I1,r1,q1⟩=>⟨σ,H1,I1,q1⟩) I.quiet hs
def Qu(te:TE):TS:=λD σ H=>te σ H D.rt
def oh(he:PE X e te):PS X (.Return (some e) pos) (Qu te):=by
 intro mZ s σ H D I h;exact wpAny_Return_some (rL (he mZ s σ H _ I h) λv s1 ⟨x,H1,I1,r1,q1⟩=>⟨x,σ,H1,I1,r1,q1⟩)
noncomputable def Sn(c:TT) (t u:TS):TS:=λD σ H=>c σ H λb H1=>if b=true then t D σ H1 else u D σ H1
def pB{c:Expr}{a b:List Stmt}{tc:TT}(hc:PT X c tc) (ha:JI X a t) (hb:JI X b u):PS X (.If c a b pos) (Sn tc t u):=by
 intro mZ s σ H D I h;refine wpAny_If (rL (hc mZ s σ H _ I h) λd s1 ⟨H1,I1,q1⟩=>?_)
 cases d with
 |true=>exact ha mZ s1 σ H1 D I1 q1
 |false=>exact hb mZ s1 σ H1 D I1 q1
end
abbrev TG:=V->St->Hp->(St->Hp->Prop)->Prop
abbrev Y7:=List V->St->Hp->(St->Hp->Prop)->Prop
def PG(X:Cx) (target:Expr) (t:TG):Prop :=
 ∀(mZ:List (Addr×Obj)) (s:iM) (σ:St) (H:Hp) (v:V) (u:Value) (Q:St->Hp->Prop),Inv X mZ σ H s->qb v u->t v σ H Q ->
  iS (iQ X.prog X.w) X.A (assign target X.env u) (λ_ s'=>∃σ' H',Inv X mZ σ' H' s'/\Q σ' H') X.xe s
def PGs(X:Cx) (ts:List Expr) (t:Y7):Prop :=
 ∀(mZ:List (Addr×Obj)) (s:iM) (σ:St) (H:Hp) (vs:List V) (us:List Value) (Q:St->Hp->Prop),Inv X mZ σ H s->oV vs us->t vs σ H Q ->
  iS (iQ X.prog X.w) X.A (assignInOrder ((kK ts X.env).map (·.2)) us) (λ_ s'=>∃σ' H',Inv X mZ σ' H' s'/\Q σ' H') X.xe s
section
variable {X:Cx}{pos:Pos}
def uA(i:Nat):TG:=λv σ H Q=>Q (σ.set i (some v)) H
def rl{i:Nat}{x:Str}(hN:X.N.Nodup) (hi:X.N[i]?=some x) (hx:Loc X.env.scope x) (hf:X.fn x=true∨X.env.scope.names.lookup x=some .local:=by trivial):PG X (.Name x pos) (uA i):=by
 intro mZ s σ H v u Q I r h;exact wpAny_assign_Name (Dh I hN hi hx r (λs' I'=>⟨_,H,I',h⟩) hf)
def Rx:Y7:=λvs σ H Q=>vs=[]/\Q σ H
noncomputable def Cn(t:TG) (u:Y7):Y7:=λvs σ H Q=>∃v r,vs=v::r/\t v σ H λσ' H'=>u r σ' H' Q
def NH:PGs X [] Rx:=by
 intro mZ s σ H vs us Q I r h;obtain⟨e,h⟩:=h;subst e;cases r;exact assignInOrder_nil ⟨σ,H,I,h⟩
def C3{e:Expr}{es:List Expr}{t:TG}{u:Y7}(h1:PG X e t) (h2:PGs X es u)
  (hs:(kK (e::es) X.env).map (·.2)=assign e X.env::(kK es X.env).map (·.2):=by rfl):PGs X (e::es) (Cn t u):=by
 intro mZ s σ H vs us Q I r h;obtain⟨v,vr,e1,h⟩:=h;subst e1;cases r with
 |cons r rr =>
  rw[hs];refine assignInOrder_cons (rL (h1 mZ s σ H _ _ _ I r h) λ_ s1 ⟨σ1,H1,I1,q1⟩=>?_)
  exact h2 mZ s1 σ1 H1 _ _ Q I1 rr q1
noncomputable def So(K:W.Frag) (n:Nat) (t:Y7):TG:=λv σ H Q=>∃a xs,v = .ref a/\Gm K H a xs/\xs.length=n/\t xs σ H Q
def Rw{es:List Expr}{k:Nat}{t:Y7}{n:Nat}(hc:X.calm=true) (h:PGs X es t)
  (hn:(kK es X.env).length=n:=by rfl) (hst:(kK es X.env).findIdx? (·.1)=none:=by rfl):PG X (.Tuple es k pos) (So X.K n t):=by
 intro mZ s σ H v u Q I r hw;obtain⟨a,xs,e1,hq,hl,hw⟩:=hw;subst e1;cases r;obtain⟨its,rv,ht,hz⟩:=I.tuple hq;refine assign_Tuple_tuple (I.ok.hd hc) ht (by simp[hn,←hl,rv.length]) hst λh' hx=>?_
 have I1:Inv X mZ σ H { s with heap:=h' }:=I.kept (t':=s.toks) λb o e=>hx b o (aF (aj e)) e
 exact h mZ _ σ H xs _ Q I1 (by simpa using rv) hw
def Qb(te:TE) (g:TG):TS:=λD σ H=>te σ H λx H1=>g x σ H1 D.nx
def nX{i:Nat}{x:Str}{e:Expr}{te:TE}{pos':Pos}(hN:X.N.Nodup) (hi:X.N[i]?=some x) (hx:Loc X.env.scope x) (he:PE X e te) (hs:kg e (some (.Name x pos')) pos.line X.env=pure false:=by rfl) (hf:X.fn x=true∨X.env.scope.names.lookup x=some .local:=by trivial) :
  PS X (.Assign [.Name x pos'] e pos) (Qb te (uA i)):=by
 intro mZ s σ H D I h;refine wpAny_Assign_Name (rL (he mZ s σ H _ I h) λv s1 ⟨y,H1,I1,r1,q1⟩=>?_) hs
 exact Dh I1 hN hi hx r1 (λs2 I2=>⟨_,H1,I2,q1⟩) hf
end
section
variable {X:Cx}{pos:Pos}
def TR(c:TT) (tb:TS):TS:=λD σ H=>∃W:Nat->St->Hp->Prop,(∃m,W m σ H)/\∀m σ H,W m σ H ->
 c σ H λb H1=>if b=true then ∃N:St->Hp->Prop,(∀σ' H',N σ' H'->∃m',m'<m/\W m' σ' H')/\tb { D with nx:=N,ct:=N,bk:=D.nx } σ H1 else D.nx σ H1
def Jo{c:Expr}{body:List Stmt}{tc:TT}{tb:TS}(hp:PassesOwn (iQ X.prog X.w) X.A X.env X.xe) (hc:PT X c tc) (hb:JI X body tb):PS X (.While c body [] pos) (TR tc tb):=by
 intro mZ s σ H D I h;obtain⟨W,⟨m0,w0⟩,turn⟩:=h;refine wpAny_While (codeAny_whileLoop (λn s'=>∃σ' H',Inv X mZ σ' H' s'/\W n σ' H') ?_ m0 ⟨σ,H,I,w0⟩)
 rintro n s1 ⟨σ1,H1,I1,w1⟩;refine jC hp (rL (hc mZ s1 σ1 H1 _ I1 (turn n σ1 H1 w1)) λb s2 ⟨H2,I2,q2⟩=>?_)
 cases b with
 |true =>
  obtain⟨N,hN,q2⟩:=q2;rw[oJ rfl];refine jC hp (rL (hb mZ s2 σ1 H2 _ I2 q2) λf s3 q3=>?_)
  cases f with
  |next =>
   obtain⟨σ3,H3,I3,n3⟩:=q3;obtain⟨m',hm,w3⟩:=hN σ3 H3 n3;exact⟨m',hm,σ3,H3,I3,w3⟩
  |cont =>
   obtain⟨σ3,H3,I3,n3⟩:=q3;obtain⟨m',hm,w3⟩:=hN σ3 H3 n3;exact⟨m',hm,σ3,H3,I3,w3⟩
  |brk=>exact q3
  |ret v=>exact q3
 |false =>
  rw[oO ay];exact jF ⟨σ1,H2,I2,q2⟩
end
structure It where
 go:Nat->Hp->Prop
 yld:Nat->Hp->V->Hp->Prop
 stop:Nat->Hp->Prop
def Ei(X:Cx) (mZ:List (Addr×Obj)) (H:Hp) (b:Addr):Prop :=
 H b=none/\b≠X.env.locals/\b∉X.fs/\(b∈X.ex∨X.s₀.heap.objs.size<=b)/\(∀x c,X.env.cells.lookup x=some c->c≠b)/\∀p∈X.pn++mZ,p.1≠b
def Inv.fpOk{X:Cx}{mZ:List (Addr×Obj)}{σ:St}{H H':Hp}{s:iM}{b:Addr}(I:Inv X mZ σ H s) (hb:s.heap.objs.size<=b) (hn:H' b=none):Ei X mZ H' b:=by
 refine⟨hn,ee (aE I.lt hb),I.nofs hb,.inr (bB I.sz hb),λx c e z=>?_,λp hp z=>?_⟩
 .obtain ⟨v,q⟩:=I.cell x c e;exact absurd (aE q.lt (by rw[z];exact hb)) (cC _)
 .exact absurd (aE (aj (I.pin p hp).1) (by rw[z];exact hb)) (cC _)
structure Pz (P:iW) (w:iZ) (K:W.Frag) (tg:Expr) (J:It) (fp:List Addr) (it:Addr) (tn:Nat->Heap->Prop):Prop where
 mem:it∈fp
 obj:∀i h,tn i h->∀b∈fp,∃o,h.get? b=some o/\∀v,o.data ≠ .cell v
 keep:∀i h h',tn i h->(∀b∈fp,∀o,h.get? b=some o->h'.get? b=some o)->tn i h'
 item:∀(X:Cx),X.prog=P->X.w=w->X.K=K->X.calm=true->∀(i:Nat) (mZ:List (Addr×Obj)) (s:iM) (σ:St) (H:Hp) (E:Value->iM->Prop),Inv X mZ σ H s->(∀b∈fp,Ei X mZ H b)->tn i s.heap->J.go i H ->
  iS (iQ P w) X.A (pyNext (.ref it)) (λr s1=>∃u,r=some u /\
   iS (iQ P w) X.A (ko tg (.ref it) u) (λ_ s2=>∃x H',Inv X mZ σ H' s2/\qb x u/\J.yld i H x H'/\tn (i+1) s2.heap/\∀b∈fp,H' b=none) E s1) E s
 done:∀(X:Cx),X.prog=P->X.w=w->X.K=K->X.calm=true->∀(i:Nat) (mZ:List (Addr×Obj)) (s:iM) (σ:St) (H:Hp) (E:Value->iM->Prop),Inv X mZ σ H s->(∀b∈fp,Ei X mZ H b)->tn i s.heap->J.stop i H ->
  iS (iQ P w) X.A (pyNext (.ref it)) (λr s1=>r=none/\Inv X mZ σ H s1) E s
 self:∀(A:Around) (i:Nat) (s:iM) (Q:Value->iM->Prop) (E:Value->iM->Prop),tn i s.heap->Q (.ref it) s->iS (iQ P w) A (pyIter (.ref it)) Q E s
abbrev TI:=St->Hp->(It->Hp->Prop)->Prop
def PIE(X:Cx) (mZ:List (Addr×Obj)) (σ:St) (tg:Expr) (R:It->Hp->Prop) (itv:Value) (s2:iM):Prop :=
 ∃(it:Addr) (fp:List Addr) (tn:Nat->Heap->Prop) (J:It) (H':Hp),itv = .ref it/\Inv X mZ σ H' s2/\Pz X.prog X.w X.K tg J fp it tn/\tn 0 s2.heap/\(∀b∈fp,Ei X mZ H' b)/\R J H'
def PI(X:Cx) (tg wq:Expr) (wi:TI):Prop :=
 ∀(mZ:List (Addr×Obj)) (s:iM) (σ:St) (H:Hp) (R:It->Hp->Prop),Inv X mZ σ H s->wi σ H R ->
  iS (iQ X.prog X.w) X.A (eval wq X.env) (λv s1=>iS (iQ X.prog X.w) X.A (pyIter v) (PIE X mZ σ tg R) X.xe s1) X.xe s
def RE{M:jQ}{A:Around}{E:Value->iM->Prop}{s:iM}{tg:Expr}{it:Addr}{u:Value}{o:Obj}{n:String}{vs:Array Value}{Q:Unit->iM->Prop}(ho:s.heap.get? it=some o) (hc:o.cls = .type n) (hd:o.data = .fields vs)
    (hn:["enumerate", "zip", "dict_itemiterator", "dict_reverseitemiterator", "odict_iterator", "itertools.zip_longest", "itertools.pairwise"].contains n=false) (hQ:Q () s):iS M A (ko tg (.ref it) u) Q E s:=by
  unfold ko;cases tg <;> first
    |exact jd hQ
    | (cases u <;> first
        |exact jd hQ
        | (refine iT (wpAny_load ho ?_)
           rw[hc,hd];show iS M A (if (["enumerate", "zip", "dict_itemiterator", "dict_reverseitemiterator", "odict_iterator", "itertools.zip_longest", "itertools.pairwise"].contains n && vs[0]? == some (kr _))=true then _ else _) Q E s
           rw[oO (by intro h;rw[hn,ie]at h;cases h)]
           exact jd hQ))
noncomputable def Itl(K:W.Frag) (a:Addr):It :=
 ⟨λi H=>∃xs x,rR K H a xs/\xs[i]?=some x,λi H x H'=>H'=H/\∀xs,rR K H a xs->xs[i]?=some x,λi H=>∃xs,rR K H a xs/\xs.length<=i⟩
noncomputable def Vw(lo:Int) (n:Nat):It:=⟨λi _=>i<n,λi H x H'=>H'=H/\x = .int (lo+i),λi _=>n<=i⟩
def OU{P:iW}{w:iZ}{K:W.Frag}{tg:Expr}(a it:Addr):Pz P w K tg (Itl K a) [it] it (λi h=>h.IsListIter it a i) where
 mem:=by simp
 obj:=λi h st b hb=>by
  have e:b=it:=by simpa using hb
  subst e;obtain⟨o,e,c,d⟩:=st;exact⟨o,e,λv z=>by rw[d]at z;cases z⟩
 keep:=λi h h' st k=>st.at λo e=>k it (by simp) o e
 item:=by
  intro X hP hw hK hc i mZ s σ H E I hf st hg;subst hP hw hK;obtain⟨xs,x,hq,hx⟩:=hg;obtain⟨its,rv,p,hz⟩:=I.list hq;obtain⟨u,hu,ru⟩:=rv.get hx;obtain⟨f0,f1,f2,f3,f4,f5⟩:=hf it (by simp)
  refine wpAny_pyNext_list_item st p.isList (x:=u) (by simpa using hu) λh' st' sb=>?_
  have I1:Inv X mZ σ H { s with heap:=h' }:=I.turned (t':=s.toks) (λb o hb e=>(sb.2 b hb).trans e) f0 f1 f3 f4 f5
  obtain⟨o,e,c,d⟩:=id st';exact⟨u,rfl,RE (s:={ s with heap:=h' }) e c d (by decide) ⟨x,H,I1,ru,⟨rfl,λys hy=>by rw[I.list_inj hy hq];exact hx⟩,st',λb hb=>(hf b hb).1⟩⟩
 done:=by
  intro X hP hw hK hc i mZ s σ H E I hf st hg;subst hP hw hK;obtain⟨xs,hq,hx⟩:=hg;obtain⟨its,rv,p,hz⟩:=I.list hq;obtain⟨f0,f1,f2,f3,f4,f5⟩:=hf it (by simp)
  have hl:=rv.length;exact wpAny_pyNext_list_end (I.ok.hd hc) st p.isList (by simp;lia) λh' eb=>⟨rfl,I.turned (t':=s.toks) (λb o hb e=>eb b o hb e) f0 f1 f3 f4 f5⟩
 self:=λ_ _ _ _ _ st h=>wpAny_pyIter_listiter st h
def Ms{P:iW}{w:iZ}{K:W.Frag}{tg:Expr}(it:Addr) (lo:Int) (n:Nat):Pz P w K tg (Vw lo n) [it] it (λi h=>IsRangeIter h it (lo+(i:Nat)*1) ((n:Int)-(i:Nat)) 1) where
 mem:=by simp
 obj:=λi h st b hb=>by
  have e:b=it:=by simpa using hb
  subst e;exact⟨_,st,λv z=>by
   have z':Data.fields _=Data.cell v:=z;cases z'⟩
 keep:=λi h h' st k=>k it (by simp) _ st
 item:=by
  intro X hP hw hK hc i mZ s σ H E I hf st hg;subst hP hw hK;obtain⟨f0,f1,f2,f3,f4,f5⟩:=hf it (by simp)
  have W:=Walks.range (prog:=X.prog) (w:=X.w) (I.ok.hd hc) it lo 1 n;refine W.item i s _ _ hg st λv h' tk hv st' kk=>?_
  obtain⟨t,rfl⟩:=hv;have I1:Inv X mZ σ H { s with heap:=h',toks:=tk }:=I.turned (λb o hb e=>kk b o (by simpa using hb) e) f0 f1 f3 f4 f5
  refine⟨_,rfl,RE (s:={ s with heap:=h',toks:=tk }) (n := "range_iterator") st' rfl rfl (by decide) ⟨.int (lo+i),H,I1,⟨t,?_⟩,⟨rfl,rfl⟩,st',λb hb=>(hf b hb).1⟩⟩
  rw[Int.mul_one]
 done:=by
  intro X hP hw hK hc i mZ s σ H E I hf st hg;subst hP hw hK;obtain⟨f0,f1,f2,f3,f4,f5⟩:=hf it (by simp)
  exact wpAny_pyNext_range_end (I.ok.hd hc) st (by have:n<=i:=hg;lia) λh' eb=>⟨rfl,I.turned (t':=s.toks) (λb o hb e=>eb b o hb e) f0 f1 f3 f4 f5⟩
 self:=λ_ _ _ _ _ st h=>wpAny_pyIter_rangeiter st h
section
variable {X:Cx}{tg:Expr}
def M6(K:W.Frag) (tl:TE):TI:=λσ H R=>tl σ H λx H1=>∃a,x = .ref a/\(∃xs,rR K H1 a xs)/\R (Itl K a) H1
def qG{l:Expr}{tl:TE}(hl:PE X l tl):PI X tg l (M6 X.K tl):=by
 intro mZ s σ H R I h;refine rL (hl mZ s σ H _ I h) λv s1 ⟨x,H1,I1,r1,q1⟩=>?_
 obtain⟨a,e,⟨xs,hq⟩,q⟩:=q1;subst e;cases r1;obtain⟨its,rv,p,hz⟩:=I1.list hq;refine wpAny_pyIter_list p.isList ?_;refine⟨s1.heap.objs.size,[s1.heap.objs.size],_,_,H1,rfl,I1.kept (t':=s1.toks) λb o e=>ae _ e,OU a _,⟨_,bb _ rfl,rfl,rfl⟩,λb hb=>?_,q⟩
 have e:b=s1.heap.objs.size:=by simpa using hb
 subst e;exact I1.fpOk (af _) (I1.hok.fresh (af _))
def SG{mZ:List (Addr×Obj)}{σ:St}{H:Hp}{s:iM}{R:It->Hp->Prop}{E:Value->iM->Prop}{lo hi:Int}{t u v:Tok}{tk:Nat}(I:Inv X mZ σ H s) (h1:-(2 ^ 62)<=lo) (h2:lo<2 ^ 62) (h3:-(2 ^ 62)<=hi) (h4:hi<2 ^ 62)
  (q:R (Vw lo (hi-lo).toNat) H):iS (iQ X.prog X.w) X.A (pyIter (.ref s.heap.objs.size)) (PIE X mZ σ tg R) E { s with heap:=s.heap.push { cls:=.type "range", data:=.fields #[.int lo t,.int hi u,.int 1 v] },toks:=tk }:=by
 refine wpAny_pyIter_range (IsRange.new ..) (small_one h1 h2 h3 h4) ?_;have I1:Inv X mZ σ H { s with heap:=s.heap.push { cls:=.type "range", data:=.fields #[.int lo t,.int hi u,.int 1 v] },toks:=tk }:=I.kept λb o e=>ae _ e
 refine⟨(s.heap.push { cls:=.type "range", data:=.fields #[.int lo t,.int hi u,.int 1 v] }).objs.size,[(s.heap.push { cls:=.type "range", data:=.fields #[.int lo t,.int hi u,.int 1 v] }).objs.size],_,_,H,rfl,
  I1.kept (t':=tk) λb o e=>ae _ e,Ms _ lo (hi-lo).toNat,?_,λb hb=>?_,q⟩
 .have e1:lo+((0:Nat):Int)*1=lo:=by simp
  have e2:(((hi-lo).toNat:Nat):Int)-((0:Nat):Int)=Builtin.Range.rangeSize lo hi 1:=by rw[rangeSize_one];split <;> lia
  show IsRangeIter _ _ (lo+((0:Nat):Int)*1) ((((hi-lo).toNat:Nat):Int)-((0:Nat):Int)) 1;rw[e1,e2];exact bb _ rfl
 .have e:b=(s.heap.push { cls:=.type "range", data:=.fields #[.int lo t,.int hi u,.int 1 v] }).objs.size:=by simpa using hb
  subst e;exact I1.fpOk (af _) (I1.hok.fresh (af _))
def Ts(ta:TA):TI:=λσ H R=>ta σ H λvs H1=>∃j:Int,vs=[.int j]/\-(2 ^ 62)<=j/\j<2 ^ 62/\R (Vw 0 j.toNat) H1
def wU{a:Expr}{ta:TA}{p pos:Pos}(hg:Gl X "range") (hm:X.mg "range" = none) (ha:PA X [a] ta) (hs:iY [a] X.env=[(false,eval a X.env)]:=by rfl):PI X tg (.Call (.Name "range" p) [a] [] pos) (Ts ta):=by
 intro mZ s σ H R I h;refine Call_ (E8 I hg hm boot_range (dw (rL (ha pos mZ s σ H _ I h) λus s1 ⟨vs,H1,I1,r1,q1⟩=>?_) hs rfl))
 obtain⟨j,e,q1,q2,q⟩:=q1;subst e;cases r1 with
 |cons r rr =>
  cases rr;obtain⟨t,rfl⟩:=r;exact call_range_1 (SG I1 (by lia) (by lia) q1 q2 (by simpa using q))
def P2(wi:TI) (g:TG) (tb:TS):TS:=λD σ H=>wi σ H λJ H1=>∃W:Nat->Nat->St->Hp->Prop,(∃m,W 0 m σ H1)/\∀i m σ H,W i m σ H ->
 (J.stop i H/\D.nx σ H)∨(J.go i H/\∃N:St->Hp->Prop,(∀σ' H',N σ' H'->∃m',m'<m/\W (i+1) m' σ' H')/\∀x H',J.yld i H x H'->g x σ H' λσ2 H2=>tb { D with nx:=N,ct:=N,bk:=D.nx } σ2 H2)
noncomputable def Fv(fp:List Addr) (h:Heap):List (Addr×Obj):=fp.filterMap λb=>(h.get? b).map λo=>(b,o)
def zC{fp:List Addr}{h:Heap}{b:Addr}{o:Obj}(hb:b∈fp) (e:h.get? b=some o):(b,o)∈Fv fp h:=gH.mpr ⟨b,hb,by rw[e];rfl⟩
def Qo{fp:List Addr}{h:Heap}{p:Addr×Obj}(hp:p∈Fv fp h):p.1∈fp/\h.get? p.1=some p.2:=by
 obtain⟨b,hb,e⟩:=gH.mp hp;cases q:h.get? b with
 |none=>rw[q]at e;cases e
 |some o =>
  rw[q]at e;have e':(b,o)=p:=aS.inj e;subst e';exact⟨hb,q⟩
def Inv.pinned{mZ:List (Addr×Obj)}{σ:St}{H:Hp}{s:iM}{fp:List Addr}(I:Inv X mZ σ H s) (hf:∀b∈fp,Ei X mZ H b) (ho:∀b∈fp,∃o,s.heap.get? b=some o/\∀v,o.data ≠ .cell v):Inv X (mZ++Fv fp s.heap) σ H s :=
 I.pins_of λp hp=>(mAq.mp hp).elim (λz=>I.pin p (aC _ z)) λz=>by
  obtain⟨hb,e⟩:=Qo z;obtain⟨f0,f1,f2,_⟩:=hf p.1 hb;obtain⟨o,e',d⟩:=ho p.1 hb;rw[e]at e';cases e';exact⟨e,f0,f1,f2,d⟩
def Inv.unpinned{mZ pl:List (Addr×Obj)}{σ:St}{H:Hp}{s:iM}(I:Inv X (mZ++pl) σ H s):Inv X mZ σ H s:=I.pins_of λp hp=>I.pin p (aC _ (bY _ hp))
def vh{wq:Expr}{body:List Stmt}{wi:TI}{g:TG}{tb:TS}{pos:Pos}(hp:PassesOwn (iQ X.prog X.w) X.A X.env X.xe) (hc:X.calm=true) (hi:PI X tg wq wi) (hg:PG X tg g) (hb:JI X body tb)
  (hs:∀x,kG wq X.env x=pure x:=by intro _;rfl):PS X (.For tg wq body [] pos) (P2 wi g tb):=by
 intro mZ s σ H D I h;refine wpAny_For (rL (hi mZ s σ H _ I h) λv s1 h1=>rL h1 λitv s2 h2=>?_) hs
 obtain⟨it,fp,tn,J,H2,e,I2,T,Jj,f2,W,⟨m0,w0⟩,turn⟩:=h2;subst e;have stat:∀{H':Hp},(∀b∈fp,H' b=none)->∀b∈fp,Ei X mZ H' b:=λhn b hb=>⟨hn b hb,(f2 b hb).2⟩
 refine codeAny_forLoop_any (λn s'=>∃i σ' H',Inv X mZ σ' H' s'/\tn i s'.heap/\(∀b∈fp,H' b=none)/\W i n σ' H') ?_ m0 ⟨0,σ,H2,I2,Jj,λb hb=>(f2 b hb).1,w0⟩
 rintro n s3 ⟨i,σ3,H3,I3,UV,fr3,w3⟩;rcases turn i n σ3 H3 w3 with ⟨stop,qn⟩|⟨go,N,hN,step⟩
 .refine jC hp (rL (T.done X rfl rfl rfl hc i mZ s3 σ3 H3 X.xe I3 (stat fr3) UV stop) λr s4 ⟨hr,I4⟩=>?_)
  subst hr;exact jF ⟨σ3,H3,I4,qn⟩
 .refine jC hp (rL (T.item X rfl rfl rfl hc i mZ s3 σ3 H3 X.xe I3 (stat fr3) UV go) λr s4 ⟨u,hr,h4⟩=>?_)
  subst hr;refine jC hp (rL h4 λ_ s5 ⟨x,H5,I5,r5,y5,st5,fr5⟩=>?_)
  have I5':=I5.pinned (stat fr5) (T.obj _ _ st5);refine jC hp (rL (hg _ s5 σ3 H5 x u _ I5' r5 (step x H5 y5)) λ_ s6 ⟨σ6,H6,I6,q6⟩=>?_)
  refine jC hp (rL (hb _ s6 σ6 H6 _ I6 q6) λf s7 q7=>?_)
  have again:∀{σ7:St}{H7:Hp},Inv X (mZ++Fv fp s5.heap) σ7 H7 s7->N σ7 H7->∃m,m<n/\∃i σ' H',Inv X mZ σ' H' s7/\tn i s7.heap/\(∀b∈fp,H' b=none)/\W i m σ' H':=λ{σ7 H7} I7 n7=>by
   obtain⟨m',hm,w7⟩:=hN σ7 H7 n7;refine⟨m',hm,i+1,σ7,H7,I7.unpinned,T.keep _ _ _ st5 λb hb o e=>(I7.pin (b,o) (aC _ (aC _ (zC hb e)))).1,λb hb=>?_,w7⟩
   obtain⟨o,e,d⟩:=T.obj _ _ st5 b hb;exact(I7.pin (b,o) (aC _ (aC _ (zC hb e)))).2.1
  cases f with
  |next=>obtain⟨σ7,H7,I7,n7⟩:=q7;exact again I7 n7
  |cont=>obtain⟨σ7,H7,I7,n7⟩:=q7;exact again I7 n7
  |brk=>obtain⟨σ7,H7,I7,q7⟩:=q7;exact⟨σ7,H7,I7.unpinned,q7⟩
  |ret v=>obtain⟨x7,σ7,H7,I7,r7,q7⟩:=q7;exact⟨x7,σ7,H7,I7.unpinned,r7,q7⟩
end
def Ky{K:W.Frag}{a:Addr}{xs:List V}{g:TG}{tb:TS}{D:wL}{σ:St}{H:Hp}(Pv:Nat->St->Hp->Prop) (h0:Pv 0 σ H) (hl:∀i σ H,i<=xs.length->Pv i σ H->rR K H a xs)
  (hs:∀i x σ H,xs[i]?=some x->Pv i σ H->g x σ H λσ2 H2=>tb { D with nx:=Pv (i+1),ct:=Pv (i+1),bk:=D.nx } σ2 H2) (hd:∀σ H,Pv xs.length σ H->D.nx σ H) :
  ∃W:Nat->Nat->St->Hp->Prop,(∃m,W 0 m σ H)/\∀i m σ H,W i m σ H ->
   ((Itl K a).stop i H/\D.nx σ H)∨((Itl K a).go i H/\∃N:St->Hp->Prop,(∀σ' H',N σ' H'->∃m',m'<m/\W (i+1) m' σ' H')/\∀x H',(Itl K a).yld i H x H'->g x σ H' λσ2 H2=>tb { D with nx:=N,ct:=N,bk:=D.nx } σ2 H2):=by
 refine⟨λi m σ H=>m=xs.length-i/\i<=xs.length/\Pv i σ H,⟨xs.length,by simp,aV _,h0⟩,?_⟩
 rintro i m σ H ⟨rfl,hi,p⟩;have q:=hl i σ H hi p
 by_cases hlt:i<xs.length
 .refine .inr ⟨⟨xs,xs[i],q,by simp[hlt]⟩,Pv (i+1),λσ' H' p'=>⟨xs.length-(i+1),by lia,rfl,hlt,p'⟩,λx H' y=>?_⟩
  obtain⟨e,y⟩:=y;subst e;exact hs i x σ _ (y xs q) p
 .have e:i=xs.length:=by lia
  subst e;exact .inl ⟨⟨xs,q,af _⟩,hd σ H p⟩
def P6{lo:Int}{n:Nat}{g:TG}{tb:TS}{D:wL}{σ:St}{H:Hp}(Pv:Nat->St->Hp->Prop) (h0:Pv 0 σ H)
  (hs:∀i σ H,i<n->Pv i σ H->g (.int (lo+i)) σ H λσ2 H2=>tb { D with nx:=Pv (i+1),ct:=Pv (i+1),bk:=D.nx } σ2 H2) (hd:∀σ H,Pv n σ H->D.nx σ H) :
  ∃W:Nat->Nat->St->Hp->Prop,(∃m,W 0 m σ H)/\∀i m σ H,W i m σ H ->
   ((Vw lo n).stop i H/\D.nx σ H)∨((Vw lo n).go i H/\∃N:St->Hp->Prop,(∀σ' H',N σ' H'->∃m',m'<m/\W (i+1) m' σ' H')/\∀x H',(Vw lo n).yld i H x H'->g x σ H' λσ2 H2=>tb { D with nx:=N,ct:=N,bk:=D.nx } σ2 H2):=by
 refine⟨λi m σ H=>m=n-i/\i<=n/\Pv i σ H,⟨n,by simp,aV _,h0⟩,?_⟩
 rintro i m σ H ⟨rfl,hi,p⟩
 by_cases hlt:i<n
 .refine .inr ⟨hlt,Pv (i+1),λσ' H' p'=>⟨n-(i+1),by lia,rfl,hlt,p'⟩,λx H' y=>?_⟩
  obtain⟨e,y⟩:=y;subst e y;exact hs i σ _ hlt p
 .have e:i=n:=by lia
  subst e;exact .inl ⟨af _,hd σ H p⟩
abbrev R2:=V->V->Hp->VK->Prop
def Gr(X:Cx) (f:Value->Value->Sem Value) (r:R2):Prop :=
 ∀(mZ:List (Addr×Obj)) (s:iM) (σ:St) (H:Hp) (x y:V) (v u:Value) (Q:VK),Inv X mZ σ H s->qb x v->qb y u->r x y H Q ->
  iS (iQ X.prog X.w) X.A (f v u) (EP X mZ σ Q) X.xe s
def UnR(X:Cx) (f:Value->Sem Value) (r:V->Hp->VK->Prop):Prop :=
 ∀(mZ:List (Addr×Obj)) (s:iM) (σ:St) (H:Hp) (x:V) (v:Value) (Q:VK),Inv X mZ σ H s->qb x v->r x H Q ->
  iS (iQ X.prog X.w) X.A (f v) (EP X mZ σ Q) X.xe s
def tj(X:Cx) (f:Value) (r:List V->Hp->VK->Prop):Prop :=
 ∀(mZ:List (Addr×Obj)) (s:iM) (σ:St) (H:Hp) (xs:List V) (us:List Value) (Q:VK),Inv X mZ σ H s->oV xs us->r xs H Q ->
  iS (iQ X.prog X.w) X.A (call f us) (EP X mZ σ Q) X.xe s
def adw(X:Cx) (r:V->Hp->(Bool->Hp->Prop)->Prop):Prop :=
 ∀(mZ:List (Addr×Obj)) (s:iM) (σ:St) (H:Hp) (x:V) (v:Value) (Q:Bool->Hp->Prop),Inv X mZ σ H s->qb x v->r x H Q ->
  iS (iQ X.prog X.w) X.A (truthy v) (TP X mZ σ Q) X.xe s
noncomputable def WW(r:R2) (ta tb:TE):TE:=λσ H Q=>ta σ H λx H1=>tb σ H1 λy H2=>r x y H2 Q
noncomputable def tUn(r:V->Hp->VK->Prop) (ta:TE):TE:=λσ H Q=>ta σ H λx H1=>r x H1 Q
def rI(C:Int->Int->Prop) (g:Int->Int->V):R2:=λx y H Q=>∃i j,x = .int i/\y = .int j/\C i j/\Q (g i j) H
noncomputable def Q8(g:Int->Int->V):R2:=λx y H Q=>∃i j,x = .int i/\y = .int j/\Q (g i j) H
def rU(g:Int->V):V->Hp->VK->Prop:=λx H Q=>∃i,x = .int i/\Q (g i) H
section
variable {X:Cx}{a b c:Expr}{ta tb tc:TE}{pos:Pos}
def YU(ha:PE X a ta) (hb:PE X b tb) {mZ:List (Addr×Obj)}{s:iM}{σ:St}{H:Hp}{R:V->V->Hp->Prop}(I:Inv X mZ σ H s)
  (h:ta σ H λx H1=>tb σ H1 λy H2=>R x y H2) {Q:Value->iM->Prop}{f:Value->Value->Sem Value}
  (hf:∀v u s2 x y H2,Inv X mZ σ H2 s2->qb x v->qb y u->R x y H2->iS (iQ X.prog X.w) X.A (f v u) Q X.xe s2) :
  iS (iQ X.prog X.w) X.A (eval a X.env) (λv s₁=>iS (iQ X.prog X.w) X.A (eval b X.env) (λu s₂=>iS (iQ X.prog X.w) X.A (f v u) Q X.xe s₂) X.xe s₁) X.xe s:=by
 refine rL (ha mZ s σ H _ I h) λv s1 ⟨x,H1,I1,r1,q1⟩=>?_
 refine rL (hb mZ s1 σ H1 _ I1 q1) λu s2 ⟨y,H2,I2,r2,q2⟩=>?_
 exact hf v u s2 x y H2 I2 r1 r2 q2
def oU{op:Operator}{r:R2}(ho:Gr X (ke op) r) (ha:PE X a ta) (hb:PE X b tb):PE X (.BinOp a op b pos) (WW r ta tb):=by
 intro mZ s σ H Q I h;exact wpAny_BinOp (YU ha hb I h λv u s2 x y H2 I2 rx ry q=>ho mZ s2 σ H2 x y v u Q I2 rx ry q)
def vy{op:UnaryOp}{r:V->Hp->VK->Prop}(ho:UnR X (unaryOp op) r) (ha:PE X a ta):PE X (.UnaryOp op a pos) (tUn r ta):=by
 intro mZ s σ H Q I h;exact UnaryOp_ (rL (ha mZ s σ H _ I h) λv s1 ⟨x,H1,I1,r1,q1⟩=>ho mZ s1 σ H1 x v Q I1 r1 q1)
def opI{f:Value->Value->Sem Value}{C:Int->Int->Prop}{g:Int->Int->Int}
  (rule:∀(i j:Int) (t u:Tok) (s:iM) (Q:Value->iM->Prop) (E:Value->iM->Prop),C i j->Q (.int (g i j) s.toks) { s with toks:=s.toks+1 }->iS (iQ X.prog X.w) X.A (f (.int i t) (.int j u)) Q E s) :
  Gr X f (rI C λi j=>.int (g i j)):=by
 intro mZ s σ H x y v u Q I rx ry h;obtain⟨i,j,rfl,rfl,hc,q⟩:=h;obtain⟨t,rfl⟩:=rx;obtain⟨t',rfl⟩:=ry;exact rule i j t t' s _ _ hc ⟨.int (g i j),H,I.tok _,⟨_,rfl⟩,q⟩
def aco{f:Value->Value->Sem Value}{g:Int->Int->Int}
  (rule:∀(i j:Int) (t u:Tok) (s:iM) (Q:Value->iM->Prop) (E:Value->iM->Prop),Q (.int (g i j) s.toks) { s with toks:=s.toks+1 }->iS (iQ X.prog X.w) X.A (f (.int i t) (.int j u)) Q E s) :
  Gr X f (Q8 λi j=>.int (g i j)):=by
 intro mZ s σ H x y v u Q I rx ry h;obtain⟨i,j,rfl,rfl,q⟩:=h;obtain⟨t,rfl⟩:=rx;obtain⟨t',rfl⟩:=ry;exact rule i j t t' s _ _ ⟨.int (g i j),H,I.tok _,⟨_,rfl⟩,q⟩
def abZ{f:Value->Value->Sem Value}{g:Int->Int->Bool}
  (rule:∀(i j:Int) (t u:Tok) (s:iM) (Q:Value->iM->Prop) (E:Value->iM->Prop),Q (.bool (g i j)) s->iS (iQ X.prog X.w) X.A (f (.int i t) (.int j u)) Q E s) :
  Gr X f (Q8 λi j=>.bl (g i j)):=by
 intro mZ s σ H x y v u Q I rx ry h;obtain⟨i,j,rfl,rfl,q⟩:=h;obtain⟨t,rfl⟩:=rx;obtain⟨t',rfl⟩:=ry;exact rule i j t t' s _ _ ⟨.bl (g i j),H,I,rfl,q⟩
def ZP(i j:Int):Prop:=0<j/\j<1073741824
def YD(i j:Int):Prop:=0<=j/\j<=1000000/\i.natAbs<2 ^ 64
def QP(i j:Int):Prop:=(-(2 ^ 64)<i/\i<2 ^ 64)∨(-(2 ^ 64)<j/\j<2 ^ 64)
def QP.ok{i j:Int}(h:QP i j):IntMulOk i j:=by
 rcases h with ⟨h1,h2⟩|⟨h1,h2⟩
 .exact .of_left (intBits_le_64 h1 h2)
 .exact .of_right (intBits_le_64 h1 h2)
def xA:Gr X (ke .Add) (Q8 λi j=>.int (i+j)):=aco λ_ _ _ _ _ _ _ q=>add_int q
def YZ:Gr X (ke .Sub) (Q8 λi j=>.int (i-j)):=aco λ_ _ _ _ _ _ _ q=>sub_int q
def SE:Gr X (ke .Mult) (rI QP λi j=>.int (i*j)):=opI λ_ _ _ _ _ _ _ hc q=>mul_int q hc.ok
def vW:Gr X (ke .FloorDiv) (rI ZP λi j=>.int (i / j)):=opI λi j _ _ _ _ _ hc q=>by
 have h1:(0:Int)<j:=hc.1;have h2:j<1073741824:=hc.2;exact floordiv_int (by lia) (by rw[Int.fdiv_eq_ediv_of_nonneg i (by lia)];exact q) (.inl (PyProof.noPylong_small (by lia)))
def sL:Gr X (ke .Mod) (rI (λ_ j=>0<j) λi j=>.int (i % j)):=opI λi j _ _ _ _ _ hc q=>by
 have h1:(0:Int)<j:=hc;exact mod_int' (by lia) (by rw[Int.fmod_eq_emod_of_nonneg i (by lia)];exact q)
def IQ:Gr X (ke .Pow) (rI YD λi j=>.int (i ^ j.toNat)):=opI λ_ _ _ _ _ _ _ hc q=>pow_int_small hc.1 hc.2.1 hc.2.2 q
def unI{f:Value->Sem Value}{g:Int->Int}
  (rule:∀(i:Int) (t:Tok) (s:iM) (Q:Value->iM->Prop) (E:Value->iM->Prop),Q (.int (g i) s.toks) { s with toks:=s.toks+1 }->iS (iQ X.prog X.w) X.A (f (.int i t)) Q E s) :
  UnR X f (rU λi=>.int (g i)):=by
 intro mZ s σ H x v Q I rx h;obtain⟨i,rfl,q⟩:=h;obtain⟨t,rfl⟩:=rx;exact rule i t s _ _ ⟨.int (g i),H,I.tok _,⟨_,rfl⟩,q⟩
def tL:UnR X (unaryOp .USub) (rU λi=>.int (-i)):=unI λ_ _ _ _ _ q=>neg_int q
end
noncomputable def scal:V->V->Bool
 | .non,.non=>true|.non,.int _=>true|.int _,.non=>true|.non,.bl _=>true|.bl _,.non=>true|.non,.str _=>true|.str _,.non=>true
 | .int _,.int _=>true|.bl _,.bl _=>true|.str _,.str _=>true|.byt _,.byt _=>true
 | .int _,.str _=>true|.str _,.int _=>true|.bl _,.str _=>true|.str _,.bl _=>true
 |_,_=>false
def rEq:R2:=λx y H Q=>scal x y=true/\Q (.bl (decide (x=y))) H
def rNe:R2:=λx y H Q=>scal x y=true/\Q (.bl (!decide (x=y))) H
def NC{i j:Int}:decide (V.int i=V.int j)=(i == j):=by
 rw[cg];simp
def Sv{i j:Bool}:decide (V.bl i=V.bl j)=(i == j):=by
 rw[cg];simp
def NG{i j:Str}:decide (V.str i=V.str j)=(i == j):=by
 rw[cg];simp
def NM{i j:Array UInt8}:decide (V.byt i=V.byt j)=(i.toList == j.toList):=by
 rw[cg];cases i;cases j;simp
section
variable {X:Cx}{a b c:Expr}{ta tb tc:TE}{pos:Pos}
def qf{mZ:List (Addr×Obj)}{σ:St}{H:Hp}{s:iM}{Q:VK}{k k':Bool}(I:Inv X mZ σ H s) (q:Q (.bl k) H) (e:k=k'):EP X mZ σ Q (.bool k') s:=by
 subst e;exact⟨.bl k,H,I,rfl,q⟩
def BF:Gr X (jv .Eq) rEq:=by
 intro mZ s σ H x y v u Q I rx ry h;obtain⟨hs,q⟩:=h;cases x with
 |non =>
  cases rx;cases y with
  |non=>cases ry;exact PySem.EqNone.eq_none_none (qf I q (by simp))
  |bl j=>cases ry;exact PySem.EqNone.eq_none_bool (qf I q (by simp))
  |int j=>obtain⟨t',rfl⟩:=ry;exact PySem.EqNone.eq_none_int (qf I q (by simp))
  |str j=>obtain⟨t',rfl⟩:=ry;exact PySem.EqNone.eq_none_str (qf I q (by simp))
  |_=>exact absurd (show false=true from hs) ay
 |bl i =>
  cases rx;cases y with
  |non=>cases ry;exact PySem.EqNone.eq_bool_none (qf I q (by simp))
  |bl j=>cases ry;exact eq_bool (qf I q Sv)
  |str j=>obtain⟨t',rfl⟩:=ry;exact PySem.EqMixed.eq_bool_str (qf I q (by simp))
  |_=>exact absurd (show false=true from hs) ay
 |int i =>
  obtain⟨t,rfl⟩:=rx;cases y with
  |non=>cases ry;exact PySem.EqNone.eq_int_none (qf I q (by simp))
  |int j=>obtain⟨t',rfl⟩:=ry;exact eq_int (qf I q NC)
  |str j=>obtain⟨t',rfl⟩:=ry;exact PySem.EqMixed.eq_int_str (qf I q (by simp))
  |_=>exact absurd (show false=true from hs) ay
 |str i =>
  obtain⟨t,rfl⟩:=rx;cases y with
  |non=>cases ry;exact PySem.EqNone.eq_str_none (qf I q (by simp))
  |bl j=>cases ry;exact PySem.EqMixed.eq_str_bool (qf I q (by simp))
  |int j=>obtain⟨t',rfl⟩:=ry;exact PySem.EqMixed.eq_str_int (qf I q (by simp))
  |str j=>obtain⟨t',rfl⟩:=ry;exact eq_str (qf I q NG)
  |_=>exact absurd (show false=true from hs) ay
 |byt i =>
  obtain⟨t,rfl⟩:=rx;cases y with
  |byt j=>obtain⟨t',rfl⟩:=ry;exact W.eq_bytes (qf I q NM)
  |_=>exact absurd (show false=true from hs) ay
 |_=>cases y <;> exact absurd (show false=true from hs) ay
def Fo:Gr X (jv .NotEq) rNe:=by
 intro mZ s σ H x y v u Q I rx ry h;obtain⟨hs,q⟩:=h;cases x with
 |non =>
  cases rx;cases y with
  |non=>cases ry;exact PySem.EqNone.ne_none_none (qf I q (by simp))
  |bl j=>cases ry;exact PySem.EqNone.ne_none_bool (qf I q (by simp))
  |int j=>obtain⟨t',rfl⟩:=ry;exact PySem.EqNone.ne_none_int (qf I q (by simp))
  |str j=>obtain⟨t',rfl⟩:=ry;exact PySem.EqNone.ne_none_str (qf I q (by simp))
  |_=>exact absurd (show false=true from hs) ay
 |bl i =>
  cases rx;cases y with
  |non=>cases ry;exact PySem.EqNone.ne_bool_none (qf I q (by simp))
  |bl j=>cases ry;exact ne_bool (qf I q (congrArg not Sv))
  |str j=>obtain⟨t',rfl⟩:=ry;exact PySem.EqMixed.ne_bool_str (qf I q (by simp))
  |_=>exact absurd (show false=true from hs) ay
 |int i =>
  obtain⟨t,rfl⟩:=rx;cases y with
  |non=>cases ry;exact PySem.EqNone.ne_int_none (qf I q (by simp))
  |int j=>obtain⟨t',rfl⟩:=ry;exact ne_int (qf I q (congrArg not NC))
  |str j=>obtain⟨t',rfl⟩:=ry;exact PySem.EqMixed.ne_int_str (qf I q (by simp))
  |_=>exact absurd (show false=true from hs) ay
 |str i =>
  obtain⟨t,rfl⟩:=rx;cases y with
  |non=>cases ry;exact PySem.EqNone.ne_str_none (qf I q (by simp))
  |bl j=>cases ry;exact PySem.EqMixed.ne_str_bool (qf I q (by simp))
  |int j=>obtain⟨t',rfl⟩:=ry;exact PySem.EqMixed.ne_str_int (qf I q (by simp))
  |str j=>obtain⟨t',rfl⟩:=ry;exact ne_str (qf I q (congrArg not NG))
  |_=>exact absurd (show false=true from hs) ay
 |byt i =>
  obtain⟨t,rfl⟩:=rx;cases y with
  |byt j=>obtain⟨t',rfl⟩:=ry;exact W.ne_bytes (qf I q (congrArg not NM))
  |_=>exact absurd (show false=true from hs) ay
 |_=>cases y <;> exact absurd (show false=true from hs) ay
def MZ:Gr X (jv .Lt) (Q8 λi j=>.bl (decide (i<j))):=abZ λ_ _ _ _ _ _ _ q=>lt_int q
def Fe:Gr X (jv .Gt) (Q8 λi j=>.bl (decide (j<i))):=abZ λ_ _ _ _ _ _ _ q=>gt_int q
def yg:Gr X (jv .Is) (λx y H Q=>y = .non/\Q (.bl (decide (x = .non))) H):=by
 intro mZ s σ H x y v u Q I rx ry h;obtain⟨rfl,q⟩:=h;cases ry;refine is_none_gen (qf I q ?_);cases x <;> first
  | (cases rx;rfl)
  | (obtain⟨t,rfl⟩:=rx;rfl)
def ph(b:Expr) {op:CmpOp}(h:op ≠ .In:=by decide) (h2:op ≠ .NotIn:=by decide):jX op b=false:=by
 have e1:(op == CmpOp.In)=false:=by cases op <;> first|rfl|exact absurd rfl h
 have e2:(op == CmpOp.NotIn)=false:=by cases op <;> first|rfl|exact absurd rfl h2
 cases b <;> simp[jX,e1,e2]
def IH{op:CmpOp}{r:R2}(ho:Gr X (jv op) r) (ha:PE X a ta) (hb:PE X b tb) (hm:jX op b=false):PE X (.Compare a [op] [b] pos) (WW r ta tb):=by
 intro mZ s σ H Q I h;exact wpAny_Compare1 (YU ha hb I h λv u s2 x y H2 I2 rx ry q=>ho mZ s2 σ H2 x y v u Q I2 rx ry q) hm
def Xc(t:TE):TT:=λσ H Q=>t σ H λx H'=>∃k,x = .bl k/\Q k H'
def oz{op:CmpOp}{r:R2}(ho:Gr X (jv op) r) (ha:PE X a ta) (hb:PE X b tb) (hm:jX op b=false):PT X (.Compare a [op] [b] pos) (Xc (WW r ta tb)):=by
 intro mZ s σ H Q I h;refine lz (rL (ha mZ s σ H _ I h) λv s1 ⟨x,H1,I1,r1,q1⟩=>rL (hb mZ s1 σ H1 _ I1 q1) λu s2 ⟨y,H2,I2,r2,q2⟩ =>
  rL (ho mZ s2 σ H2 x y v u _ I2 r1 r2 q2) λc s3 ⟨z,H3,I3,r3,k,e,q3⟩=>?_) hm
 subst e;cases r3;exact jt ⟨H3,I3,q3⟩
def Y6(K:W.Frag) (x:V) (H:Hp) (k:Bool):Prop :=
 match x with
 | .non=>k=false
 | .bl b=>k=b
 | .int i=>k=(i != 0)
 | .str y=>y.length<=iX/\k=((y.length:Int) != 0)
 | .byt y=>y.size<=iX/\k=((y.size:Int) != 0)
 | .ref p=>(∃xs,rR K H p xs/\k = !xs.isEmpty)∨(∃xs,Gm K H p xs/\k = !xs.isEmpty)∨∃nV,H p=some (.dK nV)/\k = !nV.isEmpty
 |_=>False
def Ma{κ:Type}{nV:List (κ×V)}{vs:List (κ×Value)}(r:KV nV vs):(!vs.isEmpty) = !nV.isEmpty:=by
 cases r <;> rfl
def E5{xs:List V}{its:List Value}(r:oV xs its):(!its.toArray.isEmpty) = !xs.isEmpty:=by
 cases r <;> simp
def Iv:(iX:Nat)<2 ^ 63:=by rw[jj];decide
def Zn:adw X (λx H Q=>∃k,Y6 X.K x H k/\Q k H):=by
 intro mZ s σ H x v Q I rx h;obtain⟨k,e,q⟩:=h;have hl:=Iv;have hs:iX=16777216:=jj;cases x with
 |non =>
  cases rx;have e':k=false:=e;subst e';exact truthy_none ⟨H,I,q⟩
 |bl b =>
  cases rx;have e':k=b:=e;subst e';exact jt ⟨H,I,q⟩
 |int i =>
  obtain⟨t,rfl⟩:=rx;have e':k=(i != 0):=e;subst e';exact PySem.P.truthy_int ⟨H,I,q⟩
 |str y =>
  obtain⟨t,rfl⟩:=rx;obtain⟨hy,e'⟩:y.length<=iX/\k=((y.length:Int) != 0):=e;subst e';exact PySem.P.truthy_str (by lia) ⟨H,I.tok _,q⟩
 |byt y =>
  obtain⟨t,rfl⟩:=rx;obtain⟨hy,e'⟩:y.size<=iX/\k=((y.size:Int) != 0):=e;subst e';exact W.truthy_bytes (by lia) ⟨H,I.tok _,q⟩
 |ref p =>
  cases rx;have e':(∃xs,rR X.K H p xs/\k = !xs.isEmpty)∨(∃xs,Gm X.K H p xs/\k = !xs.isEmpty)∨∃nV,H p=some (.dK nV)/\k = !nV.isEmpty:=e;rcases e' with ⟨xs,hx,e'⟩|⟨xs,hx,e'⟩|⟨nV,hx,e'⟩
  .subst e';obtain⟨its,r,pl,hz⟩:=I.list hx;have hlen:=r.length;exact wpAny_truthy_list pl.isList (by simp only[aq];lia) ⟨H,I.tok _,by rw[E5 r];exact q⟩
  .subst e';obtain⟨its,r,pl,hz⟩:=I.tuple hx;have hlen:=r.length;exact truthy_tuple pl (by simp only[aq];lia) ⟨H,I.tok _,by rw[E5 r];exact q⟩
  .subst e';obtain⟨hz,hS,vs,r,m⟩:nV.length<=iX/\(p == jA)=false/\∃vs,KV nV vs/\s.heap.DictOf (rV X.prog X.w) p vs:=I.hok p _ hx;have hlen:nV.length=vs.length:=Paired.length r;exact wpAny_truthy_dict hS m (by lia) ⟨H,I.tok _,by rw[Ma r];exact q⟩
 |_=>exact(show False from e).elim
def wc(ha:PE X a ta) (he:∀whole,isTrue a X.env whole=(do let v ←whole;ki a.pos;kj [v] (truthy v))) :
  PT X a (λσ H Q=>ta σ H λx H'=>∃k,Y6 X.K x H' k/\Q k H'):=by
 intro mZ s σ H Q I h;exact isTrue_plain (rL (ha mZ s σ H _ I h) λv s1 ⟨x,H1,I1,r1,q1⟩=>Zn mZ s1 σ H1 x v Q I1 r1 q1) (he _)
def Cp{x:V}{us:List Value}(r:oV [x] us):∃u,us=[u]/\qb x u:=by
 cases r with
 |cons r1 r2=>cases r2;exact⟨_,rfl,r1⟩
def Tp{x y:V}{us:List Value}(r:oV [x,y] us):∃u w',us=[u,w']/\qb x u/\qb y w':=by
 cases r with
 |cons r1 r2 =>
  cases r2 with
  |cons r3 r4=>cases r4;exact⟨_,_,rfl,r1,r3⟩
def R8:tj X (.builtin "abs") (λxs H Q=>∃i,xs=[.int i]/\Q (.int (if i<0 then -i else i)) H):=by
 intro mZ s σ H xs us Q I r h;obtain⟨i,rfl,q⟩:=h;obtain⟨u,rfl,t,rfl⟩:=Cp r;exact call_abs_int λu tk=>⟨.int (if i<0 then -i else i),H,I.tok _,⟨_,rfl⟩,q⟩
def abx(K:W.Frag) (x:V) (H:Hp) (n:Nat):Prop :=
 match x with
 | .str y=>y.length<=iX/\n=y.length
 | .byt y=>y.size<=iX/\n=y.size
 | .ref p=>(∃xs,rR K H p xs/\n=xs.length)∨∃xs,Gm K H p xs/\n=xs.length
 |_=>False
def qA:tj X (.builtin "len") (λxs H Q=>∃x n,xs=[x]/\abx X.K x H n/\Q (.int n) H):=by
 intro mZ s σ H xs us Q I r h;obtain⟨x,n,rfl,e,q⟩:=h;obtain⟨u,rfl,rx⟩:=Cp r;have hl:=Iv;have hs:iX=16777216:=jj;cases x with
 |str y =>
  obtain⟨t,rfl⟩:=rx;obtain⟨hy,e'⟩:y.length<=iX/\n=y.length:=e;subst e';exact len_str (by lia) ⟨.int _,H,I.tok _,⟨_,rfl⟩,q⟩
 |byt y =>
  obtain⟨t,rfl⟩:=rx;obtain⟨hy,e'⟩:y.size<=iX/\n=y.size:=e;subst e';exact W.len_bytes (by lia) ⟨.int _,H,I.tok _,⟨_,rfl⟩,q⟩
 |ref p =>
  cases rx;have e':(∃xs,rR X.K H p xs/\n=xs.length)∨∃xs,Gm X.K H p xs/\n=xs.length:=e;rcases e' with ⟨xs,hx,e'⟩|⟨xs,hx,e'⟩
  .subst e';obtain⟨its,r',pl,hz⟩:=I.list hx;have hlen:=r'.length;exact Calls.call_len_list pl.isList (by simp only[aq];lia) ⟨.int xs.length,H,I.tok _,⟨_,by simp only[aq];rw[hlen]⟩,q⟩
  .subst e';obtain⟨its,r',pl,hz⟩:=I.tuple hx;have hlen:=r'.length;exact len_tuple pl (by simp only[aq];lia) ⟨.int xs.length,H,I.tok _,⟨_,by simp only[aq];rw[hlen]⟩,q⟩
 |_=>exact(show False from e).elim
end
structure Md (h:Heap) (x dx C:Addr) (mA:Str->Option Value):Prop where
 obj:h.get? x=some (W.instObj C dx)
 ns:h.Ns1 dx mA
 ne:dx≠x
def Pj{h:Heap}{dx:Addr}{mA:Str->Option Value}(n:h.Ns1 dx mA):∃od,h.get? dx=some od/\∀name,W.lookIn name od=some (mA name):=by
 obtain⟨o,es,ep,ho,hd,hk,_,hm⟩:=n;refine⟨o,ho,λname=>?_⟩
 have e:=hm name;unfold nsFind findBy at e;rw[←Array.find?_toList]at e;unfold W.lookIn;rw[hd];dsimp only;split
 .rename_i y q;rw[q]at e;exact congrArg some e
 .rename_i q;rw[q]at e;have a:es.toList.any (·.refKey)=false:=by
   rw[List.any_eq_false];intro y hy;obtain⟨z,t,hkey⟩:=hk y (eR.mp hy);simp[DictEntry.refKey,hkey]
  have a':¬ es.toList.any (·.refKey)=true:=by rw[a];exact ay
  rw[oO a'];exact congrArg some e
def Md.look{h:Heap}{x dx C:Addr}{mA:Str->Option Value}(I:Md h x dx C mA):∃od,W.InstAt h x (W.instObj C dx) C (some od)/\∀name,W.lookIn name od=some (mA name) :=
 let ⟨od,ho,hl⟩:=Pj I.ns
 ⟨od,⟨I.obj,rfl,rfl,ho⟩,hl⟩
section
variable {prog:iW}{w:iZ}{A:Around}{E:Value->iM->Prop}{s:iM}{K:W.Frag}{x dx C f:Addr}{mA:Str->Option Value}{name:Str}{v:Value}
def VQ{expr:Bool}{Q:Value->iM->Prop}(X:K.In s.heap) (I:Md s.heap x dx C mA) (hg:W.plainGet K C name=true) (hh:W.hasDictIn K C=true)
  (ha:W.findIn K (.ref C) name=some none) (hv:mA name=some v) (hv':W.handedIn v=true) (h:Q v { s with toks:=s.toks+1 }) :
  iS (iQ prog w) A (lZ (.ref x) name expr) Q E s:=by
 obtain⟨od,J,hl⟩:=I.look;exact W.get_value X J (W.plainGet_of hg).1 (W.findObj_own hh ha rfl (by rw[hl,hv])) hv' h
def Tj{pl:Sem Bool}{Q:Value×List Value->iM->Prop}(X:K.In s.heap) (I:Md s.heap x dx C mA) (hg:W.plainGet K C name=true)
  (hf:W.findIn K (.ref C) name=some (some (.ref f))) (ht:W.isFn K (.ref f)=true) (hv:mA name=none) (h:Q (.ref f,[.ref x]) s) :
  iS (iQ prog w) A (jN (.ref x) name pl) Q E s:=by
 obtain⟨od,J,hl⟩:=I.look;exact W.method_fn X J (W.plainGet_of hg).1 (W.plainGet_of hg).2 hf (beq_iff_eq.mp ht) (by show (W.lookIn name od).map (·.isSome)=some false;rw[hl,hv];rfl) h
def Vx{ns:List Str}{Q:Unit->iM->Prop}(X:K.In s.heap) (I:Md s.heap x dx C mA)
  (hs:W.findIn K (.ref C) "__setattr__" = some (some (.builtin "object.__setattr__"))) (hp:W.plainOver K C=true) (ht:W.takerIn K C name=some none) (hh:W.hasDictIn K C=true)
  (hw:PySem.Within mA ns) (hsz:ns.length<=iX)
  (h:∀h',Md h' x dx C (λy=>if y=name then some v else mA y)->dZ dx s.heap h'->Q () { s with heap:=h',toks:=s.toks+2 }) :
  iS (iQ prog w) A (setAttr (.ref x) name v) Q E s:=by
 obtain⟨od,J,hl⟩:=I.look;refine W.set_plain X J hs (W.osa_open (s:={ s with toks:=s.toks+1 }) (r:=none) X J hp ht λb=>?_)
 obtain⟨cd,hc,hd'⟩:=W.any_some hh;have hx:s.heap.get? x=some ⟨.ref C,some dx,.plain,#[]⟩:=I.obj;refine iT (jd (iT (iT (wpAny_loadPart hx (iT (W.Looks.here (s:={ s with toks:=s.toks+1 }) (W.looks_clsIn X hc) ?_))))))
 rw[hd'];refine jd (a:=some dx) (iT (jd (iT ?_)));refine wpAny_nsSet1 (s:={ s with toks:=s.toks+1 }) I.ns λh' hn2 hs2=>?_
 obtain⟨oD,esD,epD,hoD,hdD,hcD⟩:=hn2.count (PySem.Within.cons name v hw);refine iT (wpAny_lookBehind hoD (by rw[hdD];exact pastItsLine_dict (bB hcD (by rw[lCq];lia))) ?_)
 exact jd (h _ ⟨(hs2.2 _ (Ne.symm I.ne)).trans I.obj,hn2,I.ne⟩ hs2)
def QW{R:Result->iM->Prop}{vs:List Value}{kw:List (Str×Value)}(X:K.In s.heap) (hm:W.makesIn K C=true)
  (hi:W.findIn K (.ref C) "__init__" = some (some (.ref f))) (hf:W.typeIn K (.ref f)=some (.type "function"))
  (h:jT (iQ prog w) (A.under (.builtin "type.__call__" ⟨.ref C::vs,kw⟩)) (.call (.ref f) ⟨.ref (s.heap.objs.size+1)::vs,kw⟩) (W.InitBack (s.heap.objs.size+1) R)
   { s with heap:=(s.heap.push W.emptyDict).push (W.instObj C s.heap.objs.size) }) :
  jT (iQ prog w) A (.call (.ref C) ⟨vs,kw⟩) R s:=by
 obtain⟨hh,g,d,t,os⟩:=s;exact W.make_core (W.makes_of X hm) (W.looks_findIn X hi) (λself=>W.bind_fn X self hf) (.inl rfl) h
end
noncomputable def xu(f:Str) (v:V):List (Str×V)->List (Str×V)
 | []=>[(f,v)]
 | (g,x)::r=>if g=f then (g,v)::r else (g,x)::xu f v r
theorem D9(f g:Str) (v:V):∀fs:List (Str×V),(xu f v fs).lookup g=if g=f then some v else fs.lookup g
 | []=>by
  show bQ g [(f,v)]=_
  by_cases h:g=f
  .have hb:(g == f)=true:=beq_iff_eq.mpr h;simp only[bQ,hb,oJ h]
  .have hb:(g == f)=false:=beq_eq_false_iff_ne.mpr h;simp only[bQ,hb,oO h]
 | (k,x)::r=>by
  have ih:=D9 f g v r;rw[show xu f v ((k,x)::r)=(if k=f then (k,v)::r else (k,x)::xu f v r) from rfl]
  by_cases hk:k=f
  .rw [oJ hk]
   by_cases h:g=k
   .have hb:(g == k)=true:=beq_iff_eq.mpr h;simp only[bQ,hb,oJ (h.trans hk)]
   .have hb:(g == k)=false:=beq_eq_false_iff_ne.mpr h;simp only[bQ,hb,oO (λe:g=f=>h (e.trans hk.symm))]
  .rw [oO hk]
   by_cases h:g=k
   .have hb:(g == k)=true:=beq_iff_eq.mpr h;simp only[bQ,hb,oO (λe:g=f=>hk (h.symm.trans e))]
   .have hb:(g == k)=false:=beq_eq_false_iff_ne.mpr h;simp only[bQ,hb];exact ih
theorem DQ(f:Str) (v:V):∀fs:List (Str×V),f∈(xu f v fs).map (·.1)/\∀g,g∈fs.map (·.1)->g∈(xu f v fs).map (·.1)
 | []=>⟨by simp[xu],λg h=>by simp at h⟩
 | (k,x)::r=>by
  obtain⟨i1,i2⟩:=DQ f v r;rw[show xu f v ((k,x)::r)=(if k=f then (k,v)::r else (k,x)::xu f v r) from rfl]
  by_cases hk:k=f
  .rw [oJ hk];subst hk;exact⟨by simp,λg h=>by simpa using h⟩
  .rw [oO hk];refine⟨?_,λg h=>?_⟩
   .rw [aw];exact mCo _ i1
   .rw [aw]at h ⊢;rcases ak.mp h with e|e
    .exact ak.mpr (.inl e)
    .exact mCo _ (i2 g e)
theorem DZ(f:Str) (v:V):∀fs:List (Str×V),(xu f v fs).length<=fs.length+1
 | []=>by simp[xu]
 | (k,x)::r=>by
  have ih:=DZ f v r;rw[show xu f v ((k,x)::r)=(if k=f then (k,v)::r else (k,x)::xu f v r) from rfl]
  by_cases hk:k=f
  .rw [oJ hk,lCq,lCq];lia
  .rw [oO hk,lCq,lCq];lia
def Ag.some_of{v:V}{o:Option Value}(r:Ag (some v) o):∃u,o=some u/\qb v u:=by
 cases o with
 |none=>exact(show False from r).elim
 |some u=>exact⟨u,rfl,r⟩
def Ag.none_of{o:Option Value}(r:Ag none o):o=none:=by
 cases o with
 |none=>rfl
 |some u=>exact(show False from r).elim
def PY{v:V}{u:Value}(r:qb v u):W.handedIn u=true:=by
 cases v with
 |non=>cases (show u=cP from r);rfl
 |bl b=>cases (show u=hX b from r);rfl
 |int i=>obtain⟨t,e⟩:=(show ∃t,u=fW i t from r);cases e;rfl
 |str x=>obtain⟨t,e⟩:=(show ∃t,u=gN x t from r);cases e;rfl
 |byt b=>obtain⟨t,e⟩:=(show ∃t,u=iF b t from r);cases e;rfl
 |flt b=>obtain⟨t,e⟩:=(show ∃t,u=iG b t from r);cases e;rfl
 |ref a=>cases (show u=ai a from r);rfl
 |ty n=>cases (show u=dg n from r);rfl
section
variable {P:iW}{w:iZ}{H H':Hp}{h h':Heap}{a C dx:Addr}{fs fs':List (Str×V)}
def Ip(hok:Aj P w H h) (e:H a=some (.ins C dx fs)):∃mA,Md h a dx C mA/\(∀f,Ag (fs.lookup f) (mA f))/\PySem.Within mA (fs.map (·.1))/\fs.length<=1000/\H dx=some (.own a):=by
 obtain⟨d,z,ne,ob,mA,n,r,q⟩:=(show qJ P w H h a (.ins C dx fs) from hok a _ e)
 exact⟨mA,⟨ob,n,ne⟩,r,q,z,d⟩
end
structure Km (K:W.Frag) (C:Addr):Prop where
 pg:W.plainGet K C Str.empty=true
 hd:W.hasDictIn K C=true
 po:W.plainOver K C=true
 sa:W.findIn K (.ref C) "__setattr__" = some (some (.builtin "object.__setattr__"))
def Km.get{K:W.Frag}{C:Addr}(c:Km K C) (f:Str):W.plainGet K C f=true:=c.pg
def nZ(K:W.Frag) (C:Addr) (f:Str):Prop:=W.findIn K (.ref C) f=some none
def nZ.taker{K:W.Frag}{C:Addr}{f:Str}(n:nZ K C f):W.takerIn K C f=some none:=by
 unfold W.takerIn;rw[show W.findIn K (.ref C) f=some none from n]
 rfl
structure EO (K:W.Frag) (C:Addr) (m:Str) (f:Addr):Prop where
 at_:W.findIn K (.ref C) m=some (some (.ref f))
 fn:W.isFn K (.ref f)=true
 kp:W.keepIn K (.ref f)=true
section
variable {X:Cx}{mZ:List (Addr×Obj)}{σ:St}{H:Hp}{s:iM}{a C dx:Addr}{fs:List (Str×V)}{f:Str}{v:V}{A:Around}{E:Value->iM->Prop}
def La{b:Bool}{Q:Value->iM->Prop}(I:Inv X mZ σ H s) (e:H a=some (.ins C dx fs)) (c:Km X.K C) (n:nZ X.K C f) (l:fs.lookup f=some v)
  (h:∀u s',Inv X mZ σ H s'->qb v u->Q u s'):iS (iQ X.prog X.w) A (lZ (.ref a) f b) Q E s:=by
 obtain⟨mA,O,r,_,_,_⟩:=Ip I.hok e;obtain⟨u,hu,ru⟩:=Ag.some_of (v:=v) (o:=mA f) (by rw[←l];exact r f)
 exact VQ I.kIn O (c.get f) c.hd n hu (PY ru) (h u _ (I.tok _) ru)
def BG{m:Str}{g:Addr}{pl:Sem Bool}{Q:Value×List Value->iM->Prop}(I:Inv X mZ σ H s) (e:H a=some (.ins C dx fs)) (c:Km X.K C) (k:EO X.K C m g) (l:fs.lookup m=none)
  (h:Q (.ref g,[.ref a]) s):iS (iQ X.prog X.w) A (jN (.ref a) m pl) Q E s:=by
 obtain⟨mA,O,r,_,_,_⟩:=Ip I.hok e;have hn:mA m=none:=Ag.none_of (by rw[←l];exact r m)
 exact Tj I.kIn O (c.get m) k.at_ k.fn hn h
def Mm{y:V}{u:Value}{Q:Unit->iM->Prop}(I:Inv X mZ σ H s) (e:H a=some (.ins C dx fs)) (c:Km X.K C) (n:nZ X.K C f) (hl:fs.length<1000) (ry:qb y u)
  (h:∀s',Inv X mZ σ (pY H a (.ins C dx (xu f y fs))) s'->Q () s'):iS (iQ X.prog X.w) A (setAttr (.ref a) f u) Q E s:=by
 obtain⟨mA,O,r,wi,_,ho⟩:=Ip I.hok e;have hz:(fs.map (·.1)).length<=iX:=by rw[lMq,jj];lia
 refine Vx I.kIn O c.sa c.po n.taker c.hd wi hz λh' O' sb=>h _ ?_
 have hd:∃o,h'.get? dx=some o:=let ⟨o,_,_,e',_⟩:=O'.ns;⟨o,e'⟩
 refine I.write (x:=a) (e:=dx) (by rw[e];exact True.intro) (.inr ho) (λb q hb z=>(sb.2 b hb).trans z) hd ?_
 refine⟨by rw[nT O.ne];exact ho,?_,O.ne,O'.obj,_,O'.ns,λg=>?_,λg hg=>?_⟩
 .have:=DZ f y fs;lia
 .show Ag ((xu f y fs).lookup g) (if g=f then some u else mA g)
  rw[D9]
  by_cases q:g=f
  .rw [oJ q,oJ q];exact ry
  .rw [oO q,oO q];exact r g
 .by_cases q:g=f
  .rw [q];exact(DQ f y fs).1
  .refine (DQ f y fs).2 g (wi g λz=>hg ?_)
   show (if g=f then some u else mA g)=none
   rw[oO q];exact z
def Inv.made(I:Inv X mZ σ H s):Inv X mZ σ (pY (pY H s.heap.objs.size (.own (s.heap.objs.size+1))) (s.heap.objs.size+1) (.ins C s.heap.objs.size []))
  { s with heap:=(s.heap.push W.emptyDict).push (W.instObj C s.heap.objs.size) }:=by
 have e1:(s.heap.push W.emptyDict).get? s.heap.objs.size=some W.emptyDict:=bb s.heap rfl;have e2:((s.heap.push W.emptyDict).push (W.instObj C s.heap.objs.size)).get? (s.heap.objs.size+1)=some (W.instObj C s.heap.objs.size):=by
  have:=bb (s.heap.push W.emptyDict) (o:=W.instObj C s.heap.objs.size) rfl
  rwa [eA]at this
 have e3:(s.heap.push W.emptyDict).Ns s.heap.objs.size (λ_=>none):=⟨W.emptyDict,#[],_,e1,rfl,(λe he=>absurd he (by simp)),λ_=>rfl⟩
 have I1:=I.laid (a:=s.heap.objs.size) (o:=.own (s.heap.objs.size+1)) (h':=s.heap.push W.emptyDict) (t':=s.toks) (λb u q=>ae _ q) (af _) ⟨_,e1⟩
 refine I1.laid (a:=s.heap.objs.size+1) (o:=.ins C s.heap.objs.size []) (t':=s.toks) (λb u q=>ae _ q) (ef (eA _ _)) ?_
 have ne:s.heap.objs.size≠s.heap.objs.size+1:=aF (dh _);refine⟨by rw[nT ne,og],aV _,ne,e2,λ_=>none,(Heap.Ns1.of_empty e3).at λo q=>ae _ q,λ_=>True.intro,λy hy=>absurd rfl hy⟩
def N3{prog:iW}{w:iZ}{env:Env}{e:Expr}{f:Str}{pos:Pos}{s:iM}{Q:Value->iM->Prop}(hb:jY e f env (eval e env)=eval e env)
  (h:iS (iQ prog w) A (eval e env) (λo s₁=>iS (iQ prog w) A (lZ o f true) Q E s₁) E s):iS (iQ prog w) A (eval (.Attribute e f pos) env) Q E s :=
 Attribute_any_ h (by rw[arm_eval_Attribute,hb])
end
def ab0(K:W.Frag) (ta:TE) (f:Str):TE:=λσ H Q=>ta σ H λx H1=>∃a C dx fs v,x = .ref a/\H1 a=some (.ins C dx fs)/\Km K C/\nZ K C f/\fs.lookup f=some v/\Q v H1
def QR(K:W.Frag) (ta tv:TE) (f:Str):TS:=λD σ H=>tv σ H λy H1=>ta σ H1 λx H2=>∃a C dx fs,x = .ref a/\H2 a=some (.ins C dx fs)/\Km K C/\nZ K C f/\fs.length<1000 /\
 D.nx σ (pY H2 a (.ins C dx (xu f y fs)))
section
variable {X:Cx}{o e value:Expr}{f:Str}{pos pos' tpos:Pos}{ta tv:TE}
def Ap(he:PE X e ta) (hb:jY e f X.env (eval e X.env)=eval e X.env):PE X (.Attribute e f pos) (ab0 X.K ta f):=by
 intro mZ s σ H Q I h;refine N3 hb (rL (he mZ s σ H _ I h) λu s1 ⟨x,H1,I1,rx,a,C,dx,fs,v,ex,ea,c,n,l,q⟩=>?_)
 subst ex;obtain rfl:u=ai a:=rx;exact La I1 ea c n l λu' s2 I2 ru=>⟨v,H1,I2,ru,q⟩
def BM(ha:PE X o ta) (hv:PE X value tv) (hs:kg value (some (.Attribute o f pos')) pos.line X.env=pure false):PS X (.Assign [.Attribute o f pos'] value pos) (QR X.K ta tv f):=by
 intro mZ s σ H D I h;refine km (rL (hv mZ s σ H _ I h) λu s1 ⟨y,H1,I1,ry,q⟩=>rL (ha mZ s1 σ H1 _ I1 q) λov s2 ⟨x,H2,I2,rx,a,C,dx,fs,ex,ea,c,n,l,q2⟩=>?_) hs
 subst ex;obtain rfl:ov=ai a:=rx;exact Mm I2 ea c n l ry λs3 I3=>⟨σ,_,I3,q2⟩
end
structure si (k:Nat) (A:Around):Prop where
 hd:A.handled=none
 dp:A.depth+3*k+5<ku
 un:A.units+16*k+200<jB
def si.mono{j k:Nat}{A:Around}(r:si k A) (h:j<=k):si j A:=⟨r.hd,by have:=r.dp;lia,by have:=r.un;lia⟩
theorem si.deeper{k:Nat}{A:Around}(r:si (k+1) A) (env:Env):si k (A.deeper env) :=
 ⟨r.hd,by have:=r.dp;show A.depth+1+3*k+5<_;lia,by have:=r.un;show A.units+3+16*k+200<_;lia⟩
def Lb{A:Around}{C:Addr}{us:List Value}{kw:List (Str×Value)}:(A.under (.builtin "type.__call__" ⟨.ref C::us,kw⟩)).depth=A.depth+1:=by
 first|rfl|simp[Around.under,Code.weight,Code.isCreation,Code.isGuard,Code.isCaller,Code.frames,Code.isFrame,guardIds]
def Lz{A:Around}{C:Addr}{us:List Value}{kw:List (Str×Value)}:(A.under (.builtin "type.__call__" ⟨.ref C::us,kw⟩)).units=A.units+1:=by
 first|rfl|simp[Around.under,Code.cUnits,Code.frames,Code.isFrame]
def si.make{k:Nat}{A:Around}(r:si (k+1) A) (C:Addr) (us:List Value) (kw:List (Str×Value)):si k (A.under (.builtin "type.__call__" ⟨.ref C::us,kw⟩)) :=
 ⟨r.hd,by have:=r.dp;rw[Lb];lia,by have:=r.un;rw[Lz];lia⟩
theorem si.depth{k:Nat}{A:Around}(r:si k A):A.depth<ku:=by have:=r.dp;lia
theorem si.units{k:Nat}{A:Around}(r:si k A):A.units+64<jB:=by have:=r.un;lia
def vL:TA:=λ_ H Q=>Q [] H
noncomputable def tM(ta:TE) (tr:TA):TA:=λσ H Q=>ta σ H λx H1=>tr σ H1 λxs H2=>Q (x::xs) H2
section
variable {X:Cx}{e:Expr}{es:List Expr}{te:TE}{t:TA}{pos:Pos}
def nh:PA X [] vL:=λ_ _ _ _ H Q I h=>Calls.spliced_nil ⟨[],H,I,.nil,h⟩
def mY(ha:PE X e te) (hr:PA X es t) (hs:iY (e::es) X.env=(false,eval e X.env)::iY es X.env:=by rfl):PA X (e::es) (tM te t):=by
 intro pos mZ s σ H Q I h;rw[hs];show iS _ _ (spliced ((false,eval e X.env)::jl pos (iY es X.env))) _ _ s;refine Calls.spliced_cons (rL (ha mZ s σ H _ I h) λu s1 ⟨x,H1,I1,r1,q1⟩=>?_)
 exact rL (hr pos mZ s1 σ H1 _ I1 q1) λus s2 ⟨xs,H2,I2,r2,q2⟩=>⟨x::xs,H2,I2,.cons r1 r2,q2⟩
def abf(t:TA):TE:=λσ H Q=>t σ H λxs H1=>xs.length<=iX/\∀p,H1 p=none->Q (.ref p) (pY H1 p (.tup xs))
def Qz(t:TA):TE:=λσ H Q=>t σ H λxs H1=>xs.length<=iX/\∀p,H1 p=none->Q (.ref p) (pY H1 p (.lst xs))
def vD{x1} (h:PA X es t):PE X (.Tuple es x1 pos) (abf t):=by
 intro mZ s σ H Q I hq;refine wpAny_Tuple_spliced (rL (h pos mZ s σ H _ I hq) λus s1 ⟨xs,H1,I1,r,z,q⟩=>⟨by rw[←r.length];exact z,?_⟩)
 have hf:H1 s1.heap.objs.size=none:=I1.hok.fresh (af _);refine⟨.ref s1.heap.objs.size,pY H1 s1.heap.objs.size (.tup xs),I1.laid (t':=s1.toks) (λb u e=>ae _ e) (af _) ?_,rfl,q _ hf⟩
 exact⟨z,us,r,⟨_,bb _ rfl,rfl,_,rfl⟩⟩
def oB(h:PA X es t):PE X (.List es pos) (Qz t):=by
 intro mZ s σ H Q I hq;refine wpAny_List_spliced (rL (h pos mZ s σ H _ I hq) λus s1 ⟨xs,H1,I1,r,z,q⟩=>⟨by rw[←r.length];exact z,?_⟩)
 have hf:H1 s1.heap.objs.size=none:=I1.hok.fresh (af _);refine⟨.ref s1.heap.objs.size,pY H1 s1.heap.objs.size (.lst xs),I1.laid (t':=s1.toks) (λb u e=>ae _ e) (af _) ?_,rfl,q _ hf⟩
 exact⟨z,us,0,r,bb _ rfl⟩
end
abbrev Sp:=List V->Hp->VK->XK->Prop
abbrev KR:=List Env->Hp->iM->XK->Value->iM->Prop
structure Ir (P:iW) (w:iZ) (K:W.Frag) (mg:Str->Option Value) (base:Heap) (A:Around) (outer:List Env) (s:iM) (H:Hp):Prop where
 frames:A.frames=some outer
 mod:Mod K mg base
 bs:∀b o,base.get? b=some o->s.heap.get? b=some o/\H b=none
 bsz:base.objs.size<=s.heap.objs.size
 funs:s.heap.FunFrames base outer
 frf:∀b∈Ld outer,H b=none
 hok:Aj P w H s.heap
 bare:jV s.gens
def CE(outer:List Env) (P:iW) (w:iZ) (H:Hp) (s:iM) (Q:VK) (u:Value) (s':iM):Prop :=
 ∃v H',s'.os=s.os/\jV s'.gens/\Un (Ld outer) [] H H' s.heap s'.heap/\Aj P w H' s'.heap/\qb v u/\Q v H'
def CR(CX:KR) (outer:List Env) (P:iW) (w:iZ) (H:Hp) (s:iM) (Q:VK) (E:XK) (r:Result) (s':iM):Prop :=
 match r with
 | .ok (.ret u)=>CE outer P w H s Q u s'
 | .ok _=>False
 | .error e=>CX outer H s E e s'
structure wX (P:iW) (w:iZ) (K:W.Frag) (mg:Str->Option Value) (base:Heap) (CX:KR) (k:Nat) (f:Addr) (fd:jb) (ps:List Str) (sp:Sp):Prop where
 len:∀vs H Q E,sp vs H Q E->vs.length=ps.length
 run:∀(A:Around) (outer:List Env) (s:iM) (H:Hp) (args:Args) (us:List Value) (vs:List V) (Q:VK) (E:XK),si k A->Ir P w K mg base A outer s H->kN s fd args (ps.zip us)->oV vs us->sp vs H Q E ->
  jT (iQ P w) A (.call (.ref f) args) (CR CX outer P w H s Q E) s
def wX.imp{P:iW}{w:iZ}{K:W.Frag}{mg:Str->Option Value}{base:Heap}{CX:KR}{k:Nat}{f:Addr}{fd:jb}{ps:List Str}{sp sp':Sp}(F:wX P w K mg base CX k f fd ps sp)
  (h:∀vs H Q E,sp' vs H Q E->sp vs H Q E):wX P w K mg base CX k f fd ps sp' :=
 ⟨λvs H Q E q=>F.len vs H Q E (h _ _ _ _ q),λA outer s H args us vs Q E hr he hb hv hs=>F.run A outer s H args us vs Q E hr he hb hv (h _ _ _ _ hs)⟩
def Ir.make{P:iW}{w:iZ}{K:W.Frag}{mg:Str->Option Value}{base:Heap}{A:Around}{outer:List Env}{s:iM}{H:Hp}(e:Ir P w K mg base A outer s H) (C:Addr) (us:List Value) (kw:List (Str×Value)) :
  Ir P w K mg base (A.under (.builtin "type.__call__" ⟨.ref C::us,kw⟩)) outer s H:=⟨by first|exact e.frames|(simpa [Around.under,Code.envs,Code.isFrame,pushEnvs] using e.frames),e.mod,e.bs,e.bsz,e.funs,e.frf,e.hok,e.bare⟩
section
variable {X:Cx}{mZ:List (Addr×Obj)}{σ:St}{H:Hp}{s s':iM}
def Inv.env0(I:Inv X mZ σ H s):Ir X.prog X.w X.K X.mg X.base X.A X.stack s H :=
 ⟨I.ok.frames,I.ok.mod,I.bs,bB I.ok.bsz I.sz,I.stack,I.stkFree,I.hok,I.bare⟩
def Inv.after{Q:VK}{u:Value}(I:Inv X mZ σ H s) (h:CE X.stack X.prog X.w H s Q u s'):EP X mZ σ Q u s':=by
 obtain⟨v,H',os,bare,un,hok,r,q⟩:=h;obtain⟨hh,g,d,t,os'⟩:=s';obtain rfl:os'=s.os:=os;exact⟨v,H',I.call (h':=hh) (g':=g) (d':=d) (t':=t) (ch:=[]) un hok bare (λb z=>absurd z (by simp)),r,q⟩
end
def wk(sp:Sp) (dvs:List V) (E:XK) (t:TA):TE:=λσ H Q=>t σ H λvs H1=>sp (vs++dvs) H1 Q E
def XA(C:Addr) (m:Str) (sp:Sp) (dvs:List V) (E:XK) (ta:TE) (t:TA):TE:=λσ H Q=>ta σ H λx H1=>∃a dx fs,x = .ref a/\H1 a=some (.ins C dx fs)/\fs.lookup m=none /\
 t σ H1 λvs H2=>sp (x::(vs++dvs)) H2 Q E
def Sb(C:Addr) (sp:Sp) (dvs:List V) (E:XK) (t:TA):TE:=λσ H Q=>t σ H λvs H1=>∀x dx,H1 x=none->H1 dx=none->dx≠x ->
 sp (.ref x::(vs++dvs)) (pY (pY H1 dx (.own x)) x (.ins C dx [])) (λv H2=>v = .non/\Q (.ref x) H2) E
def qI(K:W.Frag) (fd:jb) (ps:List Str) (ds:List Value):Prop :=
 ∀(s:iM) (us:List Value),K.In s.heap->(us++ds).length=ps.length->kN s fd ⟨us,[]⟩ (ps.zip (us++ds))
def qI.all{K:W.Frag}{fd:jb}{ps:List Str}(h:∀us:List Value,us.length=ps.length->bindArgs fd ⟨us,[]⟩=pure (ps.zip us)):qI K fd ps []:=λs us _ hl=>by
 rw[aNq]at hl ⊢;exact .of_eq (h us hl)
def wA(CX:KR) (X:Cx) (E:XK):Prop:=∀(mZ:List (Addr×Obj)) (σ:St) (H:Hp) (s:iM) (e:Value) (s':iM),Inv X mZ σ H s->CX X.stack H s E e s'->X.xe e s'
section
variable {X:Cx}{CX:KR}{k:Nat}{f C:Addr}{fd:jb}{ps:List Str}{sp:Sp}{dvs:List V}{ds:List Value}{E:XK}{x m:Str}{p pos apos:Pos}{e o:Expr}{es:List Expr}{ta:TE}{t:TA}
def MB{mZ:List (Addr×Obj)}{σ:St}{H:Hp}{s:iM}{Q:VK}{us:List Value}{vs:List V}(F:wX X.prog X.w X.K X.mg X.base CX k f fd ps sp) (hr:si k X.A) (hb:qI X.K fd ps ds) (hd:oV dvs ds) (hx:wA CX X E)
  (I:Inv X mZ σ H s) (r:oV vs us) (h:sp (vs++dvs) H Q E):iS (iQ X.prog X.w) X.A (call (.ref f) us) (EP X mZ σ Q) X.xe s:=by
 have r2:oV (vs++dvs) (us++ds):=r.append hd;have hl:(us++ds).length=ps.length:=by rw[←r2.length];exact F.len _ _ _ _ h
 refine jG (jL (F.run X.A X.stack s H ⟨us,[]⟩ (us++ds) (vs++dvs) Q E hr I.env0 (hb s us I.kIn hl) r2 h) λr s' hq=>?_)
 cases r with
 |error e=>exact hx mZ σ H s e s' I hq
 |ok fl =>
  cases fl with
  |ret u=>exact I.after hq
  |next=>exact False.elim hq
  |brk=>exact False.elim hq
  |cont=>exact False.elim hq
def ND(F:wX X.prog X.w X.K X.mg X.base CX k f fd ps sp) (hr:si k X.A) (hg:Gl X x) (hm:X.mg x=some (.ref f)) (hk:W.keepIn X.K (.ref f)=true) (hb:qI X.K fd ps ds) (hd:oV dvs ds) (hx:wA CX X E)
  (ha:PA X (e::es) t) (hdb:(x == ("__debug__" : Str))=false:=by decide) (he:iY (e::es) X.env=(false,eval e X.env)::iY es X.env:=by rfl) (hpl:(jl pos (iY es X.env)).any (·.1)=false:=by rfl) :
  PE X (.Call (.Name x p) (e::es) [] pos) (wk sp dvs E t):=by
 intro mZ s σ H Q I h;refine jo (xV I hg hm ?_ hdb);refine W.callWith_K (h₀:=X.base) I.ok.mod.kin hk (rL (ha pos mZ s σ H _ I h) λus s1 ⟨vs,H1,I1,r,q⟩=>⟨I1.kIn,?_⟩) he hpl
 exact MB F hr hb hd hx I1 r q
def Wo{pl:Sem Bool}(he:PE X o ta) (c:Km X.K C) (hm:EO X.K C m f) (F:wX X.prog X.w X.K X.mg X.base CX k f fd ps sp) (hr:si k X.A) (hb:qI X.K fd ps ds) (hd:oV dvs ds) (hx:wA CX X E) (ha:PA X (e::es) t)
  (hst:iY (e::es) X.env=(false,eval e X.env)::iY es X.env:=by rfl) (hpl:(jl pos (iY es X.env)).any (·.1)=false:=by rfl)
  (ht:eval (.Call (.Attribute o m apos) (e::es) [] pos) X.env=(do
   let ov ←eval o X.env
   ki apos.atName
   let (f,first) ←kj [ov] (jN ov m pl)
   kx pos f first (jl pos (iY (e::es) X.env)) (kf pos (jK [] X.env))):=by rfl) :
  PE X (.Call (.Attribute o m apos) (e::es) [] pos) (XA C m sp dvs E ta t):=by
 intro mZ s σ H Q I h;refine W.methodCall_KW (pl:=pl) (rL (he mZ s σ H _ I h) λu s1 ⟨x,H1,I1,rx,a,dx,fs,ex,ea,l,q⟩=>?_) ht
 subst ex;obtain rfl:u=ai a:=rx;refine BG I1 ea c hm l ?_;refine W.callWith_K (first:=[.ref a]) (h₀:=X.base) I.ok.mod.kin hm.kp (rL (ha pos mZ s1 σ H1 _ I1 q) λus s2 ⟨vs,H2,I2,r,q2⟩=>⟨I2.kIn,?_⟩) hst hpl
 exact MB (us:=.ref a::us) (vs:=.ref a::vs) F hr hb hd hx I2 (.cons rfl r) q2
def Ro{pl:Sem Bool}(he:PE X o ta) (c:Km X.K C) (hm:EO X.K C m f) (F:wX X.prog X.w X.K X.mg X.base CX k f fd ps sp) (hr:si k X.A) (hb:qI X.K fd ps ds) (hd:oV dvs ds) (hx:wA CX X E)
  (ht:eval (.Call (.Attribute o m apos) [] [] pos) X.env=(do
   let ov ←eval o X.env
   ki apos.atName
   let (f,first) ←kj [ov] (jN ov m pl)
   kx pos f first (jl pos (iY [] X.env)) (kf pos (jK [] X.env))):=by rfl) :
  PE X (.Call (.Attribute o m apos) [] [] pos) (XA C m sp dvs E ta vL):=by
 intro mZ s σ H Q I h;refine W.methodCall_KW (pl:=pl) (rL (he mZ s σ H _ I h) λu s1 ⟨x,H1,I1,rx,a,dx,fs,ex,ea,l,q⟩=>?_) ht
 subst ex;obtain rfl:u=ai a:=rx;refine BG I1 ea c hm l ?_;exact W.callWith_K0 (first:=[.ref a]) I1.kIn hm.kp (MB (us:=[.ref a]) (vs:=[.ref a]) F hr hb hd hx I1 (.cons rfl .nil) q)
structure Mk (K:W.Frag) (C f:Addr):Prop where
 makes:W.makesIn K C=true
 init:W.findIn K (.ref C) "__init__" = some (some (.ref f))
 fn:W.isFn K (.ref f)=true
 kp:W.keepIn K (.ref C)=true
def Ud{mZ:List (Addr×Obj)}{σ:St}{H:Hp}{s:iM}{Q:VK}{us:List Value}{vs:List V}(M:Mk X.K C f) (F:wX X.prog X.w X.K X.mg X.base CX k f fd ps sp) (hr:si (k+1) X.A) (hb:qI X.K fd ps ds) (hd:oV dvs ds)
  (hx:wA CX X E) (I:Inv X mZ σ H s) (r:oV vs us)
  (h:∀x dx,H x=none->H dx=none->dx≠x->sp (.ref x::(vs++dvs)) (pY (pY H dx (.own x)) x (.ins C dx [])) (λv H2=>v = .non/\Q (.ref x) H2) E) :
  iS (iQ X.prog X.w) X.A (call (.ref C) us) (EP X mZ σ Q) X.xe s:=by
 have hq:=h (s.heap.objs.size+1) s.heap.objs.size (I.hok.fresh (bR _)) (I.hok.fresh (af _)) (aF (dh _));have I2:=Inv.made (C:=C) I;have r2:oV (V.ref (s.heap.objs.size+1)::(vs++dvs)) (ai (s.heap.objs.size+1)::(us++ds)):=.cons rfl (r.append hd);have hl:(ai (s.heap.objs.size+1)::us++ds).length=ps.length:=by
  have e:=r2.length;rw[F.len _ _ _ _ hq]at e;exact e.symm
 refine jG (QW (f:=f) I.kIn M.makes M.init (beq_iff_eq.mp M.fn) (jL (F.run _ X.stack _ _ ⟨ai (s.heap.objs.size+1)::us,[]⟩ (ai (s.heap.objs.size+1)::(us++ds)) _ _ E (hr.make C us [])
  (I2.env0.make C us []) (hb _ (ai (s.heap.objs.size+1)::us) I2.kIn hl) r2 hq) λr s' hq'=>?_))
 cases r with
 |error e=>exact hx mZ σ _ _ e s' I2 hq'
 |ok fl =>
  cases fl with
  |ret u =>
   obtain⟨v,H',I3,rv,ev,q3⟩:=I2.after hq';subst ev;exact⟨rv,⟨V.ref (s.heap.objs.size+1),H',I3,rfl,q3⟩⟩
  |next=>exact False.elim hq'
  |brk=>exact False.elim hq'
  |cont=>exact False.elim hq'
def V9(M:Mk X.K C f) (F:wX X.prog X.w X.K X.mg X.base CX k f fd ps sp) (hr:si (k+1) X.A) (hg:Gl X x) (hm:X.mg x=some (.ref C)) (hb:qI X.K fd ps ds) (hd:oV dvs ds) (hx:wA CX X E)
  (ha:PA X (e::es) t) (hdb:(x == ("__debug__" : Str))=false:=by decide) (he:iY (e::es) X.env=(false,eval e X.env)::iY es X.env:=by rfl) (hpl:(jl pos (iY es X.env)).any (·.1)=false:=by rfl) :
  PE X (.Call (.Name x p) (e::es) [] pos) (Sb C sp dvs E t):=by
 intro mZ s σ H Q I h;refine jo (xV I hg hm ?_ hdb);refine W.callWith_K (h₀:=X.base) I.ok.mod.kin M.kp (rL (ha pos mZ s σ H _ I h) λus s1 ⟨vs,H1,I1,r,q⟩=>⟨I1.kIn,?_⟩) he hpl
 exact Ud M F hr hb hd hx I1 r q
end
structure oa (N P:List Str) (sc:jJ):Prop where
 kind:sc.kind = .function
 co:sc.isCoroutine=false
 gen:sc.isGenerator=false
 nd:N.Nodup
 pre:N.take P.length=P
 par:∀x∈P,sc.names.lookup x=some .local∨sc.names.lookup x=some .cell
 nofree:∀y∈sc.names,y.2 ≠ .free
theorem G4{kindOf:Str->Option NameKind}{x:Str}:∀{binds:List (Str×Value)}{m:Str->Option Value},(∀v,(x,v)∉binds)->kY kindOf binds m x=m x
 | [],_,_=>rfl
 | (n,v)::r,m,h=>by
  unfold kY;rw[G4 λw hw=>h w (mCo _ hw)]
  split
  .have:x≠n:=by rintro rfl;exact h v bo
   simp[this]
  .rfl
theorem Ho{kindOf:Str->Option NameKind}{x:Str}:∀{binds:List (Str×Value)}{m:Str->Option Value},(∀v,(x,v)∉binds)->kZ kindOf binds m x=m x
 | [],_,_=>rfl
 | (n,v)::r,m,h=>by
  unfold kZ;rw[Ho λw hw=>h w (mCo _ hw)]
  split
  .rfl
  .have:x≠n:=by rintro rfl;exact h v bo
   simp[this]
theorem DA{kindOf:Str->Option NameKind}{x:Str}{v:Value}:∀{P:List Str}{vs:List Value}{i:Nat}{m:Str->Option Value},P.Nodup->P[i]?=some x->vs[i]?=some v->kindOf x=some .local ->
  kY kindOf (P.zip vs) m x=some v
 | [],_,_,_,_,h,_,_=>by simp at h
 |_::_,[],_,_,_,_,h,_=>by simp at h
 |p::P,w::vs,0,m,nd,h1,h2,hk=>by
  simp at h1 h2;subst h1;subst h2;show kY kindOf ((p,w)::P.zip vs) m p=_;unfold kY;rw[G4 λv hv=>(aK.mp nd).1 (eT hv).1,oJ hk]
  simp
 |p::P,w::vs,i+1,m,nd,h1,h2,hk=>by
  show kY kindOf ((p,w)::P.zip vs) m x=_;unfold kY;exact DA (i:=i) (aK.mp nd).2 (by simpa using h1) (by simpa using h2) hk
theorem DR{kindOf:Str->Option NameKind}{x:Str}{v:Value}:∀{P:List Str}{vs:List Value}{i:Nat}{m:Str->Option Value},P.Nodup->P[i]?=some x->vs[i]?=some v->kindOf x≠some .local ->
  kZ kindOf (P.zip vs) m x=some v
 | [],_,_,_,_,h,_,_=>by simp at h
 |_::_,[],_,_,_,_,h,_=>by simp at h
 |p::P,w::vs,0,m,nd,h1,h2,hk=>by
  simp at h1 h2;subst h1;subst h2;show kZ kindOf ((p,w)::P.zip vs) m p=_;unfold kZ;rw[Ho λv hv=>(aK.mp nd).1 (eT hv).1,oO hk]
  simp
 |p::P,w::vs,i+1,m,nd,h1,h2,hk=>by
  show kZ kindOf ((p,w)::P.zip vs) m x=_;unfold kZ;exact DR (i:=i) (aK.mp nd).2 (by simpa using h1) (by simpa using h2) hk
noncomputable def sZ(N:List Str) (vs:List V):St:=vs.map some++aD (N.length-vs.length) none
noncomputable def HM(CX:KR) (P:iW) (w:iZ) (K:W.Frag) (mg:Str->Option Value) (base:Heap) (N:List Str) (qual:Str) (scope:jJ) (f:Addr) (cd:Value) (A:Around) (outer:List Env) (s:iM) (H:Hp) (E:XK):Cx where
 prog:=P
 w:=w
 K:=K
 mg:=mg
 base:=base
 A:=A.deeper (jk qual scope s.heap.objs.size f cd)
 N:=N
 s₀:=s
 H₀:=H
 env:=jk qual scope s.heap.objs.size f cd
 outer:=outer
 stack:=jk qual scope s.heap.objs.size f cd::outer
 ex:=[]
 calm:=true
 fn:=λ_=>true
 pn:=[]
 xe:=λe s'=>iS (iQ P w) (A.deeper (jk qual scope s.heap.objs.size f cd)) (lY (jk qual scope s.heap.objs.size f cd) e) (λ_ s''=>CX outer H s E e s'') (λe' s''=>CX outer H s E e' s'') s'
def CQ{sc:jJ}{n:Nat}{x:Str}(h:sc.names.lookup x=some .cell):∃c,(kX n sc.names []).lookup x=some c:=by
 have q:=W.cellsFrom_some sc.names n [] (.inl h);exact Option.isSome_iff_exists.mp q
def Ot{CX:KR}{P:iW}{w:iZ}{K:W.Frag}{mg:Str->Option Value}{base:Heap}{N ps:List Str}{qual:Str}{scope:jJ}{f:Addr}{cd:Value}{A:Around}{outer:List Env}{s s1:iM}{H:Hp}{E:XK}{us:List Value}{vs:List V}
  (S:oa N ps scope) (hd:A.handled=none) (e0:Ir P w K mg base A outer s H) (hl:vs.length=ps.length) (r:oV vs us)
  (x:InCallC s s.heap.objs.size (kY (jk qual scope s.heap.objs.size f cd).kindOf (ps.zip us) λ_=>none) (kX (s.heap.objs.size+1) scope.names []) (kZ (jk qual scope s.heap.objs.size f cd).kindOf (ps.zip us) λ_=>none) s1) :
  Inv (HM CX P w K mg base N qual scope f cd A outer s H E) [] (sZ N vs) H s1:=by
 have hpl:ps.length<=N.length:=by have:=congrArg cu S.pre;rw[lTq]at this;lia
 obtain⟨h1,tk,rfl,hk⟩:=x.done;have noA:∀b:Addr,b∉(HM CX P w K mg base N qual scope f cd A outer s H E).ex:=λb z=>absurd (show b∈([]:List Addr) from z) (by simp)
 refine⟨⟨e0.mod,S.kind,rfl,rfl,af _,λy z c h1 h2=>?_,λy hy=>?_,λy c _ h=>?_,λ_=>hd,Around.frames_deeper e0.frames,.inr ⟨rfl,rfl⟩,λb z=>absurd z (noA b),e0.bs,e0.bsz,λb _ _=>noA b,λb z=>absurd z (noA b),e0.funs,e0.frf⟩,
  rfl,e0.bare,Un.kept hk,⟨_,x.toInCall.ns,λi y v h1 h2 h3=>?_⟩,λy c h=>⟨_,x.cell y c h⟩,e0.hok.fresh (af _),λy c h=>?_,λp hp=>absurd (show p∈([]:List (Addr×Obj)) from hp) (by simp),e0.hok.kept hk,?_⟩
 .exact name_of_addr x.apart (PySem.mem_of_lookup h1) (PySem.mem_of_lookup h2)
 .have hy:scope.names.lookup y=some .cell∨scope.names.lookup y=some .free:=hy;rcases hy with hy|hy
  .exact CQ hy
  .exact absurd rfl (S.nofree _ (PySem.mem_of_lookup hy))
 .exact bC (x.above y c (PySem.mem_of_lookup h))
 .have hi:i<vs.length:=by
   unfold sZ at h2
   by_cases hi:i<vs.length
   .exact hi
   .rw [gYq (by simpa using hi)]at h2
    rw[bD]at h2;split at h2 <;> cases h2
  have ha:vs[i]?=some v:=by
   unfold sZ at h2;rw[gZq (by simpa using hi),gMq]at h2
   cases e:vs[i]? with
   |none=>rw[e]at h2;cases h2
   |some a=>rw[e]at h2;cases h2;rfl
  obtain⟨u,hu,rv⟩:=r.get ha;have hp:ps[i]?=some y:=by
   rw[←S.pre,bw (by lia)];exact h1
  have ndP:ps.Nodup:=by rw[←S.pre];exact S.nd.sublist (aW _ _)
  refine⟨u,rv,?_⟩;rcases S.par y (mGq hp) with k|k
  .exact .inl ⟨k,DA ndP hp hu k⟩
  .obtain ⟨c,e⟩:=CQ (n:=s.heap.objs.size+1) k;refine .inr ⟨.inl k,c,e,?_⟩;have q:=x.cell y c e;rw[DR ndP hp hu (by show scope.names.lookup y≠_;rw[k];decide)]at q
   exact q
 .exact e0.hok.fresh (bC (x.above y c (PySem.mem_of_lookup h)))
 .unfold sZ;show _=N.length;rw[lAq,lMq,cL];lia
def Xf{CX:KR}{P:iW}{w:iZ}{K:W.Frag}{mg:Str->Option Value}{base:Heap}{k:Nat}{f:Addr}{name qual:Str}{params:Arguments}{body:List Stmt}{scope:jJ}{dV kV doc pm qK ct oc:Value}{an od:Option Addr}
  {osl:Array (Option Value)}{N ps:List Str}{sp:Sp}(lk:K.lookup f=some ⟨oc,od,.func (W.fnOf name qual params body scope dV kV doc pm an qK ct),osl⟩) (hcd:W.codeIn K qK qual=true) (S:oa N ps scope)
  (len:∀vs H Q E,sp vs H Q E->vs.length=ps.length)
  (hbody:∀(A:Around) (outer:List Env) (s:iM) (H:Hp) (vs:List V) (Q:VK) (E:XK),si k (A.deeper (jk qual scope s.heap.objs.size f qK))->sp vs H Q E ->
   ∃t,JI (HM CX P w K mg base N qual scope f qK A outer s H E) body t/\t { nx:=λ_ H'=>Q .non H',rt:=Q } (sZ N vs) H) :
  wX P w K mg base CX (k+1) f (W.fnOf name qual params body scope dV kV doc pm an qK ct) ps sp:=by
 refine⟨len,λA outer s H args us vs Q E hr e0 hb r hsp=>?_⟩
 have hl:=len _ _ _ _ hsp;have KX:K.In s.heap:=e0.mod.kin.keeps λb o e=>(e0.bs b o e).1
 have lim:s.heap.NoLimit:=e0.mod.nolimit.keeps λb o e=>(e0.bs b o e).1
 have hkind:∀y∈ps.zip us,scope.names.lookup y.1=some .local∨(scope.names.lookup y.1=some .cell/\((kX (s.heap.objs.size+1) scope.names []).lookup y.1).isSome=true):=λ⟨n,v⟩ hy=>by
  rcases S.par n (eT hy).1 with q|q
  .exact .inl q
  .exact .inr ⟨q,W.cellsFrom_some _ _ _ (.inl q)⟩
 refine lE hr.depth (KX _ _ lk) rfl S.co S.gen rfl (W.codeRec_of KX hcd) (hb _ _ _ _ ?_);refine kC S.kind hkind λenv he s1 x=>?_
 subst he;refine⟨lim.keeps x.toInCall.keep,codeAny_func ?_⟩;obtain⟨t,ht,hq⟩:=hbody A outer s H vs Q E (hr.deeper _) hsp;have I:Inv (HM CX P w K mg base N qual scope f qK A outer s H E) [] (sZ N vs) H s1:=Ot S hr.hd e0 hl r x;refine jg (ht [] s1 (sZ N vs) H _ I hq) (λfl s' hs=>?_) λe s' hs=>hs
 have fin:∀{σ':St}{H':Hp}{v:V}{u:Value},Inv (HM CX P w K mg base N qual scope f qK A outer s H E) [] σ' H' s'->qb v u->Q v H'->CE outer P w H s Q u s' :=
  λ{σ' H' v u} J rv q=>⟨v,H',J.os,J.bare,J.base,J.hok,rv,q⟩
 cases fl with
 |ret u =>
  obtain⟨v,σ',H',J,rv,q⟩:=hs;exact fin J rv q
 |next =>
  obtain⟨σ',H',J,q⟩:=hs;exact fin (v:=V.non) (u:=cP) J rfl q
 |brk =>
  obtain⟨_,_,_,q⟩:=hs;exact False.elim q
 |cont =>
  obtain⟨_,_,_,q⟩:=hs;exact False.elim q
section
variable {X:Cx}{x:Str}{p pos:Pos}{e:Expr}{es:List Expr}{t:TA}{id T:String}{r:List V->Hp->VK->Prop}
noncomputable def tCB(r:List V->Hp->VK->Prop) (t:TA):TE:=λσ H Q=>t σ H λvs H1=>r vs H1 Q
def ot(hc:tj X (.builtin id) r) (hg:Gl X x) (hm:X.mg x=none) (hv:jM x=some (.builtin id)) (ha:PA X (e::es) t) (hn:x ≠ "__name__" := by decide) (hdb:(x == ("__debug__" : Str))=false:=by decide)
  (he:iY (e::es) X.env=(false,eval e X.env)::iY es X.env:=by rfl) (hpl:(jl pos (iY es X.env)).any (·.1)=false:=by rfl):PE X (.Call (.Name x p) (e::es) [] pos) (tCB r t):=by
 intro mZ s σ H Q I h;refine jo (E8 I hg hm hv ?_ hn hdb);exact eQ (rL (ha pos mZ s σ H _ I h) λus s1 ⟨vs,H1,I1,r1,q1⟩=>hc mZ s1 σ H1 vs us Q I1 r1 q1) he hpl
def DG(hc:tj X (.type T) r) (hg:Gl X x) (hm:X.mg x=none) (hv:jM x=some (.type T)) (ha:PA X (e::es) t) (hn:x ≠ "__name__" := by decide) (hdb:(x == ("__debug__" : Str))=false:=by decide)
  (he:iY (e::es) X.env=(false,eval e X.env)::iY es X.env:=by rfl) (hpl:(jl pos (iY es X.env)).any (·.1)=false:=by rfl):PE X (.Call (.Name x p) (e::es) [] pos) (tCB r t):=by
 intro mZ s σ H Q I h;refine jo (E8 I hg hm hv ?_ hn hdb);exact dw (rL (ha pos mZ s σ H _ I h) λus s1 ⟨vs,H1,I1,r1,q1⟩=>hc mZ s1 σ H1 vs us Q I1 r1 q1) he hpl
end
end L2
namespace HT
open PySem PyProof.Rows
noncomputable def tR:List Int->List Int->Bool
 | [],[]=>false
 | [],_::_=>true
 |_::_,[]=>false
 |x::xs,y::ys=>if x=y then tR xs ys else decide (x<y)
def zI(x y:Int) (xs ys:List Int):tR (x::xs) (y::ys)=if x=y then tR xs ys else decide (x<y):=rfl
def Gu:tR [] []=false:=rfl
def FS(y:Int) (ys:List Int):tR [] (y::ys)=true:=rfl
def Fg(x:Int) (xs:List Int):tR (x::xs) []=false:=rfl
def Rh(A:Around) (s:iM) (a:Int) (t:Tok) (c:Int) (u:Tok):∃e,SeqAt.EqAt A s (.int a t) (.int c u) e/\(e=true↔a=c) :=
 ⟨(a == c),SeqAt.EqAt.int_int a t c u,by simp⟩
def Ru(A:Around) (s:iM) (a:Int) (t:Tok) (c:Int) (u:Tok) (prog:iW) (w:iZ) (E:Value->iM->Prop) (Q:Value->iM->Prop) (h:Q (.bool (decide (a<c))) s) :
  iS (iQ prog w) A (richCompare .Lt (.int a t) (.int c u)) Q E s :=
 (iK h:iS (iQ prog w) A (jv .Lt (.int a t) (.int c u)) Q E s)
section
open PySem.SeqAt
open PySem.AutoSeq1 (wpAny_loadPart')
open PySem.MeetsSeq PySem.MeetsSeq2 PySem.MeetsSeq3
end
section
variable {prog:iW}{w:iZ}{A:Around}{E:Value->iM->Prop}{s:iM}
noncomputable def G0(n d:Nat):Option Int->Nat
 |none=>d
 |some v=>if v<0 then (v+(n:Int)).toNat else min v.toNat n
def CO(n d:Nat):G0 n d none=d:=rfl
def Bf(n d k:Nat):G0 n d (some (k:Int))=min k n:=by
 show (if (k:Int)<0 then ((k:Int)+(n:Int)).toNat else min (k:Int).toNat n)=min k n
 rw[oO (by lia),bS]
end
end HT
namespace L2
open PySem PySem.Spec PyProof.Rows
abbrev TO:=St->Hp->(Option Int->Hp->Prop)->Prop
def PO(X:Cx) (e:Option Expr) (t:TO):Prop :=
 ∀(mZ:List (Addr×Obj)) (s:iM) (σ:St) (H:Hp) (Q:Option Int->Hp->Prop),Inv X mZ σ H s->t σ H Q ->
  iS (iQ X.prog X.w) X.A (evalPart e X.env) (λu s'=>∃o H',Inv X mZ σ H' s'/\IsPart u o/\Q o H') X.xe s
def NI:TO:=λ_ H Q=>Q none H
noncomputable def W8(t:TE):TO:=λσ H Q=>t σ H λx H1=>∃i,x = .int i/\Q (some i) H1
def B7{ns:List Int}:∀{us:List Value},oV (ns.map V.int) us->jz us ns:=by
 induction ns with
 |nil=>intro us r;rw[cQ]at r;cases r;exact .nil
 |cons n ns ih =>
  intro us r;rw[aw]at r;cases r with
  |cons r1 r2 =>
   obtain⟨t,e⟩:=r1;subst e;exact .cons n t (ih r2)
section
variable {X:Cx}{e:Expr}{te:TE}{lo hi:Option Expr}{tl th:TO}{pos p2:Pos}
def vn:PO X none NI:=by
 intro mZ s σ H Q I h;rw[evalPart_none];exact jd ⟨none,H,I,.none,h⟩
def uo(h:PE X e te):PO X (some e) (W8 te):=by
 intro mZ s σ H Q I hw;rw[evalPart_some];refine rL (h mZ s σ H _ I hw) λu s1 ⟨x,H1,I1,r1,q1⟩=>?_
 obtain⟨i,rfl,q⟩:=q1;obtain⟨t,rfl⟩:=r1;exact⟨some i,H1,I1,.int i t,q⟩
def SlR(X:Cx) (r:V->Option Int->Option Int->Hp->VK->Prop):Prop :=
 ∀(mZ:List (Addr×Obj)) (s:iM) (σ:St) (H:Hp) (x:V) (v vl vu:Value) (lo hi:Option Int) (sl:Addr) (Q:VK),Inv X mZ σ H s->qb x v->s.heap.IsSliceOf sl vl vu .none->IsPart vl lo->IsPart vu hi->r x lo hi H Q ->
  ∃T id,je (.type T) "__getitem__" = pure (some (.builtin id))/\s.TypeIs v T/\iS (iQ X.prog X.w) X.A (lH v (.ref sl)) (EP X mZ σ Q) X.xe s
def tSl(r:V->Option Int->Option Int->Hp->VK->Prop) (te:TE) (tl th:TO):TE:=λσ H Q=>te σ H λx H1=>tl σ H1 λl H2=>th σ H2 λu H3=>r x l u H3 Q
def sY{r:V->Option Int->Option Int->Hp->VK->Prop}(hr:SlR X r) (he:PE X e te) (hl:PO X lo tl) (hu:PO X hi th):PE X (.Subscript e (.Slice lo hi none p2) pos) (tSl r te tl th):=by
 intro mZ s σ H Q I h;refine Subscript_ (rL (he mZ s σ H _ I h) λv s1 ⟨x,H1,I1,r1,q1⟩=>?_)
 refine wpAny_Slice (rL (hl mZ s1 σ H1 _ I1 q1) λvl s2 ⟨l,H2,I2,pl,q2⟩=>rL (hu mZ s2 σ H2 _ I2 q2) λvu s3 ⟨u,H3,I3,pu,q3⟩=>?_)
 rw[evalPart_none];refine jd ?_;have I4:Inv X mZ σ H3 { s3 with heap:=s3.heap.push { cls:=.type "slice", data:=.fields #[vl,vu,.none] } }:=I3.kept (t':=s3.toks) λb ob q=>ae _ q
 obtain⟨T,id,hT,ht,hg⟩:=hr mZ { s3 with heap:=s3.heap.push { cls:=.type "slice", data:=.fields #[vl,vu,.none] } } σ H3 x v vl vu l u s3.heap.objs.size Q I4 r1 (Heap.IsSliceOf.new ..) pl pu q3
 show iS (iQ X.prog X.w) X.A (lT e (.Slice lo hi none p2) v (.ref s3.heap.objs.size)) (EP X mZ σ Q) X.xe { s3 with heap:=s3.heap.push { cls:=.type "slice", data:=.fields #[vl,vu,.none] } }
 exact tail_any (ops:=[.ref s3.heap.objs.size,v]) ht hT hg (by with_unfolding_all rfl)
def Mx(xs:List V) (lo hi:Option Int):List V:=(xs.drop (HT.G0 xs.length 0 lo)).take (HT.G0 xs.length xs.length hi-HT.G0 xs.length 0 lo)
def J2(xs:List V) (lo hi:Option Int):(Mx xs lo hi).length<=xs.length:=by
 unfold Mx;rw[lTq,au];lia
end
noncomputable def Hk(n:Nat) (i:Int):Option Nat:=if 0<=i then (if i<n then some i.toNat else none) else if -(n:Int)<=i then some (i+n).toNat else none
def atI{α:Type}(xs:List α) (i:Int):Option α:=(Hk xs.length i).bind λj=>xs[j]?
def Nc{n:Nat}{i:Int}{j:Nat}(h:Hk n i=some j):lX i n=some j/\j<n/\-(n:Int)<=i/\i<n:=by
 unfold Hk at h
 by_cases h0:0<=i
 .rw [oJ h0]at h
  by_cases h1:i<n
  .rw [oJ h1]at h;have e:i.toNat=j:=aS.inj h;exact⟨by rw[seqIndex_of h0 h1,e],by lia,by lia,h1⟩
  .rw [oO h1]at h;cases h
 .rw [oO h0]at h
  by_cases h1:-(n:Int)<=i
  .rw [oJ h1]at h;have e:(i+n).toNat=j:=aS.inj h;exact⟨by rw[seqIndex_neg (by lia) h1,e],by lia,h1,by lia⟩
  .rw [oO h1]at h;cases h
def NA{α:Type}{xs:List α}{i:Int}{v:α}(h:atI xs i=some v):∃j,lX i xs.length=some j/\xs[j]?=some v/\j<xs.length/\-(xs.length:Int)<=i/\i<xs.length:=by
 unfold atI at h;cases e:Hk xs.length i with
 |none=>rw[e]at h;cases h
 |some j =>
  rw[e]at h;obtain⟨h1,h2,h3,h4⟩:=Nc e;exact⟨j,h1,h,h2,h3,h4⟩
def zN{α:Type}{xs:List α}{j:Nat}{v:α}(h:xs[j]?=some v):atI xs (j:Int)=some v:=by
 have hj:j<xs.length:=(gSq.mp h).1;have e:Hk xs.length (j:Int)=some j:=by
  unfold Hk;rw[oJ (by lia),oJ (by lia)];simp
 unfold atI;rw[e];exact h
def Gh{α:Type}(xs:List α) (v:α):atI (xs++[v]) (-1)=some v:=by
 have hl:(xs++[v]).length=xs.length+1:=by simp
 have e:Hk (xs++[v]).length (-1)=some xs.length:=by
  unfold Hk;rw[hl,oO (by decide),oJ (by lia)]
  congr 1;lia
 unfold atI;rw[e];show (xs++[v])[xs.length]?=some v;simp
def V6(b:Expr):Prop:=∀o i,ly b false o i=operate [o,i] (lH o i)
def Vn(X:Cx) (r:R2):Prop :=
 ∀(value slice:Expr) (mZ:List (Addr×Obj)) (s:iM) (σ:St) (H:Hp) (x y:V) (v u:Value) (Q:VK),Inv X mZ σ H s->qb x v->qb y u->r x y H Q ->
  ly slice false v u=operate [v,u] (lH v u)->iS (iQ X.prog X.w) X.A (lT value slice v u) (EP X mZ σ Q) X.xe s
def MtR(X:Cx) (id:String) (r:V->List V->Hp->VK->Prop):Prop :=
 ∀(mZ:List (Addr×Obj)) (s:iM) (σ:St) (H:Hp) (x:V) (xs:List V) (v:Value) (us:List Value) (Q:VK),Inv X mZ σ H s->qb x v->oV xs us->r x xs H Q ->
  iS (iQ X.prog X.w) X.A (call (.builtin id) (v::us)) (EP X mZ σ Q) X.xe s
section
variable {X:Cx}{a b:Expr}{ta tb:TE}{pos:Pos}
def Vn.or{r r':R2}(h:Vn X r) (h':Vn X r'):Vn X (λx y H Q=>r x y H Q∨r' x y H Q):=by
 intro value slice mZ s σ H x y v u Q I rx ry q hs;rcases q with q|q
 .exact h value slice mZ s σ H x y v u Q I rx ry q hs
 .exact h' value slice mZ s σ H x y v u Q I rx ry q hs
def rF{r:R2}(hr:Vn X r) (ha:PE X a ta) (hb:PE X b tb) (hs:V6 b):PE X (.Subscript a b pos) (WW r ta tb):=by
 intro mZ s σ H Q I h;exact Subscript_ (YU ha hb I h λv u s2 x y H2 I2 rx ry q=>hr a b mZ s2 σ H2 x y v u Q I2 rx ry q (hs _ _))
def RV(K:W.Frag):R2:=λx y H Q=>∃p xs i v,x = .ref p/\y = .int i/\rR K H p xs/\atI xs i=some v/\Q v H
def Yv(K:W.Frag):R2:=λx y H Q=>∃p xs i v,x = .ref p/\y = .int i/\Gm K H p xs/\atI xs i=some v/\Q v H
def pI:Vn X (RV X.K):=by
 intro value slice mZ s σ H x y v u Q I rx ry h hs;obtain⟨p,xs,i,z,rfl,rfl,hq,he,q⟩:=h;cases rx;obtain⟨t,rfl⟩:=ry;obtain⟨its,r,pl,hz⟩:=I.list hq;obtain⟨j,h1,h2,h3,h4,h5⟩:=NA he;obtain⟨w,ew,rw'⟩:=r.get h2;have hl:=r.length;have hn:=Iv;have fin:EP X mZ σ Q w s:=⟨z,H,I,rw',q⟩
 by_cases h0:0<=i
 .have hj:i.toNat=j:=by
   rw[seqIndex_of h0 h5]at h1;exact aS.inj h1
  exact item_listR pl.isList h0 (by lia) (by rw[hj];simpa using ew) fin hs
 .have hj:(i+(its.toArray.size:Int)).toNat=j:=by
   rw[seqIndex_neg (by lia) h4]at h1
   rw[aq,←hl];exact aS.inj h1
  exact lj (x:=w) pl.isList.typeIs slot_list_getitem.lookup
   (wpAny_getItem_list_neg (Q:=λr s'=>r=w/\EP X mZ σ Q r s') pl.isList (by lia) (by rw[aq] <;> lia) (by lia) (by rw[hj];simpa using ew) ⟨rfl,fin⟩) hs
def RZ:Vn X (Yv X.K):=by
 intro value slice mZ s σ H x y v u Q I rx ry h hs;obtain⟨p,xs,i,z,rfl,rfl,hq,he,q⟩:=h;cases rx;obtain⟨t,rfl⟩:=ry;obtain⟨its,r,pl,hz⟩:=I.tuple hq;obtain⟨j,h1,h2,h3,h4,h5⟩:=NA he;obtain⟨w,ew,rw'⟩:=r.get h2;have hl:=r.length;have hn:=Iv;have fin:EP X mZ σ Q w s:=⟨z,H,I,rw',q⟩;exact lj (x:=w) pl.typeIs slot_tuple_getitem.lookup
  (getItem_tuple (j:=j) (Q:=λr s'=>r=w/\EP X mZ σ Q r s') pl (by lia) (by lia) (by rw[aq,←hl];exact h1) (by simpa using ew) ⟨rfl,fin⟩) hs
def HF(lo hi:Option Int) (n:Nat):(jR lo hi none n).1=((HT.G0 n 0 lo:Nat):Int)/\(jR lo hi none n).2.1=((HT.G0 n n hi:Nat):Int)/\(jR lo hi none n).2.2=1:=by
 refine⟨?_,?_,rfl⟩
 .cases lo with
  |none=>simp[jR,HT.G0]
  |some i =>
   simp only[jR,HT.G0,gT,show (1:Int)>0 by decide,if_true]
   by_cases h:i<0
   .simp only [h,if_true] <;> lia
   .simp only [h,if_false] <;> lia
 .cases hi with
  |none=>simp[jR,HT.G0]
  |some i =>
   simp only[jR,HT.G0,gT,show (1:Int)>0 by decide,if_true]
   by_cases h:i<0
   .simp only [h,if_true] <;> lia
   .simp only [h,if_false] <;> lia
def GB(its:List Value) (lo hi:Option Int):slicePick its.toArray lo hi none=((its.drop (HT.G0 its.length 0 lo)).take (HT.G0 its.length its.length hi-HT.G0 its.length 0 lo)).toArray:=by
 obtain⟨h1,h2,h3⟩:=HF lo hi its.toArray.size;unfold slicePick;rw[h1,h2,h3];simp only[sliceRange_one,pick_run,aq] <;> rfl
def abd(K:W.Frag):V->Option Int->Option Int->Hp->VK->Prop:=λx lo hi H Q=>∃a xs,x = .ref a/\rR K H a xs/\∀p,H p=none->Q (.ref p) (pY H p (.lst (Mx xs lo hi)))
def uD:SlR X (abd X.K):=by
 intro mZ s σ H x v vl vu lo hi sl Q I rx hs pl pu h;obtain⟨a,xs,rfl,hx,q⟩:=h;cases rx;obtain⟨its,r,ht,hz⟩:=I.list hx;have hlen:=r.length;refine⟨"list", _,slot_list_getitem.lookup,ht.isList.typeIs,?_⟩;refine wpAny_getItem_list_slice ht.isList hs pl pu .none (by simp) ?_ (by rw[aq] <;> lia)
 rw[GB,←hlen];refine⟨.ref s.heap.objs.size,_,I.laid (t':=s.toks) (o:=.lst (Mx xs lo hi)) (λb ob q=>ae _ q) (af _) ?_,rfl,q _ (I.hok.fresh (af _))⟩
 exact⟨bB (J2 xs lo hi) hz,_,0,(r.drop (HT.G0 xs.length 0 lo)).take (HT.G0 xs.length xs.length hi-HT.G0 xs.length 0 lo),bb _ rfl⟩
noncomputable def BC:V->Bool
 | .non=>true
 | .bl _=>true
 | .int _=>true
 | .str _=>true
 |_=>false
noncomputable def XQ:V->V->Bool
 | .non,.non=>true
 | .bl a,.bl b=>a == b
 | .bl a,.int b=>(if a then 1 else 0) == b
 | .int a,.bl b=>a == (if b then 1 else 0)
 | .int a,.int b=>a == b
 | .str a,.str b=>a == b
 |_,_=>false
def Y8{A:Around}{s:iM}{y x:V}{u v:Value}(ry:qb y u) (rx:qb x v) (fy:BC y=true) (fx:BC x=true):SeqAt.EqAt A s u v (XQ y x):=by
 cases y with
 |non =>
  cases ry;cases x with
  |non=>cases rx;exact SeqAt.EqAt.same _
  |bl b=>cases rx;exact SeqAt.EqAt.none_bool b
  |int b=>obtain⟨t,rfl⟩:=rx;exact SeqAt.EqAt.none_int b t
  |str b=>obtain⟨t,rfl⟩:=rx;exact SeqAt.EqAt.none_str b t
  |_=>exact absurd (show false=true from fx) ay
 |bl a =>
  cases ry;cases x with
  |non=>cases rx;exact SeqAt.EqAt.bool_none a
  |bl b=>cases rx;exact SeqAt.EqAt.bool_bool a b
  |int b=>obtain⟨t,rfl⟩:=rx;exact SeqAt.EqAt.bool_int a b t
  |str b=>obtain⟨t,rfl⟩:=rx;exact SeqAt.EqAt.bool_str a b t
  |_=>exact absurd (show false=true from fx) ay
 |int a =>
  obtain⟨t',rfl⟩:=ry;cases x with
  |non=>cases rx;exact SeqAt.EqAt.int_none a t'
  |bl b=>cases rx;exact SeqAt.EqAt.int_bool a t' b
  |int b=>obtain⟨t,rfl⟩:=rx;exact SeqAt.EqAt.int_int a t' b t
  |str b=>obtain⟨t,rfl⟩:=rx;exact SeqAt.EqAt.int_str a t' b t
  |_=>exact absurd (show false=true from fx) ay
 |str a =>
  obtain⟨t',rfl⟩:=ry;cases x with
  |non=>cases rx;exact SeqAt.EqAt.str_none a t'
  |bl b=>cases rx;exact SeqAt.EqAt.str_bool a t' b
  |int b=>obtain⟨t,rfl⟩:=rx;exact SeqAt.EqAt.str_int a t' b t
  |str b=>obtain⟨t,rfl⟩:=rx;exact SeqAt.EqAt.str_str a t' b t
  |_=>exact absurd (show false=true from fx) ay
 |_=>exact absurd (show false=true from fy) ay
def Li(x:V) (u:Value):Bool:=match u with
 | .none=>XQ .non x
 | .bool b=>XQ (.bl b) x
 | .int i _=>XQ (.int i) x
 | .str z _=>XQ (.str z) x
 |_=>false
def SU{x y:V}{u:Value}(r:qb y u) (f:BC y=true):Li x u=XQ y x:=by
 cases y with
 |non=>cases r;rfl
 |bl b=>cases r;rfl
 |int i=>obtain⟨t,rfl⟩:=r;rfl
 |str z=>obtain⟨t,rfl⟩:=r;rfl
 |_=>exact absurd (show false=true from f) ay
theorem CF{x:V}:∀{xs:List V}{us:List Value},oV xs us->xs.all BC=true->us.any (Li x)=xs.any λy=>XQ y x
 |_,_,.nil,_=>rfl
 |y::xs,u::us,.cons r t,f=>by
  rw[gw,cE]at f;rw[cU,cU,SU r f.1,CF t f.2]
theorem AE{A:Around}{s:iM}{x:V}{v:Value}(rx:qb x v) (fx:BC x=true):∀{xs:List V}{us:List Value},oV xs us->xs.all BC=true->∀u∈us,SeqAt.EqAt A s u v (Li x u)
 |_,_,.nil,_=>λu hu=>by cases hu
 |y::xs,u::us,.cons r t,f=>λu' hu=>by
  rw[gw,cE]at f;rcases ak.mp hu with rfl|hu
  .rw [SU r f.1];exact Y8 r rx f.1 fx
  .exact AE rx fx t f.2 u' hu
def inV(x:V) (xs:List V):Bool:=xs.any λy=>XQ y x
def rIn(K:W.Frag) (neg:Bool):R2:=λx y H Q=>∃p xs,y = .ref p/\(rR K H p xs∨Gm K H p xs)/\BC x=true/\xs.all BC=true/\Q (.bl (if neg then !inV x xs else inV x xs)) H
def Du:Gr X (jv .In) (rIn X.K false):=by
 intro mZ s σ H x y v u Q I rx ry h;obtain⟨p,xs,rfl,hq,fx,fs,q⟩:=h;cases ry;rcases hq with hq|hq
 .obtain ⟨its,r,pl,hz⟩:=I.list hq;refine SeqAt.in_listAt (Li x) pl.isList (λw hw=>AE rx fx r fs w (by simpa using hw)) ⟨.bl _,H,I,rfl,?_⟩
  rw[show its.toArray.any (Li x)=its.any (Li x) by simp,CF r fs]
  exact q
 .obtain ⟨its,r,pl,hz⟩:=I.tuple hq;refine SeqAt.in_tupleAt (Li x) pl (λw hw=>AE rx fx r fs w (by simpa using hw)) ⟨.bl _,H,I,rfl,?_⟩
  rw[show its.toArray.any (Li x)=its.any (Li x) by simp,CF r fs]
  exact q
def CB:Gr X (jv .NotIn) (rIn X.K true):=by
 intro mZ s σ H x y v u Q I rx ry h;obtain⟨p,xs,rfl,hq,fx,fs,q⟩:=h;cases ry;rcases hq with hq|hq
 .obtain ⟨its,r,pl,hz⟩:=I.list hq;refine SeqAt.notIn_listAt (Li x) pl.isList (λw hw=>AE rx fx r fs w (by simpa using hw)) ⟨.bl _,H,I,rfl,?_⟩
  rw[show its.toArray.any (Li x)=its.any (Li x) by simp,CF r fs]
  exact q
 .obtain ⟨its,r,pl,hz⟩:=I.tuple hq;refine SeqAt.notIn_tupleAt (Li x) pl (λw hw=>AE rx fx r fs w (by simpa using hw)) ⟨.bl _,H,I,rfl,?_⟩
  rw[show its.toArray.any (Li x)=its.any (Li x) by simp,CF r fs]
  exact q
def tj.or{f:Value}{r r':List V->Hp->VK->Prop}(h:tj X f r) (h':tj X f r'):tj X f (λxs H Q=>r xs H Q∨r' xs H Q):=by
 intro mZ s σ H xs us Q I rs q;rcases q with q|q
 .exact h mZ s σ H xs us Q I rs q
 .exact h' mZ s σ H xs us Q I rs q
def zX:tj X (.type "list") (λxs H Q=>∃p ys,xs=[.ref p]/\(rR X.K H p ys∨Gm X.K H p ys)/\∀l,H l=none->Q (.ref l) (pY H l (.lst ys))):=by
 intro mZ s σ H xs us Q I r h;obtain⟨p,ys,rfl,hq,q⟩:=h;obtain⟨u,rfl,rx⟩:=Cp r;cases rx;have fin:∀(its:List Value),oV ys its->ys.length<=iX->∀(h':Heap) (c':Nat),(∀b o',s.heap.get? b=some o'->h'.get? b=some o') ->
   h'.get? s.heap.objs.size=some { cls:=.type "list", dict:=none,data:=.seq its.toArray c',slots:=#[] }->EP X mZ σ Q (.ref s.heap.objs.size) { s with heap:=h' }:=λits r' hz h' c' kp e =>
  ⟨.ref s.heap.objs.size,_,I.laid (t':=s.toks) kp (af _) (show qJ X.prog X.w _ h' _ (.lst ys) from ⟨hz,its,c',r',e⟩),rfl,q _ (I.hok.fresh (af _))⟩
 rcases hq with hq|hq
 .obtain ⟨its,r',pl,hz⟩:=I.list hq;have hlen:=r'.length;obtain⟨o,ho,hc,n,hd⟩:=pl.isList;exact call_list_seq p (.inl rfl) ho hc hd (λh' c' kp e=>fin its r' hz h' c' kp e) (by simp only[aq] <;> lia)
 .obtain ⟨its,r',pl,hz⟩:=I.tuple hq;have hlen:=r'.length;obtain⟨o,ho,hc,n,hd⟩:=pl;exact call_list_seq p (.inr rfl) ho hc hd (λh' c' kp e=>fin its r' hz h' c' kp e) (by simp only[aq] <;> lia)
def tyV(K:W.Frag) (T:String) (x:V) (H:Hp):Prop:=match x with
 | .str _=>T = "str"
 | .int _=>T = "int"
 | .ref p=>(T = "list" /\ ∃xs,rR K H p xs)∨(T = "tuple" /\ ∃o,K.lookup p=some o/\o.cls = .type "tuple" /\ o.dict=none) ∨
   (T = "dict" /\ ((∃nV,H p=some (.dK nV))∨∃nV,H p=some (.dT nV)))∨(T = "set" /\ ∃S n,H p=some (.set S n))
 |_=>False
def Th{mZ:List (Addr×Obj)}{σ:St}{H:Hp}{s:iM}{T:String}{x:V}{v:Value}(I:Inv X mZ σ H s) (r:qb x v) (ty:tyV X.K T x H) :
  s.TypeIs v T/\∀a,v = .ref a->∃ob,s.heap.get? a=some ob/\ob.dict=none:=by
 cases x with
 |str z =>
  obtain⟨t,rfl⟩:=r;cases (show T = "str" from ty)
  exact⟨typeIs_str s z t,λ_ e=>nomatch e⟩
 |int i =>
  obtain⟨t,rfl⟩:=r;cases (show T = "int" from ty)
  exact⟨typeIs_int s i t,λ_ e=>nomatch e⟩
 |ref p =>
  cases r;rcases ty with ⟨rfl,xs,hq⟩|⟨rfl,o,hk,hc,hd⟩|⟨rfl,hk⟩|⟨rfl,S,n,hk⟩
  .obtain ⟨its,_,pl,_⟩:=I.list hq;refine⟨pl.isList.typeIs,λa e=>?_⟩
   cases e;obtain⟨o,n,e,c,hd,_⟩:=pl;exact⟨o,e,hd⟩
  .refine ⟨⟨o,I.kIn p o hk,hc⟩,λa e=>?_⟩
   cases e;exact⟨o,I.kIn _ o hk,hd⟩
  .have z:∃o,s.heap.get? p=some o/\o.ExactDict:=by
    rcases hk with ⟨nV,hk⟩|⟨nV,hk⟩
    .obtain ⟨_,_,_,_,o,_,_,e,ex,_⟩:=I.hok p _ hk;exact⟨o,e,ex⟩
    .obtain ⟨_,_,_,_,o,_,_,e,ex,_⟩:=I.hok p _ hk;exact⟨o,e,ex⟩
   obtain⟨o,e,ex⟩:=z;refine⟨⟨o,e,ex.1⟩,λa e2=>?_⟩
   cases e2;exact⟨o,e,ex.2.1⟩
  .obtain ⟨o,_,_,_,e,ex,_⟩:=I.hok p _ hk;refine⟨⟨o,e,ex.1⟩,λa e2=>?_⟩
   cases e2;exact⟨o,e,ex.2.1⟩
 |_=>exact False.elim ty
noncomputable def abh(K:W.Frag) (T:String) (r:V->List V->Hp->VK->Prop) (to:TE):TE:=λσ H Q=>to σ H λx H1=>tyV K T x H1/\r x [] H1 Q
noncomputable def Nn(K:W.Frag) (T:String) (r:V->List V->Hp->VK->Prop) (to:TE) (t:TA):TE:=λσ H Q=>to σ H λx H1=>tyV K T x H1/\t σ H1 λxs H2=>r x xs H2 Q
variable {o e:Expr}{es:List Expr}{to:TE}{t:TA}{name:Str}{apos cpos:Pos}{T id:String}{r:V->List V->Hp->VK->Prop}
def aaD(pa:PlainAttrs T) (slot:Slot T name id) (hty:typeOf (.builtin id)=pure (.type "method_descriptor")) (hm:MtR X id r) (ho:PE X o to)
  (hbase:jY o name X.env (eval o X.env)=eval o X.env:=by rfl) (hline:(apos.endLine == cpos.line)=true:=by rfl):PE X (.Call (.Attribute o name apos) [] [] cpos) (abh X.K T r to):=by
 intro mZ s σ H Q I h;refine wpAny_Call_method0_late hbase hline (rL (ho mZ s σ H _ I h) λv s1 ⟨x,H1,I1,r1,ty,q1⟩=>?_)
 obtain⟨h1,h2⟩:=Th I1 r1 ty;exact⟨T,id,pa,slot,hty,h1,h2,Calls.callWith_builtin rfl (PySem.evalArgs_none (hm mZ s1 σ H1 x [] v [] Q I1 r1 .nil q1))⟩
def rp(pa:PlainAttrs T) (slot:Slot T name id) (hty:typeOf (.builtin id)=pure (.type "method_descriptor")) (hm:MtR X id r) (ho:PE X o to) (ha:PA X (e::es) t)
  (hbase:jY o name X.env (eval o X.env)=eval o X.env:=by rfl)
  (hfew:((jl cpos (iY (e::es) X.env)).all (λx=>!x.1) && (kf cpos (jK [] X.env)).all (λx=>x.1.isSome)
   && decide ((e::es).length+([]:List Keyword).length+(if ([]:List Keyword).isEmpty then 0 else 1)<30))=true:=by rfl)
  (hline:(apos.endLine == cpos.line)=true:=by rfl) (hs:iY (e::es) X.env=(false,eval e X.env)::iY es X.env:=by rfl) (hplain:(jl cpos (iY es X.env)).any (·.1)=false:=by rfl) :
  PE X (.Call (.Attribute o name apos) (e::es) [] cpos) (Nn X.K T r to t):=by
 intro mZ s σ H Q I h;refine wpAny_Call_method_late hbase hfew hline rfl (rL (ho mZ s σ H _ I h) λv s1 ⟨x,H1,I1,r1,ty,q1⟩=>?_)
 obtain⟨h1,h2⟩:=Th I1 r1 ty;refine⟨T,id,pa,slot,hty,h1,h2,?_⟩;have hA:=ha cpos mZ s1 σ H1 _ I1 q1;rw[hs]at hA ⊢;refine Calls.callWith_builtin (by show (false || (jl cpos (iY es X.env)).any (·.1))=false;rw[hplain] <;> rfl) (Calls.evalArgs_plain ?_)
 exact rL hA λus s2 ⟨vs,H2,I2,r2,q2⟩=>hm mZ s2 σ H2 x vs v us Q I2 r1 r2 q2
/- xs.append(e),list.index on a module's tuple .. are MtR facts of 06m -/
end
def MtM(X:Cx) (id:String) (r:V->List V->Hp->VK->Prop):Prop :=
 ∀(mZ:List (Addr×Obj)) (s:iM) (σ:St) (H:Hp) (x:V) (xs:List V) (v:Value) (us:List Value) (Q:VK),Inv X mZ σ H s->qb x v->oV xs us->r x xs H Q ->
  iS (iQ X.prog X.w) X.A (call (.builtin id) (v::us)) (EP X mZ σ Q) X.xe s
def oV.one:∀{x:V}{us:List Value},oV [x] us->∃u,us=[u]/\qb x u
 |_,_,.cons r .nil=>⟨_,rfl,r⟩
def oV.zero:∀{us:List Value},oV [] us->us=[]
 |_,.nil=>rfl
theorem oV.dropLast{xs:List V}{us:List Value}(h:oV xs us):oV xs.dropLast us.dropLast:=by
 induction h with
 |nil=>exact .nil
 |cons r t ih =>
  cases t with
  |nil=>exact .nil
  |cons q t'=>exact .cons r ih
theorem oV.eraseIdx:∀{xs:List V}{us:List Value}(i:Nat),oV xs us->oV (xs.eraseIdx i) (us.eraseIdx i)
 |_,_,_,.nil=>.nil
 |_,_,0,.cons _ t=>t
 |_,_,i+1,.cons r t=>.cons r (oV.eraseIdx i t)
def Ce{α:Type}(l:List α):l.eraseIdx (l.length-1)=l.dropLast:=by
 induction l with
 |nil=>rfl
 |cons a r ih =>
  cases r with
  |nil=>rfl
  |cons b r =>
   have e:(a::b::r).length-1=((b::r).length-1)+1:=by
    have h1:(a::b::r).length=r.length+2:=rfl;have h2:(b::r).length=r.length+1:=rfl;lia
   rw[e,cx,ih]
   all_goals rfl
theorem Hq{α:Type}:∀(l:List α) (i:Nat),(l.eraseIdx i).length<=l.length
 | [],_=>af _
 |_::_,0=>bR _
 |_::r,i+1=>Nat.succ_le_succ (Hq r i)
section
variable {X:Cx}{mZ:List (Addr×Obj)}{σ:St}{H:Hp}{s:iM}{l b:Addr}{xs ys zs:List V}
def Inv.lset{its its':List Value}{n:Nat}{f:Array Value->Array Value}{t':Nat}(I:Inv X mZ σ H s) (hH:H l=some (.lst xs))
  (e:s.heap.get? l=some { cls:=.type "list", data:=.seq its.toArray n }) (hf:f its.toArray=its'.toArray) (hv:oV ys its') (hz:ys.length<=iX) :
  Inv X mZ σ (pY H l (.lst ys)) { s with heap:=s.heap.update l (Obj.mapSeq f),toks:=t' }:=by
 have q:=PySem.IsL.update e f;rw[hf]at q;refine I.write (x:=l) (e:=l) (by rw[hH];exact trivial) (.inl rfl) (λb' u hb hu=>(bz s.heap (Obj.mapSeq f) (Ne.symm hb)).trans hu) ⟨_,q⟩ ?_
 exact⟨hz,its',_,hv,q⟩
def Inv.lnew{its:List Value}{t':Nat}(I:Inv X mZ σ H s) (hv:oV ys its) (hz:ys.length<=iX) :
  Inv X mZ σ (pY H s.heap.objs.size (.lst ys)) { s with heap:=s.heap.push { cls:=.type "list", data:=.seq its.toArray },toks:=t' } :=
 I.laid (λ_ _ q=>ae _ q) (af _) ⟨hz,its,0,hv,bb _ rfl⟩
theorem Inv.fresh(I:Inv X mZ σ H s):H s.heap.objs.size=none:=I.hok.fresh (af _)
def Inv.lstM(I:Inv X mZ σ H s) (hH:H l=some (.lst xs)):xs.length<=iX/\∃(its:List Value) (n:Nat),oV xs its/\xs.length=its.length/\s.heap.get? l=some { cls:=.type "list", data:=.seq its.toArray n }:=by
 obtain⟨z,its,n,r,e⟩:=I.hok l _ hH;exact⟨z,its,n,r,r.length,e⟩
def Uw{n:Nat}(h:n<=iX):Builtin.List.listTooLong n=false:=by
 unfold Builtin.List.listTooLong;exact decide_eq_false (by lia)
end
section
variable {X:Cx}
def Df:V->List V->Hp->VK->Prop:=λx vs H Q=>∃l xs y,x = .ref l/\vs=[y]/\H l=some (.lst xs)/\xs.length<iX/\Q .non (pY H l (.lst (xs++[y])))
def qa:MtM X "list.append" Df:=by
 intro mZ s σ H x vs v us Q I rx rv h;obtain⟨l,xs,y,rfl,rfl,hH,hz,q⟩:=h;cases rx;obtain⟨u,rfl,ru⟩:=rv.one;obtain⟨z,its,n,r,hl,e⟩:=I.lstM hH;refine jH F.slot_list_append ⟨_,e,rfl⟩ F.entry_list_append (F.args_list_append_2 _ _) (PySem.list_append l its.toArray n u (by rw[aq];lia)) ⟨e,?_⟩
 refine⟨.non,_,I.lset (its':=its++[u]) hH e (by simp) (r.append (.cons ru .nil)) ?_,rfl,q⟩
 rw[lAq,lSq];lia
def EF:V->List V->Hp->VK->Prop:=λx vs H Q=>∃l b xs zs,x = .ref l/\vs=[.ref b]/\H l=some (.lst xs)/\H b=some (.lst zs)/\xs.length+zs.length<=iX/\Q .non (pY H l (.lst (xs++zs)))
def A9:MtM X "list.extend" EF:=by
 intro mZ s σ H x vs v us Q I rx rv h;obtain⟨l,b,xs,zs,rfl,rfl,hH,hB,hz,q⟩:=h;cases rx;obtain⟨u,rfl,ru⟩:=rv.one;cases ru;obtain⟨z,its,n,r,hl,e⟩:=I.lstM hH;obtain⟨z2,its2,n2,r2,hl2,e2⟩:=I.lstM hB;have hsz:its.toArray.size+its2.toArray.size<=iX:=by rw[aq,aq];lia
 have hlong:¬ (!its.toArray.isEmpty && Builtin.List.listTooLong (its.toArray.size+its2.toArray.size))=true:=by
  rw[Uw hsz,Bool.and_false];exact ay
 refine jH F.slot_list_extend ⟨_,e,rfl⟩ F.entry_list_extend (F.args_list_extend_2 _ _)
  (AutoSeq1.list_extend_list_list_0 l its.toArray n b its2.toArray n2 hlong (by rw[aq];lia) (by lia)) ⟨e,e2,?_⟩
 refine⟨.non,_,I.lset (its':=its++its2) hH e (by simp) (r.append r2) ?_,rfl,q⟩
 rw[lAq];lia
def X2:V->List V->Hp->VK->Prop:=λx vs H Q=>∃l xs y,x = .ref l/\vs=[]/\H l=some (.lst xs)/\xs[xs.length-1]?=some y/\Q y (pY H l (.lst xs.dropLast))
def Zv:MtM X "list.pop" X2:=by
 intro mZ s σ H x vs v us Q I rx rv h;obtain⟨l,xs,y,rfl,rfl,hH,hy,q⟩:=h;cases rx;have hus:=rv.zero;subst hus;obtain⟨z,its,n,r,hl,e⟩:=I.lstM hH;obtain⟨u,hu,ru⟩:=r.get hy;have hy':its.toArray[its.toArray.size-1]?=some u:=by
  show its.toArray[its.length-1]?=some u;rw[←aJ,←hl];exact hu
 refine jH F.slot_list_pop ⟨_,e,rfl⟩ F.entry_list_pop (F.args_list_pop_1 _) (MeetsSeq.list_pop_last l its.toArray n u hy' (by rw[aq];lia)) ⟨e,?_⟩
 refine⟨y,_,I.lset (its':=its.dropLast) hH e ?_ r.dropLast ?_,ru,q⟩
 .show its.toArray.eraseIdxIfInBounds (its.toArray.size-1)=its.dropLast.toArray;rw[aq,eJ,Ce]
 .rw [gj];lia
def Rk:V->List V->Hp->VK->Prop:=λx vs H Q=>∃l xs i k y,x = .ref l/\vs=[.int i]/\H l=some (.lst xs)/\-(2 ^ 63)<=i/\i<2 ^ 63/\lX i xs.length=some k/\xs[k]?=some y/\Q y (pY H l (.lst (xs.eraseIdx k)))
def Tr:MtM X "list.pop" Rk:=by
 intro mZ s σ H x vs v us Q I rx rv h;obtain⟨l,xs,i,k,y,rfl,rfl,hH,h1,h2,hk,hy,q⟩:=h;cases rx;obtain⟨u,rfl,ru⟩:=rv.one;obtain⟨t,rfl⟩:=ru;obtain⟨z,its,n,r,hl,e⟩:=I.lstM hH;obtain⟨w,hw,rw'⟩:=r.get hy;refine jH F.slot_list_pop ⟨_,e,rfl⟩ F.entry_list_pop (F.args_list_pop_2 _ _)
  (MeetsSeq.list_pop_at l its.toArray n i t k w (fitsIndex_both h1 h2) (by rw[aq,←hl];exact hk) (by rw[←aJ];exact hw) (by rw[aq];lia)) ⟨e,?_⟩
 refine⟨y,_,I.lset (its':=its.eraseIdx k) hH e ?_ (r.eraseIdx k) ?_,rw',q⟩
 .show its.toArray.eraseIdxIfInBounds k=(its.eraseIdx k).toArray;rw[eJ]
 .have:=Hq xs k;lia
def acd:R2:=λx y H Q=>∃l b xs zs,x = .ref l/\y = .ref b/\H l=some (.lst xs)/\H b=some (.lst zs)/\xs.length+zs.length<=iX/\∀p,H p=none->Q (.ref p) (pY H p (.lst (xs++zs)))
def zc:Gr X (ke .Add) acd:=by
 intro mZ s σ H x y v u Q I rx ry h;obtain⟨l,b,xs,zs,rfl,rfl,hH,hB,hz,q⟩:=h;cases rx;cases ry;obtain⟨z,its,n,r,hl,e⟩:=I.lstM hH;obtain⟨z2,its2,n2,r2,hl2,e2⟩:=I.lstM hB;refine PySem.P.add_list e e2 ?_ (by rw[aq,aq];lia)
 have ea:its.toArray++its2.toArray=(its++its2).toArray:=by simp
 rw[ea];exact⟨.ref _,_,I.lnew (t':=s.toks) (r.append r2) (by rw[lAq];lia),rfl,q _ I.fresh⟩
end
section
variable {κ:Type} [DecidableEq κ]
noncomputable def C5(nV:List (κ×V)) (k:κ):Option V:=(nV.find? λkv=>decide (kv.1=k)).map (·.2)
noncomputable def DP(nV:List (κ×V)) (k:κ) (v:V):List (κ×V) :=
 if (nV.any λkv=>decide (kv.1=k))=true then nV.map (λkv=>if kv.1=k then (kv.1,v) else kv) else nV++[(k,v)]
def Gg{p:κ×V}{r:List (κ×V)}{k:κ}(e:p.1=k):C5 (p::r) k=some p.2:=by simp[C5,dq,e]
def FP{p:κ×V}{r:List (κ×V)}{k:κ}(e:¬ p.1=k):C5 (p::r) k=C5 r k:=by simp[C5,dq,e]
theorem KZ(k:κ):∀nV:List (κ×V),(nV.any λkv=>decide (kv.1=k))=(C5 nV k).isSome
 | []=>rfl
 |p::r=>by
  rw[cU]
  by_cases e:p.1=k
  .simp only [Gg e,decide_eq_true e,Bool.true_or,Option.isSome_some]
  .rw [FP e,decide_eq_false e,ir];exact KZ k r
def D0(nV:List (κ×V)) (k:κ) (v:V):(DP nV k v).length<=nV.length+1:=by
 unfold DP;split
 .rw [lMq];lia
 .rw [lAq,lCq,dP];lia
def Ag.isSome_eq{o:Option V}{u:Option Value}(r:Ag o u):o.isSome=u.isSome:=by
 cases o with
 |none=>cases u with
  |none=>rfl
  |some _=>exact(show False from r).elim
 |some _=>cases u with
  |none=>exact(show False from r).elim
  |some _=>rfl
def KV.val{nV:List (κ×V)}{vs:List (κ×Value)}(r:KV nV vs) (k:κ):Ag (C5 nV k) (kL vs k):=by
 unfold KV at r
 induction r with
 |nil=>exact True.intro
 | @cons p q ps qs h t ih =>
  obtain⟨h1,h2⟩:=h
  by_cases e:p.1=k
  .have e':q.1=k:=h1.symm.trans e;have b:kL (q::qs) k=some q.2:=by simp[kL,dq,e']
   rw[Gg e,b];exact h2
  .have e':¬ q.1=k:=λz=>e (h1.trans z)
   have b:kL (q::qs) k=kL qs k:=by simp[kL,dq,e']
   rw[FP e,b];exact ih
theorem KV.any{nV:List (κ×V)}{vs:List (κ×Value)}(r:KV nV vs) (k:κ):(nV.any λkv=>decide (kv.1=k))=vs.any λkv=>decide (kv.1=k):=by
 unfold KV at r
 induction r with
 |nil=>rfl
 |cons h t ih=>rw[cU,cU,ih,h.1]
def KV.repl{nV:List (κ×V)}{vs:List (κ×Value)}(r:KV nV vs) (k:κ) {y:V}{u:Value}(ry:qb y u) :
  KV (nV.map λkv=>if kv.1=k then (kv.1,y) else kv) (vs.map λkv=>if kv.1=k then (kv.1,u) else kv):=by
 unfold KV at r ⊢
 induction r with
 |nil=>exact .nil
 | @cons p q ps qs h t ih =>
  rw[aw,aw];refine .cons ?_ ih;obtain⟨h1,h2⟩:=h
  by_cases e:p.1=k
  .rw [oJ e,oJ (h1.symm.trans e)];exact⟨h1,ry⟩
  .rw [oO e,oO (λz=>e (h1.trans z))];exact⟨h1,h2⟩
def KV.put{nV:List (κ×V)}{vs:List (κ×Value)}(r:KV nV vs) (k:κ) {y:V}{u:Value}(ry:qb y u):KV (DP nV k y) (stored vs k u):=by
 unfold DP stored;rw[r.any k]
 by_cases e:(vs.any λkv=>decide (kv.1=k))=true
 .rw [oJ e,oJ e];exact r.repl k ry
 .rw [oO e,oO e];exact Paired.snoc r ⟨rfl,ry⟩
theorem KV.length{nV:List (κ×V)}{vs:List (κ×Value)}(r:KV nV vs):nV.length=vs.length:=Paired.length r
end
def Og{P:iW}{w:iZ}{k:pN}{u:Value}(r:qb (kV k) u):(rV P w).is k u=true:=by
 cases k with
 |inl i=>obtain⟨t,e⟩:=(show ∃t,u=fW i t from r);subst e;exact JE P w i t
 |inr x=>obtain⟨t,e⟩:=(show ∃t,u=gN x t from r);subst e;exact KB P w x t
theorem GQ{P:iW}{w:iZ}:∀{ks:List pN}{us:List Value},oV (ks.map kV) us->ItemsAre (rV P w) ks us
 | [],_,r=>by rw[cQ]at r;cases r;exact .nil
 |k::ks,_,r=>by
  rw[aw]at r;cases r with
  |cons h t=>exact .cons (Og h) (GQ t)
abbrev KT(H:Hp):List (List pN×V)->List (List pN×Addr×Value)->Prop:=Paired λp q=>p.1=q.1/\H q.2.1=some (.tup (p.1.map kV))/\qb p.2 q.2.2
def KT.val{H:Hp}{nV:List (List pN×V)}{xs:List (List pN×Addr×Value)}(r:KT H nV xs) (k:List pN):Ag (C5 nV k) ((lg xs k).map (·.2)):=by
 induction r with
 |nil=>exact True.intro
 | @cons p q ps qs h t ih =>
  obtain⟨h1,_,h2⟩:=h
  by_cases e:p.1=k
  .have e':q.1=k:=h1.symm.trans e;have b:lg (q::qs) k=some q.2:=by simp[lg,dq,e']
   rw[Gg e,b];exact h2
  .have e':¬ q.1=k:=λz=>e (h1.trans z)
   have b:lg (q::qs) k=lg qs k:=by simp[lg,dq,e']
   rw[FP e,b];exact ih
def KT.repl{H:Hp}{nV:List (List pN×V)}{xs:List (List pN×Addr×Value)}(r:KT H nV xs) (k:List pN) {y:V}{u:Value}(ry:qb y u) :
  KT H (nV.map λkv=>if kv.1=k then (kv.1,y) else kv) (xs.map (putAt k u)):=by
 induction r with
 |nil=>exact .nil
 | @cons p q ps qs h t ih =>
  rw[aw,aw];refine .cons ?_ ih;obtain⟨h1,h2,h3⟩:=h;unfold putAt
  by_cases e:p.1=k
  .rw [oJ e,oJ (h1.symm.trans e)];exact⟨h1,h2,ry⟩
  .rw [oO e,oO (λz=>e (h1.trans z))];exact⟨h1,h2,h3⟩
def KT.put{H:Hp}{nV:List (List pN×V)}{xs:List (List pN×Addr×Value)}(r:KT H nV xs) (k:List pN) {b:Addr}{y:V}{u:Value}(hb:H b=some (.tup (k.map kV))) (ry:qb y u) :
  KT H (DP nV k y) (storedH xs k b u):=by
 have e:(nV.any λkv=>decide (kv.1=k))=(lg xs k).isSome:=by
  rw[KZ,(r.val k).isSome_eq,fj]
 unfold DP storedH;rw[e]
 by_cases q:(lg xs k).isSome=true
 .rw [oJ q,oJ q];exact r.repl k ry
 .rw [oO q,oO q];exact Paired.snoc r ⟨rfl,hb,ry⟩
def KT.keeps{H H':Hp}{nV:List (List pN×V)}{xs:List (List pN×Addr×Value)}(r:KT H nV xs) (ht:∀b ys,H b=some (.tup ys)->H' b=some (.tup ys)):KT H' nV xs :=
 Paired.mapP r λ_ _ z=>⟨z.1,ht _ _ z.2.1,z.2.2⟩
section
variable {P:iW}{w:iZ}{H:Hp}{h:Heap}{a:Addr}
def XR{u:HO}(ok:Aj P w H h) (e:Rd H a u):qJ P w H h a u:=e.ok ok
def KJ{nV:List (pN×V)}(ok:Aj P w H h) (e:Rd H a (.dK nV)):nV.length<=iX/\(a == jA)=false/\∃vs,KV nV vs/\h.DictOf (rV P w) a vs :=
 show qJ P w H h a (.dK nV) from XR ok e
def acA{nV:List (pN×V)}(ok:Aj P w H h) (e:H a=some (.dK nV)):nV.length<=iX/\(a == jA)=false/\∃vs,KV nV vs/\h.DictOf (rV P w) a vs:=KJ ok (.inl e)
def Jb{ks:List pN}(ok:Aj P w H h) (e:H a=some (.tup (ks.map kV))):(kU (rV P w)).is h ks a:=by
 obtain⟨_,its,r,o,h1,h2,n,h3⟩:=(show qJ P w H h a (.tup (ks.map kV)) from ok a _ e)
 exact⟨o,its.toArray,n,h1,h2,h3,by simpa using GQ r⟩
def J4{nV:List (List pN×V)}(ok:Aj P w H h) (e:Rd H a (.dT nV)):nV.length<=iX/\(a == jA)=false /\
  ∃xs,KT H nV xs/\h.DictOfH (kU (rV P w)) a xs:=by
 obtain⟨z,y,xs,r,o,es,ep,h1,h2,h3,h4,h5⟩:=(show qJ P w H h a (.dT nV) from XR ok e)
 refine⟨z,y,xs,r,o,es,ep,h1,h2,h3,h4,λx hx=>?_,h5⟩
 have all:∀{l:List (List pN×V)}{m:List (List pN×Addr×Value)},KT H l m->∀x∈m,(kU (rV P w)).is h x.1 x.2.1:=by
  intro l m q
  induction q with
  |nil=>intro x hx;exact nomatch hx
  | @cons p q ps qs hq t ih =>
   intro x hx;rcases ak.mp hx with e|hx
   .subst e;exact Jb ok (by rw[←hq.1];exact hq.2.1)
   .exact ih x hx
 exact all r x hx
def ach{nV:List (List pN×V)}(ok:Aj P w H h) (e:H a=some (.dT nV)):nV.length<=iX/\(a == jA)=false /\
  ∃xs,KT H nV xs/\h.DictOfH (kU (rV P w)) a xs:=J4 ok (.inl e)
end
def Fl(H:Hp) (a:Addr) (y:V) (r:Option V):Prop :=
 (∃nV k,Rd H a (.dK nV)/\y=kV k/\r=C5 nV k)∨∃nV k b,Rd H a (.dT nV)/\y = .ref b/\H b=some (.tup (k.map kV))/\r=C5 nV k
def SN(H:Hp) (a:Addr) (y v:V) (H':Hp):Prop :=
 (∃nV k,H a=some (.dK nV)/\y=kV k/\nV.length<iX/\H'=pY H a (.dK (DP nV k v))) ∨
 ∃nV k b,H a=some (.dT nV)/\y = .ref b/\H b=some (.tup (k.map kV))/\nV.length<iX/\H'=pY H a (.dT (DP nV k v))
theorem Fl.k{H:Hp}{a:Addr}{nV:List (pN×V)}{k:pN}(e:H a=some (.dK nV)):Fl H a (kV k) (C5 nV k):=.inl ⟨nV,k,.inl e,rfl,rfl⟩
theorem SN.k{H:Hp}{a:Addr}{nV:List (pN×V)}{k:pN}{v:V}(e:H a=some (.dK nV)) (hl:nV.length<iX):SN H a (kV k) v (pY H a (.dK (DP nV k v))):=.inl ⟨nV,k,e,rfl,hl,rfl⟩
section
variable {X:Cx}{mZ:List (Addr×Obj)}{σ:St}{H:Hp}{s:iM}{a:Addr}{y v:V}{u r:Value}{o:Option V}{A:Around}{E:Value->iM->Prop}
def Inv.big(I:Inv X mZ σ H s):jA<s.heap.objs.size:=by
 have h:iV<s.heap.objs.size:=(I.mod.glob.keeps I.bk).lt;exact iz (by decide) h
def Pi{Q:Value->iM->Prop}(hu:A.units+1<jB) (I:Inv X mZ σ H s) (g:Fl H a y (some v)) (ry:qb y u) (h:∀w' s',Inv X mZ σ H s'->qb v w'->Q w' s') :
  iS (iQ X.prog X.w) A (lH (.ref a) u) Q E s:=by
 rcases g with ⟨nV,k,e,ey,l⟩|⟨nV,k,b,e,ey,eb,l⟩
 .subst ey;obtain⟨z,hd,vs,rel,dd⟩:=KJ I.hok e;obtain⟨w',hw,rw'⟩:=Ag.some_of (v:=v) (o:=kL vs k) (by rw[l];exact rel.val k)
  exact wpAny_getItem_of (Og ry) dd.mapOf hw (h w' _ (I.tok _) rw')
 .subst ey;cases (show u=ai b from ry)
  obtain⟨z,hd,xs,rel,dd⟩:=J4 I.hok e;obtain⟨w',hw,rw'⟩:=Ag.some_of (v:=v) (o:=(lg xs k).map (·.2)) (by rw[l];exact rel.val k)
  obtain⟨p,hp,hp2⟩:=oMq.mp hw;refine wpAny_getItem_heap (kA hu) (Jb I.hok eb) dd hp ?_;rw[hp2];exact h w' _ (I.tok _) rw'
def Vh{Q:Value->iM->Prop}(hu:A.units+1<jB) (I:Inv X mZ σ H s) (g:Fl H a y o) (ry:qb y u) (h:∀s',Inv X mZ σ H s'->Q (.bool (!o.isSome)) s') :
  iS (iQ X.prog X.w) A (jv .NotIn u (.ref a)) Q E s:=by
 rcases g with ⟨nV,k,e,ey,l⟩|⟨nV,k,b,e,ey,eb,l⟩
 .subst ey;obtain⟨z,hd,vs,rel,dd⟩:=KJ I.hok e;refine wpAny_notIn_of (Og ry) hd dd.mapOf ?_;rw[← (rel.val k).isSome_eq,←l];exact h _ (I.tok _)
 .subst ey;cases (show u=ai b from ry)
  obtain⟨z,hd,xs,rel,dd⟩:=J4 I.hok e;refine wpAny_notIn_heap (kA hu) (Jb I.hok eb) hd dd ?_;have q:=(rel.val k).isSome_eq;rw[fj]at q;rw[←q,←l];exact h _ (I.tok _)
def Oa{h':Heap}{t':Nat}{ob:HO}(I:Inv X mZ σ H s) (mu:Mut (H a)) (hs:dZ a s.heap h') (he:∃q,h'.get? a=some q) (new:qJ X.prog X.w (pY H a ob) h' a ob) :
  Inv X mZ σ (pY H a ob) { s with heap:=h',toks:=t' } :=
 I.write (x:=a) (e:=a) mu (.inl rfl) (λb q hb z=>(hs.2 b hb).trans z) he new
def aaB{P:iW}{w:iZ}{H':Hp}{h':Heap}{nV:List (pN×V)}{vs:List (pN×Value)}(z:nV.length<=iX) (hd:(a == jA)=false) (rel:KV nV vs) (dd:h'.DictOf (rV P w) a vs) :
  qJ P w H' h' a (.dK nV):=⟨z,hd,vs,rel,dd⟩
def O7{H':Hp}{Q:Unit->iM->Prop}(hu:A.units+1<jB) (I:Inv X mZ σ H s) (g:SN H a y v H') (ry:qb y u) (rv:qb v r) (h:∀s',Inv X mZ σ H' s'->Q () s') :
  iS (iQ X.prog X.w) A (setItem (.ref a) u r) Q E s:=by
 rcases g with ⟨nV,k,e,ey,l,eH⟩|⟨nV,k,b,e,ey,eb,l,eH⟩
 .subst ey eH;obtain⟨z,hd,vs,rel,dd⟩:=acA I.hok e;have hz:vs.length<=iX:=by rw[←rel.length];exact z
  have hl:(DP nV k v).length<=iX:=by have:=D0 nV k v;lia
  refine wpAny_setItem_pairs (hsz:=hz) (Og ry) dd λh' dd' hs=>h _ ?_
  have he:∃q,h'.get? a=some q:=let ⟨q,_,_,hq,_⟩:=dd';⟨q,hq⟩
  exact Oa I (by rw[e];exact True.intro) hs he (aaB hl hd (rel.put k rv) dd')
 .subst ey eH;cases (show u=ai b from ry)
  obtain⟨z,hd,xs,rel,dd⟩:=ach I.hok e;have hz:xs.length<=iX:=by rw[←Paired.length rel];exact z
  have hl:(DP nV k v).length<=iX:=by have:=D0 nV k v;lia
  refine wpAny_setItem_heap (hsz:=hz) (kA hu) (Jb I.hok eb) dd λh' dd' hs=>h _ ?_
  obtain⟨q,es,ep,hq,h2,h3,h4,_,h5⟩:=dd';refine Oa I (by rw[e];exact True.intro) hs ⟨q,hq⟩ ⟨hl,hd,_,(rel.put k eb rv).keeps λc ys ec=>?_,q,es,ep,hq,h2,h3,h4,h5⟩
  rw[nT (acr ec e (λz=>nomatch z))]
  exact ec
end
def aaU(i:Expr):Prop:=∀ov iv,ly i false ov iv=operate [ov,iv] (lH ov iv)
def Ve{prog:iW}{w:iZ}{A:Around}{E:Value->iM->Prop}{s:iM}{env:Env}{value slice:Expr}{pos:Pos}{T id:String}{Q:Value->iM->Prop}
  (hl:je (.type T) "__getitem__" = pure (some (.builtin id))) (hs:aaU slice)
  (h:iS (iQ prog w) A (eval value env) (λo s₁=>iS (iQ prog w) A (eval slice env) (λi s₂=>s₂.TypeIs o T/\iS (iQ prog w) A (lH o i) Q E s₂) E s₁) E s) :
  iS (iQ prog w) A (eval (.Subscript value slice pos) env) Q E s:=by
 refine Subscript_ (jg h (λo s₁ h₁=>jg h₁ (λi s₂ h₂=>?_) λ_ _ x=>x) λ_ _ x=>x)
 obtain⟨hT,h₂⟩:=h₂;unfold lT;refine iT ?_;rw[getitemInPython_of_ne hT.not_modules];refine iT (wpAny_specialOf hT hl ?_);have fin:iS (iQ prog w) A (ly slice false o i) (λr s₃=>iS (iQ prog w) A (letTemporaryGo value o r >>= λ_=>pure r) Q E s₃) E s₂:=by
  rw[hs o i];exact wpAny_operating (jg h₂ (λr s₃ h₃=>iT (wpAny_letTemporaryGo (jd h₃))) λ_ _ x=>x)
 first
  |exact jd (iT fin)
  |exact iT (jd (iT fin))
  |exact iT fin
def K1{X:Cx}{mZ:List (Addr×Obj)}{σ:St}{H:Hp}{s:iM}{a:Addr}{y:V}{o:Option V}(I:Inv X mZ σ H s) (g:Fl H a y o):s.TypeIs (.ref a) "dict" := by
 rcases g with ⟨nV,k,e,_,_⟩|⟨nV,k,b,e,_,_,_⟩
 .obtain ⟨_,_,vs,_,dd⟩:=KJ I.hok e;exact dd.typeIs
 .obtain ⟨_,_,xs,_,dd⟩:=J4 I.hok e;exact dd.typeIs
noncomputable def RT(td ty:TE):TE:=λσ H Q=>td σ H λx H1=>ty σ H1 λy H2=>∃a v,x = .ref a/\Fl H2 a y (some v)/\Q v H2
noncomputable def Nw(ty td:TE):TE:=λσ H Q=>ty σ H λy H1=>td σ H1 λx H2=>∃a o,x = .ref a/\Fl H2 a y o/\Q (.bl (!o.isSome)) H2
def XF(td ty tv:TE):TS:=λD σ H=>tv σ H λv H1=>td σ H1 λx H2=>ty σ H2 λy H3=>∃a H4,x = .ref a/\SN H3 a y v H4/\D.nx σ H4
section
variable {X:Cx}{o i e value:Expr}{pos pos' tpos:Pos}{td ty tv:TE}
def ED(hu:X.A.units+1<jB) (ho:PE X o td) (hi:PE X i ty) (hs:aaU i):PE X (.Subscript o i pos) (RT td ty):=by
 intro mZ s σ H Q I h;refine Ve PySem.F.slot_dict_getitem.lookup hs (rL (ho mZ s σ H _ I h) λu s1 ⟨x,H1,I1,rx,q1⟩=>rL (hi mZ s1 σ H1 _ I1 q1) λiv s2 ⟨y,H2,I2,ry,a,v,ex,g,q2⟩=>?_)
 subst ex;obtain rfl:u=ai a:=rx;exact⟨K1 I2 g,Pi hu I2 g ry λw' s3 I3 rw'=>⟨v,H2,I3,rw',q2⟩⟩
def DJ(hu:X.A.units+1<jB) (hi:PE X i ty) (ho:PE X o td):PC X .NotIn i o (Nw ty td):=by
 intro mZ s σ H Q I h;refine rL (hi mZ s σ H _ I h) λiv s1 ⟨y,H1,I1,ry,q1⟩=>rL (ho mZ s1 σ H1 _ I1 q1) λu s2 ⟨x,H2,I2,rx,a,ov,ex,g,q2⟩=>?_
 subst ex;obtain rfl:u=ai a:=rx;exact Vh hu I2 g ry λs3 I3=>⟨.bl (!ov.isSome),H2,I3,rfl,q2⟩
def CN(hu:X.A.units+1<jB) (ho:PE X o td) (hi:PE X i ty) (hv:PE X value tv) (hs:kg value (some (.Subscript o i pos')) pos.line X.env=pure false) :
  PS X (.Assign [.Subscript o i pos'] value pos) (XF td ty tv):=by
 intro mZ s σ H D I h;refine wpAny_Assign_Subscript (rL (hv mZ s σ H _ I h) λr s1 ⟨v,H1,I1,rv,q1⟩=>rL (ho mZ s1 σ H1 _ I1 q1) λu s2 ⟨x,H2,I2,rx,q2⟩=>rL (hi mZ s2 σ H2 _ I2 q2) λiv s3 ⟨y,H3,I3,ry,a,H4,ex,g,q3⟩=>?_) hs
 subst ex;obtain rfl:u=ai a:=rx;exact O7 hu I3 g ry rv λs4 I4=>⟨σ,H4,I4,q3⟩
end
def R7{P:iW}{w:iZ}{H:Hp}(h:Heap) (hb:jA<h.objs.size):qJ P w H (h.push { cls:=.type "dict", data:=.dict #[] }) h.objs.size (.dK []) :=
 ⟨aV _,beq_eq_false_iff_ne.mpr (Ne.symm (aF hb)),[],.nil,Heap.DictOf.new h⟩
def Uo:TE:=λ_ H Q=>∀p,H p=none->Q (.ref p) (pY H p (.dK []))
section
variable {X:Cx}{pos:Pos}
def AM:PE X (.Dict [] [] pos) Uo:=λmZ s σ H Q I h =>
 wpAny_Dict_empty ⟨.ref s.heap.objs.size,_,I.laid (a:=s.heap.objs.size) (o:=.dK []) (t':=s.toks) (λ_ _ q=>ae _ q) (af _) (R7 s.heap I.big),rfl,h _ (I.hok.fresh (af _))⟩
end
def IsD(H:Hp) (a:Addr):Prop:=(∃nV,Rd H a (.dK nV))∨∃nV,Rd H a (.dT nV)
def aab{X:Cx}{mZ:List (Addr×Obj)}{σ:St}{H:Hp}{s:iM}{a:Addr}(I:Inv X mZ σ H s) (d:IsD H a) :
  s.TypeIs (.ref a) "dict" /\ (∀b,ai a = .ref b->∃ob,s.heap.get? b=some ob/\ob.dict=none)/\(a == jA)=false:=by
 rcases d with ⟨nV,e⟩|⟨nV,e⟩
 .obtain ⟨_,hd,vs,_,dd⟩:=KJ I.hok e;refine⟨dd.typeIs,λb q=>?_,hd⟩
  cases q;obtain⟨ob,_,_,h1,h2,_⟩:=dd;exact⟨ob,h1,h2.2.1⟩
 .obtain ⟨_,hd,xs,_,dd⟩:=J4 I.hok e;refine⟨dd.typeIs,λb q=>?_,hd⟩
  cases q;obtain⟨ob,_,_,h1,h2,_⟩:=dd;exact⟨ob,h1,h2.2.1⟩
end L2
namespace Att
open PySem PySem.W PySem.Calls PyProof.Rows
def Ek{P:Params}{h:Heap}:∀(ns:List Int) (vs:List Value),WellAll P h vs (ns.map WData.int)->jz vs ns:=by
 intro ns
 induction ns with
 |nil =>
  intro vs w;rw[cQ]at w;cases w;exact .nil
 |cons n ns ih =>
  intro vs w;rw[aw]at w;cases w with
  |cons a b =>
   cases a;exact .cons _ _ (ih _ b)
def OJ{l:OpenLaw}{n:Nat}(hn:l.most=some n) {P:Params}{h:Heap}{args:List WData}{vals:List Value}
  (hpre:l.row.toRowW.claim.pre args=true) (hwl:WellAll P h vals args) :
  ∃a vs ns,vals=[ai a]/\args=[WData.list (ns.map WData.int)]/\h.get? a=some { cls:=.type "list", data:=.seq vs.toArray }/\jz vs ns/\ns.length<=n:=by
 have hsh:WShape.hasAll [] args [.list .int]=true:=(pre_splitW hpre).1;have hc:l.pre.holds [] { args:=args }=true:=(pre_splitW hpre).2;obtain⟨d,r,rfl,h1,h2⟩:=hasAllW_cons hsh;obtain rfl:=hasAllW_nil h2;obtain⟨xs,rfl,h3⟩:=hasW_list h1;obtain⟨ns,rfl⟩:=items_int h3;have hlen:ns.length<=n:=by
  unfold OpenLaw.pre at hc;have h4:(WTm.not (.lt (.lit (.int (n:Int))) (.len (.arg 0)))).holds [] { args:=[.list (ns.map .int)] }=true:=by
   have h4:=(holds_andW hc).1;rw[hn]at h4;exact h4
  have h5:=condW_of h4 (w_not (w_lt w_lit (w_len_list (w_arg rfl))));rw[lMq]at h5;refine Nat.le_of_not_lt λq=>?_
  have q':(n:Int)<((ns.length:Nat):Int):=by lia
  first
   | (rw[decide_eq_true q']at h5;exact absurd h5 (by decide))
   | (simp at h5;lia)
 cases hwl with
 |cons w1 w2 =>
  cases w2;cases w1 with
  |list ho hall=>exact⟨_,_,ns,rfl,rfl,ho,Ek ns _ hall,hlen⟩
def PN(l:OpenLaw) (args:List WData):l.row.toRowW.claim.post args (.bool true) args=true :=
 postW_of (r:=l.row.toRowW) (X:=(true == true))
  (show WShape.has [] (.bool true) .bool=true by first|rfl|decide|simp[WShape.has,WShape.arms,WShape.armsAll])
  (show (WTm.eq .res (.lit (.bool true))).value [] { args:=args,res:=some (.bool true),after:=args }=some (.bool (true == true)) from w_eq_bool (w_res rfl) w_lit) rfl
def JX{l:OpenLaw}{n:Nat}{q:iW}{loose:List Str}{XP:(Str->Option Value)->Heap->Prop}{YP:iZ->Heap->Prop}{d:DefRec}
  (hn:l.most=some n) (hdf:d.params.defaults=[])
  (call:∀(w:iZ) (s₀ s₁:iM) (mg mb:Str->Option Value) (fa:Addr) (o:Obj) (pm cd doc:Value) (a:Addr) (vs:List Value) (ns:List Int),
   Ground q loose [] XP w s₀ mg mb s₁.heap->YP w s₁.heap ->
   s₁.heap.get? fa=some o->o.data = .func (docDef d.name d.params d.body d.scope pm cd doc)->s₁.heap.CodeRec cd d.name->mg d.name=some (.ref fa) ->
   s₁.heap.get? a=some { cls:=.type "list", data:=.seq vs.toArray }->jz vs ns->ns.length<=n->s₁.gens=#[] ->
   jT (iQ l.prog w) kM (.call (.ref fa) ⟨[.ref a],[]⟩) (λr s'=>r = .ok (.ret (.bool true))/\OldK s₁.heap s'.heap/\s'.os=s₁.os/\jV s'.gens) s₁) :
  WalkO q loose XP YP l.row.toRowW d [] (λf vs=>PySem.call f vs):=by
 intro w s₀ s₁ mg mb G Y fa o pm cd doc dV kV ho hd hcd hD hmg hg args vals as hpre hlay hrd hwl hlo;obtain rfl:dV = .none:=Dflts.none hD hdf;obtain rfl:kV = .none:=Dflts.noKw hD;obtain⟨a,vs,ns,rfl,rfl,hobj,hints,hlen⟩:=OJ hn hpre hwl;refine enter_call (jL (call w s₀ s₁ mg mb fa o pm cd doc a vs ns G Y ho (fd_plain hd) hcd hmg hobj hints hlen hg) λr s' hq=>?_)
 obtain⟨rfl,h2,h3,h4⟩:=hq;exact⟨.inl ⟨.bool true,.bool true,[],rfl,λ_=>rfl,.bool true,PN l _,λ_=>⟨bf.nil,λ_ hm=>(nomatch hm)⟩⟩,h2,h3,h4⟩
end Att
namespace L2
open PySem PySem.Spec PyProof.Rows
theorem vals_ints:∀{vs:List Value}{ns:List Int},jz vs ns->oV (ns.map V.int) vs
 |_,_,.nil=>.nil
 |_,_,.cons n t h=>.cons ⟨t,rfl⟩ (vals_ints h)
def Z0(H:Hp):Prop:=∀b,H b=none∨∃o xs,H b=some (.frz o (.lst xs))
def T9{P:iW}{w:iZ}{K:W.Frag}{mg mb:Str->Option Value}{CX:KR}{k:Nat}{fa a:Addr}{fd:jb}{x:Str}{sp:Sp}{s₁:iM}{vs:List Value}{ns:List Int}
  (KX:K.In s₁.heap) (hns:s₁.heap.Ns iV mg) (hb:s₁.heap.Ns builtinsNs mb) (hbb:∀x:Str,x ≠ "__name__" -> mb x=jM x) (hlim:s₁.heap.NoLimit) (hg:s₁.gens=#[])
  (ha:s₁.heap.get? a=some { cls:=.type "list", data:=.seq vs.toArray }) (hi:jz vs ns) (hl:ns.length<=iX) (hr:si k kM)
  (F:∀base:Heap,K.In base->base.Ns iV mg->wX P w K mg base CX k fa fd [x] sp) (hbind:∀(s:iM) (u:Value),kN s fd ⟨[u],[]⟩ [(x,u)])
  (hsp:∀H:Hp,Z0 H->rR K H a (ns.map V.int)->sp [.ref a] H (λv _=>v = .bl true) λ_ _ _=>False)
  (hCX:∀H e s',CX [] H s₁ (λ_ _ _=>False) e s'->False) :
  jT (iQ P w) kM (.call (.ref fa) ⟨[.ref a],[]⟩) (λr s'=>r = .ok (.ret (.bool true))/\OldK s₁.heap s'.heap/\s'.os=s₁.os/\jV s'.gens) s₁:=by
 have rv:=vals_ints hi;have lenV:=hi.length;have core:∀H:Hp,Z0 H->rR K H a (ns.map V.int)->Aj P w H s₁.heap->(∀b,H b≠none->b=a)->(H a≠none->K.lookup a=none) ->
   jT (iQ P w) kM (.call (.ref fa) ⟨[.ref a],[]⟩) (λr s'=>r = .ok (.ret (.bool true))/\OldK s₁.heap s'.heap/\s'.os=s₁.os/\jV s'.gens) s₁:=by
  intro H hO hS hok hA hK;have base_of:∀{b:Addr}{o:Obj},s₁.heap.get? b=some o->H b=none->(HG s₁.heap H).get? b=some o:=λe n=>Su e n
  have noA:∀{b:Addr}{o:Obj}{es:Array DictEntry}{ep:Nat},s₁.heap.get? b=some o->o.data = .dict es ep->H b=none:=λ{b o es ep} e d=>by
   cases q:H b with
   |none=>rfl
   |some u =>
    have e':b=a:=hA b (by rw[q];simp)
    subst e';rw[ha]at e;cases e;have d':Data.seq vs.toArray _=Data.dict es ep:=d;cases d'
  have nsK:∀{b:Addr}{m:Str->Option Value},s₁.heap.Ns b m->(HG s₁.heap H).Ns b m:=λ{b m} ⟨o,es,ep,e,d,r⟩=>⟨o,es,ep,base_of e (noA e d),d,r⟩
  have hKb:K.In (HG s₁.heap H):=λb o e=>base_of (KX b o e) (by
   cases q:H b with
   |none=>rfl
   |some u =>
    have e':b=a:=hA b (by rw[q];simp)
    subst e';rw[hK (by rw[q];simp)]at e;cases e)
  have hM:Mod K mg (HG s₁.heap H):=⟨hKb,nsK hns,⟨mb,nsK hb,hbb⟩,let ⟨mc,h1,h2⟩:=hlim;⟨mc,nsK h1,h2⟩⟩
  have e0:Ir P w K mg (HG s₁.heap H) kM [] s₁ H:=⟨rfl,hM,λb o e=>WD e,ef (OX _ _),trivial,λb hb=>absurd (show b∈([]:List Addr) from hb) (by simp),hok,.of_eq hg⟩
  refine jL ((F _ hKb (nsK hns)).run kM [] s₁ H ⟨[.ref a],[]⟩ [.ref a] [.ref a] _ _ hr e0 (hbind s₁ (.ref a)) (.cons rfl .nil) (hsp H hO hS)) λr s' h=>?_
  cases r with
  |error e=>exact(hCX H e s' h).elim
  |ok fl =>
   cases fl with
   |next=>exact False.elim h
   |brk=>exact False.elim h
   |cont=>exact False.elim h
   |ret u =>
    obtain⟨v,H',os,bare,un,hok',r',q⟩:=h;have q':v = .bl true:=q;subst q';obtain rfl:u=hX true:=r';refine⟨rfl,OldK.of_keep λb o e=>?_,os,bare⟩
    cases q:H b with
    |none=>exact un.keep b o e q (by intro z;exact absurd (show b∈([]:List Addr) from z) (by simp)) (by simp)
    |some u =>
     rcases hO b with z|⟨ob,xs,z⟩
     .rw [q]at z;cases z
     .have z2:=un.frzs b ob _ z;obtain⟨e1,_⟩:=hok b _ z;obtain⟨e2,_⟩:=hok' b _ z2;rw[e]at e1;cases e1;exact e2
 cases hk:K.lookup a with
 |some o =>
  have e:=KX a o hk;rw[ha]at e;cases e;refine core (λ_=>none) (λ_=>.inl rfl) (.inr ⟨_,vs.toArray,_,hk,rfl,rfl,rfl,by rw[aq,lenV];exact hl,by simpa using rv⟩) (λb u z=>by have z':(none:Option HO)=some u:=z;cases z') (λb z=>absurd rfl z) λz=>absurd rfl z
 |none =>
  refine core (λb=>if b=a then some (.frz { cls:=.type "list", data:=.seq vs.toArray } (.lst (ns.map V.int))) else none) (λb=>?_) (.inl (.inr ⟨{ cls:=.type "list", data:=.seq vs.toArray },oJ rfl⟩)) (λb u z=>?_) (λb z=>?_) λ_=>hk
  .by_cases hb:b=a
   .exact .inr ⟨_,_,oJ hb⟩
   .exact .inl (oO hb)
  .by_cases hb:b=a
   .have z':=(oJ hb).symm.trans z;cases z';subst hb;exact⟨ha,by rw[lMq];exact hl,vs,_,rv,ha⟩
   .have z':=(oO hb).symm.trans z;cases z'
  .by_cases hb:b=a
   .exact hb
   .exact absurd (oO hb) z
def Vs{l:W.OpenLaw}{n k:Nat}{q:iW}{loose:List Str}{XP:(Str->Option Value)->Heap->Prop}{YP:iZ->Heap->Prop}{d:DefRec}{K:Params->W.Frag}{CX:iZ->KR}{sp:iZ->Sp}{x:Str}
  (hn:l.most=some n) (hn2:n<=iX) (hdf:d.params.defaults=[]) (hr:si k kM)
  (hY:∀(w:iZ) (h:Heap),YP w h->(K w.params).In h)
  (F:∀(w:iZ) (mg:Str->Option Value) (fa:Addr) (h:Heap),(K w.params).In h->h.Ns iV mg->mg d.name=some (.ref fa) ->
   ∃fd:jb,(∀(s:iM) (u:Value),kN s fd ⟨[u],[]⟩ [(x,u)]) /\
    ∀base:Heap,(K w.params).In base->base.Ns iV mg->wX l.prog w (K w.params) mg base (CX w) k fa fd [x] (sp w))
  (hsp:∀(w:iZ) (H:Hp) (a:Addr) (ns:List Int),ns.length<=n->Z0 H->rR (K w.params) H a (ns.map V.int)->sp w [.ref a] H (λv _=>v = .bl true) λ_ _ _=>False)
  (hCX:∀(w:iZ) (H:Hp) (s:iM) (e:Value) (s':iM),CX w [] H s (λ_ _ _=>False) e s'->False) :
  W.WalkO q loose XP YP l.row.toRowW d [] (λf vs=>PySem.call f vs):=by
 refine Att.JX hn hdf λw s₀ s₁ mg mb fa o pm cd doc a vs ns G Y ho hd hcd hmg hobj hints hlen hg=>?_
 have KX:=hY w _ Y;obtain⟨fd,hb,hF⟩:=F w mg fa _ KX G.T.g hmg;exact T9 KX G.T.g G.T.b G.T.builtins G.T.nolimit hg hobj hints (bB hlen hn2) hr hF hb (λH hO hS=>hsp w H a ns hlen hO hS) λH e s'=>hCX w H s₁ e s'
noncomputable def rS(s:Stmt):Arguments:=match s with
 | .FunctionDef _ a _ _ _ _ _ _ _ _=>a
 |_=>{ posonlyargs:=[],args:=[],vararg:=none,kwonlyargs:=[],kw_defaults:=[],kwarg:=none,defaults:=[] }
noncomputable def qL(s:Stmt):List Stmt:=match s with
 | .FunctionDef _ _ b _ _ _ _ _ _ _=>b
 |_=>[]
noncomputable def nH(s:Stmt):jJ:=match s with
 | .FunctionDef _ _ _ _ _ _ sc _ _ _=>sc
 |_=>{ kind:=.function,names:=[],isGenerator:=false,isCoroutine:=false }
abbrev O0:KR:=λ_ _ _ _ _ _=>False
abbrev E0:XK:=λ_ _ _=>False
def M1{X:Cx}:wA O0 X E0:=λ_ _ _ _ _ _ _ h=>h.elim
structure FA (K:W.Frag) (x qual:Str) (st:Stmt) (f:Addr) (fd:jb):Prop where
 ex:∃(oc:Value) (od:Option Addr) (kV doc pm:Value) (an:Option Addr) (qK ct:Value) (osl:Array (Option Value)),
  fd=W.fnOf x qual (rS st) (qL st) (nH st) .none kV doc pm an qK ct/\K.lookup f=some ⟨oc,od,.func fd,osl⟩/\W.codeIn K qK qual=true
 kp:W.keepIn K (.ref f)=true
section
variable {P:iW}{w:iZ}{K:W.Frag}{mg:Str->Option Value}{base:Heap}
def FA.ok{x qual:Str}{st:Stmt}{f:Addr}{fd:jb}{N ps:List Str}{k:Nat}{sp:Sp}(F:FA K x qual st f fd) (S:oa N ps (nH st)) (len:∀vs H Q E,sp vs H Q E->vs.length=ps.length)
  (hbody:∀(qK:Value) (A:Around) (outer:List Env) (s:iM) (H:Hp) (vs:List V) (Q:VK) (E:XK),si k (A.deeper (jk qual (nH st) s.heap.objs.size f qK))->sp vs H Q E ->
   ∃t,JI (HM O0 P w K mg base N qual (nH st) f qK A outer s H E).nox (qL st) t/\t { nx:=λ_ H'=>Q .non H',rt:=Q } (sZ N vs) H):wX P w K mg base O0 (k+1) f fd ps sp:=by
 obtain⟨oc,od,kV,doc,pm,an,qK,ct,osl,rfl,lk,hcd⟩:=F.ex;refine Xf lk hcd S len λA outer s H vs Q E hr hsp=>?_
 obtain⟨t,h,q⟩:=hbody qK A outer s H vs Q E hr hsp;exact⟨t,h.nox,q⟩
def FA.binds{x qual:Str}{st:Stmt}{f:Addr}{fd:jb}{ps:List Str}(F:FA K x qual st f fd)
  (h:∀(kV doc pm:Value) (an:Option Addr) (qK ct:Value) (us:List Value),us.length=ps.length->bindArgs (W.fnOf x qual (rS st) (qL st) (nH st) .none kV doc pm an qK ct) ⟨us,[]⟩=pure (ps.zip us)):qI K fd ps []:=by
 obtain⟨oc,od,kV,doc,pm,an,qK,ct,osl,rfl,lk,hcd⟩:=F.ex;exact .all (h kV doc pm an qK ct)
def va{x qual:Str}{st:Stmt}{f:Addr}{oc:Value}{od an:Option Addr}{osl:Array (Option Value)}{kV doc pm qK ct:Value}(l:K.lookup f=some ⟨oc,od,.func (W.fnOf x qual (rS st) (qL st) (nH st) .none kV doc pm an qK ct),osl⟩)
  (c:W.codeIn K qK qual=true) (k:W.keepIn K (.ref f)=true):FA K x qual st f (W.fnOf x qual (rS st) (qL st) (nH st) .none kV doc pm an qK ct):=⟨⟨oc,od,kV,doc,pm,an,qK,ct,osl,rfl,l,c⟩,k⟩
end
def Ab{A:Around}{k:Nat}(hr:si k A):A.units+1<jB:=Nat.lt_of_le_of_lt (Nat.add_le_add_left (by decide:1<=64) _) hr.units
section
variable {X:Cx}
def pv(i:Nat) {x:Str}{pos:Pos}(hN:X.N[i]?=some x:=by rfl) (hv:Vis X.env.scope x:=by trivial) (hd:(x == ("__debug__" : Str))=false:=by decide)
  (hcd:(x == ("__classdict__" : Str))=false:=by decide):PE X (.Name x pos) (uS i):=X6 hN hv hd hcd
end
def GA{A B:Prop}(h:B):if false=true then A else B:=by
 rw[oO ay];exact h
def Gw{A B:Prop}(h:A):if true=true then A else B:=by
 rw[oJ rfl];exact h
def oX(H H':Hp):Prop:=∀b o,H b=some o->H' b=some o
def oX.refl(H:Hp):oX H H:=λ_ _ h=>h
def oX.trans{H H1 H2:Hp}(a:oX H H1) (b:oX H1 H2):oX H H2:=λc o h=>b c o (a c o h)
def oX.free{H H':Hp}(e:oX H H') {l:Addr}(h:H' l=iH):H l=iH:=by
 cases q:H l with
 |none=>rfl
 |some o =>
  rw[e l o q]at h;cases h
def oX.seq{K:W.Frag}{H H':Hp}{a:Addr}{xs:List V}(e:oX H H') (h:rR K H a xs):rR K H' a xs:=by
 rcases h with (h|⟨o,h⟩)|h
 .exact .inl (.inl (e _ _ h))
 .exact .inl (.inr ⟨o,e _ _ h⟩)
 .exact .inr h
end L2
namespace Mr
def cell(ns:List Int) (k:Nat):Int:=ns.getD k 0
def pO(ns:List Int):Nat->Nat
 |0=>0
 |k+1=>if ns.getD k 0<ns.getD (pO ns k) 0 then k else pO ns k
noncomputable def rot(ns:List Int) (i:Nat):List Int:=ns.drop i++ns.take i
def good(ns:List Int):List Int:=rot ns (pO ns ns.length)
theorem wI(ns:List Int):∀n,(0<n->pO ns n<n)/\(∀j,j<n->ns.getD (pO ns n) 0<=ns.getD j 0)/\(∀j,j<pO ns n->ns.getD (pO ns n) 0<ns.getD j 0)
 |0=>⟨λh=>absurd h (cC _),λj h=>absurd h (cS _),λj h=>absurd h (cS _)⟩
 |n+1=>by
  obtain⟨h1,h2,h3⟩:=wI ns n;simp only[pO]
  by_cases c:ns.getD n 0<ns.getD (pO ns n) 0
  .rw [oJ c];refine⟨λ_=>dh n,λj hj=>?_,λj hj=>?_⟩
   .rcases dS (gO hj) with q|q
    .have:=h2 j q;lia
    .subst q;exact gU _
   .have:=h2 j hj;lia
  .rw [oO c];refine⟨λ_=>?_,λj hj=>?_,h3⟩
   .by_cases hn:0<n
    .exact cj (h1 hn)
    .have:n=0:=by lia
     subst this;exact dh 0
   .rcases dS (gO hj) with q|q
    .exact h2 j q
    .subst q;lia
def EI(ns:List Int):pO ns ns.length<=ns.length:=by
 by_cases h:0<ns.length
 .exact bC ((wI ns ns.length).1 h)
 .have:ns.length=0:=by lia
  rw[this];exact af 0
def xR{ns:List Int}{j:Nat}(h:j<ns.length):ns.getD j 0=ns[j]:=by
 rw[gDq,gEg h];rfl
def Av{ns:List Int}{M:Int}(hm:M∈ns) (hl:∀a,a∈ns->M<=a):ns.idxOf M=pO ns ns.length:=by
 have h0:0<ns.length:=fQ hm;obtain⟨h1,h2,h3⟩:=wI ns ns.length;have h1:=h1 h0;have hi:ns.idxOf M<ns.length:=bM.mpr hm;have e:ns.getD (ns.idxOf M) 0=M:=by rw[xR hi];exact dU hi
 have eL:ns.getD (pO ns ns.length) 0=M:=by
  have q1:=h2 _ hi;rw[e]at q1;have q2:=hl _ (by rw[xR h1];exact gRq h1:ns.getD (pO ns ns.length) 0∈ns)
  lia
 rcases gP (ns.idxOf M) (pO ns ns.length) with q|q|q
 .have:=h3 _ q;lia
 .exact q
 .exfalso;have:=fS (p:=(· == M)) (xs:=ns) (i:=pO ns ns.length) (by simpa [List.idxOf] using q)
  rw[xR h1]at eL;simp[eL]at this
def Um:good []=[]:=rfl
def Ly(ns:List Int) (i:Nat):(rot ns i).length=ns.length:=by
 unfold rot;rw[lAq,au,lTq];lia
def KF(ns:List Int):(good ns).length=ns.length:=Ly _ _
def step(ns:List Int):Int:=if 0<cell ns 0 % 3 then cell ns 0 % 10 ^ 40+1 else 1
def abe(ns:List Int):Int:=if 0<cell ns 1 % 3 then cell ns 1 % 10 ^ 40 else 0
def Xa(ns:List Int) (k:Int):Int:=step ns*(((1+cell ns 1 / 3 % 66)*k+cell ns 0 / 3 % 67) % 67+1)+abe ns
def ae8(ns:List Int) (k:Int):Int:=if cell ns 1 % 5=4 then 10 ^ 60-Xa ns k else Xa ns k
def BI{A B:List Int}{m:Int}(h:∀x,x∈A->m<x) (h2:∀x,x∈B->m<=x):good (A++m::B)=m::B++A:=by
 have hm:m∈A++m::B:=by simp
 have hl:∀a,a∈A++m::B->m<=a:=λa ha=>by
  rcases mAq.mp ha with q|q
  .exact eV (h a q)
  .rcases ak.mp q with rfl|q
   .exact gU _
   .exact h2 a q
 have e:=Av hm hl;have ei:(A++m::B).idxOf m=A.length:=by
  rw[List.idxOf_append,oO (λq=>absurd (h m q) (Int.lt_irrefl m)),List.idxOf_cons_self,cR]
 unfold good rot;rw[←e,ei,List.drop_left,List.take_left]
def KP{t:List Int}(h0:t≠[]) (hn:t.Nodup):∃A m B,t=A++m::B/\(∀x,x∈A->m<x)/\∀x,x∈B->m<x:=by
 have hl:0<t.length:=dG.mpr h0;obtain⟨h1,h2,h3⟩:=wI t t.length;have h1:=h1 hl;refine⟨t.take (pO t t.length),t[pO t t.length],t.drop (pO t t.length+1),?_,?_,?_⟩
 .rw [←aL h1,aR]
 .intro x hx;obtain⟨j,hj,rfl⟩:=List.mem_take_iff_getElem.mp hx;have:=h3 j (by lia)
  rw[xR h1,xR (by lia)]at this
  exact this
 .intro x hx;obtain⟨j,hj,rfl⟩:=List.mem_drop_iff_getElem.mp hx;have a:=h2 (pO t t.length+1+j) (by lia)
  rw[xR h1,xR (by lia)]at a
  have ne:t[pO t t.length]≠t[pO t t.length+1+j]:=bV.mp hn _ _ h1 (by lia) (by lia)
  lia
def JY{t:List Int}(hn:t.Nodup) (i:Nat):good (rot t i)=good t:=by
 by_cases h0:t=[]
 .subst h0;simp[rot]
 .obtain ⟨A,m,B,rfl,h1,h2⟩:=KP h0 hn;rw[BI h1 (λx q=>eV (h2 x q))]
  by_cases c:i<=A.length
  .have e:rot (A++m::B) i=A.drop i++m::(B++A.take i):=by
    unfold rot;rw[List.drop_append_of_le_length c,List.take_append_of_le_length c];simp
   rw[e,BI (λx q=>h1 x (bh q)) (λx q=>?_)]
   .simp
   .rcases mAq.mp q with q|q
    .exact eV (h2 x q)
    .exact eV (h1 x (aU q))
  .have hi:A.length<i:=by lia
   obtain⟨j,rfl⟩:∃j,i=A.length+(j+1):=⟨i-A.length-1,by lia⟩
   have e:rot (A++m::B) (A.length+(j+1))=(B.drop j++A)++m::B.take j:=by
    unfold rot;rw[gV,List.take_append];simp[bT,bg]
   rw[e,BI (λx q=>?_) (λx q=>eV (h2 x (aU q)))]
   .rw [gW,gW,←ar,aR]
   .rcases mAq.mp q with q|q
    .exact h2 x (bh q)
    .exact h1 x q
def rot_perm(t:List Int) (i:Nat):(rot t i).Perm t:=by
 unfold rot;exact bJ.trans (by rw[aR])
def yx(t:List Int):(good t).Perm t:=rot_perm t _
def zH{rs ts:List (List Int)}(h:rs.Perm ts):rs.flatten.Perm ts.flatten:=by
 induction h with
 |nil=>exact .refl _
 |cons x _ ih=>rw[fCq,fCq];exact bG.append (.refl x) ih
 |swap x y l =>
  rw[fCq,fCq,fCq,fCq,←ar,←ar];exact bG.append bJ (.refl _)
 |trans _ _ a b=>exact a.trans b
theorem ug{f:List Int->List Int}(hf:∀r,(f r).Perm r):∀rs:List (List Int),(rs.map f).flatten.Perm rs.flatten
 | []=>.refl _
 |r::rs=>by
  rw[aw,fCq,fCq];exact bG.append (hf r) (ug hf rs)
def PR{rs:List (List Int)}{r:List Int}(h:rs.flatten.Nodup) (hr:r∈rs):r.Nodup:=bf.sublist (bj hr) h
def AG{rs:List (List Int)}{r:List Int}(hr:r∈rs):r.length<=rs.flatten.length:=(bj hr).length_le
def Na:∀t:Fin 66,∀d:Fin 67,0<d.val->(t.val+1)*d.val % 67≠0:=by decide +kernel
end Mr
namespace MrS
open PySem PyProof.Rows
noncomputable def xK:Bool->iO->Array iO->Nat->Nat->Nat->StateT SortSt Sem (Option Nat):=sortPriv% PySem.Builtin.gallop
structure Bz (prog:iW) (w:iZ) (A:Around) (s:iM) (κ:jy) (P:iO->Prop) (lt:iO->iO->Bool):Prop where
 ask:∀x y,P x->P y->∀(E:Value->iM->Prop) (Q:Bool->iM->Prop),Q (lt x y) s->iS (iQ prog w) A (keyLt' κ x.1 y.1) Q E s
 asym:∀x y,P x->P y->lt x y=true->lt y x=false
 trans:∀x y z,P x->P y->P z->lt y x=false->lt z y=false->lt z x=false
section
variable {prog:iW}{w:iZ}{A:Around}{E:Value->iM->Prop}{s:iM}{κ:jy}{P:iO->Prop}{lt:iO->iO->Bool}
def Bz.refl(C:Bz prog w A s κ P lt) {x:iO}(hx:P x):lt x x=false:=by
 cases e:lt x x with
 |false=>rfl
 |true=>rw[←C.asym x x hx hx e,e]
def Bz.cmp(C:Bz prog w A s κ P lt) {x y:iO}{st:SortSt}{Q:Option Bool->SortSt->Prop}(hx:P x) (hy:P y) (hk:kindOf st=κ) (h:Q (some (lt x y)) st) :
  wpS (iQ prog w) A E s (lt' x y) Q st:=by
 rw[lt'_eq];refine iR (jS ?_);rw[hk];refine iR (wpS_lift (wpAny_attempt (C.ask x y hx hy _ _ ⟨rfl,?_⟩)));exact iU h
def pU{arr:Array iO}{i:Nat}{x:iO}{st:SortSt}{Q:iO->SortSt->Prop}(hx:arr[i]?=some x) (h:Q x st):wpS (iQ prog w) A E s (jw arr i) Q st:=by
 rw[elem'_eq,hx];exact iU h
def Bz.at(C:Bz prog w A s κ P lt) {i j:Nat}{x y:iO}{st:SortSt}{Q:Option Bool->SortSt->Prop}(hi:(jc st)[i]?=some x) (hj:(jc st)[j]?=some y) (hx:P x) (hy:P y) (hk:kindOf st=κ) (h:Q (some (lt x y)) st) :
  wpS (iQ prog w) A E s (ltAt' i j) Q st:=by
 rw[ltAt'_eq];refine iR (jS ?_);exact iR (pU hi (iR (pU hj (C.cmp hx hy hk h))))
def zM(lt:iO->iO->Bool) (left:Bool) (key:iO) (arr:Array iO) (base i:Nat):Bool :=
 if left then lt (arr.getD (base+i) key) key else !lt key (arr.getD (base+i) key)
def MD(left:Bool) (key:iO) (arr:Array iO) (base n hint:Nat):xK left key arr base n hint=(do
 let beyond (i:Nat):StateT SortSt Sem (Option Bool):=do
  let x ←jw arr (base+i)
  if left then lt' x key else return (←lt' key x).map (!·)
 let mut lastofs:=0
 let mut ofs:=1
 let mut lo:=0
 let mut hi:=0
 let some right ←beyond hint|return none
 if right then
  let maxofs:=n-hint
  for _ in [0:n] do
   if ofs ≥ maxofs then break
   let some more ←beyond (hint+ofs)|return none
   if !more then break
   lastofs:=ofs
   ofs:=2*ofs+1
  lo:=hint+lastofs+1
  hi:=hint+min ofs maxofs
 else
  let maxofs:=hint+1
  for _ in [0:n] do
   if ofs ≥ maxofs then break
   let some found ←beyond (hint-ofs)|return none
   if found then break
   lastofs:=ofs
   ofs:=2*ofs+1
  lo:=hint+1-min ofs maxofs
  hi:=hint-lastofs
 for _ in [0:n] do
  if lo ≥ hi then break
  let m:=lo+(hi-lo) / 2
  let some more ←beyond m|return none
  if more then lo:=m+1 else hi:=m
 return some hi):=rfl
def wY(C:Bz prog w A s κ P lt) {left:Bool}{key:iO}{arr:Array iO}{base i:Nat}{st:SortSt}{Q:Option Bool->SortSt->Prop}(hi:base+i<arr.size) (ha:∀x,x∈arr->P x) (hkey:P key) (hk:kindOf st=κ)
  (h:Q (some (zM lt left key arr base i)) st):wpS (iQ prog w) A E s (do
   let x ←jw arr (base+i)
   if left=true then lt' x key else do
    let __x ←lt' key x
    pure (__x.map (!·))) Q st:=by
 have e:arr[base+i]?=some arr[base+i]:=ag hi;have e2:arr.getD (base+i) key=arr[base+i]:=by simp[gA,hi]
 refine iR (pU e ?_);have hp:P arr[base+i]:=ha _ (aX hi);unfold zM at h;rw[e2]at h;cases left with
 |true =>
  rw[oJ rfl]at h ⊢;exact C.cmp hp hkey hk h
 |false =>
  rw[oO (by decide)]at h ⊢
  exact iR (C.cmp hkey hp hk (iU h))
def D8{left:Bool}{key:iO}{arr:Array iO}{base n lo hi:Nat}{st:SortSt}{f:Nat->Option (Option Nat)×Nat×Nat->StateT SortSt Sem (ForInStep (Option (Option Nat)×Nat×Nat))}
  (mono:∀i j,i<=j->j<n->zM lt left key arr base j=true->zM lt left key arr base i=true)
  (down:∀i j,i<=j->j<n->zM lt left key arr base i=false->zM lt left key arr base j=false)
  (hf:∀(i l u:Nat) (Q':ForInStep (Option (Option Nat)×Nat×Nat)->SortSt->Prop),u<=n->(u<=l->Q' (.done (none,l,u)) st)->(l<u->zM lt left key arr base (l+(u-l) / 2)=true->Q' (.yield (none,l+(u-l) / 2+1,u)) st) ->
   (l<u->zM lt left key arr base (l+(u-l) / 2)=false->Q' (.yield (none,l,l+(u-l) / 2)) st)->wpS (iQ prog w) A E s (f i (none,l,u)) Q' st)
  (h1:lo<=hi) (h2:hi<=n) (h3:∀j,j<lo->zM lt left key arr base j=true) (h4:∀j,hi<=j->j<n->zM lt left key arr base j=false) :
  wpS (iQ prog w) A E s (forIn [:n] ((none,lo,hi):Option (Option Nat)×Nat×Nat) f)
   (λc st'=>∃k,c=(none,k,k)/\st'=st/\k<=n/\(∀j,j<k->zM lt left key arr base j=true)/\(∀j,k<=j->j<n->zM lt left key arr base j=false)) st:=by
 refine jm
  (I:=λi c st'=>∃l u,c=(none,l,u)/\st'=st/\l<=u/\u<=n/\(∀j,j<l->zM lt left key arr base j=true)/\(∀j,u<=j->j<n->zM lt left key arr base j=false)/\(u-l)+i<=n)
  ?step ?fin ⟨lo,hi,rfl,rfl,h1,h2,h3,h4,by lia⟩
 case step =>
  rintro i c st' _ hi' ⟨l,u,rfl,rfl,a1,a2,a3,a4,a5⟩;refine hf i l u _ a2 (λc1=>?_) (λc1 e=>?_) (λc1 e=>?_)
  .have e:l=u:=by lia
   subst e;exact⟨l,rfl,rfl,a2,a3,a4⟩
  .exact ⟨_,u,rfl,rfl,by lia,a2,λj hj=>mono j _ (by lia) (by lia) e,a4,by lia⟩
  .exact ⟨l,_,rfl,rfl,by lia,by lia,a3,λj hj hn=>down _ j hj hn e,by lia⟩
 case fin =>
  rintro c st' ⟨l,u,rfl,rfl,a1,a2,a3,a4,a5⟩;have e:l=u:=by lia
  subst e;exact⟨l,rfl,rfl,a2,a3,a4⟩
def vH(C:Bz prog w A s κ P lt) {left:Bool}{key:iO}{arr:Array iO}{base n hint:Nat}{st:SortSt}{Q:Option Nat->SortSt->Prop}(hh:hint<n) (hb:base+n<=arr.size) (ha:∀x,x∈arr->P x) (hkey:P key) (hk:kindOf st=κ)
  (mono:∀i j,i<=j->j<n->zM lt left key arr base j=true->zM lt left key arr base i=true)
  (h:∀k,k<=n->(∀j,j<k->zM lt left key arr base j=true)->(∀j,k<=j->j<n->zM lt left key arr base j=false)->Q (some k) st) :
  wpS (iQ prog w) A E s (xK left key arr base n hint) Q st:=by
 have down:∀i j,i<=j->j<n->zM lt left key arr base i=false->zM lt left key arr base j=false:=λi j hij hj e=>by
  cases q:zM lt left key arr base j with
  |false=>rfl
  |true=>rw[mono i j hij hj q]at e;cases e
 rw[MD];dsimp only;refine iR (wY C (base:=base) (i:=hint) (by lia) ha hkey hk ?_)
 cases er:zM lt left key arr base hint with
 |true =>
  dsimp only;rw[oJ rfl];refine iR (jr (jm
   (I:=λi c st'=>∃l o,c=(none,l,o)/\st'=st/\l<o/\i+1<=o/\hint+l<n/\zM lt left key arr base (hint+l)=true)
   (Q:=λc st'=>∃l o,c=(none,l,o)/\st'=st/\l<o/\hint+l<n/\zM lt left key arr base (hint+l)=true/\(n-hint<=o∨(hint+o<n/\zM lt left key arr base (hint+o)=false)))
   ?step ?fin ⟨0,1,rfl,rfl,by lia,by lia,by lia,er⟩) ?post)
  case step =>
   rintro i c st' _ hi' ⟨l,o,rfl,rfl,a1,a2,a3,a4⟩;dsimp only
   by_cases c1:o ≥ n-hint
   .rw [oJ c1];exact iU ⟨l,o,rfl,rfl,a1,a3,a4,.inl c1⟩
   .rw [oO c1];refine iR (wY C (base:=base) (i:=hint+o) (by lia) ha hkey hk ?_)
    cases e:zM lt left key arr base (hint+o) with
    |true =>
     dsimp only;rw[oO (by decide)]
     exact iU ⟨o,_,rfl,rfl,by lia,by lia,by lia,e⟩
    |false =>
     dsimp only;rw[oJ (by decide)]
     exact iU ⟨l,o,rfl,rfl,a1,a3,a4,.inr ⟨by lia,e⟩⟩
  case fin =>
   rintro c st' ⟨l,o,rfl,rfl,a1,a2,a3,a4⟩;exact⟨l,o,rfl,rfl,a1,a3,a4,.inl (by lia)⟩
  case post =>
   rintro c st' ⟨l,o,rfl,rfl,a1,a3,a4,a5⟩;dsimp only;refine iR (jr (D8 (lt:=lt) (left:=left) (key:=key) (arr:=arr) (base:=base) mono down (λi l' u' Q' hu q1 q2 q3=>?_) (by lia) (by lia) (λj hj=>mono j _ (by lia) a3 a4) ?_) ?_)
   .dsimp only
    by_cases c1:l' ≥ u'
    .rw [oJ c1];exact iU (q1 c1)
    .rw [oO c1];refine iR (wY C (base:=base) (i:=l'+(u'-l') / 2) (by lia) ha hkey hk ?_)
     cases e:zM lt left key arr base (l'+(u'-l') / 2) with
     |true =>
      dsimp only;rw[oJ rfl];exact iU (q2 (by lia) e)
     |false =>
      dsimp only;rw[oO (by decide)]
      exact iU (q3 (by lia) e)
   .intro j hj hn;rcases a5 with a5|⟨a5,a6⟩
    .lia
    .exact down (hint+o) j (by lia) hn a6
   .rintro c st' ⟨k,rfl,rfl,k1,k2,k3⟩;exact iU (h k k1 k2 k3)
 |false =>
  dsimp only;rw[oO (by decide)]
  refine iR (jr (jm
   (I:=λi c st'=>∃l o,c=(none,l,o)/\st'=st/\l<o/\i+1<=o/\l<=hint/\zM lt left key arr base (hint-l)=false)
   (Q:=λc st'=>∃l o,c=(none,l,o)/\st'=st/\l<o/\l<=hint/\zM lt left key arr base (hint-l)=false/\(hint+1<=o∨(o<=hint/\zM lt left key arr base (hint-o)=true)))
   ?step ?fin ⟨0,1,rfl,rfl,by lia,by lia,by lia,er⟩) ?post)
  case step =>
   rintro i c st' _ hi' ⟨l,o,rfl,rfl,a1,a2,a3,a4⟩;dsimp only
   by_cases c1:o ≥ hint+1
   .rw [oJ c1];exact iU ⟨l,o,rfl,rfl,a1,a3,a4,.inl c1⟩
   .rw [oO c1];refine iR (wY C (base:=base) (i:=hint-o) (by lia) ha hkey hk ?_)
    cases e:zM lt left key arr base (hint-o) with
    |true =>
     dsimp only;rw[oJ rfl];exact iU ⟨l,o,rfl,rfl,a1,a3,a4,.inr ⟨by lia,e⟩⟩
    |false =>
     dsimp only;rw[oO (by decide)]
     exact iU ⟨o,_,rfl,rfl,by lia,by lia,by lia,e⟩
  case fin =>
   rintro c st' ⟨l,o,rfl,rfl,a1,a2,a3,a4⟩;exact⟨l,o,rfl,rfl,a1,a3,a4,.inl (by lia)⟩
  case post =>
   rintro c st' ⟨l,o,rfl,rfl,a1,a3,a4,a5⟩;dsimp only;refine iR (jr (D8 (lt:=lt) (left:=left) (key:=key) (arr:=arr) (base:=base) mono down (λi l' u' Q' hu q1 q2 q3=>?_) (by lia) (by lia) ?_ (λj hj hn=>down _ j hj hn a4)) ?_)
   .dsimp only
    by_cases c1:l' ≥ u'
    .rw [oJ c1];exact iU (q1 c1)
    .rw [oO c1];refine iR (wY C (base:=base) (i:=l'+(u'-l') / 2) (by lia) ha hkey hk ?_)
     cases e:zM lt left key arr base (l'+(u'-l') / 2) with
     |true =>
      dsimp only;rw[oJ rfl];exact iU (q2 (by lia) e)
     |false =>
      dsimp only;rw[oO (by decide)]
      exact iU (q3 (by lia) e)
   .intro j hj;rcases a5 with a5|⟨a5,a6⟩
    .lia
    .exact mono j (hint-o) (by lia) (by lia) a6
   .rintro c st' ⟨k,rfl,rfl,k1,k2,k3⟩;exact iU (h k k1 k2 k3)
end
abbrev zz(lt:iO->iO->Bool) (l:List iO):Prop:=l.Pairwise λx y=>lt y x=false
structure MI (lt:iO->iO->Bool) (a b out:Array iO) (ia ib:Nat):Prop where
 la:ia<=a.size
 lb:ib<=b.size
 pm:(out.toList++(a.toList.drop ia++b.toList.drop ib)).Perm (a.toList++b.toList)
 so:zz lt out.toList
 ua:∀x∈out.toList,∀y∈a.toList.drop ia,lt y x=false
 ub:∀x∈out.toList,∀y∈b.toList.drop ib,lt y x=false
section
variable {lt:iO->iO->Bool}{a b out out':Array iO}{ia ib k:Nat}
def MI.congr(m:MI lt a b out ia ib) (e:out'.toList=out.toList):MI lt a b out' ia ib:=⟨m.la,m.lb,by rw[e];exact m.pm,by rw[e];exact m.so,by rw[e];exact m.ua,by rw[e];exact m.ub⟩
def Ks(l:List iO) (i k:Nat):l.drop i=(l.drop i).take k++l.drop (i+k):=by
 rw[←List.drop_drop,aR]
def zB(a:Array iO) (i k:Nat):(a.extract i (i+k)).toList=(a.toList.drop i).take k:=by
 rw[dB,dJ,fJ]
def MI.moreA(m:MI lt a b out ia ib) (sa:zz lt a.toList) (hk:ia+k<=a.size) (h:∀x∈(a.toList.drop ia).take k,∀y∈b.toList.drop ib,lt y x=false):MI lt a b (out++a.extract ia (ia+k)) (ia+k) ib:=by
 have e:(out++a.extract ia (ia+k)).toList=out.toList++(a.toList.drop ia).take k:=by rw[aH,zB]
 have sd:zz lt (a.toList.drop ia):=sa.sublist (bH _ _);have c:=Ks a.toList ia k;have sd2:=sd;rw[c]at sd2;obtain⟨q1,q2,q3⟩:=aQ.mp sd2;refine⟨hk,m.lb,?_,?_,?_,?_⟩
 .rw [e,ar];refine(bG.append_left _ ?_).trans m.pm;rw[←ar,←c]
 .rw [e];exact aQ.mpr ⟨m.so,q1,λx hx y hy=>m.ua x hx y (aU hy)⟩
 .rw [e];intro x hx y hy;rcases mAq.mp hx with hx|hx
  .exact m.ua x hx y (by rw[c];exact aC _ hy)
  .exact q3 x hx y hy
 .rw [e];intro x hx y hy;rcases mAq.mp hx with hx|hx
  .exact m.ub x hx y hy
  .exact h x hx y hy
def MI.moreB(m:MI lt a b out ia ib) (sb:zz lt b.toList) (hk:ib+k<=b.size) (h:∀x∈(b.toList.drop ib).take k,∀y∈a.toList.drop ia,lt y x=false):MI lt a b (out++b.extract ib (ib+k)) ia (ib+k):=by
 have e:(out++b.extract ib (ib+k)).toList=out.toList++(b.toList.drop ib).take k:=by rw[aH,zB]
 have sd:zz lt (b.toList.drop ib):=sb.sublist (bH _ _);have c:=Ks b.toList ib k;have sd2:=sd;rw[c]at sd2;obtain⟨q1,q2,q3⟩:=aQ.mp sd2;refine⟨m.la,hk,?_,?_,?_,?_⟩
 .rw [e,ar];refine(bG.append_left _ ?_).trans m.pm;refine((List.perm_append_comm_assoc _ _ _).trans ?_);rw[←c]
 .rw [e];exact aQ.mpr ⟨m.so,q1,λx hx y hy=>m.ub x hx y (aU hy)⟩
 .rw [e];intro x hx y hy;rcases mAq.mp hx with hx|hx
  .exact m.ua x hx y hy
  .exact h x hx y hy
 .rw [e];intro x hx y hy;rcases mAq.mp hx with hx|hx
  .exact m.ub x hx y (by rw[c];exact aC _ hy)
  .exact q3 x hx y hy
def ze{l:List iO}{i:Nat}{x:iO}(h:l[i]?=some x):(l.drop i).take 1=[x]:=by
 obtain⟨hi,e⟩:=gSq.mp h;rw[aL hi,e];rfl
def MI.pushA{x:iO}(m:MI lt a b out ia ib) (sa:zz lt a.toList) (hx:a[ia]?=some x) (h:∀y∈b.toList.drop ib,lt y x=false):MI lt a b (out.push x) (ia+1) ib:=by
 have hi:ia<a.size:=(aG.mp hx).1;have hx':a.toList[ia]?=some x:=by rw[aJ];exact hx
 refine(m.moreA sa (k:=1) hi λz hz y hy=>?_).congr ?_
 .rw [ze hx',mSq]at hz;rw[hz];exact h y hy
 .rw [cV,aH,zB,ze hx']
def MI.pushB{x:iO}(m:MI lt a b out ia ib) (sb:zz lt b.toList) (hx:b[ib]?=some x) (h:∀y∈a.toList.drop ia,lt y x=false):MI lt a b (out.push x) ia (ib+1):=by
 have hi:ib<b.size:=(aG.mp hx).1;have hx':b.toList[ib]?=some x:=by rw[aJ];exact hx
 refine(m.moreB sb (k:=1) hi λz hz y hy=>?_).congr ?_
 .rw [ze hx',mSq]at hz;rw[hz];exact h y hy
 .rw [cV,aH,zB,ze hx']
structure UO (lt:iO->iO->Bool) (a b r:Array iO):Prop where
 pm:r.toList.Perm (a.toList++b.toList)
 so:zz lt r.toList
def yE(a:Array iO) (i:Nat):(a.extract i a.size).toList=a.toList.drop i:=by
 rw[dB,dJ];exact bg (by rw[au,ax];exact af _)
def MI.endB(m:MI lt a b out ia ib) (sa:zz lt a.toList) (e:ib=b.size):UO lt a b (out++a.extract ia a.size++b.extract ib b.size):=by
 have eb:b.toList.drop ib=[]:=by rw[e,←ax,cF]
 have et:(out++a.extract ia a.size++b.extract ib b.size).toList=out.toList++a.toList.drop ia:=by
  rw[aH,aH,yE,yE,eb,aNq]
 have pm:=m.pm;rw[eb,aNq]at pm;exact⟨by rw[et];exact pm,by rw[et];exact aQ.mpr ⟨m.so,sa.sublist (bH _ _),m.ua⟩⟩
def MI.endA(m:MI lt a b out ia ib) (sb:zz lt b.toList) (e:ia=a.size):UO lt a b (out++a.extract ia a.size++b.extract ib b.size):=by
 have ea:a.toList.drop ia=[]:=by rw[e,←ax,cF]
 have et:(out++a.extract ia a.size++b.extract ib b.size).toList=out.toList++b.toList.drop ib:=by
  rw[aH,aH,yE,yE,ea,aNq]
 have pm:=m.pm;rw[ea,cm]at pm;exact⟨by rw[et];exact pm,by rw[et];exact aQ.mpr ⟨m.so,sb.sublist (bH _ _),m.ub⟩⟩
def MI.lastA(m:MI lt a b out ia ib) (sa:zz lt a.toList) (sb:zz lt b.toList) (h:∀x∈b.toList.drop ib,∀y∈a.toList.drop ia,lt y x=false):UO lt a b (out++b.extract ib b.size++a.extract ia a.size):=by
 have et:(out++b.extract ib b.size++a.extract ia a.size).toList=out.toList++(b.toList.drop ib++a.toList.drop ia):=by
  rw[aH,aH,yE,yE,ar]
 refine⟨?_,?_⟩
 .rw [et];exact(bG.append_left _ bJ).trans m.pm
 .rw [et];refine aQ.mpr ⟨m.so,aQ.mpr ⟨sb.sublist (bH _ _),sa.sublist (bH _ _),h⟩,λx hx y hy=>?_⟩
  rcases mAq.mp hy with hy|hy
  .exact m.ub x hx y hy
  .exact m.ua x hx y hy
end
noncomputable def EN:Array iO->Array iO->StateT SortSt Sem (Array iO):=sortPriv% PySem.Builtin.mergeLo
noncomputable def tD:Nat->StateT SortSt Sem Unit:=sortPriv% PySem.Builtin.setMinGallop
abbrev sg(st:SortSt) (g:Nat):SortSt:=SortSt.mk' (kindOf st) (jc st) (jI st) g (failedOf st)
def DN(g:Nat):tD g=modify λst=>sg st g:=rfl
section
variable (a b:Array iO)
noncomputable abbrev dn(o:Array iO) (i j:Nat):=o++a.extract i a.size++b.extract j b.size
noncomputable abbrev lA(o:Array iO) (i j:Nat):=o++b.extract j b.size++a.extract i a.size
noncomputable abbrev SF(α:Type):=ForInStep (Option (Array iO)×Array iO×Nat×Nat×α)
def loC(o:Array iO) (i j m k l:Nat):StateT SortSt Sem (SF (Nat×Nat×Nat)):=do
 let x ←jw a i
 if i+1+1 == a.size then pure (.done (some (lA a b (o.push x) (i+1) j),o.push x,i+1,j,m,k,l))
 else if decide (k<7) && decide (l<7) then pure (.done (none,o.push x,i+1,j,m,k,l))
 else pure (.yield (none,o.push x,i+1,j,m,k,l))
def loB(o:Array iO) (i j m k q:Nat):StateT SortSt Sem (SF (Nat×Nat×Nat)):=do
 let x ←jw b j
 if j+1 == b.size then pure (.done (some (dn a b (o.push x) i (j+1)),o.push x,i,j+1,m,k,q))
 else do
  let y ←jw a i
  match ←xK true y b (j+1) (b.size-(j+1)) 0 with
  |some l =>
   if l>0 then
    if j+1+l == b.size then pure (.done (some (dn a b (o.push x++b.extract (j+1) (j+1+l)) i (j+1+l)),o.push x++b.extract (j+1) (j+1+l),i,j+1+l,m,k,l))
    else loC a b (o.push x++b.extract (j+1) (j+1+l)) i (j+1+l) m k l
   else loC a b (o.push x) i (j+1) m k l
  |_=>pure (.done (some (dn a b (o.push x) i (j+1)),o.push x,i,j+1,m,k,q))
def loA(o:Array iO) (i j m p q:Nat):StateT SortSt Sem (SF (Nat×Nat×Nat)):=do
 tD m
 let x ←jw b j
 match ←xK false x a i (a.size-i) 0 with
 |some k =>
  if k>0 then
   if i+k+1 == a.size then pure (.done (some (lA a b (o++a.extract i (i+k)) (i+k) j),o++a.extract i (i+k),i+k,j,m,k,q))
   else if i+k == a.size then pure (.done (some (dn a b (o++a.extract i (i+k)) (i+k) j),o++a.extract i (i+k),i+k,j,m,k,q))
   else loB a b (o++a.extract i (i+k)) (i+k) j m k q
  else loB a b o i j m k q
 |_=>pure (.done (some (dn a b o i j),o,i,j,m,p,q))
def lo1(m:Nat) (o:Array iO) (i j p q:Nat):StateT SortSt Sem (SF (Nat×Nat)):=do
 let y ←jw b j
 let x ←jw a i
 match ←lt' y x with
 |some c =>
  if c then do
   let z ←jw b j
   if j+1 == b.size then pure (.done (some (dn a b (o.push z) i (j+1)),o.push z,i,j+1,0,q+1))
   else if q+1 ≥ m then pure (.done (none,o.push z,i,j+1,0,q+1))
   else pure (.yield (none,o.push z,i,j+1,0,q+1))
  else do
   let z ←jw a i
   if i+1+1 == a.size then pure (.done (some (lA a b (o.push z) (i+1) j),o.push z,i+1,j,p+1,0))
   else if p+1 ≥ m then pure (.done (none,o.push z,i+1,j,p+1,0))
   else pure (.yield (none,o.push z,i+1,j,p+1,0))
 |_=>pure (.done (some (dn a b o i j),o,i,j,p,q))
def lo0(o:Array iO) (i j m:Nat):StateT SortSt Sem (SF Nat):=do
 let r ←forIn [0:a.size+b.size] (none,o,i,j,0,0) λ_ s=>lo1 a b m s.2.1 s.2.2.1 s.2.2.2.1 s.2.2.2.2.1 s.2.2.2.2.2
 Break.runK.match_1 (λ_=>StateT SortSt Sem (SF Nat)) r.1 (λv=>pure (.done (some v,r.2.1,r.2.2.1,r.2.2.2.1,m))) λ_=>do
  rule "list.sort.gallop"
  let r ←forIn [0:a.size+b.size] (none,r.2.1,r.2.2.1,r.2.2.2.1,m+1,r.2.2.2.2.1,r.2.2.2.2.2) λ_ s=>if s.2.2.2.2.1>1 then loA a b s.2.1 s.2.2.1 s.2.2.2.1 (s.2.2.2.2.1-1) s.2.2.2.2.2.1 s.2.2.2.2.2.2 else loA a b s.2.1 s.2.2.1 s.2.2.2.1 s.2.2.2.2.1 s.2.2.2.2.2.1 s.2.2.2.2.2.2
  Break.runK.match_1 (λ_=>StateT SortSt Sem (SF Nat)) r.1 (λv=>pure (.done (some v,r.2.1,r.2.2.1,r.2.2.2.1,r.2.2.2.2.1))) λ_=>do
   tD (r.2.2.2.2.1+1)
   pure (.yield (none,r.2.1,r.2.2.1,r.2.2.2.1,r.2.2.2.2.1+1))
def KW:EN a b=(do
 rule "list.sort.merge-lo"
 let x ←jw b 0
 if 1 == b.size then pure (dn a b #[x] 0 1)
 else if 0+1 == a.size then pure (lA a b #[x] 0 1)
 else do
  let st ←get
  let r ←forIn [0:a.size+b.size] (none,#[x],0,1,kc st) λ_ s=>lo0 a b s.2.1 s.2.2.1 s.2.2.2.1 s.2.2.2.2
  Break.runK.match_1 (λ_=>StateT SortSt Sem (Array iO)) r.1 (λv=>pure v) λ_=>mi "internal:list.sort.merge-bound"):=rfl
end
section
variable {prog:iW}{w:iZ}{A:Around}{E:Value->iM->Prop}{s:iM}{κ:jy}{P:iO->Prop}{lt:iO->iO->Bool}
def zr{g:Nat}{st:SortSt}{Q:Unit->SortSt->Prop}(h:Q () (sg st g)):wpS (iQ prog w) A E s (tD g) Q st:=by
 rw[DN];exact jP h
def yG{x:String}{st:SortSt}{Q:Unit->SortSt->Prop}(h:Q () st):wpS (iQ prog w) A E s (liftM (rule x):StateT SortSt Sem Unit) Q st:=wpS_lift (wpAny_rule ⟨rfl,h⟩)
def En(C:Bz prog w A s κ P lt) {a:Array iO}{i:Nat}{x:iO}(ha:∀x,x∈a->P x) (sa:zz lt a.toList) (hx:a[i]?=some x):∀y∈a.toList.drop i,lt y x=false:=by
 obtain⟨hi,e⟩:=aG.mp hx;have hi':i<a.toList.length:=by simpa using hi
 have e':a.toList[i]=x:=by simpa using e
 have sd:zz lt (a.toList.drop i):=sa.sublist (bH _ _);rw[aL hi',e']at sd ⊢;intro y hy;rcases ak.mp hy with rfl|hy
 .exact C.refl (ha _ (by rw[←e];exact aX hi))
 .exact (dW.mp sd).1 y hy
def xi{a:Array iO}{i:Nat}{y:iO}(h:y∈a.toList.drop i):y∈a:=by simpa using bh h
def C8(C:Bz prog w A s κ P lt) {left:Bool}{key:iO}{arr:Array iO}{base n:Nat}(hb:base+n<=arr.size) (ha:∀x,x∈arr->P x) (hkey:P key) (so:zz lt (arr.toList.drop base)) :
  ∀i j,i<=j->j<n->zM lt left key arr base j=true->zM lt left key arr base i=true:=by
 intro i j hij hj h;have hi':base+i<arr.size:=by lia
 have hj':base+j<arr.size:=by lia
 have ei:arr.getD (base+i) key=arr[base+i]:=by simp[gA,hi']
 have ej:arr.getD (base+j) key=arr[base+j]:=by simp[gA,hj']
 have pi:=ha _ (aX hi');have pj:=ha _ (aX hj');have le:lt arr[base+j] arr[base+i]=false:=by
  rcases dS hij with q|q
  .have:=bV.mp so i j (by simp;lia) (by simp;lia) q
   simpa using this
  .subst q;exact C.refl pi
 unfold zM at h ⊢;rw[ei];rw[ej]at h;cases left with
 |true =>
  rw[oJ rfl]at h ⊢;cases q:lt arr[base+i] key with
  |true=>rfl
  |false =>
   have:=C.trans key arr[base+i] arr[base+j] hkey pi pj q le;rw[h]at this;cases this
 |false =>
  rw[oO (by decide)]at h ⊢
  have h':lt key arr[base+j]=false:=by simpa using h
  have:=C.trans arr[base+i] arr[base+j] key pi pj hkey le h';simp[this]
def vc{left:Bool}{key x:iO}{arr:Array iO}{base i:Nat}(hx:arr[base+i]?=some x):zM lt left key arr base i=if left then lt x key else !lt key x:=by
 obtain⟨hi,e⟩:=aG.mp hx;unfold zM;have ei:arr.getD (base+i) key=x:=by simp[gA,hi,e]
 rw[ei]
def yh{a:Array iO}{i k:Nat}{x:iO}(h:x∈(a.toList.drop i).take k):∃j,j<k/\a[i+j]?=some x:=by
 obtain⟨j,hj,e⟩:=bZ.mp h;rw[lTq]at hj;refine⟨j,by lia,?_⟩
 rw[fk,eB]at e;rw[aG];have hs:i+j<a.size:=by
  rw[au,ax]at hj;lia
 exact⟨hs,by simpa using e⟩
def Ay{a:Array iO}{i:Nat}{x:iO}(h:x∈a.toList.drop i):∃j,i+j<a.size/\a[i+j]?=some x:=by
 obtain⟨j,hj,e⟩:=bZ.mp h;rw[au,ax]at hj;have hs:i+j<a.size:=by lia
 refine⟨j,hs,?_⟩;rw[eB]at e;rw[aG];exact⟨hs,by simpa using e⟩
inductive Lp {ρ τ ι σ:Type}(t:ι->τ) (v:ι->σ) (J K:ι->Prop) (R:ρ->σ->Prop):ForInStep (Option ρ×τ)->σ->Prop
 |y (x):J x->Lp t v J K R (.yield (none,t x)) (v x)
 |d (x):K x->Lp t v J K R (.done (none,t x)) (v x)
 |r (a y st):R a st->Lp t v J K R (.done (some a,y)) st
def yX{M:jQ}{ρ τ ι σ β:Type}{n:Nat}(t:ι->τ) (v:ι->σ) (J:Nat->ι->Prop) (K:ι->Prop) (R:ρ->σ->Prop) {f:Nat->Option ρ×τ->StateT σ Sem (ForInStep (Option ρ×τ))}{k:Option ρ×τ->StateT σ Sem β}{Q:β->σ->Prop}
  (x:ι) (h:J 0 x) (step:∀i x,J i x->wpS M A E s (f i (none,t x)) (Lp t v (J (i+1)) K R) (v x)) (fin:∀x,J n x->K x) (pn:∀x,K x->wpS M A E s (k (none,t x)) Q (v x)) (ps:∀r y st,R r st->wpS M A E s (k (some r,y)) Q st) :
  wpS M A E s (forIn [0:n] (none,t x) f >>= k) Q (v x):=by
 refine iR (jr (jm (I:=λi c st=>∃x,c=(none,t x)/\st=v x/\J i x) (Q:=λc st=>Lp t v K K R (.done c) st) ?_ ?_ ⟨x,rfl,rfl,h⟩) ?_)
 .rintro i c st _ _ ⟨x,rfl,rfl,h⟩;refine jr (step i x h) λr st' hr=>?_
  cases hr with
  |y x h=>exact⟨x,rfl,rfl,h⟩
  |d x h=>exact .d x h
  |r a y st h=>exact .r a y _ h
 .rintro c st ⟨x,rfl,rfl,h⟩;rw[gX (aV n)]at h;exact .d x (fin x h)
 .rintro c st h;cases h with
  |d x h=>exact pn x h
  |r a y st h=>exact ps a y _ h
structure Ls where
 o:Array iO
 (i j m p q g:Nat)
structure ML (lt:iO->iO->Bool) (a b:Array iO) (n:Nat) (x:Ls):Prop where
 m:MI lt a b x.o x.i x.j
 p:x.i+1<a.size
 q:x.j<b.size
 r:n<=x.i+x.j
structure Lo (prog:iW) (w:iZ) (A:Around) (s:iM) (κ:jy) (P:iO->Prop) (lt:iO->iO->Bool) (a b:Array iO) (st:SortSt) (Q:Array iO->SortSt->Prop):Prop where
 C:Bz prog w A s κ P lt
 ha:∀x,x∈a->P x
 hb:∀x,x∈b->P x
 hk:kindOf st=κ
 sa:zz lt a.toList
 sb:zz lt b.toList
 h:∀r g,UO lt a b r->Q r (sg st g)
abbrev L6(x:Ls):=(x.o,x.i,x.j,x.m,x.p,x.q)
abbrev L5(x:Ls):=(x.o,x.i,x.j,x.p,x.q)
abbrev L4(x:Ls):=(x.o,x.i,x.j,x.m)
variable {a b:Array iO}{st:SortSt}{Q:Array iO->SortSt->Prop}{n:Nat}{x:Ls}
noncomputable abbrev Hl(lt:iO->iO->Bool) (a b:Array iO):=∀i,i+1=a.size->∀x∈b.toList,∀y∈a.toList.drop i,lt y x=false
def Uz(H:Lo prog w A s κ P lt a b st Q) (hl:Hl lt a b) (q:ML lt a b n x) (hi:∀z,a[x.i]?=some z->∀y∈b.toList.drop x.j,lt y z=false) :
  wpS (iQ prog w) A E s (loC a b x.o x.i x.j x.m x.p x.q) (Lp L6 (λx=>sg st x.g) (ML lt a b n) (ML lt a b n) Q) (sg st x.g):=by
 have p1:=q.p;have ea:a[x.i]?=some a[x.i]:=ag (by lia)
 refine iR (pU ea ?_);have m6:=q.m.pushA H.sa ea (hi _ ea)
 by_cases d6:x.i+1+1=a.size
 .rw [oJ (by simp[d6])]
  exact iU (.r _ _ _ (H.h _ _ (m6.lastA H.sa H.sb λy hy=>hl _ d6 y (bh hy))))
 rw[oO (by simpa using d6)]
 have R:ML lt a b n ⟨_,_,_,x.m,x.p,x.q,x.g⟩:=⟨m6,by dsimp only;lia,q.q,by have:=q.r;dsimp only;lia⟩
 split
 .exact iU (.d _ R)
 .exact iU (.y _ R)
def Sy(H:Lo prog w A s κ P lt a b st Q) (hl:Hl lt a b) (q:ML lt a b n x) (hi:∀z,b[x.j]?=some z->∀y∈a.toList.drop x.i,lt y z=false) :
  wpS (iQ prog w) A E s (loB a b x.o x.i x.j x.m x.p x.q) (Lp L6 (λx=>sg st x.g) (ML lt a b n) (ML lt a b n) Q) (sg st x.g):=by
 have p1:=q.p;have p2:=q.q;have p3:=q.r;have eb:b[x.j]?=some b[x.j]:=ag p2;refine iR (pU eb ?_);have m4:=q.m.pushB H.sb eb (hi _ eb)
 by_cases d3:x.j+1=b.size
 .rw [oJ (by simp[d3])]
  exact iU (.r _ _ _ (H.h _ _ (m4.endB H.sa d3)))
 rw[oO (by simpa using d3)]
 have ea:a[x.i]?=some a[x.i]:=ag (by lia)
 have pa:=H.ha _ (aX (show x.i<a.size by lia))
 refine iR (pU ea (iR (vH H.C (base:=x.j+1) (n:=b.size-(x.j+1)) (by lia) (by lia) H.hb pa H.hk (C8 H.C (by lia) H.hb pa (H.sb.sublist (bH _ _))) λl l1 l2 l3=>?_)))
 have hB:∀z,a[x.i]?=some z->∀y∈b.toList.drop (x.j+1+l),lt y z=false:=λz hz y hy=>by
  obtain⟨j',hj',ey⟩:=Ay hy;have q:=l3 (l+j') (by lia) (by lia)
  rw[vc (by rw[←eK];exact ey),oJ rfl]at q
  rw[ea]at hz;cases hz;exact q
 dsimp only
 by_cases cl:l>0
 .rw [oJ cl];have m5:=m4.moreB H.sb (k:=l) (by lia) λx hx y hy=>by
   obtain⟨j',hj',ex⟩:=yh hx;have q:=l2 j' hj';rw[vc ex,oJ rfl]at q;have px:=H.hb x (aU hx |> xi);exact H.C.trans _ _ _ px pa (H.ha _ (xi hy)) (H.C.asym _ _ px pa q) (En H.C H.ha H.sa ea y hy)
  by_cases d5:x.j+1+l=b.size
  .rw [oJ (by simp[d5])]
   exact iU (.r _ _ _ (H.h _ _ (m5.endB H.sa d5)))
  rw[oO (by simpa using d5)]
  exact Uz H hl (x:=⟨_,_,_,_,_,_,x.g⟩) ⟨m5,p1,by dsimp only;lia,by dsimp only;lia⟩ hB
 .rw [oO cl];exact Uz H hl (x:=⟨_,_,_,_,_,_,x.g⟩) ⟨m4,p1,by dsimp only;lia,by dsimp only;lia⟩ (by rw[show x.j+1=x.j+1+l by lia];exact hB)
def Rr(H:Lo prog w A s κ P lt a b st Q) (hl:Hl lt a b) (q:ML lt a b n x) :
  wpS (iQ prog w) A E s (loA a b x.o x.i x.j x.m x.p x.q) (Lp L6 (λx=>sg st x.g) (ML lt a b n) (ML lt a b n) Q) (sg st x.g):=by
 have p1:=q.p;have p2:=q.q;have p3:=q.r;have eb:b[x.j]?=some b[x.j]:=ag p2;have pb:=H.hb _ (aX p2);refine iR (zr (iR (pU eb (iR (vH H.C (base:=x.i) (n:=a.size-x.i) (by lia) (by lia) H.ha pb H.hk (C8 H.C (by lia) H.ha pb (H.sa.sublist (bH _ _))) λk k1 k2 k3=>?_)))))
 have hA:∀z,b[x.j]?=some z->∀y∈a.toList.drop (x.i+k),lt y z=false:=λz hz y hy=>by
  obtain⟨j',hj',ey⟩:=Ay hy;have q:=k3 (k+j') (by lia) (by lia)
  rw[vc (by rw[←eK];exact ey),oO (by decide)]at q
  rw[eb]at hz;cases hz;exact H.C.asym _ _ pb (H.ha _ (xi hy)) (by simpa using q)
 dsimp only
 by_cases ck:k>0
 .rw [oJ ck];have m3:=q.m.moreA H.sa (k:=k) (by lia) λx hx y hy=>by
   obtain⟨j',hj',ex⟩:=yh hx;have q:=k2 j' hj';rw[vc ex,oO (by decide)]at q
   exact H.C.trans _ _ _ (H.ha x (aU hx |> xi)) pb (H.hb _ (xi hy)) (by simpa using q) (En H.C H.hb H.sb eb y hy)
  by_cases d1:x.i+k+1=a.size
  .rw [oJ (by simp[d1])]
   exact iU (.r _ _ _ (H.h _ x.m (m3.lastA H.sa H.sb λx hx=>hl _ d1 x (bh hx))))
  rw[oO (by simpa using d1)]
  by_cases d2:x.i+k=a.size
  .rw [oJ (by simp[d2])]
   exact iU (.r _ _ _ (H.h _ x.m (m3.endA H.sb d2)))
  rw[oO (by simpa using d2)]
  exact Sy H hl (x:=⟨_,_,_,_,_,_,x.m⟩) ⟨m3,by dsimp only;lia,p2,by dsimp only;lia⟩ hA
 .rw [oO ck];exact Sy H hl (x:=⟨_,_,_,_,_,_,x.m⟩) ⟨q.m,p1,p2,p3⟩ (by rw[show x.i=x.i+k by lia];exact hA)
def Yy(H:Lo prog w A s κ P lt a b st Q) (hl:Hl lt a b) {m j:Nat}(q:ML lt a b (n+j) x) :
  wpS (iQ prog w) A E s (lo1 a b m x.o x.i x.j x.p x.q) (Lp L5 (λx=>sg st x.g) (ML lt a b (n+(j+1))) (ML lt a b (n+1)) Q) (sg st x.g):=by
 have p1:=q.p;have p2:=q.q;have p3:=q.r;have ea:a[x.i]?=some a[x.i]:=ag (by lia)
 have eb:b[x.j]?=some b[x.j]:=ag p2;have pa:=H.ha _ (aX (show x.i<a.size by lia))
 have pb:=H.hb _ (aX p2);refine iR (pU eb (iR (pU ea (iR (H.C.cmp pb pa H.hk ?_)))));cases e:lt b[x.j] a[x.i] with
 |true =>
  dsimp only;rw[oJ rfl];refine iR (pU eb ?_);have m2:=q.m.pushB H.sb eb λz hz=>H.C.trans _ _ _ pb pa (H.ha _ (xi hz)) (H.C.asym _ _ pb pa e) (En H.C H.ha H.sa ea z hz)
  by_cases d1:x.j+1=b.size
  .rw [oJ (by simp[d1])]
   exact iU (.r _ _ _ (H.h _ _ (m2.endB H.sa d1)))
  rw[oO (by simpa using d1)]
  have R:∀n,n<=x.i+(x.j+1)->ML lt a b n ⟨_,_,_,0,0,x.q+1,x.g⟩:=λn hn=>⟨m2,p1,by dsimp only;lia,hn⟩
  split
  .exact iU (.d _ (R _ (by lia)))
  .exact iU (.y _ (R _ (by lia)))
 |false =>
  dsimp only;rw[oO (by decide)]
  refine iR (pU ea ?_);have m2:=q.m.pushA H.sa ea λz hz=>H.C.trans _ _ _ pa pb (H.hb _ (xi hz)) e (En H.C H.hb H.sb eb z hz)
  by_cases d1:x.i+1+1=a.size
  .rw [oJ (by simp[d1])]
   exact iU (.r _ _ _ (H.h _ _ (m2.lastA H.sa H.sb λx hx=>hl _ d1 x (bh hx))))
  rw[oO (by simpa using d1)]
  have R:∀n,n<=x.i+1+x.j->ML lt a b n ⟨_,_,_,0,x.p+1,0,x.g⟩:=λn hn=>⟨m2,by dsimp only;lia,p2,hn⟩
  split
  .exact iU (.d _ (R _ (by lia)))
  .exact iU (.y _ (R _ (by lia)))
def Zy(H:Lo prog w A s κ P lt a b st Q) (hl:Hl lt a b) (q:ML lt a b n x) :
  wpS (iQ prog w) A E s (lo0 a b x.o x.i x.j x.m) (Lp L4 (λx=>sg st x.g) (ML lt a b (n+1)) (λ_=>False) Q) (sg st x.g):=by
 refine yX L5 (λx=>sg st x.g) (λj=>ML lt a b (n+j)) (ML lt a b (n+1)) Q ⟨x.o,x.i,x.j,0,0,0,x.g⟩ ⟨q.m,q.p,q.q,q.r⟩ (λj x q=>Yy H hl q) (λy h=>⟨h.m,h.p,h.q,by have:=h.r;have:=h.p;have:=h.q;lia⟩) (λy q=>?_) λr y st' hr=>iU (.r _ _ _ hr)
 refine iR (yG ?_);refine yX L6 (λx=>sg st x.g) (λ_=>ML lt a b (n+1)) (ML lt a b (n+1)) Q ⟨y.o,y.i,y.j,x.m+1,y.p,y.q,y.g⟩ ⟨q.m,q.p,q.q,q.r⟩ (λj z q=>?_) (λ_ h=>h) (λz q=>?_) λr y st' hr=>iU (.r _ _ _ hr)
 .dsimp only;split
  .exact Rr H hl (x:=⟨_,_,_,z.m-1,_,_,z.g⟩) ⟨q.m,q.p,q.q,q.r⟩
  .exact Rr H hl q
 .refine iR (zr (iU ?_));exact Lp.y (t:=L4) (v:=λx=>sg st x.g) ⟨_,_,_,z.m+1,0,0,z.m+1⟩ ⟨q.m,q.p,q.q,q.r⟩
def KI(C:Bz prog w A s κ P lt) (ha:∀x,x∈a->P x) (hb:∀x,x∈b->P x) (hk:kindOf st=κ) (sa:zz lt a.toList) (sb:zz lt b.toList)
  (na:0<a.size) (nb:0<b.size) (h0:∀x,b[0]?=some x->∀y∈a.toList,lt y x=false) (hl:∀i,i+1=a.size->∀x∈b.toList,∀y∈a.toList.drop i,lt y x=false)
  (h:∀r g,UO lt a b r->Q r (sg st g)):wpS (iQ prog w) A E s (EN a b) Q st:=by
 rw[KW];refine iR (yG ?_);have eb0:b[0]?=some b[0]:=ag nb;refine iR (pU eb0 ?_);have m0:MI lt a b #[] 0 0:=⟨aV _,aV _,by simp,by simp[zz],by simp,by simp⟩
 have m1:MI lt a b #[b[0]] 0 1:=m0.pushB sb eb0 λy hy=>h0 _ eb0 y (by simpa using hy)
 by_cases c1:1=b.size
 .rw [oJ (by simp[←c1])]
  exact iU (h _ (kc st) (m1.endB sa c1))
 rw[oO (by simpa using c1)]
 by_cases c2:0+1=a.size
 .rw [oJ (by simp[←c2])]
  exact iU (h _ (kc st) (m1.lastA sa sb λx hx=>hl 0 c2 x (bh hx)))
 rw[oO (by simpa using c2)]
 refine iR (jS ?_);exact yX L4 (λx=>sg st x.g) (λi=>ML lt a b (i+1)) (λ_=>False) Q ⟨_,0,1,_,0,0,kc st⟩ ⟨m1,by dsimp only;lia,by dsimp only;lia,by dsimp only;lia⟩ (λi x q=>Zy ⟨C,ha,hb,hk,sa,sb,h⟩ hl q) (λx h=>by have:=h.p;have:=h.q;have:=h.r;lia) (λx h=>h.elim) λr y st' hr=>iU hr
end
structure MH (lt:iO->iO->Bool) (a b out:Array iO) (na nb:Nat):Prop where
 la:na<=a.size
 lb:nb<=b.size
 pm:((a.toList.take na++b.toList.take nb)++out.toList.reverse).Perm (a.toList++b.toList)
 so:zz lt out.toList.reverse
 ua:∀x∈a.toList.take na,∀y∈out.toList,lt y x=false
 ub:∀x∈b.toList.take nb,∀y∈out.toList,lt y x=false
section
variable {lt:iO->iO->Bool}{a b out out':Array iO}{na nb k:Nat}
def MH.congr(m:MH lt a b out na nb) (e:out'.toList=out.toList):MH lt a b out' na nb:=⟨m.la,m.lb,by rw[e];exact m.pm,by rw[e];exact m.so,by rw[e];exact m.ua,by rw[e];exact m.ub⟩
def CD(l:List iO) (k n:Nat) (h:k<=n):l.take n=l.take k++(l.take n).drop k:=by
 have e:(l.take n).take k=l.take k:=by rw[List.take_take,dr h]
 rw[←e,aR]
def rG(a:Array iO) (k n:Nat):(a.extract k n).toList=(a.toList.take n).drop k:=by
 rw[dB,dJ,List.drop_take]
def Cv(a:Array iO) (n:Nat):(a.extract 0 n).toList=a.toList.take n:=by
 rw[rG,df]
def MH.moreA(m:MH lt a b out na nb) (sa:zz lt a.toList) (hk:k<=na) (h:∀x∈b.toList.take nb,∀y∈(a.toList.take na).drop k,lt y x=false):MH lt a b (out++(a.extract k na).reverse) k nb:=by
 have e:(out++(a.extract k na).reverse).toList=out.toList++((a.toList.take na).drop k).reverse:=by rw[aH,cc,rG]
 have er:(out++(a.extract k na).reverse).toList.reverse=(a.toList.take na).drop k++out.toList.reverse:=by rw[e,gB,gk]
 have c:=CD a.toList k na hk;have sd:zz lt (a.toList.take na):=sa.sublist (aW _ _);have sd2:=sd;rw[c]at sd2;obtain⟨q1,q2,q3⟩:=aQ.mp sd2;have sub:∀y,y∈(a.toList.take na).drop k->y∈a.toList.take na:=λy hy=>bh hy
 refine⟨bB hk m.la,m.lb,?_,?_,?_,?_⟩
 .rw [er];refine bG.trans ?_ m.pm;rw[←ar];refine bG.append_right _ ?_
  conv=>rhs;rw[c]
  rw[ar,ar];exact bG.append_left _ bJ
 .rw [er];exact aQ.mpr ⟨q2,m.so,λx hx y hy=>m.ua x (sub x hx) y (bF.mp hy)⟩
 .rw [e];intro x hx y hy;rcases mAq.mp hy with hy|hy
  .exact m.ua x (by rw[c];exact bY _ hx) y hy
  .exact q3 x hx y (bF.mp hy)
 .rw [e];intro x hx y hy;rcases mAq.mp hy with hy|hy
  .exact m.ub x hx y hy
  .exact h x hx y (bF.mp hy)
def MH.moreB(m:MH lt a b out na nb) (sb:zz lt b.toList) (hk:k<=nb) (h:∀x∈a.toList.take na,∀y∈(b.toList.take nb).drop k,lt y x=false):MH lt a b (out++(b.extract k nb).reverse) na k:=by
 have e:(out++(b.extract k nb).reverse).toList=out.toList++((b.toList.take nb).drop k).reverse:=by rw[aH,cc,rG]
 have er:(out++(b.extract k nb).reverse).toList.reverse=(b.toList.take nb).drop k++out.toList.reverse:=by rw[e,gB,gk]
 have c:=CD b.toList k nb hk;have sd:zz lt (b.toList.take nb):=sb.sublist (aW _ _);have sd2:=sd;rw[c]at sd2;obtain⟨q1,q2,q3⟩:=aQ.mp sd2;have sub:∀y,y∈(b.toList.take nb).drop k->y∈b.toList.take nb:=λy hy=>bh hy
 refine⟨m.la,bB hk m.lb,?_,?_,?_,?_⟩
 .rw [er];refine bG.trans ?_ m.pm;rw[←ar];refine bG.append_right _ ?_
  conv=>rhs;rw[c]
  rw[ar]
 .rw [er];exact aQ.mpr ⟨q2,m.so,λx hx y hy=>m.ub x (sub x hx) y (bF.mp hy)⟩
 .rw [e];intro x hx y hy;rcases mAq.mp hy with hy|hy
  .exact m.ua x hx y hy
  .exact h x hx y (bF.mp hy)
 .rw [e];intro x hx y hy;rcases mAq.mp hy with hy|hy
  .exact m.ub x (by rw[c];exact bY _ hx) y hy
  .exact q3 x hx y (bF.mp hy)
def zt{l:List iO}{i:Nat}{x:iO}(h:l[i]?=some x):(l.take (i+1)).drop i=[x]:=by
 rw[cW,h,gV];have hl:(l.take i).length=i:=by
  have:=(gSq.mp h).1;rw[lTq];lia
 rw[cH (by lia),hl,bP]
 rfl
def MH.pushA{x:iO}(m:MH lt a b out (na+1) nb) (sa:zz lt a.toList) (hx:a[na]?=some x) (h:∀y∈b.toList.take nb,lt x y=false):MH lt a b (out.push x) na nb:=by
 have hx':a.toList[na]?=some x:=by rw[aJ];exact hx
 refine(m.moreA sa (k:=na) (bR _) λz hz y hy=>?_).congr ?_
 .rw [zt hx',mSq]at hy;rw[hy];exact h z hz
 .rw [cV,aH,cc,rG,zt hx'];rfl
def MH.pushB{x:iO}(m:MH lt a b out na (nb+1)) (sb:zz lt b.toList) (hx:b[nb]?=some x) (h:∀y∈a.toList.take na,lt x y=false):MH lt a b (out.push x) na nb:=by
 have hx':b.toList[nb]?=some x:=by rw[aJ];exact hx
 refine(m.moreB sb (k:=nb) (bR _) λz hz y hy=>?_).congr ?_
 .rw [zt hx',mSq]at hy;rw[hy];exact h z hz
 .rw [cV,aH,cc,rG,zt hx'];rfl
def MH.end(m:MH lt a b out na nb) (sa:zz lt a.toList) (sb:zz lt b.toList) (e:na=0∨nb=0):UO lt a b (a.extract 0 na++b.extract 0 nb++out.reverse):=by
 have et:(a.extract 0 na++b.extract 0 nb++out.reverse).toList=(a.toList.take na++b.toList.take nb)++out.toList.reverse:=by
  rw[aH,aH,Cv,Cv,cc]
 refine⟨by rw[et];exact m.pm,?_⟩
 rw[et];refine aQ.mpr ⟨?_,m.so,λx hx y hy=>?_⟩
 .rcases e with rfl|rfl
  .rw [ij,cm];exact sb.sublist (aW _ _)
  .rw [ij,aNq];exact sa.sublist (aW _ _)
 .rcases mAq.mp hx with hx|hx
  .exact m.ua x hx y (bF.mp hy)
  .exact m.ub x hx y (bF.mp hy)
def MH.firstB(m:MH lt a b out na nb) (sa:zz lt a.toList) (sb:zz lt b.toList) (h:∀x∈b.toList.take nb,∀y∈a.toList.take na,lt y x=false):UO lt a b (b.extract 0 nb++a.extract 0 na++out.reverse):=by
 have et:(b.extract 0 nb++a.extract 0 na++out.reverse).toList=(b.toList.take nb++a.toList.take na)++out.toList.reverse:=by
  rw[aH,aH,Cv,Cv,cc]
 refine⟨?_,?_⟩
 .rw [et];exact(bG.append_right _ bJ).trans m.pm
 .rw [et];refine aQ.mpr ⟨aQ.mpr ⟨sb.sublist (aW _ _),sa.sublist (aW _ _),h⟩,m.so,λx hx y hy=>?_⟩
  rcases mAq.mp hx with hx|hx
  .exact m.ub x hx y (bF.mp hy)
  .exact m.ua x hx y (bF.mp hy)
end
noncomputable def Fi:Array iO->Array iO->StateT SortSt Sem (Array iO):=sortPriv% PySem.Builtin.mergeHi
section
variable (a b:Array iO)
noncomputable abbrev dH(o:Array iO) (i j:Nat):=a.extract 0 i++b.extract 0 j++o.reverse
noncomputable abbrev fH(o:Array iO) (i j:Nat):=b.extract 0 j++a.extract 0 i++o.reverse
noncomputable abbrev SH(α:Type):=ForInStep (Option (Array iO)×Nat×Nat×Array iO×α)
def hiC(o:Array iO) (i j m k l:Nat):StateT SortSt Sem (SH (Nat×Nat×Nat)):=do
 let x ←jw a (i-1)
 if i-1 == 0 then pure (.done (some (dH a b (o.push x) (i-1) j),i-1,j,o.push x,m,k,l))
 else if decide (k<7) && decide (l<7) then pure (.done (none,i-1,j,o.push x,m,k,l))
 else pure (.yield (none,i-1,j,o.push x,m,k,l))
def hiB(o:Array iO) (i j m k q:Nat):StateT SortSt Sem (SH (Nat×Nat×Nat)):=do
 let x ←jw b (j-1)
 if j-1 == 1 then pure (.done (some (fH a b (o.push x) i (j-1)),i,j-1,o.push x,m,k,q))
 else do
  let y ←jw a (i-1)
  match ←xK true y b 0 (j-1) (j-1-1) with
  |some l =>
   if j-1-l>0 then
    if l == 1 then pure (.done (some (fH a b (o.push x++(b.extract l (j-1)).reverse) i l),i,l,o.push x++(b.extract l (j-1)).reverse,m,k,j-1-l))
    else if l == 0 then pure (.done (some (dH a b (o.push x++(b.extract l (j-1)).reverse) i l),i,l,o.push x++(b.extract l (j-1)).reverse,m,k,j-1-l))
    else hiC a b (o.push x++(b.extract l (j-1)).reverse) i l m k (j-1-l)
   else hiC a b (o.push x) i (j-1) m k (j-1-l)
  |_=>pure (.done (some (dH a b (o.push x) i (j-1)),i,j-1,o.push x,m,k,q))
def hiA(o:Array iO) (i j m p q:Nat):StateT SortSt Sem (SH (Nat×Nat×Nat)):=do
 tD m
 let x ←jw b (j-1)
 match ←xK false x a 0 i (i-1) with
 |some k =>
  if i-k>0 then
   if k == 0 then pure (.done (some (dH a b (o++(a.extract k i).reverse) k j),k,j,o++(a.extract k i).reverse,m,i-k,q))
   else hiB a b (o++(a.extract k i).reverse) k j m (i-k) q
  else hiB a b o i j m (i-k) q
 |_=>pure (.done (some (dH a b o i j),i,j,o,m,p,q))
def UL(m:Nat) (o:Array iO) (i j p q:Nat):StateT SortSt Sem (SH (Nat×Nat)):=do
 let y ←jw b (j-1)
 let x ←jw a (i-1)
 match ←lt' y x with
 |some c =>
  if c then do
   let z ←jw a (i-1)
   if i-1 == 0 then pure (.done (some (dH a b (o.push z) (i-1) j),i-1,j,o.push z,p+1,0))
   else if p+1 ≥ m then pure (.done (none,i-1,j,o.push z,p+1,0))
   else pure (.yield (none,i-1,j,o.push z,p+1,0))
  else do
   let z ←jw b (j-1)
   if j-1 == 1 then pure (.done (some (fH a b (o.push z) i (j-1)),i,j-1,o.push z,0,q+1))
   else if q+1 ≥ m then pure (.done (none,i,j-1,o.push z,0,q+1))
   else pure (.yield (none,i,j-1,o.push z,0,q+1))
 |_=>pure (.done (some (dH a b o i j),i,j,o,p,q))
def hi0(o:Array iO) (i j m:Nat):StateT SortSt Sem (SH Nat):=do
 let r ←forIn [0:a.size+b.size] (none,i,j,o,0,0) λ_ s=>UL a b m s.2.2.2.1 s.2.1 s.2.2.1 s.2.2.2.2.1 s.2.2.2.2.2
 Break.runK.match_1 (λ_=>StateT SortSt Sem (SH Nat)) r.1 (λv=>pure (.done (some v,r.2.1,r.2.2.1,r.2.2.2.1,m))) λ_=>do
  rule "list.sort.gallop"
  let r ←forIn [0:a.size+b.size] (none,r.2.1,r.2.2.1,r.2.2.2.1,m+1,r.2.2.2.2.1,r.2.2.2.2.2) λ_ s=>if s.2.2.2.2.1>1 then hiA a b s.2.2.2.1 s.2.1 s.2.2.1 (s.2.2.2.2.1-1) s.2.2.2.2.2.1 s.2.2.2.2.2.2 else hiA a b s.2.2.2.1 s.2.1 s.2.2.1 s.2.2.2.2.1 s.2.2.2.2.2.1 s.2.2.2.2.2.2
  Break.runK.match_1 (λ_=>StateT SortSt Sem (SH Nat)) r.1 (λv=>pure (.done (some v,r.2.1,r.2.2.1,r.2.2.2.1,r.2.2.2.2.1))) λ_=>do
   tD (r.2.2.2.2.1+1)
   pure (.yield (none,r.2.1,r.2.2.1,r.2.2.2.1,r.2.2.2.2.1+1))
def KQ:Fi a b=(do
 rule "list.sort.merge-hi"
 let x ←jw a (a.size-1)
 if a.size-1 == 0 then pure (dH a b #[x] (a.size-1) b.size)
 else if b.size == 1 then pure (fH a b #[x] (a.size-1) b.size)
 else do
  let st ←get
  let r ←forIn [0:a.size+b.size] (none,a.size-1,b.size,#[x],kc st) λ_ s=>hi0 a b s.2.2.2.1 s.2.1 s.2.2.1 s.2.2.2.2
  Break.runK.match_1 (λ_=>StateT SortSt Sem (Array iO)) r.1 (λv=>pure v) λ_=>mi "internal:list.sort.merge-bound"):=rfl
end
section
variable {prog:iW}{w:iZ}{A:Around}{E:Value->iM->Prop}{s:iM}{κ:jy}{P:iO->Prop}{lt:iO->iO->Bool}
def Er(C:Bz prog w A s κ P lt) {a:Array iO}{i:Nat}{x:iO}(ha:∀x,x∈a->P x) (sa:zz lt a.toList) (hx:a[i]?=some x):∀y∈a.toList.take (i+1),lt x y=false:=by
 obtain⟨hi,e⟩:=aG.mp hx;have hx':a.toList[i]?=some x:=by rw[aJ];exact hx
 have sd:zz lt (a.toList.take (i+1)):=sa.sublist (aW _ _);rw[cW,hx']at sd ⊢;intro y hy;rcases mAq.mp hy with hy|hy
 .exact (aQ.mp sd).2.2 y hy x (by simp)
 .have:y=x:=by simpa using hy
  rw[this];exact C.refl (ha _ (by rw[←e];exact aX hi))
def wZ{a:Array iO}{i:Nat}{y:iO}(h:y∈a.toList.take i):y∈a:=by simpa using aU h
def AF{a:Array iO}{n:Nat}{x:iO}(h:x∈a.toList.take n):∃j,j<n/\a[0+j]?=some x:=by
 have h':x∈(a.toList.drop 0).take n:=by rw[df];exact h
 exact yh h'
def xl{a:Array iO}{k n:Nat}{x:iO}(h:x∈(a.toList.take n).drop k):∃j,k<=j/\j<n/\a[0+j]?=some x:=by
 obtain⟨j,hj,e⟩:=bZ.mp h;rw[au,lTq,ax]at hj;refine⟨k+j,by lia,by lia,?_⟩
 rw[eB,fk]at e;rw[aG];exact⟨by lia,by simpa using e⟩
structure MG (lt:iO->iO->Bool) (a b:Array iO) (n:Nat) (x:Ls):Prop where
 m:MH lt a b x.o x.i x.j
 p:0<x.i
 q:1<x.j
 r:x.i+x.j+n<=a.size+b.size
abbrev H6(x:Ls):=(x.i,x.j,x.o,x.m,x.p,x.q)
abbrev H5(x:Ls):=(x.i,x.j,x.o,x.p,x.q)
abbrev H4(x:Ls):=(x.i,x.j,x.o,x.m)
variable {a b:Array iO}{st:SortSt}{Q:Array iO->SortSt->Prop}{n:Nat}{x:Ls}{o:Array iO}{u v i j m k l g:Nat}
noncomputable abbrev Hf(lt:iO->iO->Bool) (a b:Array iO):=∀x∈b.toList.take 1,∀y∈a.toList,lt y x=false
def hiF(H:Lo prog w A s κ P lt a b st Q) (hf:Hf lt a b) (m:MH lt a b o i 1):Q (b.extract 0 1++a.extract 0 i++o.reverse) (sg st g):=H.h _ _ (m.firstB H.sa H.sb λx hx y hy=>hf x hx y (aU hy))
def S7(H:Lo prog w A s κ P lt a b st Q) (q:MG lt a b n ⟨o,u+1,j,m,k,l,g⟩) (hi:∀z,a[u]?=some z->∀y∈b.toList.take j,lt z y=false) :
  wpS (iQ prog w) A E s (hiC a b o (u+1) j m k l) (Lp H6 (λx=>sg st x.g) (MG lt a b n) (MG lt a b n) Q) (sg st g):=by
 dsimp only [hiC,dN];have ea:a[u]?=some (a[u]'q.m.la):=ag q.m.la;refine iR (pU ea ?_);have m6:=q.m.pushA H.sa ea (hi _ ea)
 by_cases d6:u=0
 .rw [oJ (by simp[d6])]
  exact iU (.r _ _ _ (H.h _ _ (m6.end H.sa H.sb (.inl d6))))
 rw[oO (by simpa using d6)]
 have R:MG lt a b n ⟨_,_,_,m,k,l,g⟩:=⟨m6,fb d6,q.q,by have:=q.r;dsimp only at *;lia⟩
 split
 .exact iU (.d _ R)
 .exact iU (.y _ R)
def UA(H:Lo prog w A s κ P lt a b st Q) (hf:Hf lt a b) (q:MG lt a b n ⟨o,u+1,v+1,m,k,l,g⟩) (hi:∀z,b[v]?=some z->∀y∈a.toList.take (u+1),lt z y=false) :
  wpS (iQ prog w) A E s (hiB a b o (u+1) (v+1) m k l) (Lp H6 (λx=>sg st x.g) (MG lt a b n) (MG lt a b n) Q) (sg st g):=by
 dsimp only [hiB,dN];have la:u<a.size:=q.m.la;have lb:v<b.size:=q.m.lb;have p2:1<v+1:=q.q;have p3:u+1+(v+1)+n<=a.size+b.size:=q.r;have eb:b[v]?=some b[v]:=ag lb;refine iR (pU eb ?_);have m4:=q.m.pushB H.sb eb (hi _ eb)
 by_cases d3:v=1
 .rw [oJ (by simp[d3])]
  subst d3;exact iU (.r _ _ _ (hiF H hf m4))
 rw[oO (by simpa using d3)]
 have ea:a[u]?=some a[u]:=ag la;have pa:=H.ha _ (aX la);refine iR (pU ea (iR (vH H.C (base:=0) (n:=v) (by lia) (by lia) H.hb pa H.hk (C8 H.C (by lia) H.hb pa (by rw[df];exact H.sb)) λl l1 l2 l3=>?_)))
 have hB:∀z,a[u]?=some z->∀y∈b.toList.take l,lt z y=false:=λz hz y hy=>by
  obtain⟨j',hj',ey⟩:=AF hy;have q:=l2 j' hj';rw[vc ey,oJ rfl]at q;rw[ea]at hz;cases hz;exact H.C.asym _ _ (H.hb _ (wZ hy)) pa q
 dsimp only
 by_cases cl:v-l>0
 .rw [oJ cl];have m5:=m4.moreB H.sb (k:=l) l1 λx hx y hy=>by
   obtain⟨j',hj1,hj',ey⟩:=xl hy;have q:=l3 j' hj1 hj';rw[vc ey,oJ rfl]at q;exact H.C.trans _ _ _ (H.ha _ (wZ hx)) pa (H.hb y (bh hy |> wZ)) (Er H.C H.ha H.sa ea x hx) q
  by_cases d5:l=1
  .rw [oJ (by simp[d5])]
   subst d5;exact iU (.r _ _ _ (hiF H hf m5))
  rw[oO (by simpa using d5)]
  by_cases d6:l=0
  .rw [oJ (by simp[d6])]
   exact iU (.r _ _ _ (H.h _ _ (m5.end H.sa H.sb (.inr d6))))
  rw[oO (by simpa using d6)]
  exact S7 H ⟨m5,q.p,by dsimp only;lia,by dsimp only;lia⟩ hB
 .rw [oO cl];have:l=v:=by lia
  subst this;exact S7 H ⟨m4,q.p,by dsimp only;lia,by dsimp only;lia⟩ hB
def QZ(H:Lo prog w A s κ P lt a b st Q) (hf:Hf lt a b) (q:MG lt a b n x) :
  wpS (iQ prog w) A E s (hiA a b x.o x.i x.j x.m x.p x.q) (Lp H6 (λx=>sg st x.g) (MG lt a b n) (MG lt a b n) Q) (sg st x.g):=by
 obtain⟨o,i,j,m,p,q',g⟩:=x;have la:i<=a.size:=q.m.la;have p1:0<i:=q.p;have p2:1<j:=q.q;have p3:i+j+n<=a.size+b.size:=q.r;obtain⟨v,rfl⟩:∃v,j=v+1:=⟨j-1,by lia⟩
 have lb:v<b.size:=q.m.lb;dsimp only [hiA,dN];have eb:b[v]?=some b[v]:=ag lb;have pb:=H.hb _ (aX lb);refine iR (zr (iR (pU eb (iR (vH H.C (base:=0) (n:=i) (by lia) (by lia) H.ha pb H.hk (C8 H.C (by lia) H.ha pb (by rw[df];exact H.sa)) λk k1 k2 k3=>?_)))))
 have hA:∀z,b[v]?=some z->∀y∈a.toList.take k,lt z y=false:=λz hz y hy=>by
  obtain⟨j',hj',ey⟩:=AF hy;have q:=k2 j' hj';rw[vc ey,oO (by decide)]at q
  rw[eb]at hz;cases hz;simpa using q
 dsimp only
 by_cases ck:i-k>0
 .rw [oJ ck];have m3:=q.m.moreA H.sa (k:=k) k1 λx hx y hy=>by
   obtain⟨j',hj1,hj',ey⟩:=xl hy;have q:=k3 j' hj1 hj';rw[vc ey,oO (by decide)]at q
   have py:=H.ha y (bh hy |> wZ);exact H.C.trans _ _ _ (H.hb _ (wZ hx)) pb py (Er H.C H.hb H.sb eb x hx) (H.C.asym _ _ pb py (by simpa using q))
  by_cases d2:k=0
  .rw [oJ (by simp[d2])]
   exact iU (.r _ _ _ (H.h _ m (m3.end H.sa H.sb (.inl d2))))
  rw[oO (by simpa using d2)]
  obtain⟨u,rfl⟩:∃u,k=u+1:=⟨k-1,by lia⟩
  exact UA H hf (g:=m) ⟨m3,Nat.succ_pos _,p2,by dsimp only;lia⟩ hA
 .rw [oO ck];have:k=i:=by lia
  subst this;obtain⟨u,rfl⟩:∃u,k=u+1:=⟨k-1,by lia⟩
  exact UA H hf (g:=m) ⟨q.m,p1,p2,p3⟩ hA
def X5(H:Lo prog w A s κ P lt a b st Q) (hf:Hf lt a b) (q:MG lt a b (n+j) x) :
  wpS (iQ prog w) A E s (UL a b m x.o x.i x.j x.p x.q) (Lp H5 (λx=>sg st x.g) (MG lt a b (n+(j+1))) (MG lt a b (n+1)) Q) (sg st x.g):=by
 obtain⟨o,i,k,m',p,q',g⟩:=x;have p1:0<i:=q.p;have p2:1<k:=q.q;have p3:i+k+(n+j)<=a.size+b.size:=q.r;obtain⟨u,rfl⟩:∃u,i=u+1:=⟨i-1,by lia⟩
 obtain⟨v,rfl⟩:∃v,k=v+1:=⟨k-1,by lia⟩
 have la:u<a.size:=q.m.la;have lb:v<b.size:=q.m.lb;dsimp only [UL,dN];have ea:a[u]?=some a[u]:=ag la;have eb:b[v]?=some b[v]:=ag lb;have pa:=H.ha _ (aX la);have pb:=H.hb _ (aX lb);refine iR (pU eb (iR (pU ea (iR (H.C.cmp pb pa H.hk ?_)))));cases e:lt b[v] a[u] with
 |true =>
  dsimp only;rw[oJ rfl];refine iR (pU ea ?_);have m2:=q.m.pushA H.sa ea λy hy=>H.C.trans _ _ _ (H.hb _ (wZ hy)) pb pa (Er H.C H.hb H.sb eb y hy) (H.C.asym _ _ pb pa e)
  by_cases d1:u=0
  .rw [oJ (by simp[d1])]
   exact iU (.r _ _ _ (H.h _ _ (m2.end H.sa H.sb (.inl d1))))
  rw[oO (by simpa using d1)]
  have R:∀n,u+(v+1)+n<=a.size+b.size->MG lt a b n ⟨_,_,_,0,p+1,0,g⟩:=λn hn=>⟨m2,fb d1,p2,hn⟩
  split
  .exact iU (.d _ (R _ (by lia)))
  .exact iU (.y _ (R _ (by lia)))
 |false =>
  dsimp only;rw[oO (by decide)]
  refine iR (pU eb ?_);have m2:=q.m.pushB H.sb eb λy hy=>H.C.trans _ _ _ (H.ha _ (wZ hy)) pa pb (Er H.C H.ha H.sa ea y hy) e
  by_cases d1:v=1
  .rw [oJ (by simp[d1])]
   subst d1;exact iU (.r _ _ _ (hiF H hf m2))
  rw[oO (by simpa using d1)]
  have R:∀n,u+1+v+n<=a.size+b.size->MG lt a b n ⟨_,_,_,0,0,q'+1,g⟩:=λn hn=>⟨m2,p1,by dsimp only;lia,hn⟩
  split
  .exact iU (.d _ (R _ (by lia)))
  .exact iU (.y _ (R _ (by lia)))
def ZK(H:Lo prog w A s κ P lt a b st Q) (hf:Hf lt a b) (q:MG lt a b n x) :
  wpS (iQ prog w) A E s (hi0 a b x.o x.i x.j x.m) (Lp H4 (λx=>sg st x.g) (MG lt a b (n+1)) (λ_=>False) Q) (sg st x.g):=by
 refine yX H5 (λx=>sg st x.g) (λj=>MG lt a b (n+j)) (MG lt a b (n+1)) Q ⟨x.o,x.i,x.j,0,0,0,x.g⟩ ⟨q.m,q.p,q.q,q.r⟩ (λj x q=>X5 H hf q) (λy h=>⟨h.m,h.p,h.q,by have:=h.r;have:=h.p;have:=h.q;lia⟩) (λy q=>?_) λr y st' hr=>iU (.r _ _ _ hr)
 refine iR (yG ?_);refine yX H6 (λx=>sg st x.g) (λ_=>MG lt a b (n+1)) (MG lt a b (n+1)) Q ⟨y.o,y.i,y.j,x.m+1,y.p,y.q,y.g⟩ ⟨q.m,q.p,q.q,q.r⟩ (λj z q=>?_) (λ_ h=>h) (λz q=>?_) λr y st' hr=>iU (.r _ _ _ hr)
 .dsimp only;split
  .exact QZ H hf (x:=⟨_,_,_,z.m-1,_,_,z.g⟩) ⟨q.m,q.p,q.q,q.r⟩
  .exact QZ H hf q
 .refine iR (zr (iU ?_));exact Lp.y (t:=H4) (v:=λx=>sg st x.g) ⟨_,_,_,z.m+1,0,0,z.m+1⟩ ⟨q.m,q.p,q.q,q.r⟩
def Kw(C:Bz prog w A s κ P lt) (ha:∀x,x∈a->P x) (hb:∀x,x∈b->P x) (hk:kindOf st=κ) (sa:zz lt a.toList) (sb:zz lt b.toList)
  (na0:0<a.size) (nb0:0<b.size) (h0:∀x∈b.toList.take 1,∀y∈a.toList,lt y x=false) (hl:∀x,a[a.size-1]?=some x->∀y∈b.toList,lt x y=false)
  (h:∀r g,UO lt a b r->Q r (sg st g)):wpS (iQ prog w) A E s (Fi a b) Q st:=by
 have H:Lo prog w A s κ P lt a b st Q:=⟨C,ha,hb,hk,sa,sb,h⟩;rw[KQ];refine iR (yG ?_);have ea0:a[a.size-1]?=some (a[a.size-1]'(by lia)):=ag (by lia)
 refine iR (pU ea0 ?_);have m0:MH lt a b #[] (a.size-1+1) b.size:=⟨by lia,af _,by
  rw[show a.size-1+1=a.toList.length by simp;lia,br,←ax,br];simp,by simp[zz],by simp,by simp⟩
 have m1:MH lt a b #[a[a.size-1]'(by lia)] (a.size-1) b.size:=m0.pushA sa ea0 λy hy=>hl _ ea0 y (aU hy)
 by_cases c1:a.size-1=0
 .rw [oJ (by simp[c1])]
  exact iU (h _ (kc st) (m1.end sa sb (.inl c1)))
 rw[oO (by simpa using c1)]
 by_cases c2:b.size=1
 .rw [oJ (by simp[c2])]
  have m1':=m1;rw[c2]at m1' ⊢;exact iU (hiF H h0 (g:=kc st) m1')
 rw[oO (by simpa using c2)]
 refine iR (jS ?_);exact yX H4 (λx=>sg st x.g) (λi=>MG lt a b (i+1)) (λ_=>False) Q ⟨_,a.size-1,b.size,_,0,0,kc st⟩ ⟨m1,fb c1,show 1<b.size by lia,show a.size-1+b.size+1<=a.size+b.size by lia⟩ (λi x q=>ZK H h0 q) (λx h=>by have:=h.p;have:=h.q;have:=h.r;lia) (λx h=>h.elim) λr y st' hr=>iU hr
end
def BS(lt:iO->iO->Bool) (xs:Array iO) (i j:Nat):Prop:=∀p q x y,i<=p->p<=q->q<j->xs[p]?=some x->xs[q]?=some y->lt y x=false
def UM(lt:iO->iO->Bool) (xs:Array iO) (i j:Nat):Prop:=∀p q x y,i<=p->p<=q->q<j->xs[p]?=some x->xs[q]?=some y->lt x y=false
def Eqv(lt:iO->iO->Bool) (xs:Array iO) (i j:Nat):Prop:=∀p q x y,i<=p->p<j->i<=q->q<j->xs[p]?=some x->xs[q]?=some y->lt x y=false
section
variable {lt:iO->iO->Bool}{xs:Array iO}{i j lo n:Nat}
def Lq(hj:j<=xs.size) (h:UM lt xs i j):BS lt (mirror xs i j ((j-i) / 2)) i j:=by
 intro p q x y h1 h2 h3 ex ey;rw[jU hj,oJ ⟨h1,by lia⟩]at ex
 rw[jU hj,oJ ⟨by lia,h3⟩]at ey
 exact h _ _ _ _ (by lia) (by lia) (by lia) ey ex
def BZ(hj:j<=xs.size) (hi:lo<=i) (hn:j<=n) (e:Eqv lt xs i j) (h:UM lt xs lo n):UM lt (mirror xs i j ((j-i) / 2)) lo n:=by
 intro p q x y h1 h2 h3 ex ey;rw[jU hj]at ex ey
 by_cases cp:i<=p/\p<j
 .rw [oJ cp]at ex
  by_cases cq:i<=q/\q<j
  .rw [oJ cq]at ey;exact e _ _ _ _ (by lia) (by lia) (by lia) (by lia) ex ey
  .rw [oO cq]at ey;exact h _ _ _ _ (by lia) (by lia) h3 ex ey
 .rw [oO cp]at ex
  by_cases cq:i<=q/\q<j
  .rw [oJ cq]at ey;exact h _ _ _ _ h1 (by lia) (by lia) ex ey
  .rw [oO cq]at ey;exact h _ _ _ _ h1 h2 h3 ex ey
end
section
variable (lo:Nat)
noncomputable def crA(n:Nat):StateT SortSt Sem (ForInStep (Option (Option Nat)×Nat)):=do
 match ←ltAt' (lo+n) (lo+n-1) with
 |some c=>if c then pure (.done (none,n)) else pure (.yield (none,n+1))
 |_=>pure (.done (some none,n))
noncomputable def crB(n q:Nat):StateT SortSt Sem (ForInStep (Option (Option Nat)×Nat×Nat)):=do
 match ←ltAt' (lo+n) (lo+n-1) with
 |some c =>
  if c then
   if q>0 then do
    let _ ←jW (lo+n-(q+1)) (lo+n)
    pure (.yield (none,n+1,0))
   else pure (.yield (none,n+1,0))
  else do
   match ←ltAt' (lo+n-1) (lo+n) with
   |some c=>if c then pure (.done (none,n,q)) else pure (.yield (none,n+1,q+1))
   |_=>pure (.done (some none,n,q))
 |_=>pure (.done (some none,n,q))
def crZ(nrem n:Nat):StateT SortSt Sem (Option Nat):=do
 jW lo (lo+n)
 let r ←forIn [n:nrem] (none,n) λ_ s=>crA lo s.2
 Break.runK.match_1 (λ_=>StateT SortSt Sem (Option Nat)) r.1 (λv=>pure v) λ_=>pure (some r.2)
def crD(nrem n:Nat):StateT SortSt Sem (Option Nat):=do
 rule "list.sort.descending-run"
 let r ←forIn [n+1:nrem] (none,n+1,0) λ_ s=>crB lo s.2.1 s.2.2
 Break.runK.match_1 (λ_=>StateT SortSt Sem (Option Nat)) r.1 (λv=>pure v) λ_ =>
  if r.2.2>0 then do
   let _ ←jW (lo+r.2.1-(r.2.2+1)) (lo+r.2.1)
   crZ lo nrem r.2.1
  else crZ lo nrem r.2.1
def aa2(nrem:Nat):countRun' lo nrem=(do
 let r ←forIn [1:nrem] (none,1) λ_ s=>crA lo s.2
 Break.runK.match_1 (λ_=>StateT SortSt Sem (Option Nat)) r.1 (λv=>pure v) λ_ =>
  if r.2 == nrem then pure (some r.2)
  else if r.2>1 then do
   match ←ltAt' lo (lo+r.2-1) with
   |some c =>
    if c then pure (some r.2)
    else do
     let _ ←jW lo (lo+r.2)
     crD lo nrem r.2
   |_=>pure none
  else crD lo nrem r.2):=countRun'_eq lo nrem
end
section
variable {prog:iW}{w:iZ}{A:Around}{E:Value->iM->Prop}{s:iM}{κ:jy}{P:iO->Prop}{lt:iO->iO->Bool}
def Vm(C:Bz prog w A s κ P lt) {xs:Array iO}(hp:∀x,x∈xs->P x) (lo:Nat):BS lt xs lo (lo+1):=by
 intro p q x y h1 h2 h3 ex ey;have e:p=q:=by lia
 subst e;rw[ex]at ey;cases ey;exact C.refl (hp _ (aQq ex))
def Rv(C:Bz prog w A s κ P lt) {xs:Array iO}(hp:∀x,x∈xs->P x) {lo n:Nat}(h:BS lt xs lo (lo+(n+1))) (hx:∀x y,xs[lo+(n+1)]?=some x->xs[lo+n]?=some y->lt x y=false) (hz:lo+(n+1)<xs.size):BS lt xs lo (lo+(n+2)):=by
 intro p q x y h1 h2 h3 ex ey
 by_cases c:q<lo+(n+1)
 .exact h p q x y h1 h2 c ex ey
 .have eq:q=lo+(n+1):=by lia
  subst eq
  by_cases c2:p=lo+(n+1)
  .subst c2;rw[ex]at ey;cases ey;exact C.refl (hp _ (aQq ex))
  .have em:xs[lo+n]?=some (xs[lo+n]'(by lia)):=ag (by lia)
   exact C.trans _ _ _ (hp _ (aQq ex)) (hp _ (aQq em)) (hp _ (aQq ey)) (h p (lo+n) _ _ h1 (by lia) (by lia) ex em) (hx _ _ ey em)
def Kh(C:Bz prog w A s κ P lt) {xs:Array iO}(hp:∀x,x∈xs->P x) {lo n:Nat}(h:UM lt xs lo (lo+(n+1))) (hx:∀x y,xs[lo+(n+1)]?=some x->xs[lo+n]?=some y->lt y x=false) (hz:lo+(n+1)<xs.size):UM lt xs lo (lo+(n+2)):=by
 intro p q x y h1 h2 h3 ex ey
 by_cases c:q<lo+(n+1)
 .exact h p q x y h1 h2 c ex ey
 .have eq:q=lo+(n+1):=by lia
  subst eq
  by_cases c2:p=lo+(n+1)
  .subst c2;rw[ex]at ey;cases ey;exact C.refl (hp _ (aQq ex))
  .have em:xs[lo+n]?=some (xs[lo+n]'(by lia)):=ag (by lia)
   exact C.trans _ _ _ (hp _ (aQq ey)) (hp _ (aQq em)) (hp _ (aQq ex)) (hx _ _ ey em) (h p (lo+n) _ _ h1 (by lia) (by lia) ex em)
def Kp(C:Bz prog w A s κ P lt) {lo nrem a:Nat}{st:SortSt}(hp:∀x,x∈jc st->P x) (hk:kindOf st=κ) (ha:1<=a) (han:a<=nrem) (hz:lo+nrem<=(jc st).size) (hs:BS lt (jc st) lo (lo+a)) :
  wpS (iQ prog w) A E s (forIn [a:nrem] ((none,a):Option (Option Nat)×Nat) λ_ s=>crA lo s.2)
   (λc st'=>∃n,c=(none,n)/\st'=st/\a<=n/\n<=nrem/\BS lt (jc st) lo (lo+n)/\(n=nrem∨∃x y,(jc st)[lo+n]?=some x/\(jc st)[lo+n-1]?=some y/\lt x y=true)) st:=by
 refine jm (I:=λi c st'=>c=(none,i)/\st'=st/\a<=i/\i<=nrem/\BS lt (jc st) lo (lo+i)) ?step ?fin ⟨rfl,rfl,af _,han,hs⟩
 case step =>
  rintro i c st' h1 h2 ⟨rfl,rfl,h3,h4,h5⟩;obtain⟨k,rfl⟩:∃k,i=k+1:=⟨i-1,by lia⟩
  have ex:(jc st')[lo+(k+1)]?=some ((jc st')[lo+(k+1)]'(by lia)):=ag (by lia)
  have ey:(jc st')[lo+(k+1)-1]?=some ((jc st')[lo+k]'(by lia)):=ag (by lia)
  refine iR (C.at ex ey (hp _ (aQq ex)) (hp _ (aQq ey)) hk ?_);cases e:lt ((jc st')[lo+(k+1)]'(by lia)) ((jc st')[lo+k]'(by lia)) with
  |true=>exact iU ⟨_,rfl,rfl,h3,h4,h5,.inr ⟨_,_,ex,ey,e⟩⟩
  |false =>
   refine iU ⟨rfl,rfl,by lia,h2,Rv C hp h5 (λx y hx hy=>?_) (by lia)⟩
   have hy':(jc st')[lo+(k+1)-1]?=some y:=hy;rw[ex]at hx;rw[ey]at hy';cases hx;cases hy';exact e
 case fin =>
  rintro c st' ⟨rfl,rfl,h3,h4,h5⟩;have e:max a nrem=nrem:=gX han;rw[e]at h3 h4 h5 ⊢;exact⟨nrem,rfl,rfl,h3,af _,h5,.inl rfl⟩
def EE{i j:Nat}{st:SortSt}{Q:Unit->SortSt->Prop}(h:Q () (jn st (mirror (jc st) i j ((j-i) / 2)))):wpS (iQ prog w) A E s (jW i j) Q st:=by
 rw[reverseSlice'_eq];exact jP h
structure Af (xs ys:Array iO) (lo hi:Nat):Prop where
 pm:ys.Perm xs
 out:∀k,(k<lo∨hi<=k)->ys[k]?=xs[k]?
theorem Af.refl(xs:Array iO) (lo hi:Nat):Af xs xs lo hi:=⟨hZ.refl _,λ_ _=>rfl⟩
theorem Af.trans{xs ys zs:Array iO}{lo hi:Nat}(a:Af xs ys lo hi) (b:Af ys zs lo hi):Af xs zs lo hi:=⟨b.pm.trans a.pm,λk h=>(b.out k h).trans (a.out k h)⟩
def Af.mono{xs ys:Array iO}{lo hi hi':Nat}(a:Af xs ys lo hi) (h:hi<=hi'):Af xs ys lo hi':=⟨a.pm,λk q=>a.out k (by lia)⟩
theorem Af.size{xs ys:Array iO}{lo hi:Nat}(a:Af xs ys lo hi):ys.size=xs.size:=a.pm.size_eq
def Af.mem{xs ys:Array iO}{lo hi:Nat}(a:Af xs ys lo hi) {P:iO->Prop}(h:∀x,x∈xs->P x):∀x,x∈ys->P x:=λx hx=>h x (a.pm.mem_iff.mp hx)
def zm{xs:Array iO}{lo hi i j:Nat}(hj:j<=xs.size) (h1:lo<=i) (h2:j<=hi):Af xs (mirror xs i j ((j-i) / 2)) lo hi :=
 ⟨mirror_perm _ _ _ _,λk hk=>by rw[jU hj,oO (by lia)]⟩
structure CR (lt:iO->iO->Bool) (as:Array iO) (lo i q:Nat) (ys:Array iO):Prop where
 b:Af as ys lo (lo+i)
 d:UM lt ys lo (lo+i)
 e:Eqv lt ys (lo+i-(q+1)) (lo+i)
 p:q+1<=i
def Eu(C:Bz prog w A s κ P lt) {ys:Array iO}(hp:∀x,x∈ys->P x) {i j:Nat}(h:j<=i+1):Eqv lt ys i j:=by
 intro p q x y g1 g2 g3 g4 gx gy;have e:p=q:=by lia
 subst e;rw[gx]at gy;cases gy;exact C.refl (hp _ (aQq gx))
def YT(C:Bz prog w A s κ P lt) {lo nrem k neq:Nat}{st:SortSt}{ys:Array iO}(hp:∀x,x∈jc st->P x) (hk:kindOf st=κ) (hz:lo+nrem<=(jc st).size) (hi:k+1<nrem) (g:CR lt (jc st) lo (k+1) neq ys) :
  wpS (iQ prog w) A E s (crB lo (k+1) neq) (λr Jj=>∃m q zs,Jj=jn st zs/\m<=nrem/\CR lt (jc st) lo m q zs/\(r = .done (none,m,q)∨r = .yield (none,m,q)/\m=k+1+1)) (jn st ys):=by
 have g1:=g.b;have g2:=g.d;have g3:=g.e;have g4:=g.p;have hpy:=g1.mem hp;have hsz:=g1.size;have ex:ys[lo+(k+1)]?=some (ys[lo+(k+1)]'(by lia)):=ag (by lia)
 have ey:ys[lo+(k+1)-1]?=some (ys[lo+k]'(by lia)):=ag (by lia)
 have px:=hpy _ (aQq ex);have py:=hpy _ (aQq ey);have des:lt (ys[lo+k]'(by lia)) (ys[lo+(k+1)]'(by lia))=false->UM lt ys lo (lo+(k+1+1)):=λe=>Kh C hpy g2 (λx y hx hy=>by
  have hy':ys[lo+(k+1)-1]?=some y:=hy;rw[ex]at hx;rw[ey]at hy';cases hx;cases hy';exact e) (by lia)
 refine iR (C.at (st:=jn st ys) ex ey px py hk ?_);cases e:lt (ys[lo+(k+1)]'(by lia)) (ys[lo+k]'(by lia)) with
 |true =>
  have g2':=des (C.asym _ _ px py e);dsimp only;rw[oJ rfl]
  by_cases cn:neq>0
  .rw [oJ cn];refine iR (EE (iU ?_));have bt:Af (jc st) (mirror ys (lo+(k+1)-(neq+1)) (lo+(k+1)) ((lo+(k+1)-(lo+(k+1)-(neq+1))) / 2)) lo (lo+(k+1)):=g1.trans (zm (by lia) (by lia) (af _))
   exact⟨_,0,_,rfl,hi,⟨bt.mono (by lia),BZ (by lia) (by lia) (by lia) g3 g2',Eu C (bt.mem hp) (by lia),by lia⟩,.inr ⟨rfl,rfl⟩⟩
  .rw [oO cn];exact iU ⟨_,0,ys,rfl,hi,⟨g1.mono (by lia),g2',Eu C hpy (by lia),by lia⟩,.inr ⟨rfl,rfl⟩⟩
 |false =>
  dsimp only;rw[oO (by decide)]
  refine iR (C.at (st:=jn st ys) ey ex py px hk ?_);cases e':lt (ys[lo+k]'(by lia)) (ys[lo+(k+1)]'(by lia)) with
  |true=>exact iU ⟨_,neq,ys,rfl,bC hi,g,.inl rfl⟩
  |false =>
   refine iU ⟨_,neq+1,ys,rfl,hi,⟨g1.mono (by lia),des e',?_,by lia⟩,.inr ⟨rfl,rfl⟩⟩
   intro p q x y h1 h2 h3 h4 gx gy;have qx:=hpy _ (aQq gx);have qy:=hpy _ (aQq gy)
   by_cases cp:p=lo+(k+1)
   .subst cp;rw[ex]at gx;cases gx
    by_cases cq:q=lo+(k+1)
    .subst cq;rw[ex]at gy;cases gy;exact C.refl px
    .exact C.trans _ _ _ qy py px (g3 (lo+(k+1)-1) q _ _ (by lia) (by lia) (by lia) (by lia) ey gy) e
   .by_cases cq:q=lo+(k+1)
    .subst cq;rw[ex]at gy;cases gy;exact C.trans _ _ _ px py qx e' (g3 p (lo+(k+1)-1) _ _ (by lia) (by lia) (by lia) (by lia) gx ey)
    .exact g3 p q x y (by lia) (by lia) (by lia) (by lia) gx gy
abbrev abp(lt:iO->iO->Bool) (st:SortSt) (lo nrem:Nat) (Q:Option Nat->SortSt->Prop):=∀n xs,1<=n->n<=nrem->Af (jc st) xs lo (lo+n)->BS lt xs lo (lo+n)->Q (some n) (jn st xs)
def SC(C:Bz prog w A s κ P lt) {lo nrem m:Nat}{st:SortSt}{ys:Array iO}{Q:Option Nat->SortSt->Prop}(hp:∀x,x∈jc st->P x) (hk:kindOf st=κ) (hz:lo+nrem<=(jc st).size) (h:abp lt st lo nrem Q)
  (h1:1<=m) (h2:m<=nrem) (b:Af (jc st) ys lo (lo+m)) (d:UM lt ys lo (lo+m)):wpS (iQ prog w) A E s (crZ lo nrem m) Q (jn st ys):=by
 refine iR (EE ?_);have hsz:=b.size;have f1:=Lq (by lia) d
 have f2:=b.trans (zm (i:=lo) (j:=lo+m) (by lia) (af _) (af _))
 refine iR (jr (Kp (st:=jn st _) C (f2.mem hp) hk h1 h2 (bB hz (ef f2.size.symm)) f1) ?_);rintro c Jj ⟨n',rfl,rfl,n1',n2',s1',_⟩;exact iU (h n' _ (by lia) n2' (f2.mono (by lia)) s1')
def Ut(C:Bz prog w A s κ P lt) {lo nrem n:Nat}{st:SortSt}{xs:Array iO}{Q:Option Nat->SortSt->Prop}(hp:∀x,x∈jc st->P x) (hk:kindOf st=κ) (hz:lo+nrem<=(jc st).size) (h:abp lt st lo nrem Q)
  (hn:n<nrem) (b:Af (jc st) xs lo (lo+n)) (d:UM lt xs lo (lo+(n+1))):wpS (iQ prog w) A E s (crD lo nrem n) Q (jn st xs):=by
 refine iR (yG (iR (jr (jm
  (I:=λi c Jj=>∃q ys,c=(none,i,q)/\Jj=jn st ys/\i<=nrem/\CR lt (jc st) lo i q ys)
  (Q:=λc Jj=>∃m q ys,c=(none,m,q)/\Jj=jn st ys/\m<=nrem/\CR lt (jc st) lo m q ys)
  ?_ ?_ ⟨0,xs,rfl,rfl,hn,b.mono (by lia),d,Eu C (b.mem hp) (by lia),by lia⟩) ?_)))
 .rintro i c Jj _ hi ⟨q,ys,rfl,rfl,_,g⟩;obtain⟨k,rfl⟩:∃k,i=k+1:=⟨i-1,by have:=g.p;lia⟩
  refine jr (YT C hp hk hz hi g) λr Jj hr=>?_
  obtain⟨m,q,zs,rfl,hm,g',rfl|⟨rfl,rfl⟩⟩:=hr
  .exact ⟨m,q,zs,rfl,rfl,hm,g'⟩
  .exact ⟨q,zs,rfl,rfl,hm,g'⟩
 .rintro c Jj ⟨q,ys,rfl,rfl,hm,g⟩;exact⟨_,q,ys,rfl,rfl,hm,g⟩
 .rintro c Jj ⟨m,q,ys,rfl,rfl,hm,g⟩;have hsz:=g.b.size;have gp:=g.p;dsimp only
  by_cases cn:q>0
  .rw [oJ cn];exact iR (EE (SC (st:=st) (ys:=mirror ys (lo+m-(q+1)) (lo+m) ((lo+m-(lo+m-(q+1))) / 2)) C hp hk hz h (by lia) hm (g.b.trans (zm (by lia) (by lia) (af _))) (BZ (by lia) (by lia) (af _) g.e g.d)))
  .rw [oO cn];exact SC C hp hk hz h (by lia) hm g.b g.d
def IK(C:Bz prog w A s κ P lt) {lo nrem:Nat}{st:SortSt}{Q:Option Nat->SortSt->Prop}(hp:∀x,x∈jc st->P x) (hk:kindOf st=κ) (h1:1<=nrem) (hz:lo+nrem<=(jc st).size)
  (h:∀n xs,1<=n->n<=nrem->Af (jc st) xs lo (lo+n)->BS lt xs lo (lo+n)->Q (some n) (jn st xs)):wpS (iQ prog w) A E s (countRun' lo nrem) Q st:=by
 rw[aa2];refine iR (jr (Kp C hp hk (af 1) h1 hz (Vm C hp lo)) ?_);rintro c st' ⟨n,rfl,rfl,n1,n2,sg1,brk⟩;dsimp only;have triv:Q (some n) st':=h n (jc st') n1 n2 (Af.refl _ _ _) sg1
 by_cases c1:n=nrem
 .rw [oJ (by simp[c1])]
  exact iU triv
 rw[oO (by simpa using c1)]
 obtain⟨xb,yb,exb,eyb,eb⟩:=brk.resolve_left c1;obtain⟨m,rfl⟩:∃m,n=m+1:=⟨n-1,by lia⟩
 have pxb:=hp _ (aQq exb);have pyb:=hp _ (aQq eyb);have go:Eqv lt (jc st') lo (lo+(m+1))->UM lt (jc st') lo (lo+(m+1+1)):=λe1 =>
  Kh C hp (λp q x y g1 g2 g3 ex ey=>e1 p q x y g1 (by lia) (by lia) g3 ex ey) (λx y hx hy=>by
   have hy':(jc st')[lo+(m+1)-1]?=some y:=hy;rw[exb]at hx;rw[eyb]at hy';cases hx;cases hy';exact C.asym _ _ pxb pyb eb) (by lia)
 by_cases c2:m+1>1
 .rw [oJ c2];have ex:(jc st')[lo]?=some ((jc st')[lo]'(by lia)):=ag (by lia)
  have pex:=hp _ (aQq ex);refine iR (C.at ex eyb pex pyb hk ?_);cases e:lt ((jc st')[lo]'(by lia)) yb with
  |true=>exact iU triv
  |false =>
   dsimp only;rw[oO (by decide)]
   have eqv:Eqv lt (jc st') lo (lo+(m+1)):=by
    intro p q x y g1 g2 g3 g4 gx gy;have px:=hp _ (aQq gx);have py:=hp _ (aQq gy);have q1:=sg1 q (lo+(m+1)-1) _ _ g3 (by lia) (by lia) gy eyb
    have q2:=sg1 lo p _ _ (af _) g1 g2 ex gx;exact C.trans _ _ _ py pex px (C.trans _ _ _ py pyb pex q1 e) q2
   exact iR (EE (Ut C hp hk hz h (by lia) (zm (by lia) (af _) (af _)) (BZ (by lia) (af _) (by lia) eqv (go eqv))))
 .rw [oO c2];exact Ut C hp hk hz h (by lia) (Af.refl _ _ _) (go (Eu C hp (by lia)))
end
section
variable {prog:iW}{w:iZ}{A:Around}{E:Value->iM->Prop}{s:iM}{κ:jy}{P:iO->Prop}{lt:iO->iO->Bool}
def U1(C:Bz prog w A s κ P lt) {xs:Array iO}(hp:∀x,x∈xs->P x) {lo k l:Nat}(hz:lo+k<xs.size) (hl:l<=k) (hs:BS lt xs lo (lo+k)) {x:iO}(hx:xs[lo+k]?=some x)
  (h1:∀j y,j<l->xs[lo+j]?=some y->lt x y=false) (h2:∀j y,l<=j->j<k->xs[lo+j]?=some y->lt x y=true):BS lt (bubble xs (lo+k) (k-l)) lo (lo+(k+1)):=by
 have px:=hp _ (aQq hx);have g:∀p,(bubble xs (lo+k) (k-l))[p]?=if p=lo+l then some x else if lo+l<p/\p<=lo+k then xs[p-1]? else xs[p]?:=λp=>by
  rw[getElem?_bubble hz (k-l) (by lia) p,show lo+k-(k-l)=lo+l by lia,hx]
 intro p q u v a1 a2 a3 eu ev;rw[g]at eu ev
 by_cases cp:p=lo+l
 .rw [oJ cp]at eu;cases eu
  by_cases cq:q=lo+l
  .rw [oJ cq]at ev;cases ev;exact C.refl px
  .rw [oO cq,oJ ⟨by lia,by lia⟩]at ev
   have pv:=hp _ (aQq ev);exact C.asym _ _ px pv (h2 (q-1-lo) v (by lia) (by lia) (by rw[show lo+(q-1-lo)=q-1 by lia];exact ev))
 .rw [oO cp]at eu
  by_cases cp2:lo+l<p/\p<=lo+k
  .rw [oJ cp2]at eu;rw[oO (by lia),oJ ⟨by lia,by lia⟩]at ev
   exact hs (p-1) (q-1) _ _ (by lia) (by lia) (by lia) eu ev
  .rw [oO cp2]at eu
   by_cases cq:q=lo+l
   .rw [oJ cq]at ev;cases ev;exact h1 (p-lo) u (by lia) (by rw[show lo+(p-lo)=p by lia];exact eu)
   .rw [oO cq]at ev
    by_cases cq2:lo+l<q/\q<=lo+k
    .rw [oJ cq2]at ev;exact hs p (q-1) _ _ a1 (by lia) (by lia) eu ev
    .rw [oO cq2]at ev;exact hs p q _ _ a1 a2 (by lia) eu ev
def Lh{xs:Array iO}{lo k l n:Nat}(hz:lo+k<xs.size) (hl:l<=k) (hn:k<n):Af xs (bubble xs (lo+k) (k-l)) lo (lo+n) :=
 ⟨bubble_perm _ _ _,λp hp=>by rw[getElem?_bubble hz (k-l) (by lia) p,oO (by lia),oO (by lia)]⟩
def SB{src dst:Nat}{st:SortSt}{Q:Unit->SortSt->Prop}(h:Q () (jn st (bubble (jc st) src (src-dst)))):wpS (iQ prog w) A E s (moveDown' src dst) Q st:=by
 rw[moveDown'_eq];exact jP h
def LI(C:Bz prog w A s κ P lt) {lo n ok:Nat}{st:SortSt}{Q:Bool->SortSt->Prop}(hp:∀x,x∈jc st->P x) (hk:kindOf st=κ) (h1:1<=ok) (h2:ok<=n) (hz:lo+n<=(jc st).size) (hs:BS lt (jc st) lo (lo+ok))
  (h:∀xs,Af (jc st) xs lo (lo+n)->BS lt xs lo (lo+n)->Q true (jn st xs)):wpS (iQ prog w) A E s (binarySort' lo n ok) Q st:=by
 rw[binarySort'_eq];dsimp only;rw[Nat.max_eq_left h1];refine iR (jr (jm (I:=λk c st'=>∃ys,c=(none,())/\st'=jn st ys/\Af (jc st) ys lo (lo+n)/\BS lt ys lo (lo+k)/\k<=n)
  (Q:=λc st'=>∃ys,c=(none,())/\st'=jn st ys/\Af (jc st) ys lo (lo+n)/\BS lt ys lo (lo+n)) ?step ?fin ⟨jc st,rfl,rfl,Af.refl _ _ _,hs,h2⟩) ?post)
 case fin =>
  rintro c st' ⟨ys,rfl,rfl,b1,s1,q⟩;have e:max ok n=n:=by lia
  rw[e]at s1;exact⟨ys,rfl,rfl,b1,s1⟩
 case post =>
  rintro c st' ⟨ys,rfl,rfl,b1,s1⟩;exact iU (h ys b1 s1)
 case step =>
  rintro k c st' hk1 hk2 ⟨ys,rfl,rfl,b1,s1,q⟩;have hpy:=b1.mem hp;have hsz:=b1.size;have ex:ys[lo+k]?=some (ys[lo+k]'(by lia)):=ag (by lia)
  have px:=hpy _ (aQq ex);refine iR (jr (jm (I:=λi c st'=>∃l r,c=(none,l,r)/\st'=jn st ys/\l<=r/\r<=k/\(∀j y,j<l->ys[lo+j]?=some y->lt (ys[lo+k]'(by lia)) y=false)/\(∀j y,r<=j->j<k->ys[lo+j]?=some y->lt (ys[lo+k]'(by lia)) y=true)/\(r-l)+i<=k)
   (Q:=λc st'=>∃l r,c=(none,l,r)/\st'=jn st ys/\l=r/\r<=k/\(∀j y,j<l->ys[lo+j]?=some y->lt (ys[lo+k]'(by lia)) y=false)/\(∀j y,r<=j->j<k->ys[lo+j]?=some y->lt (ys[lo+k]'(by lia)) y=true))
   ?step1 ?fin1 ⟨0,k,rfl,rfl,aV _,af _,λj y hj=>absurd hj (cS _),λj y g1 g2=>absurd g2 (by lia),by lia⟩) ?post1)
  case fin1 =>
   rintro c st' ⟨l,r,rfl,rfl,a1,a2,a3,a4,a5⟩;exact⟨l,r,rfl,rfl,by lia,a2,a3,a4⟩
  case step1 =>
   rintro i c st' _ hi ⟨l,r,rfl,rfl,a1,a2,a3,a4,a5⟩;dsimp only
   by_cases c1:l ≥ r
   .rw [oJ c1];exact iU ⟨l,r,rfl,rfl,by lia,a2,a3,a4⟩
   rw[oO c1];have em:ys[lo+(l+r) / 2]?=some (ys[lo+(l+r) / 2]'(by lia)):=ag (by lia)
   have pm:=hpy _ (aQq em);refine iR (C.at (st:=jn st ys) ex em px pm hk ?_);cases e:lt (ys[lo+k]'(by lia)) (ys[lo+(l+r) / 2]'(by lia)) with
   |true =>
    dsimp only;rw[oJ rfl];refine iU ⟨l,_,rfl,rfl,by lia,by lia,a3,λj y g1 g2 ey=>?_,by lia⟩
    have py:=hpy _ (aQq ey);cases e':lt (ys[lo+k]'(by lia)) y with
    |true=>rfl
    |false =>
     have q1:=s1 (lo+(l+r) / 2) (lo+j) _ _ (by lia) (by lia) (by lia) em ey
     have q2:=C.trans _ _ _ pm py px q1 e';rw[e]at q2;cases q2
   |false =>
    dsimp only;rw[oO (by decide)]
    refine iU ⟨_,r,rfl,rfl,by lia,a2,λj y g1 ey=>?_,a4,by lia⟩
    have py:=hpy _ (aQq ey);exact C.trans _ _ _ py pm px (s1 (lo+j) (lo+(l+r) / 2) _ _ (by lia) (by lia) (by lia) ey em) e
  case post1 =>
   rintro c st' ⟨l,r,rfl,rfl,rfl,a2,a3,a4⟩;dsimp only;refine iR (SB (iU ?_));have e:lo+k-(lo+l)=k-l:=by lia
   show ∃ys',_/\jn st (bubble ys (lo+k) (lo+k-(lo+l)))=jn st ys'/\_;rw[e];exact⟨_,rfl,rfl,b1.trans (Lh (by lia) a2 hk2),U1 C hpy (by lia) a2 s1 ex a3 a4,hk2⟩
end
def tT(lt:iO->iO->Bool) (xs:Array iO):Nat->List (Nat×Nat×Nat)->Nat->Prop
 |s,[],e=>s=e
 |s,p::r,e=>p.1=s/\0<p.2.1/\BS lt xs s (s+p.2.1)/\tT lt xs (s+p.2.1) r e
theorem vk{lt:iO->iO->Bool}{xs:Array iO}:∀{q r:List (Nat×Nat×Nat)}{s e:Nat},tT lt xs s (q++r) e↔∃m,tT lt xs s q m/\tT lt xs m r e
 | [],r,s,e=>by
  constructor
  .intro h;exact⟨s,rfl,h⟩
  .rintro ⟨m,rfl,h⟩;exact h
 |p::q,r,s,e=>by
  constructor
  .rintro ⟨h1,h2,h3,h4⟩;obtain⟨m,a,b⟩:=vk.mp h4;exact⟨m,⟨h1,h2,h3,a⟩,b⟩
  .rintro ⟨m,⟨h1,h2,h3,a⟩,b⟩;exact⟨h1,h2,h3,vk.mpr ⟨m,a,b⟩⟩
theorem AD{lt:iO->iO->Bool}{xs:Array iO}:∀{q:List (Nat×Nat×Nat)}{s e:Nat},tT lt xs s q e->s+q.length<=e
 | [],s,e,h=>by have:s=e:=h;simp[this]
 |p::q,s,e,⟨_,h2,_,h4⟩=>by
  have:=AD h4;rw[lCq];lia
theorem ya{lt:iO->iO->Bool}{xs ys:Array iO}:∀{q:List (Nat×Nat×Nat)}{s e:Nat},(∀k,s<=k->k<e->ys[k]?=xs[k]?)->tT lt xs s q e->tT lt ys s q e
 | [],s,e,_,h=>h
 |p::q,s,e,g,⟨h1,h2,h3,h4⟩=>by
  have l:=AD h4;refine⟨h1,h2,λa b x y a1 a2 a3 ex ey=>h3 a b x y a1 a2 a3 ?_ ?_,ya (λk k1 k2=>g k (by lia) k2) h4⟩
  .rw [←g a a1 (by lia)];exact ex
  .rw [←g b (by lia) (by lia)];exact ey
theorem Dl{lt:iO->iO->Bool}{xs:Array iO}:∀{q q':List (Nat×Nat×Nat)}{s e:Nat},q'.map (λp=>(p.1,p.2.1))=q.map (λp=>(p.1,p.2.1))->tT lt xs s q e->tT lt xs s q' e
 | [],q',s,e,g,h=>by
  have:q'=[]:=by simpa using g
  subst this;exact h
 |p::q,[],s,e,g,h=>by simp at g
 |p::q,p'::q',s,e,g,⟨h1,h2,h3,h4⟩=>by
  simp only[aw,iu.injEq,Prod.mk.injEq]at g;obtain⟨⟨g1,g2⟩,g3⟩:=g;rw[←g2]at h2 h3 h4;exact⟨g1.trans h1,h2,h3,Dl g3 h4⟩
theorem GX(o:Nat):∀(M:List iO) (n:Nat) (xs:Array iO),o+n+M.length<=xs.size ->
  ((M.zipIdx n).foldl (λa x=>a.setIfInBounds (o+x.2) x.1) xs).toList=xs.toList.take (o+n)++M++xs.toList.drop (o+n+M.length)
 | [],n,xs,h=>by simp
 |y::r,n,xs,h=>by
  rw[List.zipIdx_cons,eU];rw[lCq]at h;rw[GX o r (n+1) _ (by rw[Array.size_setIfInBounds];lia),ff]
  have hl:o+n<xs.toList.length:=by rw[ax];lia
  have e1:(xs.toList.set (o+n) y).take (o+(n+1))=xs.toList.take (o+n)++[y]:=by
   rw[←eK,cW,aN hl,List.take_set_of_le (af _)];rfl
  have e2:(xs.toList.set (o+n) y).drop (o+(n+1)+r.length)=xs.toList.drop (o+n+(r.length+1)):=by
   rw[List.drop_set_of_lt (by lia)]
   congr 1;lia
  rw[e1,e2,lCq,ar,ar,ar];rfl
section
variable {prog:iW}{w:iZ}{A:Around}{E:Value->iM->Prop}{s:iM}{κ:jy}{P:iO->Prop}{lt:iO->iO->Bool}
def Oi(C:Bz prog w A s κ P lt) {left:Bool}{key:iO}{arr:Array iO}{base n:Nat}(hb:base+n<=arr.size) (ha:∀x,x∈arr->P x) (hkey:P key) (so:BS lt arr base (base+n)) :
  ∀i j,i<=j->j<n->zM lt left key arr base j=true->zM lt left key arr base i=true:=by
 intro i j hij hj h;have ei:arr[base+i]?=some (arr[base+i]'(by lia)):=ag (by lia)
 have ej:arr[base+j]?=some (arr[base+j]'(by lia)):=ag (by lia)
 have pi:=ha _ (aQq ei);have pj:=ha _ (aQq ej);have le:=so (base+i) (base+j) _ _ (by lia) (by lia) (by lia) ei ej
 rw[vc ej]at h;rw[vc ei];cases left with
 |true =>
  rw[oJ rfl]at h ⊢;cases q:lt (arr[base+i]'(by lia)) key with
  |true=>rfl
  |false =>
   have:=C.trans _ _ _ hkey pi pj q le;rw[h]at this;cases this
 |false =>
  rw[oO (by decide)]at h ⊢
  have h':lt key (arr[base+j]'(by lia))=false:=by simpa using h
  have:=C.trans _ _ _ pi pj hkey le h';simp[this]
def uM{a:Array iO}{i j:Nat}{x:iO}(h:x∈(a.extract i j).toList):∃k,i<=k/\k<j/\a[k]?=some x:=by
 rw[rG]at h;obtain⟨k,k1,k2,e⟩:=xl h;rw[cR]at e;exact⟨k,k1,k2,e⟩
def Ec{a:Array iO}{i j:Nat}(h:BS lt a i j):zz lt (a.extract i j).toList:=by
 rw[rG];refine bV.mpr λp q hp hq hpq=>?_
 rw[au,lTq,ax]at hp hq;have e:∀k (hk:k<((a.toList.take j).drop i).length),a[i+k]?=some ((a.toList.take j).drop i)[k]:=λk hk=>by
  rw[au,lTq,ax]at hk;rw[eB,fk,aG];exact⟨by lia,by simp⟩
 exact h (i+p) (i+q) _ _ (by lia) (by lia) (by lia) (e p _) (e q _)
def Jz(i:Nat):mergeAt' i=(do
 let s ←get
 let (some (sa,na,power),some (sb,nb,_)):=((jI s)[i]?,(jI s)[i+1]?)|mi "internal:list.sort.pending"
 set (setPending s (((jI s).setIfInBounds i (sa,na+nb,power)).eraseIdxIfInBounds (i+1)))
 let some k ←xK false (←jw (jc s) sb) (jc s) sa na 0|return false
 let (sa,na):=(sa+k,na-k)
 if na == 0 then return true
 let some nb ←xK true (←jw (jc s) (sa+na-1)) (jc s) sb nb (nb-1)|return false
 if nb == 0 then return true
 let x:=(jc s).extract sa sb
 let y:=(jc s).extract sb (sb+nb)
 let merged ←if na<=nb then EN x y else Fi x y
 modify λs=>jn s (merged.toList.zipIdx.foldl (λa (p,j)=>a.setIfInBounds (sa+j) p) (jc s))
 return (failedOf (←get)).isNone):=rfl
def P4{st st':SortSt}{Q:PUnit->SortSt->Prop}(h:Q ⟨⟩ st'):wpS (iQ prog w) A E s (set st':StateT SortSt Sem PUnit) Q st:=by
 unfold wpS;rw[StateT.run_set];exact jd ⟨rfl,h⟩
def Tu(C:Bz prog w A s κ P lt) {xs zs M:Array iO}{sa na nb k l:Nat}(hp:∀x,x∈xs->P x) (hz:sa+na+nb<=xs.size) (hk:k<=na) (hl:l<=nb) (h1:BS lt xs sa (sa+na)) (h2:BS lt xs (sa+na) (sa+na+nb)) {key last:iO}
  (ek:xs[sa+na]?=some key) (el:xs[sa+na-1]?=some last)
  (k2:∀j y,j<k->xs[sa+j]?=some y->lt key y=false) (l3:∀j y,l<=j->j<nb->xs[sa+na+j]?=some y->lt y last=false) (hna:0<na) (hnb:0<nb)
  (m:UO lt (xs.extract (sa+k) (sa+na)) (xs.extract (sa+na) (sa+na+l)) M)
  (hzs:zs.toList=xs.toList.take (sa+k)++M.toList++xs.toList.drop (sa+k+M.toList.length)):Af xs zs sa (sa+na+nb)/\BS lt zs sa (sa+na+nb):=by
 have lM:M.toList.length=(na-k)+l:=by
  have:=m.pm.length_eq;simp only[lAq,ax,dX]at this ⊢;lia
 have hlx:xs.toList.length=xs.size:=ax;have gz:∀p,zs[p]?=if p<sa+k then xs[p]? else if p<sa+na+l then M[p-(sa+k)]? else xs[p]?:=λp=>by
  rw[←aJ,hzs]
  by_cases c1:p<sa+k
  .rw [oJ c1,ar,gZq (by rw[lTq];lia),bw c1,aJ]
  .rw [oO c1,ar,gYq (by rw[lTq];lia),lTq,show min (sa+k) xs.toList.length=sa+k by lia]
   by_cases c2:p<sa+na+l
   .rw [oJ c2,gZq (by lia),aJ]
   .rw [oO c2,gYq (by lia),cI,aJ]
    congr 1;lia
 have pk:=hp _ (aQq ek);have pl:=hp _ (aQq el);have from_:∀q v,M[q]?=some v->(∃j,k<=j/\j<na/\xs[sa+j]?=some v)∨∃j,j<l/\xs[sa+na+j]?=some v:=λq v e=>by
  have hv:v∈M.toList:=by simpa using aQq e
  rcases mAq.mp (m.pm.mem_iff.mp hv) with hv|hv
  .obtain ⟨j,j1,j2,ej⟩:=uM hv;exact .inl ⟨j-sa,by lia,by lia,by rw[show sa+(j-sa)=j by lia];exact ej⟩
  .obtain ⟨j,j1,j2,ej⟩:=uM hv;exact .inr ⟨j-(sa+na),by lia,by rw[show sa+na+(j-(sa+na))=j by lia];exact ej⟩
 refine⟨⟨?_,λp hp'=>?_⟩,?_⟩
 .rw [Array.perm_iff_toList_perm,hzs];have c:xs.toList=xs.toList.take (sa+k)++((xs.extract (sa+k) (sa+na)).toList++(xs.extract (sa+na) (sa+na+l)).toList)++xs.toList.drop (sa+k+M.toList.length):=by
   rw[rG,rG,lM];have a1:=CD xs.toList (sa+k) (sa+na) (by lia)
   have a2:=CD xs.toList (sa+na) (sa+na+l) (by lia)
   have a3:sa+k+(na-k+l)=sa+na+l:=by lia
   rw[a3,←ar,←a1,←a2,aR]
  conv=>rhs;rw[c]
  exact bG.append_right _ (bG.append_left _ m.pm)
 .rw [gz]
  by_cases c1:p<sa+k
  .rw [oJ c1]
  .rw [oO c1,oO (by lia)]
 .intro p q x y a1 a2 a3 ex ey;rw[gz]at ex ey
  by_cases p1:p<sa+k
  .rw [oJ p1]at ex;have px:=hp _ (aQq ex);have lx:lt key x=false:=k2 (p-sa) x (by lia) (by rw[show sa+(p-sa)=p by lia];exact ex)
   by_cases q1:q<sa+k
   .rw [oJ q1]at ey;exact h1 p q _ _ a1 a2 (by lia) ex ey
   .rw [oO q1]at ey
    by_cases q2:q<sa+na+l
    .rw [oJ q2]at ey;rcases from_ _ _ ey with ⟨j,j1,j2,ej⟩|⟨j,j1,ej⟩
     .exact h1 p (sa+j) _ _ a1 (by lia) (by lia) ex ej
     .exact C.trans _ _ _ px pk (hp _ (aQq ej)) lx (h2 (sa+na) (sa+na+j) _ _ (af _) (by lia) (by lia) ek ej)
    .rw [oO q2]at ey;exact C.trans _ _ _ px pk (hp _ (aQq ey)) lx (h2 (sa+na) q _ _ (af _) (by lia) (by lia) ek ey)
  .rw [oO p1]at ex;rw[oO (by lia)]at ey
   by_cases p2:p<sa+na+l
   .rw [oJ p2]at ex
    by_cases q2:q<sa+na+l
    .rw [oJ q2]at ey;rcases dS a2 with c|c
     .have ex':M.toList[p-(sa+k)]?=some x:=by rw[aJ];exact ex
      have ey':M.toList[q-(sa+k)]?=some y:=by rw[aJ];exact ey
      obtain⟨hx,e1⟩:=gSq.mp ex';obtain⟨hy,e2⟩:=gSq.mp ey';have:=bV.mp m.so (p-(sa+k)) (q-(sa+k)) hx hy (by lia)
      rw[e1,e2]at this;exact this
     .subst c;rw[ex]at ey;cases ey;rcases from_ _ _ ex with ⟨j,j1,j2,ej⟩|⟨j,j1,ej⟩
      .exact C.refl (hp _ (aQq ej))
      .exact C.refl (hp _ (aQq ej))
    .rw [oO q2]at ey;have py:=hp _ (aQq ey);rcases from_ _ _ ex with ⟨j,j1,j2,ej⟩|⟨j,j1,ej⟩
     .exact C.trans _ _ _ (hp _ (aQq ej)) pl py (h1 (sa+j) (sa+na-1) _ _ (by lia) (by lia) (by lia) ej el) (l3 (q-(sa+na)) y (by lia) (by lia) (by rw[show sa+na+(q-(sa+na))=q by lia];exact ey))
     .exact h2 (sa+na+j) q _ _ (by lia) (by lia) (by lia) ej ey
   .rw [oO p2]at ex;rw[oO (by lia)]at ey
    exact h2 p q _ _ (by lia) a2 (by lia) ex ey
end
section
variable {prog:iW}{w:iZ}{A:Around}{E:Value->iM->Prop}{s:iM}{κ:jy}{P:iO->Prop}{lt:iO->iO->Bool}
def Uh{α:Type}{l:List α}{i:Nat}{a b:α}(h1:l[i]?=some a) (h2:l[i+1]?=some b):l=l.take i++a::b::l.drop (i+2):=by
 obtain⟨h3,e3⟩:=gSq.mp h1;obtain⟨h4,e4⟩:=gSq.mp h2
 conv=>lhs;rw[←aR i l]
 rw[aL h3,aL h4,e3,e4]
def OD{α:Type}{q r:List α}{a b c:α}:((q++a::b::r).set q.length c).eraseIdx (q.length+1)=q++c::r:=by
 rw[fX _ _ (af _),bP,cJ,List.eraseIdx_append_of_length_le (by lia),fJ]
 rfl
def Ee(C:Bz prog w A s κ P lt) {i lo:Nat}{st:SortSt}{Q:Bool->SortSt->Prop}(hp:∀x,x∈jc st->P x) (hk:kindOf st=κ) (hf:failedOf st=none) (hlo:lo<=(jc st).size) (hch:tT lt (jc st) 0 (jI st).toList lo)
  (hi:i+1<(jI st).size) (h:∀xs p g,Af (jc st) xs 0 lo->p.size+1=(jI st).size->tT lt xs 0 p.toList lo->Q true (SortSt.mk' κ xs p g none)):wpS (iQ prog w) A E s (mergeAt' i) Q st:=by
 obtain⟨κ',arr,pend,g0,fl⟩:=st;have hk:κ'=κ:=hk;have hf:fl=none:=hf;subst hk hf;have hp:∀x,x∈arr->P x:=hp;have hlo:lo<=arr.size:=hlo;have hch:tT lt arr 0 pend.toList lo:=hch;have hi:i+1<pend.size:=hi;have e1:pend[i]?=some (pend[i]'(by lia)):=ag (by lia)
 have e2:pend[i+1]?=some (pend[i+1]'(by lia)):=ag (by lia)
 generalize pend[i]'(by lia)=a at e1
 generalize pend[i+1]'(by lia)=b at e2
 obtain⟨sa,na,pa⟩:=a;obtain⟨sb,nb,pb⟩:=b;have e1':pend.toList[i]?=some (sa,na,pa):=by rw[aJ];exact e1
 have e2':pend.toList[i+1]?=some (sb,nb,pb):=by rw[aJ];exact e2
 have ep:=Uh e1' e2';have lq:(pend.toList.take i).length=i:=by rw[lTq,ax];lia
 generalize pend.toList.take i=q at ep lq;generalize pend.toList.drop (i+2)=r at ep;rw[ep]at hch;obtain⟨m0,c1,c2⟩:=vk.mp hch;obtain⟨x1,x2,x3,x4,x5,x6,x7⟩:=c2;have d1:sa=m0:=x1;have d2:0<na:=x2;have d3:BS lt arr m0 (m0+na):=x3;have f1:sb=m0+na:=x4;have f2:0<nb:=x5;have f3:BS lt arr (m0+na) (m0+na+nb):=x6;have f4:tT lt arr (m0+na+nb) r lo:=x7
 clear x1 x2 x3 x4 x5 x6 x7
 subst d1 f1;have hrl:sa+na+nb+r.length<=lo:=AD f4;have hql:0+q.length<=sa:=AD c1;have hz:sa+na+nb<=arr.size:=by lia
 have np:((pend.setIfInBounds i (sa,na+nb,pa)).eraseIdxIfInBounds (i+1)).toList=q++(sa,na+nb,pa)::r:=by
  rw[Array.toList_eraseIdxIfInBounds,ff,ep,←lq];exact OD
 have ns:((pend.setIfInBounds i (sa,na+nb,pa)).eraseIdxIfInBounds (i+1)).size+1=pend.size:=by
  rw[←ax,np,←ax,ep];simp only[lAq,lCq];lia
 have fin:∀zs g,Af arr zs sa (sa+na+nb)->BS lt zs sa (sa+na+nb)->Q true (SortSt.mk' κ' zs ((pend.setIfInBounds i (sa,na+nb,pa)).eraseIdxIfInBounds (i+1)) g none):=λzs g b1 s1=>by
  refine h zs _ g ⟨b1.pm,λk hk=>b1.out k (by lia)⟩ ns ?_
  rw[np];refine vk.mpr ⟨sa,ya (λk _ k2=>b1.out k (.inl k2)) c1,rfl,by show 0<na+nb;lia,?_,?_⟩
  .show BS lt zs sa (sa+(na+nb));rw[←eK];exact s1
  .show tT lt zs (sa+(na+nb)) r lo;rw[←eK];exact ya (λk k1 _=>b1.out k (.inr k1)) f4
 rw[Jz];refine iR (jS ?_);dsimp only;rw[e1,e2];dsimp only;refine iR (P4 ?_);have ek:arr[sa+na]?=some (arr[sa+na]'(by lia)):=ag (by lia)
 have el:arr[sa+na-1]?=some (arr[sa+na-1]'(by lia)):=ag (by lia)
 have pk:=hp _ (aQq ek);have pl:=hp _ (aQq el);refine iR (pU ek ?_);refine iR (vH C d2 (by lia) hp pk rfl (Oi C (by lia) hp pk d3) λk k1 k2 k3=>?_)
 dsimp only;have kl:∀j y,j<k->arr[sa+j]?=some y->lt (arr[sa+na]'(by lia)) y=false:=λj y hj ey=>by
  have:=k2 j hj;rw[vc ey,oO (by decide)]at this
  simpa using this
 have kh:∀j y,k<=j->j<na->arr[sa+j]?=some y->lt (arr[sa+na]'(by lia)) y=true:=λj y h1 h2 ey=>by
  have:=k3 j h1 h2;rw[vc ey,oO (by decide)]at this
  simpa using this
 by_cases c1':na-k=0
 .rw [oJ (by simp[c1'])]
  refine iU (fin arr g0 (Af.refl _ _ _) λp q x y a1 a2 a3 ex ey=>?_)
  have px:=hp _ (aQq ex);have py:=hp _ (aQq ey)
  by_cases q1:q<sa+na
  .exact d3 p q _ _ a1 a2 q1 ex ey
  .by_cases p1:p<sa+na
   .exact C.trans _ _ _ px pk py (kl (p-sa) x (by lia) (by rw[show sa+(p-sa)=p by lia];exact ex)) (f3 (sa+na) q _ _ (af _) (by lia) a3 ek ey)
   .exact f3 p q _ _ (by lia) a2 a3 ex ey
 rw[oO (by simpa using c1')]
 have ea:sa+k+(na-k)-1=sa+na-1:=by lia
 rw[ea];refine iR (pU el ?_);refine iR (vH C (by lia) (by lia) hp pl rfl (Oi C (by lia) hp pl f3) λl l1 l2 l3=>?_)
 dsimp only;have ll:∀j y,j<l->arr[sa+na+j]?=some y->lt y (arr[sa+na-1]'(by lia))=true:=λj y hj ey=>by
  have:=l2 j hj;rw[vc ey,oJ rfl]at this;exact this
 have lh:∀j y,l<=j->j<nb->arr[sa+na+j]?=some y->lt y (arr[sa+na-1]'(by lia))=false:=λj y h1 h2 ey=>by
  have:=l3 j h1 h2;rw[vc ey,oJ rfl]at this;exact this
 by_cases c2':l=0
 .rw [oJ (by simp[c2'])]
  refine iU (fin arr g0 (Af.refl _ _ _) λp q x y a1 a2 a3 ex ey=>?_)
  have px:=hp _ (aQq ex);have py:=hp _ (aQq ey)
  by_cases q1:q<sa+na
  .exact d3 p q _ _ a1 a2 q1 ex ey
  .by_cases p1:p<sa+na
   .exact C.trans _ _ _ px pl py (d3 p (sa+na-1) _ _ a1 (by lia) (by lia) ex el) (lh (q-(sa+na)) y (by lia) (by lia) (by rw[show sa+na+(q-(sa+na))=q by lia];exact ey))
   .exact f3 p q _ _ (by lia) a2 a3 ex ey
 rw[oO (by simpa using c2')]
 have sx:zz lt (arr.extract (sa+k) (sa+na)).toList:=Ec λp q x y a1 a2 a3 ex ey=>d3 p q x y (by lia) a2 a3 ex ey
 have sy:zz lt (arr.extract (sa+na) (sa+na+l)).toList:=Ec λp q x y a1 a2 a3 ex ey=>f3 p q x y a1 a2 (by lia) ex ey
 have hx:∀x,x∈arr.extract (sa+k) (sa+na)->P x:=λx hx=>by
  obtain⟨j,_,_,e⟩:=uM (eR.mpr hx);exact hp _ (aQq e)
 have hy:∀x,x∈arr.extract (sa+na) (sa+na+l)->P x:=λx hx=>by
  obtain⟨j,_,_,e⟩:=uM (eR.mpr hx);exact hp _ (aQq e)
 have zx:(arr.extract (sa+k) (sa+na)).size=na-k:=by rw[dX];lia
 have zy:(arr.extract (sa+na) (sa+na+l)).size=l:=by rw[dX];lia
 have g0':(arr.extract (sa+na) (sa+na+l))[0]?=some (arr[sa+na]'(by lia)):=by
  rw[fT,oJ (by lia),iA]
  exact ek
 have gl':(arr.extract (sa+k) (sa+na))[na-k-1]?=some (arr[sa+na-1]'(by lia)):=by
  rw[fT,oJ (by lia),show sa+k+(na-k-1)=sa+na-1 by lia]
  exact el
 have low:∀y∈(arr.extract (sa+k) (sa+na)).toList,lt y (arr[sa+na]'(by lia))=false:=λy hy=>by
  obtain⟨j,j1,j2,ej⟩:=uM hy;exact C.asym _ _ pk (hp _ (aQq ej)) (kh (j-sa) y (by lia) (by lia) (by rw[show sa+(j-sa)=j by lia];exact ej))
 have high:∀x∈(arr.extract (sa+na) (sa+na+l)).toList,lt (arr[sa+na-1]'(by lia)) x=false:=λx hx=>by
  obtain⟨j,j1,j2,ej⟩:=uM hx;exact C.asym _ _ (hp _ (aQq ej)) pl (ll (j-(sa+na)) x (by lia) (by rw[show sa+na+(j-(sa+na))=j by lia];exact ej))
 have done:∀M g,UO lt (arr.extract (sa+k) (sa+na)) (arr.extract (sa+na) (sa+na+l)) M ->
   Q true (SortSt.mk' κ' (M.toList.zipIdx.foldl (λa x=>a.setIfInBounds (sa+k+x.snd) x.fst) arr) ((pend.setIfInBounds i (sa,na+nb,pa)).eraseIdxIfInBounds (i+1)) g none):=λM g mg=>by
  have lM:M.toList.length=(na-k)+l:=by
   have:=mg.pm.length_eq;simp only[lAq,ax,dX]at this ⊢;lia
  have wb:=GX (sa+k) M.toList 0 arr (by lia)
  obtain⟨b1,s1⟩:=Tu C hp hz k1 l1 d3 f3 ek el kl lh d2 f2 mg wb;exact fin _ g b1 s1
 by_cases c3:na-k<=l
 .rw [oJ c3];refine iR (KI (κ:=κ') (a:=arr.extract (sa+k) (sa+na)) (b:=arr.extract (sa+na) (sa+na+l)) C hx hy rfl sx sy (by rw[zx];lia) (by rw[zy];lia) (λx ex y hy=>?_) (λj hj x hx y hy=>?_) λM g mg=>?_)
  .rw [g0']at ex;cases ex;exact low y hy
  .have hj':j=na-k-1:=by lia
   subst hj';have:y=arr[sa+na-1]'(by lia):=by
    obtain⟨t,t1,t2⟩:=Ay hy;rw[zx]at t1;have t0:t=0:=by lia
    subst t0;rw[iA,gl']at t2;exact(aS.inj t2).symm
   rw[this];exact high x hx
  .refine iR (jP ?_);refine iR (jS ?_);exact iU (done M g mg)
 .rw [oO c3];refine iR (Kw (κ:=κ') (a:=arr.extract (sa+k) (sa+na)) (b:=arr.extract (sa+na) (sa+na+l)) C hx hy rfl sx sy (by rw[zx];lia) (by rw[zy];lia) (λx hx y hy=>?_) (λx ex y hy=>?_) λM g mg=>?_)
  .have:x=arr[sa+na]'(by lia):=by
    obtain⟨t,t1,t2⟩:=AF hx;have t0:t=0:=by lia
    subst t0;rw[cR,g0']at t2;exact(aS.inj t2).symm
   rw[this];exact low y hy
  .rw [zx,gl']at ex;cases ex;exact high y hy
  .refine iR (jP ?_);refine iR (jS ?_);exact iU (done M g mg)
end
section
variable {prog:iW}{w:iZ}{A:Around}{E:Value->iM->Prop}{s:iM}{κ:jy}{P:iO->Prop}{lt:iO->iO->Bool}
noncomputable abbrev zQ(κ:jy) (xs:Array iO) (p:Array (Nat×Nat×Nat)) (g:Nat):SortSt:=SortSt.mk' κ xs p g none
def Fh{xs:Array iO}{p:Array (Nat×Nat×Nat)}{lo n:Nat}(h:tT lt xs 0 p.toList lo) (hn:0<n) (hs:BS lt xs lo (lo+n)):tT lt xs 0 (p.push (lo,n,0)).toList (lo+n):=by
 rw[cV];exact vk.mpr ⟨lo,h,rfl,hn,hs,rfl⟩
def GL(p:Array (Nat×Nat×Nat)) (i pw:Nat):(p.modify i λx=>(x.fst,x.2.fst,pw)).toList.map (λp=>(p.1,p.2.1))=p.toList.map (λp=>(p.1,p.2.1)):=by
 apply eC;intro k;rw[gMq,gMq,aJ,aJ,Array.getElem?_modify];split
 .cases p[k]? <;> rfl
 .rfl
def Ij(C:Bz prog w A s κ P lt) {arr:Array iO}{g:Nat}{Q:Unit->SortSt->Prop}(hp:∀x,x∈arr->P x) (h2:2<=arr.size)
    (h:∀xs p g',xs.Perm arr->BS lt xs 0 arr.size->Q () (zQ κ xs p g')):wpS (iQ prog w) A E s sortRuns' Q (zQ κ arr #[] g):=by
  rw[sortRuns'_eq];refine iR (jS ?_);dsimp only;have e0:jc (zQ κ arr #[] g)=arr:=rfl;rw[e0];generalize minRun' arr.size arr.size 0=mr;refine iR (jr (jm
    (I:=λi c st'=>∃lo xs p g',c=(none,lo)/\st'=zQ κ xs p g'/\xs.Perm arr/\lo<=arr.size/\tT lt xs 0 p.toList lo/\i<=lo)
    (Q:=λc st'=>∃xs p g',c=(none,arr.size)/\st'=zQ κ xs p g'/\xs.Perm arr/\tT lt xs 0 p.toList arr.size)
    ?step ?fin ⟨0,arr,#[],g,rfl,rfl,hZ.refl _,aV _,rfl,af _⟩) ?post)
  case fin =>
    rintro c st' ⟨lo,xs,p,g',rfl,rfl,q1,q2,q3,q4⟩;have e:lo=arr.size:=by lia
    subst e;exact⟨xs,p,g',rfl,rfl,q1,q3⟩
  case step =>
    rintro i c st' _ hi ⟨lo,xs,p,g',rfl,rfl,q1,q2,q3,q4⟩;dsimp only;have hpx:∀x,x∈xs->P x:=λx hx=>hp x (q1.mem_iff.mp hx)
    have hzx:xs.size=arr.size:=q1.size_eq
    by_cases c1:lo ≥ arr.size
    . rw[oJ c1]
      have e:lo=arr.size:=by lia
      subst e;exact iU ⟨xs,p,g',rfl,rfl,q1,q3⟩
    rw[oO c1];refine iR (IK (st:=zQ κ xs p g') C hpx rfl (by lia) (by show lo+(arr.size-lo)<=xs.size;lia) λn ys n1 n2 b1 s1=>?_)
    dsimp only;have hb:Af xs ys lo (lo+n):=b1;show wpS _ _ _ _ _ _ (zQ κ ys p g')
    by_cases c2:n<mr
    all_goals
      first
        | (rw[oJ c2]
           refine iR (yG ?_);refine iR (LI (st:=zQ κ ys p g') (n:=min (arr.size-lo) mr) C (hb.mem hpx) rfl n1 (by lia) (by show lo+min (arr.size-lo) mr<=ys.size;have:=hb.size;lia) s1 λzs b2 s2=>?_)
           rw[oO (by decide)]
           have hb2:Af xs zs lo (lo+min (arr.size-lo) mr):=(hb.mono (by lia)).trans b2
           have nn:1<=min (arr.size-lo) mr:=by lia
           have nl:lo+min (arr.size-lo) mr<=arr.size:=by lia
           show wpS _ _ _ _ _ _ (zQ κ zs p g')
           clear b1 s1 hb b2
           generalize min (arr.size-lo) mr=nN at hb2 nn nl s2 ⊢)
        | (rw[oO c2]
           have hb2:=hb;have s2:=s1;have nn:=n1;have nl:lo+n<=arr.size:=by lia
           clear b1 s1 hb
           generalize hnN:n=nN at hb2 nn nl s2 ⊢;generalize hzs:ys=zs at hb2 s2 ⊢)
      have hpz:=hb2.mem hpx;have hzz:=hb2.size;have hcz:tT lt zs 0 p.toList lo:=ya (λk _ k2=>hb2.out k (.inl k2)) q3
      have pz:zs.Perm arr:=hb2.pm.trans q1;refine iR (jS ?_);have ep:jI (zQ κ zs p g')=p:=rfl;rw[ep];cases eb:p.back? with
      |none =>
        dsimp only;refine iR (jP (iU ?_));exact⟨lo+nN,zs,p.push (lo,nN,0),g',rfl,rfl,pz,nl,Fh hcz nn s2,by lia⟩
      |some t =>
        obtain⟨s1',n1',pw0⟩:=t;dsimp only;refine iR (jr (jm
          (I:=λi c st'=>∃ys q g2,c=(none,())/\st'=zQ κ ys q g2/\Af zs ys 0 lo/\tT lt ys 0 q.toList lo)
          (Q:=λc st'=>∃ys q g2,c=(none,())/\st'=zQ κ ys q g2/\Af zs ys 0 lo/\tT lt ys 0 q.toList lo)
          ?step1 (λc st' hh=>hh) ⟨zs,p,g',rfl,rfl,Af.refl _ _ _,hcz⟩) ?post1)
        case step1 =>
          rintro j c st' _ hj ⟨ys2,q,g2,rfl,rfl,b3,ch3⟩;refine iR (jS ?_);have eq:jI (zQ κ ys2 q g2)=q:=rfl;rw[eq]
          by_cases d1:q.size>1
          . rw[oJ d1]
            have eo:q[q.size-2]?=some (q[q.size-2]'(by lia)):=ag (by lia)
            rw[eo];generalize q[q.size-2]'(by lia)=o
            obtain⟨o1,o2,older⟩:=o;dsimp only;split
            . exact iU ⟨ys2,q,g2,rfl,rfl,b3,ch3⟩
            . refine iR (Ee (st:=zQ κ ys2 q g2) C (b3.mem hpz) rfl rfl (by show lo<=ys2.size;have:=b3.size;lia) ch3 (by show q.size-2+1<q.size;lia) λxs3 p3 g3 b4 _ ch4=>?_)
              rw[oO (by decide)]
              exact iU ⟨xs3,p3,g3,rfl,rfl,b3.trans b4,ch4⟩
          . rw[oO d1]
            exact iU ⟨ys2,q,g2,rfl,rfl,b3,ch3⟩
        case post1 =>
          rintro c st' ⟨ys2,q,g2,rfl,rfl,b3,ch3⟩;dsimp only;refine iR (jP (iR (jP (iU ?_))));have s3:BS lt ys2 lo (lo+nN):=λa b x y a1 a2 a3 ex ey=>s2 a b x y a1 a2 a3 (by rw[←b3.out a (.inr a1)];exact ex) (by rw[←b3.out b (.inr (by lia))];exact ey)
          exact⟨lo+nN,ys2,_,g2,rfl,rfl,b3.pm.trans pz,nl,Fh (Dl (GL q _ _) ch3) nn s3,by lia⟩
  case post =>
    rintro c st' ⟨xs,p,g',rfl,rfl,q1,q3⟩;dsimp only;refine iR (jr (jm
      (I:=λi c st'=>∃ys q g2,c=(none,())/\st'=zQ κ ys q g2/\ys.Perm arr/\tT lt ys 0 q.toList arr.size/\q.size+i<=arr.size)
      (Q:=λc st'=>∃ys q g2,c=(none,())/\st'=zQ κ ys q g2/\ys.Perm arr/\tT lt ys 0 q.toList arr.size/\q.size<=1)
      ?step2 ?fin2 ⟨xs,p,g',rfl,rfl,q1,q3,by have:=AD q3;rw[ax]at this;lia⟩) ?post2)
    case fin2 =>
      rintro c st' ⟨ys,q,g2,rfl,rfl,r1,r2,r3⟩;exact⟨ys,q,g2,rfl,rfl,r1,r2,by lia⟩
    case step2 =>
      rintro j c st' _ hj ⟨ys,q,g2,rfl,rfl,r1,r2,r3⟩;refine iR (jS ?_);have eq:jI (zQ κ ys q g2)=q:=rfl;rw[eq]
      by_cases d1:q.size<=1
      . rw[oJ d1]
        exact iU ⟨ys,q,g2,rfl,rfl,r1,r2,d1⟩
      rw[oO d1];have hi':∀(b:Prop) [Decidable b],(if b then q.size-2-1 else q.size-2)+1<q.size:=λb _=>by split <;> lia
      refine iR (Ee (st:=zQ κ ys q g2) C (λx hx=>hp x (r1.mem_iff.mp hx)) rfl rfl (by show arr.size<=ys.size;have:=r1.size_eq;lia) r2 (hi' _) λxs3 p3 g3 b4 ns ch4=>?_)
      rw[oO (by decide)]
      have ns':p3.size+1=q.size:=ns;exact iU ⟨xs3,p3,g3,rfl,rfl,b4.pm.trans r1,ch4,by lia⟩
    case post2 =>
      rintro c st' ⟨ys,q,g2,rfl,rfl,r1,r2,r3⟩;refine iU (h ys q g2 r1 ?_);rw[←ax]at r3;cases eq:q.toList with
      |nil =>
        rw[eq]at r2;have r2':0=arr.size:=r2;lia
      |cons a r =>
        rw[eq]at r2 r3;have er:r=[]:=by
          rw[lCq]at r3;exact cA.mp (by lia)
        subst er;obtain⟨_,_,s3,e3⟩:=r2;have e3':0+a.2.1=arr.size:=e3;rw[e3']at s3;exact s3
end
end MrS
namespace Xe
open PySem
section
variable {M:jQ}{A:Around}{E:Value->iM->Prop}{s:iM}
structure Hj (fs:List Addr) (e:Addr) (oe:Obj) (T:Addr) (h h':Heap):Prop where
 keep:∀b o,b≠e->b∉fs->h.get? b=some o->h'.get? b=some o
 slot:∀b o,b≠e->h.get? b=some o->∃sl,h'.get? b=some { o with slots:=sl }
 exc:h'.get? e=some (oe.mapFields (·.setIfInBounds 1 (.ref T)))
 fresh:h.get? T=none
 ent:∃oT ts,h'.get? T=some oT/\oT.data = .fields ts/\ts[3]?=some .none
def G3{base:Heap}{env:Env}{outer:List Env}{L e:Addr}{oe:Obj}{vs:Array Value}{head:Value}{hadNext:Bool}{Q:Unit->iM->Prop}
  (hfr:A.frames=some (env::outer)) (hl:s.heap.FunFrames base (env::outer)) (hf:env.frame=some L)
  (he:s.heap.get? e=some oe) (hd:oe.data = .fields vs) (hsz:1<vs.size)
  (h:∀h' T,Hj ((env::outer).filterMap (·.frame)) e oe T s.heap h'->Q () { s with heap:=h' }) :
  iS M A (do let a ←frameOf env;let pl ←entryPlaceOf L hadNext;let b ←EntryCells.newEntry head a .none (kr L) .none pl;setField (.ref e) 1 b) (λ_ s'=>iS M A (kB (.ref e) none) Q E s') E s:=by
 have hene:e∉(env::outer).filterMap (·.frame):=λhm=>by
  obtain⟨_,o,ho,hnf⟩:=hl.mem hm;rw[he]at ho;injection ho with ho;subst ho;exact hnf vs hd
 refine iT (wpAny_frameOf_fun hfr hl hf λh₁ hs₁=>?_)
 refine iT (wpAny_entryPlaceOf λpl hpl=>?_)
 unfold EntryCells.newEntry newFields;refine iT (wpAny_newObj_type ?_ (hpl.sizeOk5 _ _ _ _ _));have he₁:h₁.get? e=some oe:=(hs₁.2.1 e hene).trans he;have he₂:=ae (h:=h₁) { cls:=.type "traceback", dict:=none,data:=.fields ([head,.ref L,.none,kr L,.none]++(if pl.isEmpty then aD 6 cP else pl)).toArray } he₁
 refine lF he₂ hd hsz ?_;have hTe:h₁.objs.size≠e:=ee (aj he₁);have hd₃:=Obj.data_mapFields hd (·.setIfInBounds 1 (ai h₁.objs.size));have he₃:=cM (Obj.mapFields (·.setIfInBounds 1 (ai h₁.objs.size))) he₂ (Obj.isFreed_of_fields hd₃);have hT₃:=(bz (h₁.push { cls:=.type "traceback", dict:=none,data:=.fields ([head,.ref L,.none,kr L,.none]++(if pl.isEmpty then aD 6 cP else pl)).toArray })
  (Obj.mapFields (·.setIfInBounds 1 (ai h₁.objs.size))) (Ne.symm hTe)).trans (bb h₁ rfl)
 unfold kB;refine iT (lu he₃ hd₃ (x:=.ref h₁.objs.size) (by simp[hsz]) ?_)
 rw[oJ (show (ai h₁.objs.size != cP)=true from by simp)]
 refine lF hT₃ rfl (by simp only[aq,lAq,lCq,dP] <;> lia) (h _ h₁.objs.size ?_)
 have keep:∀b o,b≠e->h₁.get? b=some o ->
   (((h₁.push { cls:=.type "traceback", dict:=none,data:=.fields ([head,.ref L,.none,kr L,.none]++(if pl.isEmpty then aD 6 cP else pl)).toArray }).update e (Obj.mapFields (·.setIfInBounds 1 (ai h₁.objs.size)))).update h₁.objs.size
    (Obj.mapFields (·.setIfInBounds 3 ((none:Option Addr).elim cP λf=>kr f)))).get? b=some o:=λb o hbe hb=>by
  have hbT:h₁.objs.size≠b:=ee (aj hb);rw[bz _ _ hbT,bz _ _ (Ne.symm hbe)];exact ae _ hb
 refine⟨λb o hb hbf ho=>keep b o hb ((hs₁.2.1 b hbf).trans ho),λb o hb ho=>?_,?_,?_,?_⟩
 .obtain ⟨sl,e1⟩:=hs₁.2.2 b o ho;exact⟨sl,keep b _ hb e1⟩
 .rw [bz _ _ hTe];exact he₃
 .exact bX (by rw[hs₁.1];exact af _)
 .exact ⟨_,_,cM _ hT₃ (Obj.isFreed_of_fields (Obj.data_mapFields rfl _)),Obj.data_mapFields rfl _,by first|(simp;done)|(rcases hpl with rfl|⟨_,_,_,_,_,_,_,rfl⟩ <;> simp)⟩
def G8(h:Heap) (vs:Array Value):Prop:=vs[1]?=some .none∨∃T0 o0 ts,vs[1]?=some (.ref T0)/\h.get? T0=some o0/\o0.data = .fields ts/\ts[3]?=some .none
def abm{base:Heap}{env:Env}{outer:List Env}{L e:Addr}{oe:Obj}{vs:Array Value}{Q:Unit->iM->Prop}
  (hfr:A.frames=some (env::outer)) (hl:s.heap.FunFrames base (env::outer)) (hf:env.frame=some L)
  (he:s.heap.get? e=some oe) (hd:oe.data = .fields vs) (hq:G8 s.heap vs)
  (h:∀h' T,Hj ((env::outer).filterMap (·.frame)) e oe T s.heap h'->Q () { s with heap:=h' }) :
  iS M A (kW (.ref e) env) (λ_ s'=>iS M A (kB (.ref e) none) Q E s') E s:=by
 unfold kW;simp only[hf];rcases hq with h1|⟨T0,o0,ts,h1,hT,hdT,h3⟩
 .refine iT (lu he hd h1 ?_);rw[oO (by decide)]
  exact G3 hfr hl hf he hd (aG.mp h1).1 h
 .refine iT (lu he hd h1 ?_);rw[oJ (show (ai T0 != cP)=true from by simp)]
  refine iT (lu hT hdT h3 ?_);rw[oO (show ¬ ((cP == kr L)=true) from by simp[kr])]
  refine iT (lF hT hdT (aG.mp h3).1 ?_);rw[fo s.heap T0 o0 ts 3 .none hT hdT h3];exact G3 hfr hl hf he hd (aG.mp h1).1 h
def ack{base:Heap}{env:Env}{outer:List Env}{L e:Addr}{oe:Obj}{vs:Array Value}{Q:Unit->iM->Prop}
  (hfr:A.frames=some (env::outer)) (hl:s.heap.FunFrames base (env::outer)) (hf:env.frame=some L)
  (he:s.heap.get? e=some oe) (hd:oe.data = .fields vs) (hq:G8 s.heap vs)
  (h:∀h' T,Hj ((env::outer).filterMap (·.frame)) e oe T s.heap h'->Q () { s with heap:=h' }) :
  iS M A (lY env (.ref e)) Q E s:=by
 unfold lY;exact iT (abm hfr hl hf he hd hq h)
end
noncomputable abbrev xE:List Value:=[.type "ValueError", .type "Exception", .type "BaseException", .type "object"]
abbrev Aq(C t:Addr) (dd:Option Addr):Obj:={ cls:=.ref C,dict:=dd,data:=.fields #[.ref t,.none,.none,.none,.bool false,.none] }
abbrev Lk{α:Type}(M:jQ) (h:Heap) (x:Sem α) (r:α):Prop :=
 ∀(A:Around) (Q:α->iM->Prop) (E:Value->iM->Prop) (s:iM),(∀b o,h.get? b=some o->s.heap.get? b=some o)->Q r s->iS M A x Q E s
section
variable {M:jQ}{A:Around}{E:Value->iM->Prop}{env:Env}
variable {nm q:Str}{C N:Addr}{bs bm:List Value}{hdct:Bool}{sn:List Str}{sub:List Value}{ab:Bool}{col:Option Bool}{dd:Option Addr}{k0 k1 k2 k3 k5:Option Value}{newId:String}
def LF{s:iM}{x:Sem Value}{Q:Flow->iM->Prop}(hbase:bm.contains (.type "BaseException")=true) (hh:A.handled=none)
  (h:iS M A x (λv s₁=>∃e t dx,v = .ref e/\s₁.heap.get? C=some (jh nm q C N bs bm hdct sn sub ab col dd k0 k1 k2 k3 k5 newId) /\
   s₁.heap.get? e=some (Aq C t dx)/\E (.ref e) s₁) E s) :
  iS M A (raiseStmt env (some x) none) Q E s:=by
 have hcB:(ai C::bm).contains (.type "BaseException")=true:=by rw[bp,hbase,dm]
 unfold raiseStmt;refine iT (jg h (λv s₁ h₁=>?_) λ_ _ x=>x)
 obtain⟨e,t,dx,rfl,hC,he,hE⟩:=h₁;obtain⟨hp,g,d,tk,os⟩:=s₁
 repeat (first|with_reducible refine ja he ?_|with_reducible refine ja hC ?_|(with_reducible refine ji hC ?_;rw[hcB])|wp_step)
 exact wpAny_raiseNew_none hh hE
end
section
variable {prog:iW}{w:iZ}{A:Around}{E:Value->iM->Prop}{h:Heap}{g:Array ky}{d:Drawn}{t:Nat}{os:mh}
variable {nm q:Str}{C N:Addr}{bs bm:List Value}{hdct:Bool}{sn:List Str}{sub:List Value}{ab:Bool}{col:Option Bool}{dd:Option Addr}{k0 k1 k2 k3 k5:Option Value}
def FK(T:ju h xE bm) {rest:List Value}{fI:Addr}{Q:Fin->iM->Prop}
  (hC:h.get? C=some (jh nm q C N bs bm hdct sn sub ab col dd k0 k1 k2 k3 k5 "ValueError.__new__"))
  (hi:Lk (iQ prog w) h (je (.ref C) "__init__") (some (.ref fI))) (hb:∀self,Lk (iQ prog w) h (bindSpecial (.ref fI) self) (.ref fI,[self]))
  (hq:∀h' e,eZ h h' e (.ref C) rest->h.objs.size<=e ->
   iS (iQ prog w) A (call (.ref fI) (.ref e::rest)) (λr s'=>r = .none/\Q (.done (.ret (.ref e))) s') E ⟨h',g,d,t,os⟩) (hrest:rest.length<=iX) :
  iS (iQ prog w) A (Builtin.«type.__call__» ⟨.ref C::rest,[]⟩) Q E ⟨h,g,d,t,os⟩:=by
 have F:=dD
 repeat (first|with_reducible refine ja hC ?_|with_reducible refine wpAny_madeBy_exc hC ?_|wp_step)
 refine kJ (Code.quiet_builtin _ F.quiet) (lI F T hC ?_);refine lO F T hC ?_ hrest;show iS _ _ _ _ _ _;have hC₁:=ae { cls:=.ref C,data:=.fields #[.ref h.objs.size,.none,.none,.none,.bool false,.none] }
  (ae { cls:=.type "tuple", data:=.seq rest.toArray } hC)
 have hget:((h.push { cls:=.type "tuple", data:=.seq rest.toArray }).push
   { cls:=.ref C,data:=.fields #[.ref h.objs.size,.none,.none,.none,.bool false,.none] }).get? (h.objs.size+1)=some
   { cls:=.ref C,data:=.fields #[.ref h.objs.size,.none,.none,.none,.bool false,.none] }:=by heap_get
 have hcC:(ai C::bm).contains (.ref C)=true:=by simp
 have kk:∀b o,h.get? b=some o->((h.push { cls:=.type "tuple", data:=.seq rest.toArray }).push { cls:=.ref C,data:=.fields #[.ref h.objs.size,.none,.none,.none,.bool false,.none] }).get? b=some o:=λb o e=>ae _ (ae _ e)
 have T₁:=T.keeps (h':=(h.push { cls:=.type "tuple", data:=.seq rest.toArray }).push { cls:=.ref C,data:=.fields #[.ref h.objs.size,.none,.none,.none,.bool false,.none] })
  λb o e=>ae _ (ae _ e)
 unfold lS
 repeat (first|with_reducible refine ja hget ?_|(with_reducible refine ji hC₁ ?_;rw[hcC])|wp_step)
 show iS _ _ (je (.ref C) _) _ _ _;refine hi _ _ _ _ kk ?_;refine kF (iT (hb _ _ _ _ _ kk ?_));refine(iT (jg (hq _ (h.objs.size+1) ⟨λb o hb=>ae _ (ae _ hb),bX (bR _),h.objs.size,hget,bX (af _),?_⟩ (bR _)) (λr s' hr=>?_) λ_ _ x=>x))
 .exact ae _ (fq rfl rfl)
 .obtain ⟨rfl,hQ⟩:=hr
  wp_walk
  exact hQ
def OV(T:ju h xE bm) {rest:List Value}{fI:Addr}{Q:Value->iM->Prop}
  (hC:h.get? C=some (jh nm q C N bs bm hdct sn sub ab col dd k0 k1 k2 k3 k5 "ValueError.__new__"))
  (hi:Lk (iQ prog w) h (je (.ref C) "__init__") (some (.ref fI))) (hb:∀self,Lk (iQ prog w) h (bindSpecial (.ref fI) self) (.ref fI,[self]))
  (hq:∀h' e,eZ h h' e (.ref C) rest->h.objs.size<=e ->
   iS (iQ prog w) (A.under (.builtin "type.__call__" ⟨.ref C::rest,[]⟩)) (call (.ref fI) (.ref e::rest)) (λr s'=>r = .none/\Q (.ref e) s') E ⟨h',g,d,t,os⟩) (hrest:rest.length<=iX) :
  iS (iQ prog w) A (call (.ref C) rest) Q E ⟨h,g,d,t,os⟩:=by
 have f1:=tc_lookup;have f2:=tc_bind (.ref C);have hT:(⟨h,g,d,t,os⟩:iM).TypeIs (.ref C) "type" := ⟨_,hC,rfl⟩;refine jG (codeAny_of_tree ?_);show iS _ _ (callAny (.ref C) _) _ _ _
 repeat (any_goals (first|assumption|with_reducible refine ja hC ?_|wp_step))
 refine⟨rfl,?_⟩;refine kR (Code.quiet_builtin _ (by decide +kernel)) entry_typeCall (kH hC (FK (hrest:=hrest) T hC hi hb λh' e hm hs=>?_))
 exact hq h' e hm hs
def Ow(T:ju h xE bm) {e t0:Addr}{rest:List Value}{Q:Value->iM->Prop}
  (hC:h.get? C=some (jh nm q C N bs bm hdct sn sub ab col dd k0 k1 k2 k3 k5 "ValueError.__new__")) (he:h.get? e=some (Aq C t0 none))
  (hq:∀h' t1,(∀b o,b≠e->h.get? b=some o->h'.get? b=some o)->h'.get? e=some (Aq C t1 none)->Q .none ⟨h',g,d,t,os⟩) (hrest:rest.length<=iX) :
  iS (iQ prog w) A (call (.builtin "ValueError.__init__") (.ref e::rest)) Q E ⟨h,g,d,t,os⟩:=by
 have F:=dD;refine jG (jq F.init.plain F.initEntry (lB F T hC he rfl ?_))
 wp_walk
 refine hq _ h.objs.size (λb o hb ho=>?_) ?_
 .rw [bz _ _ (Ne.symm hb)];exact ae _ ho
 .rw [cM _ (ae _ he) rfl];rfl
def JV(T:ju h xE bm) (self:Value):refuseLoop self "__setattr__" bm=pure ():=by
 induction T with
 |base=>exact PySem.F.store_ValueError.passes self
 |own _ _ _ _ ih=>rw[refuseLoop_ref];exact ih
end
end Xe
namespace Xe
open PySem
open Builtin Builtin.ObjectAttr
section
variable {prog:iW}{w:iZ}{A:Around}{E:Value->iM->Prop}{h:Heap}{g:Array ky}{d:Drawn}{t:Nat}{os:mh}
variable {nm q:Str}{C N:Addr}{bs bm:List Value}{sn:List Str}{sub:List Value}{ab:Bool}{col:Option Bool}{dd:Option Addr}{k0 k1 k2 k3 k5:Option Value}
def OY(T:ju h xE bm) {x:Addr}{o:Obj}{name:Str}{v:Value}{tk:Tok}{Q:Fin->iM->Prop}
  (hC:h.get? C=some (jh nm q C N bs bm true sn sub ab col dd k0 k1 k2 k3 k5 "ValueError.__new__")) (hx:h.get? x=some o) (hc:o.cls = .ref C) (hnc:∀c,o.data ≠ .cls c) (hdn:o.dict=none)
  (hTL:Lk (iQ prog w) h (je (.ref C) name) none)
  (hq:∀h' dx tk',h.objs.size<=dx->dx≠x->h'.get? x=some { cls:=o.cls,dict:=some dx,data:=o.data,slots:=o.slots }->h'.Ns1 dx (λy=>if y=name then some v else none)->(∀b ob,b≠x->h.get? b=some ob->h'.get? b=some ob) ->
   Q (.done (.ret .none)) ⟨h',g,d,tk',os⟩) :
  iS (iQ prog w) A (Builtin.«object.__setattr__» ⟨[.ref x,.str name tk,v],[]⟩) Q E ⟨h,g,d,t,os⟩:=by
 have hpass:=JV T (.ref x);unfold Builtin.«object.__setattr__»
 repeat (first|rw[refuse_eq]|(rw[refuseLoop_ref,hpass])|(with_reducible refine ja hx ?_;rw[hc])|with_reducible refine wpAny_mroOf_exc hC ?_|with_reducible refine hTL _ _ _ _ (λ_ _ z=>z) ?_|wp_step)
 rw[hdn,oO (by simp[typeHasDict])]
 split
 .rename_i hcd;cases hcd
 split
 .rename_i c hcd;exact absurd hcd (hnc c)
 .have hx₁:(h.push { cls:=.type "dict", data:=.dict #[] }).get? x=some o:=ae _ hx;have hxs:x≠h.objs.size:=aF (aj hx);refine iT (wpAny_alloc' ?_);refine iT (wpAny_update' hx₁ ?_);refine jd ?_;have hgd:((h.push { cls:=.type "dict", data:=.dict #[] }).update x λo=>{ cls:=o.cls,dict:=some h.objs.size,data:=o.data,slots:=o.slots }).get? h.objs.size
    = some { cls:=.type "dict", data:=.dict #[] } :=
   (dk _ _ _ _ hxs.symm).trans (fq rfl rfl)
  have hnd:((h.push { cls:=.type "dict", data:=.dict #[] }).update x λo=>{ cls:=o.cls,dict:=some h.objs.size,data:=o.data,slots:=o.slots }).Ns h.objs.size (λ_=>none) :=
   ⟨_,#[],_,hgd,rfl,λe he=>absurd he (by simp),λ_=>rfl⟩
  show iS _ _ (storeInDict h.objs.size (.str name tk) name v) _ _ _;unfold storeInDict newKeyGuard;refine iT (jd (iT (wpAny_nsSet1 (Heap.Ns1.of_empty hnd) λh' hn' hs=>?_)))
  obtain⟨oD,esD,epD,hoD,hdD,hcD⟩:=hn'.count (Within.cons name v Within.nil);refine iT (wpAny_lookBehind hoD (by rw[hdD];exact pastItsLine_dict (bB hcD (by rw[lCq,dP,jj];lia))) ?_)
  wp_walk
  refine hq h' h.objs.size _ (af _) hxs.symm ?_ hn' (λb ob hbx hb=>?_)
  .refine (hs.2 x hxs).trans (cM _ hx₁ ?_);have hfr:=(Heap.get?_some_iff.mp hx).2;obtain⟨oc,od,odt,osl⟩:=o;cases odt <;> first|rfl|exact hfr
  .exact (hs.2 b (aF (aj hb))).trans ((dk _ _ _ _ hbx).trans (ae _ hb))
def SW{M:jQ}(T:ju h xE bm) {x:Addr}{o:Obj}{nameV v:Value}{Q:Unit->iM->Prop}
  (hC:h.get? C=some (jh nm q C N bs bm true sn sub ab col dd k0 k1 k2 k3 k5 "ValueError.__new__")) (hx:h.get? x=some o) (hc:o.cls = .ref C) (hq:Q () ⟨h,g,d,t,os⟩) :
  iS M A (jZ "object.__setattr__" ⟨[.ref x,nameV,v],[]⟩) Q E ⟨h,g,d,t,os⟩:=by
 have SF:=gm;have hob:(ai C::bm).contains (.type "object")=true:=by rw[bp,T.hasType (show xE.contains (.type "object")=true by decide),dm]
 have ha:=SF.args (.ref x) nameV v;simp only[jZ,SF.kind,SF.split];refine iT ?_
 .unfold lS
  repeat (first|(with_reducible refine ja hx ?_;rw[hc])|(with_reducible refine ji hC ?_;rw[hob])|wp_step)
  exact hq
def Pw(T:ju h xE bm) {x t0:Addr}{name:Str}{v:Value}{Q:Unit->iM->Prop}
  (hC:h.get? C=some (jh nm q C N bs bm true sn sub ab col dd k0 k1 k2 k3 k5 "ValueError.__new__")) (hx:h.get? x=some (Aq C t0 none))
  (hSA:Lk (iQ prog w) h (je (.ref C) "__setattr__") (some (.builtin "object.__setattr__"))) (hTL:Lk (iQ prog w) h (je (.ref C) name) none)
  (hq:∀h' dx tk',h.objs.size<=dx->dx≠x->h'.get? x=some (Aq C t0 (some dx))->h'.Ns1 dx (λy=>if y=name then some v else none)->(∀b ob,b≠x->h.get? b=some ob->h'.get? b=some ob) ->
   Q () ⟨h',g,d,tk',os⟩) :
  iS (iQ prog w) A (setAttr (.ref x) name v) Q E ⟨h,g,d,t,os⟩:=by
 have SF:=gm;have f3:=SF.slot.bind (.ref x);have hob:(ai C::bm).contains (.type "object")=true:=by rw[bp,T.hasType (show xE.contains (.type "object")=true by decide),dm]
 unfold setAttr callSpecial? specialOf
 repeat (any_goals (first|assumption|with_reducible refine ja hx ?_|with_reducible refine hSA _ _ _ _ (λ_ _ z=>z) ?_|wp_step))
 refine jq SF.slot.plain SF.entry (SW T hC hx rfl (OY T hC hx rfl (λc z=>nomatch z) rfl hTL λh' dx tk' a1 a2 a3 a4 a5=>?_))
 repeat (any_goals (first|assumption|wp_step))
 exact hq h' dx tk' a1 a2 a3 a4 a5
end
section
variable {prog:iW}{w:iZ}{A:Around}{E:Value->iM->Prop}{h:Heap}{g:Array ky}{d:Drawn}{t:Nat}{os:mh}
variable {nm q:Str}{C N:Addr}{bs bm:List Value}{sn:List Str}{sub:List Value}{ab:Bool}{col:Option Bool}{dd:Option Addr}{k0 k1 k2 k3 k5:Option Value}{x dx:Addr}{o:Obj}{name:Str}{v:Value}{mA:Str->Option Value}
def RN{tk:Tok}{Q:Fin->iM->Prop}(hC:h.get? C=some (jh nm q C N bs bm true sn sub ab col dd k0 k1 k2 k3 k5 "ValueError.__new__")) (hx:h.get? x=some o) (hc:o.cls = .ref C) (hnc:∀c,o.data ≠ .cls c) (hdx:o.dict=some dx)
  (hTL:Lk (iQ prog w) h (je (.ref C) name) none) (hns:h.Ns1 dx mA) (hv:mA name=some v) (hq:Q (.done (.ret v)) ⟨h,g,d,t,os⟩) :
  iS (iQ prog w) A (Builtin.«object.__getattribute__» ⟨[.ref x,.str name tk],[]⟩) Q E ⟨h,g,d,t,os⟩:=by
 unfold Builtin.«object.__getattribute__»
 repeat (first|(with_reducible refine ja hx ?_;rw[hc])|with_reducible refine hTL _ _ _ _ (λ_ _ z=>z) ?_|wp_step)
 split
 .rename_i c hcd;exact absurd hcd (hnc c)
 unfold instanceDict
 repeat (first|(with_reducible refine ja hx ?_;rw[hc])|with_reducible refine ja hC ?_|wp_step)
 rw[hdx]
 repeat (first|(with_reducible refine wpAny_nsGet hns.ns ?_;rw[hv])|wp_step)
 exact hq
def JB{M:jQ}(T:ju h xE bm) {nameV:Value}{Q:Unit->iM->Prop}(hC:h.get? C=some (jh nm q C N bs bm true sn sub ab col dd k0 k1 k2 k3 k5 "ValueError.__new__"))
  (hx:h.get? x=some o) (hc:o.cls = .ref C) (hq:Q () ⟨h,g,d,t,os⟩):iS M A (jZ "BaseException.__getattribute__" ⟨[.ref x,nameV],[]⟩) Q E ⟨h,g,d,t,os⟩:=by
 have hk:builtinKind "BaseException.__getattribute__" = some .slot:=by decide +kernel
 have hsplit:splitId "BaseException.__getattribute__" = some ("BaseException", "__getattribute__"):=by decide +kernel
 have hcB:(ai C::bm).contains (.type "BaseException")=true:=by rw[bp,T.hasType (show xE.contains (.type "BaseException")=true by decide)];rfl
 have ha:=PySem.F.args_bexc_ga (.ref x) nameV;simp only[jZ,hk,hsplit];refine iT ?_
 .unfold lS
  repeat (first|(with_reducible refine ja hx ?_;rw[hc])|(with_reducible refine ji hC ?_;rw[hcB])|wp_step)
  exact hq
def Vl(T:ju h xE bm) {tk:Tok}{fill expr:Bool}{Q:Value->iM->Prop}(hC:h.get? C=some (jh nm q C N bs bm true sn sub ab col dd k0 k1 k2 k3 k5 "ValueError.__new__")) (hx:h.get? x=some o) (hc:o.cls = .ref C)
  (hnc:∀c,o.data ≠ .cls c) (hdx:o.dict=some dx) (hTL:Lk (iQ prog w) h (je (.ref C) name) none) (hGA:Lk (iQ prog w) h (je (.ref C) "__getattribute__") (some (.builtin "BaseException.__getattribute__")))
  (hGT:Lk (iQ prog w) h (je (.ref C) "__getattr__") none) (hns:h.Ns1 dx mA) (hv:mA name=some v) (hh:handedOut v=pure v) (hq:Q v ⟨h,g,d,t,os⟩) :
  iS (iQ prog w) A (getAttrBy (.ref x) (.str name tk) fill expr) Q E ⟨h,g,d,t,os⟩:=by
 have FB:=fg;have f3:=FB.ga.bind (.ref x);have hx0:(expr && onTheHeap (cD "BaseException.__getattribute__"))=false:=by cases expr <;> rfl
 have hx2:(cD "BaseException.__getattribute__" == cD "object.__getattribute__")=false:=by decide +kernel
 have hx1:(onTheHeap (ai C) && cD "BaseException.__getattribute__" == cD "object.__getattribute__")=false:=by rw[hx2];rfl
 repeat (any_goals (first|assumption|(with_reducible refine ja hx ?_;rw[hc])|with_reducible refine hGA _ _ _ _ (λ_ _ z=>z) ?_|with_reducible refine hGT _ _ _ _ (λ_ _ z=>z) ?_|wp_step))
 refine jq FB.ga.plain fY (JB T hC hx hc (RN hC hx hc hnc hdx hTL hns hv ?_))
 repeat (any_goals (first|assumption|rw[hh]|wp_step))
def Pp(T:ju h xE bm) {expr:Bool}{Q:Value->iM->Prop}(hC:h.get? C=some (jh nm q C N bs bm true sn sub ab col dd k0 k1 k2 k3 k5 "ValueError.__new__")) (hx:h.get? x=some o) (hc:o.cls = .ref C)
  (hnc:∀c,o.data ≠ .cls c) (hdx:o.dict=some dx) (hTL:Lk (iQ prog w) h (je (.ref C) name) none) (hGA:Lk (iQ prog w) h (je (.ref C) "__getattribute__") (some (.builtin "BaseException.__getattribute__")))
  (hGT:Lk (iQ prog w) h (je (.ref C) "__getattr__") none) (hns:h.Ns1 dx mA) (hv:mA name=some v) (hh:handedOut v=pure v) (hq:Q v ⟨h,g,d,t+1,os⟩) :
  iS (iQ prog w) A (lZ (.ref x) name expr) Q E ⟨h,g,d,t,os⟩:=by
 unfold lZ
 repeat (any_goals (first|assumption|with_reducible apply Vl T hC hx hc hnc hdx hTL hGA hGT hns hv hh|wp_step))
def Ox(T:ju h xE bm) {R:Result->iM->Prop}(hC:h.get? C=some (jh nm q C N bs bm true sn sub ab col dd k0 k1 k2 k3 k5 "ValueError.__new__")) (hx:h.get? x=some o) (hc:o.cls = .ref C)
  (hq:R (.ok (.ret (.ref C))) ⟨h,g,d,t,os⟩) :
  jT (iQ prog w) A (.call (.builtin "getset_descriptor.__get__") ⟨[.builtin "object.__class__", .ref x,.ref C],[]⟩) R ⟨h,g,d,t,os⟩:=by
 have hT5:(⟨h,g,d,t,os⟩:iM).TypeIs (.builtin "object.__class__") "getset_descriptor" := dz;have hcB:(ai C::bm).contains (.type (".".intercalate ("object.__class__".cutAt '.').dropLast))=true:=by
  rw[PySem.F.owner_object_class,bp,T.hasType (show xE.contains (.type "object")=true by decide)];rfl
 refine jq eY.plain PySem.F.entry_gs_get (eY.check _ _ _ _ _ _ _ _ hT5 (PySem.F.args_gs_get _ _ _) ?_)
 repeat (any_goals (first|assumption|(with_reducible refine ja hx ?_;rw[hc])|(with_reducible refine ji hC ?_;rw[hcB])|wp_step))
 refine⟨Code.quiet_builtin _ (by decide +kernel),kT PySem.F.entry_object_class ?_⟩
 repeat (any_goals (first|assumption|(with_reducible refine ja hx ?_;rw[hc])|wp_step))
def OZ(T:ju h xE bm) {tk:Tok}{Q:Fin->iM->Prop}(hC:h.get? C=some (jh nm q C N bs bm true sn sub ab col dd k0 k1 k2 k3 k5 "ValueError.__new__")) (hx:h.get? x=some o) (hc:o.cls = .ref C)
  (hTL:Lk (iQ prog w) h (je (.ref C) "__class__") (some (.builtin "object.__class__"))) (hq:Q (.done (.ret (.ref C))) ⟨h,g,d,t,os⟩) :
  iS (iQ prog w) A (Builtin.«object.__getattribute__» ⟨[.ref x,.str "__class__" tk],[]⟩) Q E ⟨h,g,d,t,os⟩:=by
 have hT5:(⟨h,g,d,t,os⟩:iM).TypeIs (.builtin "object.__class__") "getset_descriptor" := dz;have f5:=dz;have f6:=eY.lookup;have f7:=PySem.F.slot_gs_set.lookup
 repeat (any_goals (first|assumption|(with_reducible refine ja hx ?_;rw[hc])|with_reducible refine hTL _ _ _ _ (λ_ _ z=>z) ?_|wp_step))
 refine Ox T hC hx hc ?_
 repeat (any_goals (first|assumption|wp_step))
def UD(T:ju h xE bm) {tk:Tok}{Q:Value->iM->Prop}(hC:h.get? C=some (jh nm q C N bs bm true sn sub ab col dd k0 k1 k2 k3 k5 "ValueError.__new__")) (hx:h.get? x=some o) (hc:o.cls = .ref C)
  (hTL:Lk (iQ prog w) h (je (.ref C) "__class__") (some (.builtin "object.__class__"))) (hGA:Lk (iQ prog w) h (je (.ref C) "__getattribute__") (some (.builtin "BaseException.__getattribute__")))
  (hGT:Lk (iQ prog w) h (je (.ref C) "__getattr__") none) (hq:Q (.ref C) ⟨h,g,d,t,os⟩):iS (iQ prog w) A (getAttrBy (.ref x) (.str "__class__" tk) false) Q E ⟨h,g,d,t,os⟩:=by
 have FB:=fg;have f3:=FB.ga.bind (.ref x);have hx2:(cD "BaseException.__getattribute__" == cD "object.__getattribute__")=false:=by decide +kernel
 have hx1:(onTheHeap (ai C) && cD "BaseException.__getattribute__" == cD "object.__getattribute__")=false:=by rw[hx2];rfl
 repeat (any_goals (first|assumption|(with_reducible refine ja hx ?_;rw[hc])|with_reducible refine hGA _ _ _ _ (λ_ _ z=>z) ?_|with_reducible refine hGT _ _ _ _ (λ_ _ z=>z) ?_|wp_step))
 refine jq FB.ga.plain fY (JB T hC hx hc (OZ T hC hx hc hTL ?_))
 repeat (any_goals (first|assumption|wp_step))
def K7(T:ju h xE bm) {Q:Option Value->iM->Prop}(hC:h.get? C=some (jh nm q C N bs bm true sn sub ab col dd k0 k1 k2 k3 k5 "ValueError.__new__")) (hx:h.get? x=some o) (hc:o.cls = .ref C)
  (hTL:Lk (iQ prog w) h (je (.ref C) "__class__") (some (.builtin "object.__class__"))) (hGA:Lk (iQ prog w) h (je (.ref C) "__getattribute__") (some (.builtin "BaseException.__getattribute__")))
  (hGT:Lk (iQ prog w) h (je (.ref C) "__getattr__") none) (hq:Q (some (.ref C)) ⟨h,g,d,t+1,os⟩):iS (iQ prog w) A (getAttr? (.ref x) "__class__") Q E ⟨h,g,d,t,os⟩:=by
 unfold getAttr? getAttrBy?
 repeat (any_goals (first|assumption|with_reducible apply UD T hC hx hc hTL hGA hGT|wp_step))
end
section
variable {M:jQ}{A:Around}{E:Value->iM->Prop}{h:Heap}{g:Array ky}{d:Drawn}{t:Nat}{os:mh}
variable {nm q nm' q':Str}{C N C' N':Addr}{bs bm bs' bm':List Value}{hdct hdct':Bool}{sn sn':List Str}{sub sub':List Value}{ab ab':Bool}{col col':Option Bool}{dd dd':Option Addr}{k0 k1 k2 k3 k5 k0' k1' k2' k3' k5':Option Value}{newId newId':String}
def Jr{e:Addr}{oe:Obj}{Q:Bool->iM->Prop}(hC:h.get? C=some (jh nm q C N bs bm hdct sn sub ab col dd k0 k1 k2 k3 k5 newId))
  (hC':h.get? C'=some (jh nm' q' C' N' bs' bm' hdct' sn' sub' ab' col' dd' k0' k1' k2' k3' k5' newId')) (hb:bm'.contains (.type "BaseException")=true)
  (he:h.get? e=some oe) (hcls:oe.cls = .ref C) (hq:Q ((ai C::bm).contains (.ref C')) ⟨h,g,d,t,os⟩):iS M A (excMatches (.ref e) (.ref C')) Q E ⟨h,g,d,t,os⟩:=by
 have hcB:(ai C'::bm').contains (.type "BaseException")=true:=by rw[bp,hb,dm]
 have f:=tc_notTuple;unfold excMatches;cases hv:(ai C::bm).contains (.ref C') with
 |true =>
  rw[hv]at hq
  repeat (first|(with_reducible refine ja he ?_;rw[hcls])|with_reducible refine ja hC' ?_|(with_reducible refine ji hC' ?_;rw[hcB])|(with_reducible refine ji hC ?_;rw[hv])|wp_step)
  exact hq
 |false =>
  rw[hv]at hq
  repeat (first|(with_reducible refine ja he ?_;rw[hcls])|with_reducible refine ja hC' ?_|(with_reducible refine ji hC' ?_;rw[hcB])|(with_reducible refine ji hC ?_;rw[hv])|wp_step)
  exact hq
end
section
variable {prog:iW}{w:iZ}{A:Around}{E:Value->iM->Prop}{s:iM}{env:Env}{e:Addr}{c0:Value}{t:Expr}{n:Str}{b₀:Stmt}{suite:List Stmt}{pos:Pos}{rest:List ExceptHandler}{Q:Flow->iM->Prop}
abbrev Mt(M:jQ) (e:Addr) (c0:Value) (b:Bool) (s:iM):Prop:=∀(A:Around) (Q:Bool->iM->Prop) (E:Value->iM->Prop),Q b s->iS M A (excMatches (.ref e) c0) Q E s
def TJ(hm:Mt (iQ prog w) e c0 true s) (hv:∀Q':Value->iM->Prop,Q' c0 s->iS (iQ prog w) (A.mark (some (.ref e))) (eval t env) Q' (λ_ _=>False) s)
  (k:iS (iQ prog w) (A.mark (some (.ref e))) (kB (.ref e) none) (λ_ s₂=>iS (iQ prog w) (A.mark (some (.ref e))) (storeName env n (.ref e)) (λ_ s₃ =>
   iS (iQ prog w) (A.mark (some (.ref e))) (execs (b₀::suite) env) (λf s₄=>iS (iQ prog w) A (do bindName env n .none;lJ env n pos) (λ_ s₅=>Q f s₅) E s₄) (λ_ _=>False) s₃) (λ_ _=>False) s₂) (λ_ _=>False) s) :
  iS (iQ prog w) A (kQ (.ref e) env (.ExceptHandler (some t) (some n) (b₀::suite) pos::rest)) Q E s:=by
 refine lV (lD (jg (hv _ ?_) (λc s₁ h₁=>h₁) λ_ _ x=>x.elim)) (by intro q;cases q)
 refine hm _ _ _ (codeAny_handlers_suite_as ?_);exact jg k (λ_ s₂ h₂=>jg h₂ (λ_ s₃ h₃=>jg h₃ (λ_ _ z=>z) λ_ _ z=>z.elim) λ_ _ z=>z.elim) λ_ _ z=>z.elim
def acw{n':Option Str}(hm:Mt (iQ prog w) e c0 false s) (hv:∀Q':Value->iM->Prop,Q' c0 s->iS (iQ prog w) (A.mark (some (.ref e))) (eval t env) Q' (λ_ _=>False) s)
  (k:iS (iQ prog w) A (kQ (.ref e) env rest) Q E s):iS (iQ prog w) A (kQ (.ref e) env (.ExceptHandler (some t) n' (b₀::suite) pos::rest)) Q E s:=by
 refine lV (lD (jg (hv _ ?_) (λc s₁ h₁=>h₁) λ_ _ x=>x.elim)) (by intro q;cases q)
 exact hm _ _ _ k
end
end Xe
namespace Mr
abbrev St:=L2.St
open PySem PySem.Spec PyProof.Rows L2
section
variable {X:Cx}{mZ:List (Addr×Obj)}{σ:List (Option V)}{H H':Hp}{s:iM}{h':Heap}
def QK{t':Nat}{fp:List Addr}{T:Addr}{o:HO}(I:Inv X mZ σ H s) (k:∀b u,b∉fp->s.heap.get? b=some u->h'.get? b=some u)
  (hf:∀b∈fp,Ei X mZ H b) (hT:s.heap.objs.size<=T) (new:qJ X.prog X.w (pY H T o) h' T o):Inv X mZ σ (pY H T o) { s with heap:=h',toks:=t' }:=by
 have hn:H T=none:=I.hok.fresh hT;have nf:∀b u,H b=some u->b∉fp:=λb u e z=>by rw[(hf b z).1]at e;cases e
 refine I.step (g':=s.gens) (d':=s.drawn) (ch:=fp) (λb hb=>?_) (λb u _ _ hc e _=>k b u hc e) (λb u _ _ hc e _=>⟨u.slots,k b u hc e⟩)
  (λb u _ e n=>by rw[nT (aF (aE (aj e) hT))];exact n) (λb u hc e=>⟨u,k b u hc e⟩)
  (λb xs e=>by rw[nT (qq e hn)];exact e) (λb u xs e=>by rw[nT (qq e hn)];exact e) (λb ps e=>⟨#[],by rw[nT (qq e hn),e];simp⟩) (λm hm=>?_) (λb u e=>?_) I.bare
 .obtain ⟨_,f1,_,f3,f4,f5⟩:=hf b hb;exact⟨f3,f1,f4,f5⟩
 .obtain ⟨u,es,ep,ho,r⟩:=hm;exact⟨u,es,ep,k _ u (λz=>(hf _ z).2.1 rfl) ho,r⟩
 .by_cases hb:b=T
  .subst hb;rw[og]at e;cases e;exact new
  .rw [nT hb]at e;refine(I.hok b u e).stay (λc v hc q=>k c v ?_ q) (λc q=>by rw[nT (qq q hn)];exact q) λc xs q=>by rw[nT (qq q hn)];exact q
   rcases hc with rfl|hc
   .exact nf _ u e
   .exact nf c _ hc
def U0{t':Nat}{fp:List Addr}(I:Inv X mZ σ H s) (k:∀b u,b∉fp->s.heap.get? b=some u->h'.get? b=some u)
  (hf:∀b∈fp,Ei X mZ H b):Inv X mZ σ H { s with heap:=h',toks:=t' }:=by
 have nf:∀b u,H b=some u->b∉fp:=λb u e z=>by rw[(hf b z).1]at e;cases e
 refine I.step (g':=s.gens) (d':=s.drawn) (ch:=fp) (λb hb=>?_) (λb u _ _ hc e _=>k b u hc e) (λb u _ _ hc e _=>⟨u.slots,k b u hc e⟩)
  (λ_ _ _ _ n=>n) (λb u hc e=>⟨u,k b u hc e⟩) (λ_ _ e=>e) (λ_ _ _ e=>e) (λb ps e=>⟨#[],by rw[e];simp⟩) (λm hm=>?_) (λb u e=>?_) I.bare
 .obtain ⟨_,f1,_,f3,f4,f5⟩:=hf b hb;exact⟨f3,f1,f4,f5⟩
 .obtain ⟨u,es,ep,ho,r⟩:=hm;exact⟨u,es,ep,k _ u (λz=>(hf _ z).2.1 rfl) ho,r⟩
 .refine (I.hok b u e).stay (λc v hc q=>k c v ?_ q) (λ_ q=>q) λ_ _ q=>q
  rcases hc with rfl|hc
  .exact nf _ u e
  .exact nf c _ hc
def IR{a b:Addr}{xs:List V}(I:Inv X mZ σ H s) (h:rR X.K H a xs) (f:Ei X mZ H b):a≠b:=by
 intro e;subst e;obtain⟨f0,_,_,f3,_⟩:=f;rcases h with (h|⟨o,h⟩)|⟨o,its,n,hk,_⟩
 .rw [f0]at h;cases h
 .rw [f0]at h;cases h
 .have hb:=I.mod.kin a o hk;rcases f3 with z|z
  .exact I.ok.noex a o hb z
  .exact absurd (aE (aj (I.ok.bs a o hb).1) z) (cC _)
end
def Itz(K:W.Frag) (a b:Addr):It :=
  ⟨λi H=>∃xs ys x y,rR K H a xs/\rR K H b ys/\xs[i]?=some x/\ys[i]?=some y,
   λi H v H'=>∃T x y,H T=none/\v = .ref T/\H'=pY H T (.tup [x,y])/\(∀xs,rR K H a xs->xs[i]?=some x)/\∀ys,rR K H b ys->ys[i]?=some y,
   λi H=>∃xs ys,rR K H a xs/\rR K H b ys/\(xs.length<=i∨ys.length<=i)⟩
structure Z5 (z TI TO i1 i2:Addr):Prop where
 a:TI≠z
 b:TO≠z
 c:i1≠z
 d:i2≠z
 e:TI≠TO
 f:TI≠i1
 g:TI≠i2
 h:TO≠i1
 i:TO≠i2
 j:i1≠i2
def abI(n:Nat):Z5 (n+4) (n+2) (n+3) n (n+1) where
 a:=λ(q:n+2=n+4)=>by lia
 b:=λ(q:n+3=n+4)=>by lia
 c:=λ(q:n=n+4)=>by lia
 d:=λ(q:n+1=n+4)=>by lia
 e:=λ(q:n+2=n+3)=>by lia
 f:=λ(q:n+2=n)=>by lia
 g:=λ(q:n+2=n+1)=>by lia
 h:=λ(q:n+3=n)=>by lia
 i:=λ(q:n+3=n+1)=>by lia
 j:=λ(q:n=n+1)=>by lia
def T2{P:iW}{w:iZ}{K:W.Frag}{elts:List Expr}{k:Nat}{pos:Pos}(l1 l2 z TI TO i1 i2:Addr) (d:Z5 z TI TO i1 i2) :
  Pz P w K (.Tuple elts k pos) (Itz K l1 l2) [z,TI,TO,i1,i2] z
   (λi h=>IsZip h z TI TO .none/\IsPair h TI (.ref i1) (.ref i2)/\(∃a b,IsPair h TO a b)/\h.IsListIter i1 l1 i/\h.IsListIter i2 l2 i) where
 mem:=by simp
 obj:=λi h st b hb=>by
  obtain⟨hz,hTI,⟨a,c,hTO⟩,⟨o1,q1,_,d1⟩,⟨o2,q2,_,d2⟩⟩:=st;simp only[ak,fD,or_false]at hb;rcases hb with rfl|rfl|rfl|rfl|rfl
  .exact ⟨_,hz,λv x=>by
    have x':Data.fields _=Data.cell v:=x;cases x'⟩
  .exact ⟨_,hTI,λv x=>by
    have x':Data.seq _ _=Data.cell v:=x;cases x'⟩
  .exact ⟨_,hTO,λv x=>by
    have x':Data.seq _ _=Data.cell v:=x;cases x'⟩
  .exact ⟨o1,q1,λv x=>by rw[d1]at x;cases x⟩
  .exact ⟨o2,q2,λv x=>by rw[d2]at x;cases x⟩
 keep:=λi h h' st kp=>by
  obtain⟨hz,hTI,⟨a,c,hTO⟩,h1,h2⟩:=st;exact⟨kp z (by simp) _ hz,kp TI (by simp) _ hTI,⟨a,c,kp TO (by simp) _ hTO⟩,h1.at λo q=>kp i1 (by simp) o q,h2.at λo q=>kp i2 (by simp) o q⟩
 item:=by
  intro X hP hw hK hc i mZ s σ H E I hf st hg;subst hP hw hK;obtain⟨xs,ys,x,y,hq1,hq2,hx,hy⟩:=hg;obtain⟨its1,rv1,p1,_⟩:=I.list hq1;obtain⟨its2,rv2,p2,_⟩:=I.list hq2;obtain⟨u1,hu1,ru1⟩:=rv1.get hx;obtain⟨u2,hu2,ru2⟩:=rv2.get hy;obtain⟨hz,hTI,⟨a,c,hTO⟩,h1,h2⟩:=st;have n1:∀b∈[z,TI,TO,i1,i2],l1≠b:=λb hb=>IR I hq1 (hf b hb)
  have n2:∀b∈[z,TI,TO,i1,i2],l2≠b:=λb hb=>IR I hq2 (hf b hb)
  have D:ZipApart z TI TO i1 i2 l1 l2:=⟨d.a,d.b,d.c,d.d,d.e,d.f,d.g,d.h,d.i,d.j,n1 z (by simp),n1 TO (by simp),n1 i1 (by simp),n1 i2 (by simp),n2 z (by simp),n2 TO (by simp),n2 i1 (by simp),n2 i2 (by simp)⟩
  have hzl:z<s.heap.objs.size:=aj hz;refine wpAny_pyNext_zip_item D hz hTI hTO h1 h2 p1.isList p2.isList (x:=u1) (y:=u2) (by simpa using hu1) (by simpa using hu2) λg1 hz1 hTO1 g11 g12 hT1 hsz1 hk1=>⟨_,rfl,?_⟩
  refine wpAny_letOwnedTupleGo_zip hz1 λg2 hz2 hs2=>?_
  replace hs2:dZ z g1 g2:=hs2;have hn:H s.heap.objs.size=none:=I.hok.fresh (af _);refine⟨.ref s.heap.objs.size,pY H s.heap.objs.size (.tup [x,y]),?_,rfl,⟨_,x,y,hn,rfl,rfl,λws hw=>by rw[I.list_inj hw hq1];exact hx,λws hw=>by rw[I.list_inj hw hq2];exact hy⟩,
   ⟨hz2,hs2.extBut _ _ d.a (hk1 _ _ d.a d.e d.f d.g hTI),⟨_,_,hs2.extBut _ _ d.b hTO1⟩,g11.extBut hs2.extBut d.c,g12.extBut hs2.extBut d.d⟩,λb hb=>?_⟩
  .show L2.Inv X mZ σ _ { s with heap:=g2,toks:=s.toks }
   refine QK (s:=s) (fp:=[z,TI,TO,i1,i2]) I (λb o hb q=>?_) hf (af _) ⟨by simp only[lCq,dP];rw[jj];decide,[u1,u2],.cons ru1 (.cons ru2 .nil),_,hs2.extBut _ _ (ee hzl) hT1,rfl,_,rfl⟩
   have b1:b≠z:=λe=>hb (by simp[e])
   exact hs2.extBut b o b1 (hk1 b o b1 (λe=>hb (by simp[e])) (λe=>hb (by simp[e])) (λe=>hb (by simp[e])) q)
  .have hb2:b<s.heap.objs.size:=by
    have hb':=hb;simp only[ak,fD,or_false]at hb';rcases hb' with rfl|rfl|rfl|rfl|rfl
    .exact hzl
    .exact aj hTI
    .exact aj hTO
    .obtain ⟨_,q,_⟩:=h1;exact aj q
    .obtain ⟨_,q,_⟩:=h2;exact aj q
   rw[nT (aF hb2)];exact(hf b hb).1
 done:=by
  intro X hP hw hK hc i mZ s σ H E I hf st hg;subst hP hw hK;obtain⟨xs,ys,hq1,hq2,hx⟩:=hg;obtain⟨its1,rv1,p1,_⟩:=I.list hq1;obtain⟨its2,rv2,p2,_⟩:=I.list hq2;obtain⟨hz,hTI,⟨a,c,hTO⟩,h1,h2⟩:=st;have n1:∀b∈[z,TI,TO,i1,i2],l1≠b:=λb hb=>IR I hq1 (hf b hb)
  have n2:∀b∈[z,TI,TO,i1,i2],l2≠b:=λb hb=>IR I hq2 (hf b hb)
  have D:ZipApart z TI TO i1 i2 l1 l2:=⟨d.a,d.b,d.c,d.d,d.e,d.f,d.g,d.h,d.i,d.j,n1 z (by simp),n1 TO (by simp),n1 i1 (by simp),n1 i2 (by simp),n2 z (by simp),n2 TO (by simp),n2 i1 (by simp),n2 i2 (by simp)⟩
  have e1:=rv1.length;have e2:=rv2.length;refine wpAny_pyNext_zip_end (I.ok.hd hc) D hz hTI hTO h1 h2 p1.isList p2.isList ?_ λg1 eb=>⟨rfl,U0 (t':=s.toks) (fp:=[z,TI,TO,i1,i2]) I (λb o hb q=>eb b o (λe=>hb (by simp[e])) (λe=>hb (by simp[e])) (λe=>hb (by simp[e])) (λe=>hb (by simp[e])) q) hf⟩
  rcases hx with hx|hx
  .exact .inl (by simp;lia)
  .exact .inr (by simp;lia)
 self:=λ_ _ _ _ _ st h=>wpAny_pyIter_zip st.1 h
section
variable {X:Cx}{elts:List Expr}{kk:Nat}{tpos:Pos}
def aaY(K:W.Frag) (ta:TA):TI:=λσ H R=>ta σ H λvs H1=>∃a b,vs=[.ref a,.ref b]/\(∃xs,rR K H1 a xs)/\(∃ys,rR K H1 b ys)/\R (Itz K a b) H1
def X4{e f:Expr}{ta:TA}{p pos:Pos}(hg:Gl X "zip") (hm:X.mg "zip" = none) (ha:PA X [e,f] ta) (hs:iY [e,f] X.env=[(false,eval e X.env),(false,eval f X.env)]:=by rfl) (hs2:iY [f] X.env=[(false,eval f X.env)]:=by rfl) :
  PI X (.Tuple elts kk tpos) (.Call (.Name "zip" p) [e,f] [] pos) (aaY X.K ta):=by
 intro mZ s σ H R I h;refine Call_ (E8 I hg hm boot_zip (dw (rL (ha pos mZ s σ H _ I h) λus s1 ⟨vs,H1,I1,r1,q1⟩=>?_) (by rw[hs,hs2]) (by rw[hs2];rfl)))
 obtain⟨a,b,e1,⟨xs,hq1⟩,⟨ys,hq2⟩,q⟩:=q1;subst e1;obtain⟨u,v,rfl,ru,rv⟩:=Tp r1;cases ru;cases rv;obtain⟨its1,_,p1,_⟩:=I1.list hq1;obtain⟨its2,_,p2,_⟩:=I1.list hq2;refine call_zip_2 p1.isList p2.isList λg hz hTI hTO h1 h2 hsz hk=>wpAny_pyIter_zip hz ?_
 refine⟨s1.heap.objs.size+4,[s1.heap.objs.size+4,s1.heap.objs.size+2,s1.heap.objs.size+3,s1.heap.objs.size,s1.heap.objs.size+1],_,_,H1,rfl,I1.kept (t':=s1.toks) hk,
  T2 a b _ _ _ _ _ (abI s1.heap.objs.size),⟨hz,hTI,⟨_,_,hTO⟩,h1,h2⟩,λc hc=>?_,q⟩
 have hb2:s1.heap.objs.size<=c:=by
  simp only[ak,fD,or_false]at hc;rcases hc with rfl|rfl|rfl|rfl|rfl
  .exact eM _ _
  .exact eM _ _
  .exact eM _ _
  .exact af _
  .exact eM _ _
 exact I1.fpOk hb2 (I1.hok.fresh hb2)
end
def Vj{K:W.Frag}{a b:Addr}{xs ys:List V}{i1 i2:Nat}{tb:TS}{D:wL}{σ:St}{H:Hp}(Pv:Nat->St->Hp->Prop) (h0:Pv 0 σ H) (hlen:xs.length=ys.length)
  (hl:∀i σ H,i<=xs.length->Pv i σ H->rR K H a xs/\rR K H b ys)
  (hs:∀i x y σ H T,xs[i]?=some x->ys[i]?=some y->Pv i σ H->H T=none->tb { D with nx:=Pv (i+1),ct:=Pv (i+1),bk:=D.nx } ((σ.set i1 (some x)).set i2 (some y)) (pY H T (.tup [x,y]))) (hd:∀σ H,Pv xs.length σ H->D.nx σ H) :
  ∃W:Nat->Nat->St->Hp->Prop,(∃m,W 0 m σ H)/\∀i m σ H,W i m σ H ->
   ((Itz K a b).stop i H/\D.nx σ H)∨((Itz K a b).go i H/\∃N:St->Hp->Prop,(∀σ' H',N σ' H'->∃m',m'<m/\W (i+1) m' σ' H')/\∀x H',(Itz K a b).yld i H x H'->So K 2 (Cn (uA i1) (Cn (uA i2) Rx)) x σ H' λσ2 H2=>tb { D with nx:=N,ct:=N,bk:=D.nx } σ2 H2):=by
 refine⟨λi m σ H=>m=xs.length-i/\i<=xs.length/\Pv i σ H,⟨xs.length,by simp,aV _,h0⟩,?_⟩
 rintro i m σ H ⟨rfl,hi,p⟩;obtain⟨q1,q2⟩:=hl i σ H hi p
 by_cases hlt:i<xs.length
 .refine .inr ⟨⟨xs,ys,xs[i],ys[i],q1,q2,by simp[hlt],by simp[hlen ▸ hlt]⟩,Pv (i+1),λσ' H' p'=>⟨xs.length-(i+1),by lia,rfl,hlt,p'⟩,λv H' y=>?_⟩
  obtain⟨T,x,y,hT,rfl,rfl,hx,hy⟩:=y;exact⟨T,_,rfl,Gm.of og,rfl,_,_,rfl,_,_,rfl,rfl,hs i x y σ H T (hx xs q1) (hy ys q2) p hT⟩
 .have e:i=xs.length:=by lia
  subst e;exact .inl ⟨⟨xs,ys,q1,q2,.inl (af _)⟩,hd σ H p⟩
section
variable {X:Cx}
def xp{mZ:List (Addr×Obj)}{σ:St}{H:Hp}{s:iM}{a:Addr}{ns:List Int}(I:Inv X mZ σ H s) (h:rR X.K H a (ns.map V.int)) :
  ∃vs:List Value,s.heap.IsList a vs.toArray/\jz vs ns/\ns.length<=iX:=by
 obtain⟨its,r,p,z⟩:=I.list h;rw[lMq]at z;exact⟨its,p.isList,B7 r,z⟩
def Hb(hc:X.calm=true):tj X (.builtin "min") (λxs H Q=>∃(a:Addr) (ns:List Int),xs=[.ref a]/\rR X.K H a (ns.map V.int)/\0<ns.length/\∀M,M∈ns->(∀x,x∈ns->M<=x)->Q (.int M) H):=by
 intro mZ s σ H xs us Q I r h;obtain⟨a,ns,rfl,hS,hne,q⟩:=h;obtain⟨u,rfl,ru⟩:=Cp r;cases ru;obtain⟨vs,hl,hi,_⟩:=xp I hS;obtain⟨xs,e⟩:=hi.allInts.items;have hns:ns=xs.toList.map (·.1):=by
  rw[←hi.numsOf,←nums_intItems,←e]
 have hsz:0<xs.size:=by
  have h3:=hne;rw[hns,lMq,ax]at h3;exact h3
 rw[e]at hl;refine min_intList (I.ok.hd hc) hl hsz λv h' tk hv hk=>?_
 obtain⟨t,rfl⟩:=intItems_at hv;obtain⟨h1,h2⟩:=argBest_lt (numAt xs) (xs.size-1);refine⟨.int _,H,I.kept hk,⟨t,rfl⟩,q _ ?_ λx hx=>?_⟩
 .rw [hns,numAt_eq];exact PySem.getD_mem (by rw[lMq,ax];lia)
 .rw [hns]at hx;obtain⟨j,hj,rfl⟩:=PySem.mem_getD hx;rw[lMq,ax]at hj;rw[←numAt_eq];exact h2 j (by lia)
def Uu(K:W.Frag):V->List V->Hp->VK->Prop:=λx vs H Q=>∃(a:Addr) (ns:List Int) (k:Int),x = .ref a/\vs=[.int k]/\rR K H a (ns.map V.int)/\k∈ns/\Q (.int (ns.idxOf k:Nat)) H
def CG:MtR X "list.index" (Uu X.K):=by
 intro mZ s σ H x xs v us Q I rx r h;obtain⟨a,ns,k,rfl,rfl,hS,hk,q⟩:=h;cases rx;obtain⟨u,rfl,t,rfl⟩:=Cp r;obtain⟨its,rv,⟨o,n,ho,hc,hd0,hd⟩,hz⟩:=I.list hS;have hi:=B7 rv;obtain⟨cls,dd,data,sl⟩:=o;simp only at hc hd0 hd;subst hc hd0 hd;have hlen:=hi.length;have hj:ns.idxOf k<ns.length:=bM.mpr hk;have hs:iX=16777216:=jj;rw[lMq]at hz;refine jH bE ⟨_,ho,rfl⟩ fB (ft _ _)
  (SeqAt.list_indexAt a its.toArray n none sl (.int k t) (isInt k) (ns.idxOf k) (by simpa [hlen] using hj) (by lia) ?_ ?_) ⟨ho,λy hy=>(eq_isInt k t hi y (by simpa using hy)).at _ _,?_⟩
 .show isInt k its[ns.idxOf k]=true;rw[isInt_at k hi _ (by lia) hj]
  simpa using dU hj
 .intro j hjs hlt;show isInt k its[j]=false;rw[isInt_at k hi j (by simpa using hjs) (by lia)]
  exact ne_of_lt_idxOf hlt _
 .exact ⟨.int _,H,I.tok _,⟨_,rfl⟩,q⟩
def Zj(K:W.Frag) (x:V) (H:Hp) (T:String) (b:Bool):Prop :=
 match x with
 | .int _=>(T = "int" /\ b=true)∨(T = "bool" /\ b=false)
 | .bl _=>(T = "bool" /\ b=true)∨(T = "int" /\ b=true)
 | .str _=>T = "str" /\ b=true
 | .ref p=>(T = "list" /\ b=true/\∃xs,rR K H p xs)∨(T = "dict" /\ b=true/\∃nV,H p=some (.dK nV))∨(T = "tuple" /\ b=true/\∃xs,Gm K H p xs)
 |_=>False
def uw:tj X (.builtin "isinstance") (λxs H Q=>∃x T b,xs=[x,.ty T]/\Zj X.K x H T b/\Q (.bl b) H):=by
 intro mZ s σ H xs us Q I r h;obtain⟨x,T,b,rfl,e,q⟩:=h;obtain⟨u,v,rfl,rx,rT⟩:=Tp r;cases rT;cases x with
 |int i =>
  obtain⟨t,rfl⟩:=rx;rcases e with ⟨rfl,rfl⟩|⟨rfl,rfl⟩
  .exact jf (jD (Tx := "int") F.isi_meta_int F.sub_int_int) ⟨(show s.TypeIs (.int i t) "int" from rfl),⟨.bl true,H,I,rfl,q⟩⟩
  .exact jf (jO (by decide +kernel) F.isi_meta_bool F.sub_int_bool) (show EP X mZ σ Q (.bool false) { s with toks:=s.toks+1 } from ⟨.bl false,H,I.tok _,rfl,q⟩)
 |bl i =>
  cases rx;rcases e with ⟨rfl,rfl⟩|⟨rfl,rfl⟩
  .exact jf (jD (Tx := "bool") F.isi_meta_bool F.sub_bool_bool) ⟨(show s.TypeIs (.bool i) "bool" from rfl),⟨.bl true,H,I,rfl,q⟩⟩
  .exact jf (jD (Tx := "bool") F.isi_meta_int F.sub_bool_int) ⟨(show s.TypeIs (.bool i) "bool" from rfl),⟨.bl true,H,I,rfl,q⟩⟩
 |str i =>
  obtain⟨t,rfl⟩:=rx;obtain⟨rfl,rfl⟩:=e;exact jf (jD (Tx := "str") F.isi_meta_str F.sub_str_str) ⟨(show s.TypeIs (.str i t) "str" from rfl),⟨.bl true,H,I,rfl,q⟩⟩
 |ref p =>
  cases rx;rcases e with ⟨rfl,rfl,xs,hS⟩|⟨rfl,rfl,nV,hp⟩|⟨rfl,rfl,xs,hS⟩
  .obtain ⟨its,rv,pl,hz⟩:=I.list hS;exact jf (jD (Tx := "list") F.isi_meta_list (by rw[lG];kernel_rfl)) ⟨pl.isList.typeIs,⟨.bl true,H,I,rfl,q⟩⟩
  .have ty:s.TypeIs (.ref p) "dict" := (aab I (.inl ⟨nV,.inl hp⟩)).1;exact jf (jD (Tx := "dict") F.isi_meta_dict (by rw[lG];kernel_rfl)) ⟨ty,⟨.bl true,H,I,rfl,q⟩⟩
  .obtain ⟨its,rv,⟨o,ho,hc,_⟩,hz⟩:=I.tuple hS;exact jf (jD (Tx := "tuple") F.isi_meta_tuple (by rw[lG];kernel_rfl)) ⟨⟨o,ho,hc⟩,⟨.bl true,H,I,rfl,q⟩⟩
 |_=>exact(show False from e).elim
end
end Mr
namespace Mr
open PySem L2
structure xP (K:W.Frag) (mg:Str->Option Value) (x:Str) (st:Stmt) (ps:List Str) (f:Addr) (fd:jb):Prop where
 F:FA K x x st f fd
 m:mg x=some (.ref f)
 b:qI K fd ps []
def rh{H:Hp}{p:Addr}{o:HO}(h:H p=none):oX H (pY H p o):=λb u e=>by
 rw[nT (qq e h)];exact e
end Mr
namespace Mr
open PySem PySem.Spec PyProof.Rows L2
def KD{prog:iW}{w:iZ}{A:Around}{R:Result->iM->Prop}{s:iM}{elt target wq:Expr}{ifs:List Expr}{scope:jJ}{pos:Pos}{it acc:Value}{env:Env}(I:Nat->iM->Prop)
  (turn:∀n s,I n s->iS (iQ prog w) A (pyNext it) (λr s₁=>match r with
   |none=>R (.ok .next) s₁
   |some v=>iS (iQ prog w) A (ko target it v) (λ_ s₂=>iS (iQ prog w) A (assign target env v) (λ_ s₃ =>
     iS (iQ prog w) A (forIn ifs true λc r=>if r=true then do let ok ←isTrue c env (eval c env);pure (ForInStep.yield ok) else pure (ForInStep.yield r)) (λok s₄ =>
      if ok=true then iS (iQ prog w) A (eval elt env) (λx s₅ =>
       iS (iQ prog w) A (call (.builtin "list.append") [acc,x]) (λ_ s₆=>∃m,m<n/\I m s₆) (λ_ _=>False) s₅) (λ_ _=>False) s₄
      else ∃m,m<n/\I m s₄) (λ_ _=>False) s₃) (λ_ _=>False) s₂) (λ_ _=>False) s₁) (λ_ _=>False) s)
  (n:Nat) (h:I n s):jT (iQ prog w) A (.compLoop (.ListComp elt [⟨target,wq,ifs,0⟩] scope pos) 0 it acc env) R s:=by
 refine codeAny_loop rfl I (λn s hI=>?_) n h
 show iS _ A ((compTurn (.ListComp elt [⟨target,wq,ifs,0⟩] scope pos) 0 it acc env).onRaise (λx=>do kW x env;theTreesLotGoes x)) _ _ s
 refine wpAny_noted ?_;rw[compTurn_list];refine iT (kE (iT (jg (turn n s hI) (λr s₁ h₁=>?_) λ_ _ z=>z.elim)))
 cases r with
 |none=>exact jd h₁
 |some v =>
  refine iT (jg h₁ (λ_ s₂ h₂=>?_) λ_ _ z=>z.elim)
  refine iT (jg h₂ (λ_ s₃ h₃=>?_) λ_ _ z=>z.elim)
  refine iT (jg h₃ (λok s₄ h₄=>?_) λ_ _ z=>z.elim)
  cases ok with
  |false=>exact jd ⟨rfl,h₄⟩
  |true=>exact iT (iT (jg h₄ (λx s₅ h₅=>iT (jg h₅ (λ_ s₆ h₆=>jd (jd ⟨rfl,h₆⟩)) λ_ _ z=>z.elim)) λ_ _ z=>z.elim))
abbrev uv(X:Cx) (scope:jJ) (cl:List (Str×Addr)) (N:List Str) (C:Addr) (s:iM) (H:Hp) (fp:List Addr):Cx where
 prog:=X.prog
 w:=X.w
 K:=X.K
 mg:=X.mg
 base:=X.base
 A:=X.A
 N:=N
 s₀:=s
 H₀:=H
 env:=compEnvC scope cl C X.env
 outer:=X.stack
 stack:=X.stack
 ex:=fp
 fn:=λ_=>false
 calm:=X.calm
 pn:=[]
 xe:=λ_ _=>False
def PF(X:Cx) (ifs:List Expr) (t:TT):Prop :=
 ∀(mZ:List (Addr×Obj)) (s:iM) (σ:St) (H:Hp) (Q:Bool->Hp->Prop),Inv X mZ σ H s->t σ H Q ->
  iS (iQ X.prog X.w) X.A (forIn ifs true λc r=>if r=true then do let ok ←isTrue c X.env (eval c X.env);pure (ForInStep.yield ok) else pure (ForInStep.yield r)) (TP X mZ σ Q) X.xe s
def abA:TT:=λ_ H Q=>Q true H
def zp{X:Cx}:PF X [] abA:=λ_ _ _ H _ I h=>wpAny_tests_nil ⟨H,I,h⟩
def Dr{X:Cx}{c:Expr}{t:TT}(h:PT X c t):PF X [c] t:=λmZ s σ H Q I q=>wpAny_tests_one (h mZ s σ H Q I q)
structure ur (X:Cx) (scope:jJ) (cl:List (Str×Addr)) (x:Str) (N:List Str) (fr:List Nat):Prop where
 names:N.Nodup
 own:N[0]?=some x
 len:N.length=fr.length+1
 sub:∀y c,cl.lookup y=some c->X.env.cells.lookup y=some c
 has:∀y,((kz scope X.env).names.lookup y=some .cell∨(kz scope X.env).names.lookup y=some .free)->∃c,cl.lookup y=some c
 get:∀(k j:Nat) (y:Str),fr[k]?=some j->N[k+1]?=some y->X.N[j]?=some y/\X.env.scope.names.lookup y=some .cell/\(kz scope X.env).names.lookup y=some .cell
def ur.none{X:Cx}{scope:jJ}{x:Str}(h:∀p∈scope.names,p.2 ≠ .cell/\p.2 ≠ .free):ur X scope [] x [x] [] where
 names:=by simp
 own:=rfl
 len:=rfl
 sub:=λy c e=>by cases e
 has:=λy e=>by
  exfalso;have key:∀p∈(kz scope X.env).names,p.2 ≠ .cell/\p.2 ≠ .free:=by
   intro p hp;obtain⟨q,hq,rfl⟩:=mMq.mp hp;obtain⟨n,k⟩:=q;obtain⟨h1,h2⟩:=h _ hq;have hk:(k == NameKind.free)=false:=by simpa using h2
   simp only[hk,ie];exact⟨h1,h2⟩
  rcases e with e|e
  .exact (key _ (PySem.mem_of_lookup e)).1 rfl
  .exact (key _ (PySem.mem_of_lookup e)).2 rfl
 get:=λk j y e _=>by cases e
def slots(σ:St) (fr:List Nat):St:=fr.map λj=>(σ[j]?).join
def N0(wi:TI) (fr:List Nat) (tf:TT) (te:TE):TE:=λσ H Q=>wi σ H λJ H1=>∀acc,H1 acc=none->∃W:Nat->Nat->Hp->Prop,(∃m,W 0 m (pY H1 acc (.lst [])))/\∀i m H,W i m H ->
 (J.stop i H/\Q (.ref acc) H) ∨
 (J.go i H/\∃N:Hp->Prop,(∀H',N H'->∃m',m'<m/\W (i+1) m' H')/\∀x H',J.yld i H x H'->tf (some x::slots σ fr) H' λb H2 =>
  if b=true then te (some x::slots σ fr) H2 λy H3=>∃ys,H3 acc=some (.lst ys)/\ys.length<iX/\N (pY H3 acc (.lst (ys++[y]))) else N H2)
section
variable {X:Cx}{scope:jJ}{cl:List (Str×Addr)}{N:List Str}{fr:List Nat}{x:Str}{px pos:Pos}{elt wq:Expr}{ifs:List Expr}{tf:TT}{te:TE}
def EY{mZ:List (Addr×Obj)}{σ:St}{H:Hp}{s:iM}{E:Value->iM->Prop}{J:It}{fp:List Addr}{it:Addr}{tn:Nat->Heap->Prop}{RR:Value->Addr->Result->iM->Prop}{Q:VK}
  (hc:X.calm=true) (hcell:∀y∈scope.names,y.2 ≠ .cell) (hkind:scope.kind = .function) (hx:scope.names.lookup x=some .local) (hF:ur X scope cl x N fr)
  (hf:∀C s H fp,PF (uv X scope cl N C s H fp) ifs tf) (he:∀C s H fp,PE (uv X scope cl N C s H fp) elt te)
  (I:Inv X mZ σ H s) (T:Pz X.prog X.w X.K (.Name x px) J fp it tn) (st:tn 0 s.heap) (fpo:∀b∈fp,Ei X mZ H b)
  (h:∀acc,H acc=none->∃W:Nat->Nat->Hp->Prop,(∃m,W 0 m (pY H acc (.lst [])))/\∀i m H,W i m H ->
   (J.stop i H/\Q (.ref acc) H) ∨
   (J.go i H/\∃N:Hp->Prop,(∀H',N H'->∃m',m'<m/\W (i+1) m' H')/\∀x H',J.yld i H x H'->tf (some x::slots σ fr) H' λb H2 =>
    if b=true then te (some x::slots σ fr) H2 λy H3=>∃ys,H3 acc=some (.lst ys)/\ys.length<iX/\N (pY H3 acc (.lst (ys++[y]))) else N H2))
  (fin:∀acc C s' Hf m,Inv X mZ σ Hf s'->s'.heap.Ns C m->Ei X mZ Hf C->Q (.ref acc) Hf->RR (.ref acc) C (.ok .next) s') :
  iS (iQ X.prog X.w) X.A (newList []) (λacc s₃=>iS (iQ X.prog X.w) X.A (newFunctionEnv scope X.env.globals cl [] X.env.qual none .none (some X.env)) (λcenv s₄ =>
   jT (iQ X.prog X.w) X.A (.compStart (.ListComp elt [⟨.Name x px,wq,ifs,0⟩] scope pos) 0 (.ref it) acc { cenv with scope:=kz scope X.env }) (RR acc cenv.locals) s₄) E s₃) E s:=by
 refine wpAny_newObj_type (wpAny_newFunctionEnv hcell (by intro y hy;simp at hy) (λh₁ hns₁ hsb₁=>?_) hkind)
 dsimp only at hns₁ hsb₁ ⊢;generalize hG:s.heap.push { cls:=.type "list", dict:=none,data:=.seq ([]:List Value).toArray }=G at hns₁ hsb₁ ⊢;have hC:G.objs.size=s.heap.objs.size+1:=by rw[←hG,eA]
 have hCle:s.heap.objs.size<=G.objs.size:=by rw[hC];exact bR _
 have hDC:s.heap.objs.size≠G.objs.size:=by rw[hC];exact aF (dh _)
 have below:∀b,b<s.heap.objs.size->b≠G.objs.size:=λb hb=>by rw[hC];exact aF (cj hb)
 have old:∀b o,s.heap.get? b=some o->h₁.get? b=some o:=λb o e=>hsb₁.extBut b o (below b (aj e)) (ae _ (hG ▸ ae _ e))
 have hacc:h₁.get? s.heap.objs.size=some { cls:=.type "list", data:=.seq ([]:List Value).toArray }:=hsb₁.extBut _ _ hDC (ae _ (hG ▸ bb _ rfl));have hn:H s.heap.objs.size=none:=I.hok.fresh (af _);have hnC:H G.objs.size=none:=I.hok.fresh hCle;have fpl:∀b∈fp,b<s.heap.objs.size:=λb hb=>by
  obtain⟨o,q,_⟩:=T.obj 0 _ st b hb;exact aj q
 obtain⟨W,⟨m0,w0⟩,turn⟩:=h _ hn;have ok':(uv X scope cl N G.objs.size s H fp).Ok:=by
  refine⟨I.ok.mod,by show (kz scope X.env).kind = .function;exact hkind,I.ok.glob,I.ok.blt,hCle,λy z c h1 h2=>I.ok.inj y z c (hF.sub y c h1) (hF.sub z c h2),hF.has,λ_ _ z _=>(by cases z),I.ok.hd,I.ok.frames,.inl rfl,
   λb hb=>⟨below b (fpl b hb),λy c e=>(fpo b hb).2.2.2.2.1 y c (hF.sub y c e)⟩,λb o e=>⟨(I.bs b o e).1,(I.bs b o e).2⟩,bB I.ok.bsz I.sz,λb o e hb=>?_,λb hb z=>?_,I.stack,I.stkFree⟩
  .rcases (fpo b hb).2.2.2.1 with q|q
   .exact I.ok.noex b o e q
   .exact absurd (aE (aj (I.ok.bs b o e).1) q) (cC _)
  .rcases ak.mp (I.stkSub b z) with q|q
   .exact (fpo b hb).2.1 q
   .exact (fpo b hb).2.2.1 q
 have I0:Inv (uv X scope cl N G.objs.size s H fp) [] (none::slots σ fr) (pY H s.heap.objs.size (.lst [])) { s with heap:=h₁,toks:=s.toks+([]:List (Str×Value)).length }:=by
  have hok1:Aj X.prog X.w (pY H s.heap.objs.size (.lst [])) h₁:=I.hok.laid old (af _) ⟨aV _,[],0,.nil,hacc⟩;refine⟨ok',rfl,I.bare,Un.laid old (af _) hn,⟨_,hns₁,λk y v e1 e2 e3=>?_⟩,λy c e=>?_,?_,λy c e=>?_,λp hp=>absurd (show p∈([]:List (Addr×Obj)) from hp) (by simp),hok1,?_⟩
  .cases k with
   |zero=>cases e2
   |succ k =>
    have e2':(slots σ fr)[k]?=some (some v):=e2;unfold slots at e2';rw[gMq]at e2';cases ej:fr[k]? with
    |none=>rw[ej]at e2';cases e2'
    |some j =>
     rw[ej]at e2';have e2j:(σ[j]?).join=some v:=aS.inj e2';have e2s:σ[j]?=some (some v):=by
      cases q:σ[j]? with
      |none=>rw[q]at e2j;cases e2j
      |some z=>rw[q]at e2j;exact congrArg some e2j
     obtain⟨g1,g2,g3⟩:=hF.get k j y ej e1;obtain⟨m,_,hl⟩:=I.loc;obtain⟨u,r,l⟩:=hl j y v g1 e2s (.inr (.inl g2));refine⟨u,r,.inr ⟨.inl g3,?_⟩⟩;obtain⟨c,e⟩:=hF.has y (.inl g3);have e':=hF.sub y c e;rcases l with ⟨l1,_⟩|⟨_,c',ec,hcell'⟩
     .have l1':X.env.scope.names.lookup y=some .local:=l1;rw[g2]at l1';cases l1'
     .rw [e']at ec;cases ec;obtain⟨o,ho,hd⟩:=hcell';exact⟨c,e,o,old c o ho,hd⟩
  .obtain ⟨v,o,ho,hd⟩:=I.cell y c (hF.sub y c e);exact⟨v,o,old c o ho,hd⟩
  .show pY H s.heap.objs.size (.lst []) G.objs.size=none;rw[nT (Ne.symm hDC)];exact hnC
  .obtain ⟨v,o,ho,hd⟩:=I.cell y c (hF.sub y c e);rw[nT (aF (aj ho))];exact I.freeC y c (hF.sub y c e)
  .show (none::slots σ fr).length=N.length;rw[hF.len,lCq];unfold slots;rw[lMq]
 have st1:tn 0 h₁:=T.keep 0 _ _ st λb _ o e=>old b o e
 have nd:N.Nodup:=hF.names;have nf0:∀b∈fp,pY H s.heap.objs.size (.lst []) b=none:=λb hb=>by
  rw[nT (aF (fpl b hb))];exact(fpo b hb).1
 have stat:∀{H':Hp},(∀b∈fp,H' b=none)->∀b∈fp,Ei (uv X scope cl N G.objs.size s H fp) [] H' b:=λhn' b hb =>
  ⟨hn' b hb,below b (fpl b hb),ok'.exfs b hb,.inl hb,λy c e=>(ok'.exf b hb).2 y c e,λp hp=>absurd (show p∈([]:List (Addr×Obj)) from hp) (by simp)⟩
 have loop:∀s₃:iM,s₃={ s with heap:=h₁,toks:=s.toks+([]:List (Str×Value)).length } ->
   jT (iQ X.prog X.w) X.A (.compLoop (.ListComp elt [⟨.Name x px,wq,ifs,0⟩] scope pos) 0 (.ref it) (.ref s.heap.objs.size) (compEnvC scope cl G.objs.size X.env)) (RR (.ref s.heap.objs.size) G.objs.size) s₃:=by
  rintro s₃ rfl;refine KD (λn s'=>∃i v0 H',Inv (uv X scope cl N G.objs.size s H fp) [] (v0::slots σ fr) H' s'/\tn i s'.heap/\(∀b∈fp,H' b=none)/\W i n H') ?_ m0 ⟨0,none,_,I0,st1,nf0,w0⟩
  rintro n s4 ⟨i,v0,H4,I4,st4,nf4,w4⟩;rcases turn i n H4 w4 with ⟨stop,q⟩|⟨go,Nx,hNx,step⟩
  .refine rL (T.done (uv X scope cl N G.objs.size s H fp) rfl rfl rfl hc i [] s4 (v0::slots σ fr) H4 (λ_ _=>False) I4 (stat nf4) st4 stop) λr s5 hz1=>?_
   obtain⟨hr,I5⟩:=hz1;subst hr;obtain⟨m,hm,_⟩:=I5.loc;have I6:Inv X mZ σ H4 s5:=I.call' (ch:=fp) I5.os I5.base I5.hok I5.bare λb hb=>⟨(fpo b hb).2.2.2.1,(fpo b hb).2.1,(fpo b hb).2.2.2.2.1,(fpo b hb).2.2.2.2.2⟩
   exact fin _ _ s5 H4 m I6 hm (I.fpOk hCle I5.free) q
  .refine rL (T.item (uv X scope cl N G.objs.size s H fp) rfl rfl rfl hc i [] s4 (v0::slots σ fr) H4 (λ_ _=>False) I4 (stat nf4) st4 go) λr s5 hz1=>?_
   obtain⟨u,hr,h5⟩:=hz1;subst hr;refine rL h5 λ_ s6 hz1=>?_
   obtain⟨y,H6,I6,r6,y6,st6,nf6⟩:=hz1;have I6':=I6.pinned (stat nf6) (T.obj _ _ st6);have pg:PG (uv X scope cl N G.objs.size s H fp) (.Name x px) (uA 0):=rl nd hF.own (.inl (lK hx)) (.inr (lK hx));refine rL (pg _ s6 (v0::slots σ fr) H6 y u (λσ2 H2=>σ2=some y::slots σ fr/\H2=H6) I6' r6 ⟨rfl,rfl⟩) λ_ s7 hz1=>?_
   obtain⟨σ7,H7,I7,e7,e8⟩:=hz1;subst e7 e8;refine rL (hf _ _ _ _ _ s7 _ _ _ I7 (step y _ y6)) λb s8 hz1=>?_
   obtain⟨H8,I8,q8⟩:=hz1;have again:∀{s9:iM}{H9:Hp},Inv (uv X scope cl N G.objs.size s H fp) ([]++Fv fp s6.heap) (some y::slots σ fr) H9 s9->Nx H9->∃m,m<n/\∃i v0 H',Inv (uv X scope cl N G.objs.size s H fp) [] (v0::slots σ fr) H' s9/\tn i s9.heap/\(∀b∈fp,H' b=none)/\W i m H':=λ{s9 H9} I9 n9=>by
    obtain⟨m',hm,w9⟩:=hNx H9 n9;refine⟨m',hm,i+1,some y,H9,I9.unpinned,T.keep _ _ _ st6 λb hb o e=>(I9.pin (b,o) (aC _ (aC _ (zC hb e)))).1,λb hb=>?_,w9⟩
    obtain⟨o,e,d⟩:=T.obj _ _ st6 b hb;exact(I9.pin (b,o) (aC _ (aC _ (zC hb e)))).2.1
   cases b with
   |false=>exact again I8 q8
   |true =>
    refine rL (he _ _ _ _ _ s8 _ _ _ I8 q8) λz s9 hz1=>?_
    obtain⟨zv,H9,I9,r9,ys,a9,l9,n9⟩:=hz1;refine rL (qa (X:=uv X scope cl N G.objs.size s H fp) _ s9 _ H9 (.ref s.heap.objs.size) [zv] (.ref s.heap.objs.size) [z] (λ_ H'=>H'=pY H9 s.heap.objs.size (.lst (ys++[zv]))) I9 rfl (.cons r9 .nil) ⟨_,ys,zv,rfl,rfl,a9,l9,rfl⟩) λ_ s10 hz1=>?_
    obtain⟨_,H10,I10,_,e10⟩:=hz1;subst e10;exact again I10 n9
 exact codeAny_compStart_list (loop _ rfl) (T.self X.A 0 _ _ _ st1 (loop _ rfl))
def vU{wi:TI}(hc:X.calm=true) (hclos:closureFor scope X.env=pure cl) (hcell:∀y∈scope.names,y.2 ≠ .cell) (hkind:scope.kind = .function) (hnames:∀y∈scope.names,y.2 = .local->scope.names.lookup y.1=some .local)
  (hx:scope.names.lookup x=some .local) (hF:ur X scope cl x N fr) (hi:PI X (.Name x px) wq wi) (hf:∀C s H fp,PF (uv X scope cl N C s H fp) ifs tf) (he:∀C s H fp,PE (uv X scope cl N C s H fp) elt te)
  (hs:∀x,kG wq X.env x=pure x:=by intro _;rfl):PE X (.ListComp elt [⟨.Name x px,wq,ifs,0⟩] scope pos) (N0 wi fr tf te):=by
 intro mZ s σ H Q I h;rw[eval_ListComp];refine kO (use:=none) rfl hs hclos hkind hnames (rL (hi mZ s σ H _ I h) λv s1 h1=>rL h1 λitv s2 h2=>?_)
 obtain⟨it,fp,tn,J,H2,e,I2,T,Jj,f2,q2⟩:=h2;subst e;refine EY (RR:=λacc C=>compPost (iQ X.prog X.w) X.A X.xe none (EP X mZ σ Q) acc C) hc hcell hkind hx hF hf he I2 T Jj f2 q2 ?_
 intro acc C s' Hf m I' hm fC q;refine⟨m,hm,λh' sb=>⟨.ref acc,Hf,?_,rfl,q⟩⟩
 exact I'.turned (t':=s'.toks) (λb o hb e=>(sb.2 b hb).trans e) fC.1 fC.2.1 fC.2.2.2.1 fC.2.2.2.2.1 fC.2.2.2.2.2
def Dk{wi:TI}{y:Str}{i:Nat}{py spos:Pos}(hc:X.calm=true) (hN:X.N.Nodup) (hi0:X.N[i]?=some y) (hy:Loc X.env.scope y) (hclos:closureFor scope X.env=pure cl) (hcell:∀y∈scope.names,y.2 ≠ .cell) (hkind:scope.kind = .function)
  (hnames:∀y∈scope.names,y.2 = .local->scope.names.lookup y.1=some .local)
  (hx:scope.names.lookup x=some .local) (hF:ur X scope cl x N fr) (hi:PI X (.Name x px) wq wi) (hf:∀C s H fp,PF (uv X scope cl N C s H fp) ifs tf) (he:∀C s H fp,PE (uv X scope cl N C s H fp) elt te)
  (hsw:kg (.ListComp elt [⟨.Name x px,wq,ifs,0⟩] scope pos) (some (.Name y py)) spos.line X.env=pure true:=by rfl) (hs:∀x,kG wq X.env x=pure x:=by intro _;rfl)
  (hfn:X.fn y=true∨X.env.scope.names.lookup y=some .local:=by trivial) :
  PS X (.Assign [.Name y py] (.ListComp elt [⟨.Name x px,wq,ifs,0⟩] scope pos) spos) (Qb (N0 wi fr tf te) (uA i)):=by
 intro mZ s σ H D I h;rw[exec_Assign_Name_used _ _ _ _ hsw];refine iT (kE (iT ?_));show iS _ X.A (do let _ ←comprehension (.ListComp elt [⟨.Name x px,wq,ifs,0⟩] scope pos) scope X.env _ (newList []) false (eval wq X.env) (some (assign (.Name y py) X.env))) _ _ s
 refine iT (jg (kO (use:=some (assign (.Name y py) X.env)) (Q:=λ_ s'=>SP X mZ D .next s') rfl hs hclos hkind hnames
  (rL (hi mZ s σ H _ I h) λv s1 h1=>rL h1 λitv s2 h2=>?_)) (λ_ s' hq=>jd (jd hq)) λ_ _ e=>e)
 obtain⟨it,fp,tn,J,H2,e,I2,T,Jj,f2,q2⟩:=h2;subst e;refine EY (RR:=λacc C=>compPost (iQ X.prog X.w) X.A X.xe (some (assign (.Name y py) X.env)) (λ_ s'=>SP X mZ D .next s') acc C) (Q:=λv H'=>D.nx (σ.set i (some v)) H') hc hcell hkind hx hF hf he I2 T Jj f2 q2 ?_
 intro acc C s' Hf m I' hm fC q;obtain⟨o,es,ep,ho,hd,r⟩:=id hm;have I1:Inv X (mZ++[(C,o)]) σ Hf s':=I'.pins_of λp hp=>(mAq.mp hp).elim (λz=>I'.pin p (aC _ z)) λz=>by
  have e:p=(C,o):=by simpa using z
  subst e;exact⟨ho,fC.1,fC.2.1,fC.2.2.1,λv z=>by rw[hd]at z;cases z⟩
 refine rL (rl (X:=X) (i:=i) (pos:=py) hN hi0 hy hfn _ s' σ Hf (.ref acc) (.ref acc) _ I1 rfl q) λ_ s2 hz1=>?_
 obtain⟨σ2,H2,I2,q2⟩:=hz1;have pC:=I2.pin (C,o) (aC _ (aC _ (by simp)))
 refine⟨m,⟨o,es,ep,pC.1,hd,r⟩,λh' sb=>⟨σ2,H2,?_,q2⟩⟩
 exact I2.unpinned.turned (t':=s2.toks) (λb u hb e=>(sb.2 b hb).trans e) pC.2.1 fC.2.1 fC.2.2.2.1 fC.2.2.2.2.1 fC.2.2.2.2.2
end
end Mr
namespace MrS
open PySem PyProof.Rows
section
variable {prog:iW}{w:iZ}{A:Around}{E:Value->iM->Prop}{s:iM}{Pk:iO->Prop}{lt:iO->iO->Bool}
noncomputable abbrev xN(h:Heap) (a:Addr) (vs:List Value):Heap:=((h.update a (Obj.mapSeq λ_=>#[])).push (jx "tuple" vs.toArray 0)).push (jx "list" #[] 0)
def Gz{a:Addr}{vs:List Value}{n:Nat}{P:PySem.Fin->iM->Prop}(ho:s.heap.get? a=some (jx "list" vs.toArray n)) (hs:vs.length<=iX)
  (hkk:2<=vs.length->∀Q:jy->iM->Prop,Q ka { s with heap:=xN s.heap a vs }->iS (iQ prog w) A (keyKind' vs.toArray) Q E { s with heap:=xN s.heap a vs })
  (C:Bz prog w A { s with heap:=xN s.heap a vs } ka Pk lt) (hp:∀x,x∈jE vs->Pk x)
  (h:∀xs:Array iO,xs.Perm (jE vs)->BS lt xs 0 (jE vs).size->P (.done (.ret .none)) { s with heap:=sortedHeap s.heap a vs (xs.map (·.2)) }) :
  iS (iQ prog w) A (Builtin.«list.sort» ⟨[.ref a],[]⟩) P E s:=by
 rw[list_sort_plain];have ha:a<s.heap.objs.size:=aj ho;refine iT (listItems_at ho rfl ?_);refine iT (lU ho rfl ?_ (hsz:=by simpa using hs))
 obtain⟨e1,ho1⟩:∃e1,(s.heap.update a (Obj.mapSeq λ_=>#[])).get? a=some (jx "list" #[] e1):=⟨_,kS ho (λ_=>#[])⟩
 refine iT (mj ho1 rfl ?_);refine iT (wpAny_newTuple ?_);refine iT (wpAny_newList ?_);refine kF ?_;have ho6:(xN s.heap a vs).get? a=some (jx "list" #[] e1):=by
  rw[eD _ _ _ (by rw[size_push',dE];exact aF (cj ha)),eD _ _ _ (by rw[dE];exact aF ha)]
  exact ho1
 show iS (iQ prog w) A _ P E { s with heap:=xN s.heap a vs }
 dsimp only;have hsz:vs.toArray.size=vs.length:=by simp
 have hs':iX=16777216:=jj
 by_cases h2:vs.toArray.size<2
 .rw [oJ h2,oJ h2];refine iT (jd ?_);rw[StateT.run_pure];refine iT (jd ?_);dsimp only;refine iT (mj ho6 rfl ?_);refine iT (lU ho6 rfl ?_ (hsz2:=by rw[ik];show (jE vs).size<=_;rw[kq,jj];lia))
  simp only[bne_self_eq_false,cK,if_false];refine jd (h _ (hZ.refl _) ?_);intro i j x y _ hij hj ex ey;have:i=j:=by rw[kq]at hj;lia
  subst this;rw[ex]at ey;cases ey;exact C.refl (hp x (aQq ex))
 .rw [oO h2,oO h2];refine iT (hkk (by lia) _ ?_)
  refine iT (jg (Ij C (arr:=jE vs) (g:=7) (E:=E)
   (Q:=λ_ st'=>∃xs p g',st'=zQ ka xs p g'/\xs.Perm (jE vs)/\BS lt xs 0 (jE vs).size) hp (by rw[kq];lia) λxs p g' a1 a2=>⟨xs,p,g',rfl,a1,a2⟩) ?_ λ_ _ e=>e)
  rintro⟨⟨⟩,st'⟩ s' ⟨rfl,xs,p,g',rfl,hpm,hsg⟩;dsimp only;refine iT (mj ho6 rfl ?_);refine iT (lU ho6 rfl ?_ (hsz2:=by refine bB (ef ((ik ..).trans (hpm.size_eq.trans (kq _)))) ?_;lia))
  simp only[bne_self_eq_false,cK,if_false];exact jd (h xs hpm hsg)
def WJ{h:Heap}{a:Addr}{xs:Array Value}{n:Nat}(vs:List Value) (ho:h.get? a=some (jx "list" xs n)):∃e1,(xN h a vs).get? a=some (jx "list" #[] e1):=by
 have ha:a<h.objs.size:=aj ho;obtain⟨e1,ho1⟩:∃e1,(h.update a (Obj.mapSeq λ_=>#[])).get? a=some (jx "list" #[] e1):=⟨_,kS ho (λ_=>#[])⟩
 refine⟨e1,?_⟩;rw[eD _ _ _ (by rw[size_push',dE];exact aF (cj ha)),eD _ _ _ (by rw[dE];exact aF ha)]
 exact ho1
def Wf{h:Heap}{a:Addr}{xs:Array Value}{n:Nat}(ys:Array Value) (ho:h.get? a=some (jx "list" xs n)):∃n1,(h.update a (Obj.mapSeq λ_=>ys)).get? a=some (jx "list" ys n1):=⟨_,kS ho (λ_=>ys)⟩
def A0{vs:List Value}{x:iO}(h:x∈jE vs):x.1∈vs/\x.2=x.1:=by
 obtain⟨i,hi,e⟩:=Array.mem_iff_getElem.mp h;have hi':i<vs.length:=by rw[kq]at hi;exact hi
 have:x=(vs[i],vs[i]):=by
  rw[←e];simp[jE]
 rw[this];exact⟨gRq hi',rfl⟩
def Js{vs:List Value}{xs:Array iO}(hp:xs.Perm (jE vs)) (hs:BS lt xs 0 (jE vs).size) :
  (xs.map (·.2)).toList.Perm vs/\(xs.map (·.2)).toList.Pairwise (λx y=>lt (y,y) (x,x)=false):=by
 constructor
 .have:=hp.toList.map (·.2);have e:(jE vs).toList.map (·.2)=vs:=by
   have:(jE vs).toList=vs.zip vs:=by simp[jE]
   rw[this];apply List.ext_getElem
   .simp
   .intro i h1 h2;simp
  rw[e]at this;rw[Array.toList_map];exact this
 .rw [bV];intro i j hi hj hij;have hi':i<xs.size:=by simpa using hi
  have hj':j<xs.size:=by simpa using hj
  have z:=hs i j xs[i] xs[j] (aV _) (bC hij) (by rw[←hp.size_eq];exact hj') (by simp[hi']) (by simp[hj'])
  have m1:=A0 (hp.mem_iff.mp (aX hi'));have m2:=A0 (hp.mem_iff.mp (aX hj'));have e1:xs[i]=(xs[i].2,xs[i].2):=iC m1.2.symm rfl;have e2:xs[j]=(xs[j].2,xs[j].2):=iC m2.2.symm rfl;rw[e1,e2]at z;simpa using z
def FN{l:Addr}{vs:List Value}{Q:Value->iM->Prop}(hl:s.heap.IsList l vs.toArray) (hs:vs.length<=iX)
  (hC:∀s':iM,(∀b o,s.heap.get? b=some o->s'.heap.get? b=some o)->(2<=vs.length->∀Q:jy->iM->Prop,Q ka s'->iS (iQ prog w) A.in1.in1 (keyKind' vs.toArray) Q E s')/\Bz prog w A.in1.in1 s' ka Pk lt)
  (hp:∀v∈vs,Pk (v,v))
  (h:∀(out:List Value) (h':Heap) (n':Nat),out.Perm vs->out.Pairwise (λx y=>lt (y,y) (x,x)=false)->(∀b o,s.heap.get? b=some o->h'.get? b=some o) ->
   h'.get? (s.heap.objs.size+1)=some (jx "list" out.toArray n')->Q (.ref (s.heap.objs.size+1)) { s with heap:=h' }) :
  iS (iQ prog w) A (call (.builtin "sorted") [.ref l]) Q E s:=by
 refine Calls.call_function_entry kind_sorted plain_sorted entry_sorted (args_sorted1 _) ?_;unfold Builtin.«sorted»;refine iT (m:=checkCount "sorted" 1 1 _) (jd ?_);refine iT (collect_list hl ?_ hs);refine iT (wpAny_newList ?_);have hsz:((s.heap.push (jx "list" #[] 0)).update s.heap.objs.size (Obj.mapSeq (· ++ vs.toArray))).objs.size=s.heap.objs.size+1:=by
  rw[dE,size_push']
 have hoL:(((s.heap.push (jx "list" #[] 0)).update s.heap.objs.size (Obj.mapSeq (· ++ vs.toArray))).push (jx "list" vs.toArray 0)).get? (s.heap.objs.size+1)=some (jx "list" vs.toArray 0):=by
  rw[←hsz];exact bb _ rfl
 show iS _ _ _ _ _ { s with heap:=((s.heap.push (jx "list" #[] 0)).update s.heap.objs.size (Obj.mapSeq (· ++ vs.toArray))).push (jx "list" vs.toArray 0) }
 rw[hsz];generalize hG:((s.heap.push (jx "list" #[] 0)).update s.heap.objs.size (Obj.mapSeq (· ++ vs.toArray))).push (jx "list" vs.toArray 0)=G at hoL ⊢;have k1:∀b o,s.heap.get? b=some o->G.get? b=some o:=λb o e=>by
  rw[←hG];refine ae _ ?_;rw[dk _ _ _ _ (aF (aj e))];exact ae _ e
 have k2:∀b o,s.heap.get? b=some o->(xN G (s.heap.objs.size+1) vs).get? b=some o:=λb o e=>by
  refine ae _ (ae _ ?_);rw[dk _ _ _ _ (aF (cj (aj e)))];exact k1 b o e
 obtain⟨q1,q2⟩:=hC { s with heap:=xN G (s.heap.objs.size+1) vs } k2
 refine iT (kF (wpAny_call_entry slot_list_sort ⟨_,hoL,rfl⟩ entry_list_sort (Gz (Pk:=Pk) (lt:=lt) hoL hs q1 q2 (λx hx=>?_) λxs a1 a2=>⟨_,rfl,?_⟩) (args_list_sort _)))
 .obtain ⟨m1,m2⟩:=A0 hx;have:x=(x.1,x.1):=iC rfl m2;rw[this];exact hp _ m1
 .obtain ⟨v1,v2⟩:=Js a1 a2;obtain⟨e1,ho1⟩:=WJ vs hoL;obtain⟨n1,g1⟩:=Wf (xs.map (·.2)) ho1;refine jd ⟨_,rfl,h _ (sortedHeap G (s.heap.objs.size+1) vs (xs.map (·.2))) n1 v1 v2 (λb o e=>?_) ?_⟩
  .unfold sortedHeap;rw[dk _ _ _ _ (aF (cj (aj e)))];exact k2 b o e
  .rw [show (xs.map (·.2)).toList.toArray=xs.map (·.2) from Array.toArray_toList]
   exact g1
end
end MrS
namespace HT
open PySem PyProof.Rows
section
open PySem.SeqAt
open PySem.AutoSeq1 (wpAny_loadPart')
open PySem.MeetsSeq PySem.MeetsSeq2 PySem.MeetsSeq3 PySem.SeqRoads2
def Ku{vs:List Value}{ns:List Int}(h:jz vs ns):∀{i:Nat}(hi:i<vs.length),∃(z:Int) (t:Tok),vs[i] = .int z t/\ns.drop i=z::ns.drop (i+1):=by
 induction h with
 |nil=>intro i hi;exact absurd hi (cS _)
 |cons a t _ ih =>
  intro i hi;cases i with
  |zero=>exact⟨a,t,rfl,rfl⟩
  |succ i=>exact ih (i:=i) (by simpa using hi)
def HL(l b:Addr) (items items2:Array Value) (n n2:Nat) (dd dd2:Option Addr) (sl sl2:Array (Option Value)) (ns ms:List Int) (hi:jz items.toList ns) (hj:jz items2.toList ms) (k:Nat) :
  ∀i:Nat,min items.size items2.size-i=k->i<=items.size->i<=items2.size->Meets (Builtin.«list.__eq__.loop» ⟨[.ref l,.ref b,kr i,kr 0],[]⟩)
   (λ_ R s=>s.heap.get? l=some { cls:=.type "list", dict:=dd,data:=.seq items n,slots:=sl }/\s.heap.get? b=some { cls:=.type "list", dict:=dd2,data:=.seq items2 n2,slots:=sl2 } /\
    R (.ok (.ret (.bool (tR (ns.drop i) (ms.drop i))))) s):=by
 have z1:ns.length=items.size:=by rw[←hi.length];simp
 have z2:ms.length=items2.size:=by rw[←hj.length];simp
 induction k with
 |zero =>
  intro i hk h1 h2 prog w A R s h;obtain⟨hp,g,d,tk,os⟩:=s;obtain⟨hl,hb,h⟩:=h
  wp_walk using wpAny_loadPart' hl,wpAny_loadPart' hb
  have fin:tR (ns.drop i) (ms.drop i)=decide (items.size<items2.size):=by
   by_cases c:i=items.size
   .have e1:ns.drop i=[]:=bT (by lia)
    rw[e1]
    by_cases c2:i<items2.size
    .rw [aL (by lia:i<ms.length),FS]
     exact(decide_eq_true (by lia)).symm
    .rw [bT (by lia:ms.length<=i),Gu]
     exact(decide_eq_false (by lia)).symm
   .have c2:i=items2.size:=by lia
    rw[aL (by lia:i<ns.length),bT (by lia:ms.length<=i),Fg]
    exact(decide_eq_false (by lia)).symm
  rw[fin]at h
  by_cases c:i=items.size
  .have UL:items[((i:Nat):Int).toNat]?=none:=by simp;lia
   rw[UL]
   wp_walk using wpAny_loadPart' hl,wpAny_loadPart' hb
   exact h
  .have c2:i=items2.size:=by lia
   have UL:items[((i:Nat):Int).toNat]?=some (items[i]'(by lia)):=by simp
   have hi2:items2[((i:Nat):Int).toNat]?=none:=by simp;lia
   rw[UL,hi2]
   wp_walk using wpAny_loadPart' hl,wpAny_loadPart' hb
   exact h
 |succ k ih =>
  intro i hk h1 h2 prog w A R s h;obtain⟨hp,g,d,tk,os⟩:=s;obtain⟨hl,hb,h⟩:=h
  wp_walk using wpAny_loadPart' hl,wpAny_loadPart' hb
  have hlt:i<items.size:=by lia
  have hlt2:i<items2.size:=by lia
  obtain⟨x,t,ex,dx⟩:=Ku hi (i:=i) (by simpa using hlt)
  obtain⟨y,u,ey,dy⟩:=Ku hj (i:=i) (by simpa using hlt2)
  have UL:items[((i:Nat):Int).toNat]?=some (.int x t):=by
   rw[←ex];simp[hlt]
  have hi2:items2[((i:Nat):Int).toNat]?=some (.int y u):=by
   rw[←ey];simp[hlt2]
  have hc:((i:Int)+1)=((i+1:Nat):Int):=by push_cast;rfl
  rw[dx,dy,zI]at h;rw[UL,hi2];obtain⟨e,he,hiff⟩:=Rh A.in1 ⟨hp,g,d,tk,os⟩ x t y u;refine iT (he prog w _ _ ?_);cases e with
  |true =>
   rw[oJ (hiff.mp rfl)]at h
   wp_walk
   rw[hc];exact⟨plainId_quiet plain_eq_loop _,kT entry_eq_loop (by
    rw[Around.under_plainId plain_eq_loop _];exact ih (i+1) (by lia) (by lia) (by lia) prog w A R _ ⟨hl,hb,h⟩)⟩
  |false =>
   rw[oO (λq=>absurd (hiff.mpr q) ay)]at h
   have hri:=Ru A.in1 ⟨hp,g,d,tk,os⟩ x t y u prog w
   wp_walk using wpAny_loadPart' hl,wpAny_loadPart' hb
   rw[UL,hi2]
   wp_walk using hri
   exact h
def HI(l b:Addr) (items items2:Array Value) (n n2:Nat) (dd dd2:Option Addr) (sl sl2:Array (Option Value)) (ns ms:List Int) (hi:jz items.toList ns) (hj:jz items2.toList ms) :
  Meets (Builtin.«list.__lt__» ⟨[.ref l,.ref b],[]⟩)
   (λ_ R s=>s.heap.get? l=some { cls:=.type "list", dict:=dd,data:=.seq items n,slots:=sl }/\s.heap.get? b=some { cls:=.type "list", dict:=dd2,data:=.seq items2 n2,slots:=sl2 } /\
    R (.ok (.ret (.bool (tR ns ms)))) s):=by
 intro prog w A R s h;obtain⟨hp,g,d,tk,os⟩:=s;obtain⟨hl,hb,h⟩:=h;have f3:=AutoSeq1.sub_list_list
 wp_walk using wpAny_loadPart' hl,wpAny_loadPart' hb
 exact⟨plainId_quiet plain_eq_loop _,kT entry_eq_loop (by
  rw[Around.under_plainId plain_eq_loop _];exact HL l b items items2 n n2 dd dd2 sl sl2 ns ms hi hj _ 0 rfl (aV _) (aV _) prog w A R _ ⟨hl,hb,h⟩)⟩
end
end HT
namespace Mr
open PySem PySem.Spec PyProof.Rows L2
section
open HT
theorem FZ:∀xs ys:List Int,tR xs ys=true->tR ys xs=false
 | [],[],_=>rfl
 | [],_::_,_=>rfl
 |_::_,[],h=>by cases h
 |x::xs,y::ys,h=>by
  rw[zI]at h ⊢
  by_cases e:x=y
  .rw [oJ e]at h;rw[oJ e.symm];exact FZ xs ys h
  .rw [oO e]at h;rw[oO (Ne.symm e)];have h':x<y:=of_decide_eq_true h;exact decide_eq_false (by lia)
theorem DB:∀xs ys zs:List Int,tR ys xs=false->tR zs ys=false->tR zs xs=false
 | [],[],[],_,_=>rfl
 | [],[],_::_,_,h=>by exact h
 | [],_::_,[],_,h=>by cases h
 | [],_::_,_::_,_,_=>rfl
 |_::_,[],_,h,_=>by cases h
 |_::_,_::_,[],_,h=>by cases h
 |x::xs,y::ys,z::zs,h1,h2=>by
  rw[zI]at h1 h2 ⊢
  by_cases e1:y=x
  .rw [oJ e1]at h1;subst e1
   by_cases e2:z=y
   .rw [oJ e2]at h2 ⊢;exact DB xs ys zs h1 h2
   .rw [oO e2]at h2 ⊢;exact h2
  .rw [oO e1]at h1;have h1':¬ y<x:=of_decide_eq_false h1
   by_cases e2:z=y
   .rw [oO (by lia)]
    exact decide_eq_false (by lia)
   .rw [oO e2]at h2;have h2':¬ z<y:=of_decide_eq_false h2;rw[oO (by lia)]
    exact decide_eq_false (by lia)
theorem JZ:∀xs ys:List Int,tR xs ys=false->tR ys xs=false->xs=ys
 | [],[],_,_=>rfl
 | [],_::_,h,_=>by cases h
 |_::_,[],_,h=>by cases h
 |x::xs,y::ys,h1,h2=>by
  rw[zI]at h1 h2
  by_cases e:x=y
  .rw [oJ e]at h1;rw[oJ e.symm]at h2;rw[e,JZ xs ys h1 h2]
  .rw [oO e]at h1;rw[oO (Ne.symm e)]at h2;have h1':¬ x<y:=of_decide_eq_false h1;have h2':¬ y<x:=of_decide_eq_false h2;lia
def US(x y:List Int):Bool:=!HT.tR y x
def O6(x y z:List Int) (h1:US x y=true) (h2:US y z=true):US x z=true:=by
 unfold US at *;simp only[gQ]at *;exact DB x y z h1 h2
def PJ(x y:List Int):(US x y || US y x)=true:=by
 unfold US;cases h:HT.tR y x with
 |false=>rfl
 |true=>rw[FZ y x h];rfl
def yl(rs:List (List Int)):List (List Int):=rs.mergeSort US
def vb(rs:List (List Int)):(yl rs).Perm rs:=gC _ _
def BU(rs:List (List Int)):(yl rs).Pairwise (λx y=>HT.tR y x=false):=by
 refine(fK O6 PJ rs).imp λ{a b} h=>?_
 unfold US at h;simpa using h
def Gv:∀{xs ys:List (List Int)},xs.Perm ys->xs.Pairwise (λx y=>HT.tR y x=false)->ys.Pairwise (λx y=>HT.tR y x=false)->xs=ys
 |xs,ys,hp,h1,h2=>bG.eq_of_pairwise (λa b _ _ e1 e2=>(JZ b a e1 e2).symm) h1 h2 hp
def L3{xs rs:List (List Int)}(hp:xs.Perm rs) (h:xs.Pairwise (λx y=>HT.tR y x=false)):xs=yl rs :=
 Gv (hp.trans (vb rs).symm) h (BU rs)
def Hu{rs ts:List (List Int)}(hp:rs.Perm ts):yl rs=yl ts:=L3 ((vb rs).trans hp) (BU rs)
def xC(rs:List (List Int)):(yl rs).length=rs.length:=(vb rs).length_eq
def By(ns:List Int):List Int:=ns.mergeSort (λx y=>decide (x<=y))
def DV(ns:List Int):(By ns).Perm ns:=gC _ _
def Ki(ns:List Int):(By ns).Pairwise (·<=·):=by
 refine(fK (le:=λx y=>decide (x<=y)) (λa b c h1 h2=>?_) (λa b=>?_) ns).imp λ{a b} h=>by simpa using h
 .simp only [decide_eq_true_eq]at *;lia
 .simp only [Bool.or_eq_true,decide_eq_true_eq];lia
def Vt{xs ns:List Int}(hp:xs.Perm ns) (h:xs.Pairwise (·<=·)):xs=By ns :=
 bG.eq_of_pairwise (λa b _ _ e1 e2=>Int.le_antisymm e1 e2) h (Ki ns) (hp.trans (DV ns).symm)
end
def qW(H:Hp) (ps:List Addr) (rs:List (List Int)):Prop:=ps.map H=rs.map (λr=>some (HO.lst (r.map V.int)))
def qW.nil{H:Hp}:qW H [] []:=rfl
theorem qW.length{H:Hp}{ps:List Addr}{rs:List (List Int)}(h:qW H ps rs):ps.length=rs.length:=by
 have:=congrArg cu h;simpa using this
def qW.cons_iff{H:Hp}{ps:List Addr}{rs:List (List Int)}{p:Addr}{r:List Int}:qW H (p::ps) (r::rs)↔H p=some (.lst (r.map V.int))/\qW H ps rs:=by
 unfold qW;rw[aw,aw,iu.injEq]
def qW.get{H:Hp}{ps:List Addr}{rs:List (List Int)}(h:qW H ps rs) {i:Nat}{p:Addr}(e:ps[i]?=some p):∃r,rs[i]?=some r/\H p=some (.lst (r.map V.int)):=by
 have:=congrArg (λl=>l[i]?) h
 simp only[gMq,e,cT]at this;cases er:rs[i]? with
 |none=>rw[er]at this;cases this
 |some r=>rw[er]at this;exact⟨r,rfl,aS.inj this⟩
def qW.mem{H:Hp}{ps:List Addr}{rs:List (List Int)}(h:qW H ps rs) {p:Addr}(hp:p∈ps):∃r,r∈rs/\H p=some (.lst (r.map V.int)):=by
 obtain⟨i,hi⟩:=List.getElem?_of_mem hp;obtain⟨r,er,e⟩:=h.get hi;exact⟨r,mGq er,e⟩
def qW.keep{H H':Hp}{ps:List Addr}{rs:List (List Int)}(h:qW H ps rs) (k:∀p∈ps,H' p=H p):qW H' ps rs:=by
 unfold qW at *;rw[←h];exact mCq k
def qW.same{H H':Hp}{ps:List Addr}{rs:List (List Int)}(h:qW H ps rs) (s:oX H H'):qW H' ps rs :=
 h.keep λp hp=>by
  obtain⟨r,_,e⟩:=h.mem hp;rw[s _ _ e,e]
noncomputable def toI:V->Int
 | .int i=>i
 |_=>0
def uq(H:Hp) (p:Addr):List Int:=match H p with
 |some (.lst xs)=>xs.map toI
 |_=>[]
def KS{H:Hp}{p:Addr}{r:List Int}(h:H p=some (.lst (r.map V.int))):uq H p=r:=by
 unfold uq;rw[h];simp only[mPq];exact List.map_id'' (λ_=>rfl) r
def qW.fn{H:Hp}{ps:List Addr}{rs:List (List Int)}(h:qW H ps rs):rs=ps.map (uq H):=by
 induction rs generalizing ps with
 |nil =>
  have:=h.length;have:ps=[]:=cA.mp this;rw[this];rfl
 |cons r rs ih =>
  cases ps with
  |nil=>have:=h.length;simp at this
  |cons p ps =>
   obtain⟨h1,h2⟩:=qW.cons_iff.mp h;rw[aw,←ih h2,KS h1]
def qW.fn_row{H:Hp}{ps:List Addr}{rs:List (List Int)}(h:qW H ps rs) {p:Addr}(hp:p∈ps):H p=some (.lst ((uq H p).map V.int)):=by
 obtain⟨r,_,e⟩:=h.mem hp;rw[KS e];exact e
def qW.of_fn{H:Hp}{ps:List Addr}(h:∀p∈ps,H p=some (.lst ((uq H p).map V.int))):qW H ps (ps.map (uq H)):=by
 unfold qW;rw[mPq];exact mCq h
def qW.perm{H:Hp}{ps qs:List Addr}{rs:List (List Int)}(h:qW H ps rs) (hp:qs.Perm ps):∃ts,qW H qs ts/\ts.Perm rs/\ts=qs.map (uq H) :=
 ⟨_,qW.of_fn λp m=>h.fn_row (hp.mem_iff.mp m),by rw[h.fn];exact hp.map _,rfl⟩
def qW.free{H H':Hp}{ps:List Addr}{rs:List (List Int)}(h:qW H' ps rs) {q:Addr}(n:H' q=none):q∉ps:=λm=>by
 obtain⟨r,_,e⟩:=h.mem m;rw[n]at e;cases e
theorem yR:∀{ps:List Addr}{vs:List Value},oV (ps.map V.ref) vs->vs=ps.map ai
 | [],vs,r=>by cases r;rfl
 |p::ps,vs,r=>by
  rw[aw]at r;cases r with
  |cons h1 h2 =>
   have e:_=ai p:=h1;rw[e,yR h2];rfl
theorem GY:∀(ps:List Addr),oV (ps.map V.ref) (ps.map ai)
 | []=>.nil
 |p::ps=>.cons rfl (GY ps)
def xy:Value->Addr
 | .ref p=>p
 |_=>0
def intOf:Value->Int
 | .int i _=>i
 |_=>0
def VA{vs:List Value}{ns:List Int}(h:jz vs ns):ns=vs.map intOf/\∀v∈vs,∃a t,v = .int a t:=by
 induction h with
 |nil=>exact⟨rfl,λv hv=>by cases hv⟩
 |cons a t _ ih =>
  refine⟨by rw[aw,←ih.1];rfl,λv hv=>?_⟩
  rcases ak.mp hv with rfl|hv
  .exact ⟨a,t,rfl⟩
  .exact ih.2 v hv
theorem vals_ints:∀{vs:List Value},(∀v∈vs,∃a t,v = .int a t)->oV ((vs.map intOf).map V.int) vs
 | [],_=>.nil
 |v::vs,h=>by
  obtain⟨a,t,rfl⟩:=h _ (bo ..);exact .cons ⟨t,rfl⟩ (vals_ints λv hv=>h v (mCo _ hv))
def Vk{M:jQ}{A:Around}{E:Value->iM->Prop}{s:iM}{vs:List Value}{T:String}{Q:jy->iM->Prop}(h2:2<=vs.length) (hT:∀v∈vs,W.Looks M s.heap (typeOf v) (.type T)) (hT1:(dg T != dg "tuple")=true) (hT2:(dg T == dg T)=true) (h:Q ka s) :
  iS M A (keyKind' vs.toArray) Q E s:=W.kas_kind h2 hT hT1 hT2 h
noncomputable def ltI(x y:iO):Bool:=match x.1,y.1 with
 | .int a _,.int b _=>decide (a<b)
 |_,_=>false
def adH(prog:iW) (w:iZ) (A:Around) (s:iM):MrS.Bz prog w A s ka (λx=>∃a t,x.1 = .int a t) ltI where
 ask:=by
  rintro⟨_,x⟩ ⟨_,y⟩ ⟨a,t,e1⟩ ⟨b,u,e2⟩ E Q q;dsimp only at e1 e2;subst e1 e2;rw[keyLt'_oneType];exact oneLt_int q
 asym:=by
  rintro⟨_,x⟩ ⟨_,y⟩ ⟨a,t,e1⟩ ⟨b,u,e2⟩ h;dsimp only at e1 e2;subst e1 e2;have h':a<b:=of_decide_eq_true h;exact decide_eq_false (by lia)
 trans:=by
  rintro⟨_,x⟩ ⟨_,y⟩ ⟨_,z⟩ ⟨a,t,e1⟩ ⟨b,u,e2⟩ ⟨c,v,e3⟩ h1 h2;dsimp only at e1 e2 e3;subst e1 e2 e3;have h1':¬ b<a:=of_decide_eq_false h1;have h2':¬ c<b:=of_decide_eq_false h2;exact decide_eq_false (by lia)
def ltR(r:Addr->List Int) (x y:iO):Bool:=match x.1,y.1 with
 | .ref p,.ref q=>HT.tR (r p) (r q)
 |_,_=>false
def adF{prog:iW}{w:iZ}{A:Around}{s:iM}{ps:List Addr}{r:Addr->List Int}(hu:A.units<jB)
  (h:∀p∈ps,∃vs:List Value,PlainL s.heap p vs.toArray/\jz vs (r p)):MrS.Bz prog w A s ka (λx=>∃p,x.1 = .ref p/\p∈ps) (ltR r) where
 ask:=by
  rintro⟨_,x⟩ ⟨_,y⟩ ⟨p,e1,hp⟩ ⟨q,e2,hq⟩ E Q k;dsimp only at e1 e2;subst e1 e2;obtain⟨vs,⟨o,n,ho,hc,hd0,hd⟩,hi⟩:=h p hp;obtain⟨ws,⟨o2,n2,ho2,hc2,hd02,hd2⟩,hj⟩:=h q hq;obtain⟨cls,dd,data,sl⟩:=o;obtain⟨cls2,dd2,data2,sl2⟩:=o2;simp only at hc hd0 hd hc2 hd02 hd2;subst hc hd0 hd hc2 hd02 hd2;rw[keyLt'_oneType,oneLt'_eq];simp only[if_true];refine iT (wpAny_cRoomFor hu ?_);refine iT (wpAny_callSpecialIfBound?_slot ⟨_,ho,rfl⟩ F.slot_list_lt (jH F.slot_list_lt ⟨_,ho,rfl⟩ F.entry_list_lt (F.args_list_lt_2 _ _)
   (HT.HI p q vs.toArray ws.toArray n n2 none none sl sl2 (r p) (r q) (by simpa using hi) (by simpa using hj)) ⟨ho,ho2,?_⟩))
  exact jt k
 asym:=by
  rintro⟨_,x⟩ ⟨_,y⟩ ⟨a,e1,_⟩ ⟨b,e2,_⟩ h;dsimp only at e1 e2;subst e1 e2;exact FZ _ _ h
 trans:=by
  rintro⟨_,x⟩ ⟨_,y⟩ ⟨_,z⟩ ⟨a,e1,_⟩ ⟨b,e2,_⟩ ⟨c,e3,_⟩ h1 h2;dsimp only at e1 e2 e3;subst e1 e2 e3;exact DB _ _ _ h1 h2
section
variable {X:Cx}
def Jf:tj X (.builtin "sorted") (λxs H Q=>∃(a:Addr) (ns:List Int),xs=[.ref a]/\rR X.K H a (ns.map V.int)/\∀p,H p=none->Q (.ref p) (pY H p (.lst ((By ns).map V.int)))):=by
 intro mZ s σ H xs us Q I r h;obtain⟨a,ns,rfl,hS,q⟩:=h;obtain⟨u,rfl,ru⟩:=Cp r;cases ru;obtain⟨vs,hl,hi,hz⟩:=xp I hS;obtain⟨en,hv⟩:=VA hi;have hlen:=hi.length;refine MrS.FN (Pk:=λx=>∃a t,x.1 = .int a t) (lt:=ltI) hl (by lia) (λs' _=>⟨λh2 Q q=>?_,adH _ _ _ _⟩) (λv m=>hv v m) λout h' n' o1 o2 o3 o4=>?_
 .match vs,hi,h2 with
  | [],_,h2=>simp at h2
  | [_],_,h2=>simp at h2
  |v₁::v₂::rest,hi,_ =>
   rw[keyKind_ints hi];exact jd q
 .have ho:∀v∈out,∃a t,v = .int a t:=λv m=>hv v (o1.mem_iff.mp m)
  have e:out.map intOf=By ns:=by
   refine Vt (by rw[en];exact o1.map _) ?_
   rw[bI];refine o2.imp_of_mem λ{x y} mx my h=>?_
   obtain⟨a,t,rfl⟩:=ho x mx;obtain⟨b,u,rfl⟩:=ho y my;have h':¬ b<a:=of_decide_eq_false h;show a<=b;lia
  have hp:H (s.heap.objs.size+1)=none:=I.hok.fresh (bR _);refine⟨.ref (s.heap.objs.size+1),_,I.laid (t':=s.toks) o3 (bR _) (show qJ X.prog X.w _ h' _ (.lst ((By ns).map V.int)) from ⟨?_,out,n',?_,o4⟩),rfl,q _ hp⟩
  .rw [lMq,(DV ns).length_eq];exact hz
  .rw [←e];exact vals_ints ho
def Dq(hu:X.A.units+64<jB):tj X (.builtin "sorted") (λxs H Q=>∃(a:Addr) (ps:List Addr) (rs:List (List Int)),xs=[.ref a]/\rR X.K H a (ps.map V.ref)/\qW H ps rs /\
  ∀p qs,H p=none->qs.Perm ps->qW (pY H p (.lst (qs.map V.ref))) qs (yl rs)->Q (.ref p) (pY H p (.lst (qs.map V.ref)))):=by
 intro mZ s σ H xs us Q I r h;obtain⟨a,ps,rs,rfl,hS,hE,q⟩:=h;obtain⟨u,rfl,ru⟩:=Cp r;cases ru;obtain⟨its,rv,hl,hz⟩:=I.list hS;have ei:=yR rv;subst ei;have hrow:∀p∈ps,∃vs:List Value,PlainL s.heap p vs.toArray/\jz vs (uq H p):=λp hp=>by
  obtain⟨its,rv,pl,_⟩:=I.list (rR.of (hE.fn_row hp));exact⟨its,pl,B7 rv⟩
 have keepL:∀(s':iM),(∀b o,s.heap.get? b=some o->s'.heap.get? b=some o)->∀p∈ps,∃vs:List Value,PlainL s'.heap p vs.toArray/\jz vs (uq H p):=λs' k p hp=>by
  obtain⟨vs,⟨o,n,ho,rest⟩,hi⟩:=hrow p hp;exact⟨vs,⟨o,n,k _ _ ho,rest⟩,hi⟩
 refine MrS.FN (Pk:=λx=>∃p,x.1 = .ref p/\p∈ps) (lt:=ltR (uq H)) hl.isList (by simpa using hz) (λs' k=>⟨λh2 Q q=>?_,adF (by show X.A.units+1+1<jB;lia) (keepL s' k)⟩) (λv m=>?_) λout h' n' o1 o2 o3 o4=>?_
 .refine Vk (T := "list") h2 (λv hv=>?_) (by rfl) (by rfl) q
  obtain⟨p,hp,rfl⟩:=mMq.mp hv;obtain⟨vs,pl,_⟩:=keepL s' k p hp;intro A Q E s2 k2 q2;obtain⟨o,ho,hc,_⟩:=pl.isList;exact wpAny_typeOf (T := "list") ⟨o,k2 _ _ ho,hc⟩ q2
 .obtain ⟨p,hp,rfl⟩:=mMq.mp m;exact⟨p,rfl,hp⟩
 .have ho:∀v∈out,∃p∈ps,v = .ref p:=λv m=>by
   obtain⟨p,hp,rfl⟩:=mMq.mp (o1.mem_iff.mp m);exact⟨p,hp,rfl⟩
  have eo:out=(out.map xy).map ai:=by
   rw[mPq];have e:=mCq (l:=out) (f:=id) (g:=ai∘xy) λv hv=>by
    obtain⟨p,_,rfl⟩:=ho v hv;rfl
   rw[←e,fh]
  have hq:(out.map xy).Perm ps:=by
   have:=o1.map xy;rw[mPq,show xy∘ai=id from rfl,fh]at this
   exact this
  have hp:H (s.heap.objs.size+1)=none:=I.hok.fresh (bR _);generalize out.map xy=qs at eo hq;obtain⟨ts,e1,e2,e3⟩:=hE.perm hq;have es:ts=yl rs:=by
   refine L3 e2 ?_;rw[e3,bI];rw[eo,bI]at o2;exact o2
  refine⟨.ref (s.heap.objs.size+1),_,I.laid (t':=s.toks) o3 (bR _) (show qJ X.prog X.w _ h' _ (.lst (qs.map V.ref)) from ⟨?_,out,n',?_,o4⟩),rfl,q _ qs hp hq (by rw[←es];exact e1.same (rh hp))⟩
  .rw [lMq,hq.length_eq];simpa using hz
  .rw [eo];exact GY qs
noncomputable def xG(r:List Int):PyData:=.list (r.map PyData.int)
def CA(rs:List (List Int)):PyData:=.list (rs.map xG)
def PZ{mZ:List (Addr×Obj)}{σ:St}{H:Hp}{s:iM}{p:Addr}{r:List Int}(I:Inv X mZ σ H s) (h:H p=some (.lst (r.map V.int))):Reads s.heap (.ref p) (xG r) [p]:=by
 obtain⟨vs,hl,hi,_⟩:=xp I (rR.of h);exact W.reads_of_ints hl hi
theorem D7:∀rs:List (List Int),PyData.canLayAll0 (rs.map xG)=true
 | []=>by simp[PyData.canLayAll0]
 |r::rs=>by simp[PyData.canLayAll0,xG,PyData.canLay0,W.canLayAll0_ints r,D7 rs]
theorem EW:∀rs:List (List Int),PyData.depthAll (rs.map xG)<=3
 | []=>by simp[PyData.depthAll]
 |r::rs=>by
  have h1:=EW rs;have h2:=W.depthAll_ints r;simp only[aw,PyData.depthAll,xG,PyData.depth];lia
def D2(rs:List (List Int)):SeqAt.shaped (CA rs)=true:=by
 have h1:=EW rs;have h2:PyData.depth (CA rs)<=64:=by simp only[CA,PyData.depth];lia
 show (PyData.canLay0 (CA rs) && decide (PyData.depth (CA rs)<=64))=true;rw[cE];exact⟨by simp only[CA,PyData.canLay0];exact D7 rs,decide_eq_true h2⟩
theorem Fq:∀rs ts:List (List Int),SeqAt.noMixAll (rs.map xG) (ts.map xG)=true
 | [],[]=>by simp[SeqAt.noMixAll]
 | [],_::_=>by simp[SeqAt.noMixAll]
 |_::_,[]=>by simp[SeqAt.noMixAll]
 |r::rs,t::ts=>by simp[SeqAt.noMixAll,xG,SeqAt.noMix,W.noMix_ints r t,Fq rs ts]
theorem Hm:∀rs ts:List (List Int),PySem.Spec.sameAll (rs.map xG) (ts.map xG)=decide (rs=ts)
 | [],[]=>by simp[PySem.Spec.sameAll]
 | [],_::_=>by simp[PySem.Spec.sameAll]
 |_::_,[]=>by simp[PySem.Spec.sameAll]
 |r::rs,t::ts=>by
  simp only[aw,PySem.Spec.sameAll,xG,PySem.Spec.same,W.same_ints r t];rw[Hm rs ts]
  by_cases h:r=t <;> simp[h]
def Sl:V->List V->Hp->VK->Prop:=λx vs H Q=>∃(a b:Addr) (ps:List Addr) (rs:List (List Int)) (r:List Int),x = .ref a/\vs=[.ref b]/\H a=some (.lst (ps.map V.ref))/\qW H ps rs/\H b=some (.lst (r.map V.int))/\b∉ps/\Q (.int (rs.countP (·=r):Nat)) H
def Uv(hu:X.A.units+65<jB):MtR X "list.count" Sl:=by
 intro mZ s σ H x xs v us Q I rx r h;obtain⟨a,b,ps,rs,row,rfl,rfl,h1,e1,h2,nb,q⟩:=h;cases rx;obtain⟨u,rfl,ru⟩:=Cp r;cases ru;obtain⟨its,rv,⟨o,n,ho,hc,hd0,hd⟩,hz⟩:=I.list (rR.of h1);have ei:=yR rv;subst ei;obtain⟨cls,dd,data,sl⟩:=o;simp only at hc hd0 hd;subst hc hd0 hd;have hr:=PZ I h2;refine jH fL ⟨_,ho,rfl⟩ PySem.F.entry_list_count (PySem.F.args_list_count_2 _ _)
  (SeqAt.list_countAt a (ps.map ai).toArray n none sl (.ref b) (λy=>decide (uq H (xy y)=row))) ⟨ho,λy hy=>?_,?_⟩
 .obtain ⟨p,hp,rfl⟩:=mMq.mp (show y∈ps.map ai by simpa using hy)
  refine SeqAt.EqAt.of_refs (λe=>nb (e ▸ hp)) λprog w E Q hq=>?_
  obtain⟨vs,hl,hi,_⟩:=xp I (rR.of (e1.fn_row hp));obtain⟨ws,hl2,hi2,_⟩:=xp I (rR.of h2);exact W.eq_intsK (prog:=prog) (w:=w) (A:=X.A.in1) hl hi hl2 hi2 (by show X.A.units+1+64<jB;lia) hq
 .refine ⟨.int _,H,I.tok _,⟨_,rfl⟩,?_⟩;have e:(ps.map ai).toArray.toList.countP (λy=>decide (uq H (xy y)=row))=rs.countP (·=row):=by
   rw[List.toList_toArray,e1.fn,hW,hW];rfl
  rw[e];exact q
end
end Mr
namespace Mr
open PySem L2
structure Bt (mg:Str->Option Value):Prop where
 len:mg "len" = none
 min:mg "min" = none
 max:mg "max" = none
 abs:mg "abs" = none
 all:mg "all" = none
 sorted:mg "sorted" = none
 isi:mg "isinstance" = none
 list:mg "list" = none
 int:mg "int" = none
 bool:mg "bool" = none
 str:mg "str" = none
 dict:mg "dict" = none
 zip:mg "zip" = none
 enum:mg "enumerate" = none
 range:mg "range" = none
 reversed:mg "reversed" = none
structure Fn (P:iW) (w:iZ) (K:W.Frag) (mg:Str->Option Value) (base:Heap) (k:Nat) (x:Str) (st:Stmt) (ps:List Str) (sp:Sp) (f:Addr) (fd:jb):Prop where
 D:xP K mg x st ps f fd
 ok:wX P w K mg base O0 k f fd ps sp
def si.units65{k:Nat}{A:Around}(r:si k A):A.units+65<jB:=by have:=r.un;lia
section
variable {X:Cx}{k:Nat}{f:Addr}{fd:jb}{ps:List Str}{sp:Sp}{x:Str}{p pos:Pos}{e:Expr}{es:List Expr}{t:TA}{st:Stmt}
def oN(G:Fn X.prog X.w X.K X.mg X.base k x st ps sp f fd) (hr:si k X.A) (ha:PA X (e::es) t) (hg:Gl X x:=by rfl) (hdb:(x == ("__debug__" : Str))=false:=by decide)
  (he:iY (e::es) X.env=(false,eval e X.env)::iY es X.env:=by rfl) (hpl:(jl pos (iY es X.env)).any (·.1)=false:=by rfl) :
  PE X (.Call (.Name x p) (e::es) [] pos) (wk sp [] E0 t):=ND G.ok hr hg G.D.m G.D.F.kp G.D.b .nil M1 ha hdb he hpl
end
section
variable (K:W.Frag)
noncomputable def M3:Sp:=λvs H Q _=>∃(a:Addr) (ns:List Int),vs=[.ref a]/\rR K H a (ns.map V.int)/\ns.length<=63/\∀H',Q (.bl true) H'
end
def qX{α:Type}{l:List α}{i:Nat}{x:α}(h:l[i]?=some x):l.take (i+1)=l.take i++[x]:=by
 rw[cW,h];rfl
end Mr
namespace Xe
open PySem PySem.Spec PySem.W PyProof.Rows L2 Mr
abbrev St:=L2.St
abbrev Zp(K:Frag) (C:Addr):Bool:=findIn K (.ref C) "__setattr__" == some (some (.builtin "object.__setattr__")) && findIn K (.ref C) "__getattribute__" == some (some (.builtin "BaseException.__getattribute__")) &&
 findIn K (.ref C) "__getattr__" == some none && findIn K (.ref C) "__class__" == some (some (.builtin "object.__class__"))
def yj(K:Frag) (c:Str) (C:Addr) (bm:List Value):Bool:=match K.lookup C with
 |some ⟨.type "type", _,.cls cd,sl⟩=>(match sl.toList with
  | [_,_,_,_,some (.builtin n),_]=>cd.name == c && cd.mro == .ref C::bm && n == "ValueError.__new__" && !cd.hasDel && cd.hasDict && tailIn K xE bm
  |_=>false)
 |_=>false
structure XC (K:Frag) (c:Str) (C:Addr) (bm:List Value):Prop where
 obj:∃N q bs sn sub ab col dd k0 k1 k2 k3 k5,K.lookup C=some (jh c q C N bs bm true sn sub ab col dd k0 k1 k2 k3 k5 "ValueError.__new__")
 cls:∃cd,clsIn K C=some cd/\cd.mro = .ref C::bm/\cd.name=c
 tail:∀h:Heap,K.In h->ju h xE bm
def xg{K:Frag}{c:Str}{C:Addr}{bm:List Value}(e:yj K c C bm=true):XC K c C bm:=by
 unfold yj at e;split at e
 .rename_i dd cd sl ho;split at e
  .rename_i k0 k1 k2 k3 n k5 hs;simp only[cE,beq_iff_eq,gQ]at e;obtain⟨⟨⟨⟨⟨e1,e2⟩,e3⟩,hdel⟩,hdc⟩,ht⟩:=e;have hc:clsIn K C=some cd:=by unfold clsIn;rw[ho]
   obtain⟨nm,bs,mro,ns,qn,hd,sn,sub,ab,col,del⟩:=cd;dsimp only at e1 e2 hdel hdc;subst e1 e2 e3 hdel hdc;have hsl:sl=#[k0,k1,k2,k3,some (.builtin "ValueError.__new__"),k5]:=by
    obtain⟨l⟩:=sl;simp only at hs;rw[hs]
   subst hsl;exact⟨⟨ns,qn,bs,sn,sub,ab,col,dd,k0,k1,k2,k3,k5,ho⟩,⟨_,hc,rfl,rfl⟩,λh X=>tail_of_in X ht⟩
  .cases e
 .cases e
def NS{K:Frag}{c c':Str}{C:Addr}{bm bm':List Value}(e:yj K c C bm=true) (e':yj K c' C bm'=true):c=c'/\bm=bm':=by
 obtain⟨_,⟨cd,h1,h2,h3⟩,_⟩:=xg e;obtain⟨_,⟨cd',h1',h2',h3'⟩,_⟩:=xg e';rw[h1]at h1';cases h1';rw[h2]at h2';exact⟨h3.symm.trans h3',by injection h2'⟩
structure Ref (K:Frag) (c:Str) (C M:Addr):Prop where
 nm:nsIn K iV c=some (some (.ref C))
 nmM:nsIn K iV "MapError" = some (some (.ref M))
 xc:yj K c C (.ref M::xE)=true
 xm:yj K "MapError" M xE=true
 lk:Zp K C=true
def XO(K:Frag) (c:Str) (C:Addr):Prop:=nsIn K iV c=some (some (.ref C))/\((∃M,Ref K c C M)∨(c = "MapError" /\ yj K "MapError" C xE=true))
def Ref.one{K:Frag}{c:Str}{C M C' M':Addr}(a:Ref K c C M) (b:Ref K c C' M'):C=C'/\M=M':=by
 have e1:=a.nm.symm.trans b.nm;have e2:=a.nmM.symm.trans b.nmM;simp at e1 e2;exact⟨e1,e2⟩
structure Ref.Lks (K:Frag) (M:jQ) (h:Heap) (C:Addr):Prop where
 sa:Lk M h (je (.ref C) "__setattr__") (some (.builtin "object.__setattr__"))
 ga:Lk M h (je (.ref C) "__getattribute__") (some (.builtin "BaseException.__getattribute__"))
 gt:Lk M h (je (.ref C) "__getattr__") none
 cl:Lk M h (je (.ref C) "__class__") (some (.builtin "object.__class__"))
def Ref.lks{K:Frag}{c:Str}{C M:Addr}{Mo:jQ}{h:Heap}(r:Ref K c C M) (X:K.In h):Ref.Lks K Mo h C:=by
 have e:=r.lk;simp only[Zp,cE,beq_iff_eq]at e;obtain⟨⟨⟨e1,e2⟩,e3⟩,e4⟩:=e;exact⟨looks_findIn X e1,looks_findIn X e2,looks_findIn X e3,looks_findIn X e4⟩
def E3(e C:Addr) (od:Option Addr):HO:=.ext λh=>∃o vs,h.get? e=some o/\o.cls = .ref C/\o.dict=od/\o.data = .fields vs
def Mi(e C:Addr) (od:Option Addr):HO:=.ext λh=>∃t,h.get? e=some (Aq C t od)
section
variable {P:iW}{w:iZ}{H:Hp}{h:Heap}{e C:Addr}{od:Option Addr}
def aad{o:Obj}{vs:Array Value}(h1:h.get? e=some o) (h2:o.cls = .ref C) (h3:o.dict=od) (h4:o.data = .fields vs):qJ P w H h e (E3 e C od) :=
 ⟨⟨o,vs,h1,h2,h3,h4⟩,⟨o,h1⟩,λg1 g2 ⟨o',vs',a,b⟩ k=>⟨o',vs',k _ a,b⟩⟩
def HN{t:Addr}(h1:h.get? e=some (Aq C t od)):qJ P w H h e (Mi e C od):=⟨⟨t,h1⟩,⟨_,h1⟩,λg1 g2 ⟨t',a⟩ k=>⟨t',k _ a⟩⟩
def IM(ok:Aj P w H h) (q:H e=some (Mi e C od)):∃t,h.get? e=some (Aq C t od):=(show qJ P w H h e (Mi e C od) from ok e _ q).1
def Cs(ok:Aj P w H h) (q:H e=some (E3 e C od)):∃o vs,h.get? e=some o/\o.cls = .ref C/\o.dict=od/\o.data = .fields vs:=(show qJ P w H h e (E3 e C od) from ok e _ q).1
def FD{o:HO}(q:H e=some o):pY H e o=H:=by
 funext b
 by_cases hb:b=e
 .subst hb;rw[og,q]
 .rw [nT hb]
end
section
variable {X:Cx}{mZ:List (Addr×Obj)}{σ:St}{H:Hp}{s:iM}
def tBI(K:Frag) (t:TA):TE:=λσ H Q=>t σ H λvs H1=>∃e v c C M,vs=[.ref e,v]/\H1 e=some (Mi e C none)/\Ref K c C M/\Q .non H1
def W5{M:Addr}{x:Str}{p ap pos:Pos}{a1 a2:Expr}{t:TA}{pl:Sem Bool}(hg:Gl X x) (hm:X.mg x=some (.ref M)) (hr:readsIn X.K M (.type "type")=true)
  (hs:specialIn X.K (.ref M) "__getattribute__" = some (some (.builtin "type.__getattribute__"))) (hf:findCls X.K (.ref M) (.type "type") "__init__" = some (.val (.builtin "ValueError.__init__")))
  (ha:PA X [a1,a2] t) (hdb:(x == ("__debug__" : Str))=false:=by decide)
  (he:iY [a1,a2] X.env=(false,eval a1 X.env)::iY [a2] X.env:=by rfl) (hpl:(jl pos (iY [a2] X.env)).any (·.1)=false:=by rfl)
  (ht:eval (.Call (.Attribute (.Name x p) "__init__" ap) [a1,a2] [] pos) X.env=(do
   let ov ←eval (.Name x p) X.env
   ki ap.atName
   let (f,first) ←kj [ov] (jN ov "__init__" pl)
   kx pos f first (jl pos (iY [a1,a2] X.env)) (kf pos (jK [] X.env))):=by rfl):PE X (.Call (.Attribute (.Name x p) "__init__" ap) [a1,a2] [] pos) (tBI X.K t):=by
 intro mZ s σ H Q I h;refine W.methodCall_KW (pl:=pl) (xV I hg hm ?_ hdb) ht;refine method_cls I.kIn hs (cls_value I.kIn hr hf (by decide +kernel) ?_)
 refine eQ (rL (ha pos mZ _ σ H _ (I.tok _) h) λus s1 hz1=>?_) he hpl
 obtain⟨vs,H1,I1,r1,e,v,c,C,Mc,ev,he1,rf,q⟩:=hz1;subst ev;cases r1 with
 |cons r2 r3 =>
  cases r3 with
  |cons r4 r5 =>
   cases r5;cases r2;obtain⟨t0,hx⟩:=IM I1.hok he1;obtain⟨⟨N,q',bs,sn,sub,ab,col,dd,k0,k1,k2,k3,k5,hC⟩,_,T⟩:=xg rf.xc;obtain⟨hh,g,d,tk,os⟩:=s1;refine Ow (T _ I1.kIn) (I1.kIn _ _ hC) hx (λh' t1 hk hx'=>?_) (by rw[jj];simp)
   refine⟨.non,H1,?_,rfl,q⟩;have J:=I1.write (x:=e) (e:=e) (o:=Mi e C none) (t':=tk) (by rw[he1];trivial) (.inl rfl) (λb u hb hu=>hk b u hb hu) ⟨_,hx'⟩ (HN hx')
   rw[FD he1]at J;exact J
def sXF(K:Frag) (ta tv:TE) (f:Str):TS:=λD σ H=>tv σ H λy H1=>ta σ H1 λx H2=>∃e c C M,x = .ref e/\H2 e=some (Mi e C none)/\Ref K c C M/\findIn K (.ref C) f=some none /\
 ∀dx,H2 dx=none->dx≠e->D.nx σ (pY (pY H2 dx (.xd [(f,y)])) e (Mi e C (some dx)))
def Xd{o value:Expr}{f:Str}{pos pos':Pos}{ta tv:TE}(ha:PE X o ta) (hv:PE X value tv) (hs:kg value (some (.Attribute o f pos')) pos.line X.env=pure false):PS X (.Assign [.Attribute o f pos'] value pos) (sXF X.K ta tv f):=by
 intro mZ s σ H D I h;refine km (rL (hv mZ s σ H _ I h) λu s1 hz1=>?_) hs
 obtain⟨y,H1,I1,ry,q⟩:=hz1;refine rL (ha mZ s1 σ H1 _ I1 q) λov s2 hz2=>?_
 obtain⟨x,H2,I2,rx,e,c,C,M,ex,he,rf,nf,q2⟩:=hz2;subst ex;obtain rfl:ov=ai e:=rx;obtain⟨t0,hx⟩:=IM I2.hok he;obtain⟨⟨N,q',bs,sn,sub,ab,col,dd,k0,k1,k2,k3,k5,hC⟩,_,T⟩:=xg rf.xc;have L:=rf.lks (Mo:=iQ X.prog X.w) I2.kIn;have LN:=looks_findIn (M:=iQ X.prog X.w) I2.kIn nf;obtain⟨hh,g,d,tk,os⟩:=s2;refine Pw (T _ I2.kIn) (I2.kIn _ _ hC) hx L.sa LN λh' dx tk' n1 n2 hx' hns hk=>?_
 have nd:H2 dx=none:=I2.hok.fresh n1;refine⟨σ,_,?_,q2 dx nd n2⟩;have ne:∀b ob,H2 b=none->hh.get? b=some ob->b≠e:=λb ob z _=>λq=>by rw[q,he]at z;cases z
 have nx:∀b ob,hh.get? b=some ob->b≠dx:=λb ob z=>aF (aE (aj z) n1)
 have nt:∀b ob,H2 b=some ob->b≠dx:=λb ob z q=>by rw[q,nd]at z;cases z
 have nE:∀(b:Addr) (ob:HO),H2 b=some ob->(∀φ,ob ≠ .ext φ)->b≠e:=λb ob z k q=>by rw[q,he]at z;cases z;exact k _ rfl
 refine I2.un (t':=tk') ⟨λb ob z n _ _=>hk b ob (ne b ob n z) z,λb ob z n _ _=>⟨ob.slots,hk b ob (ne b ob n z) z⟩,λb ob z n _=>by rw[nT (ne b ob n z),nT (nx b ob z)];exact n,λb ob z _=>?_,
  λb xs z=>by rw[nT (nE b _ z λφ w=>by cases w),nT (nt b _ z)];exact z,λb o' u' z=>by rw[nT (nE b _ z λφ w=>by cases w),nT (nt b _ z)];exact z,
  λb ps z=>⟨#[],by rw[nT (nE b _ z λφ w=>by cases w),nT (nt b _ z),z];simp⟩⟩ λb u z=>?_
 .by_cases hb:b=e
  .subst hb;exact⟨_,hx'⟩
  .exact ⟨ob,hk b ob hb z⟩
 .by_cases hb:b=e
  .subst hb;rw[og]at z;cases z;exact HN hx'
  .rw [nT hb]at z
   by_cases hb2:b=dx
   .subst hb2;rw[og]at z;cases z;refine⟨_,hns,λg=>?_⟩
    by_cases hg:g=f
    .subst hg;simpa [bQ,Ag] using ry
    .have:(g == f)=false:=by simpa using hg
     simp[bQ,this,hg,Ag]
   .rw [nT hb2]at z;refine(I2.hok b u z).stay (λc' v' hc r=>hk c' v' ?_ r) (λc' r=>?_) λc' xs r=>?_
    .rcases hc with rfl|hc
     .exact hb
     .exact nE c' _ hc λφ w=>by cases w
    .rw [nT (nE c' _ r λφ w=>by cases w),nT (nt c' _ r)];exact r
    .rw [nT (nE c' _ r λφ w=>by cases w),nT (nt c' _ r)];exact r
end
def RJ(K:Frag) (c fld:Str):Sp:=λvs H Q _=>∃e v C M,vs=[.ref e,v]/\H e=some (Mi e C none)/\Ref K c C M/\findIn K (.ref C) fld=some none /\
 ∀dx,H dx=none->dx≠e->Q .non (pY (pY H dx (.xd [(fld,v)])) e (Mi e C (some dx)))
def acv(K:Frag) (c fld:Str) (t:TA):TE:=λσ H Q=>t σ H λvs H1=>∃v C M,vs=[v]/\Ref K c C M/\findIn K (.ref C) fld=some none /\
 ∀e dx,H1 e=none->H1 dx=none->dx≠e->Q (.ref e) (pY (pY H1 dx (.xd [(fld,v)])) e (Mi e C (some dx)))
structure Ini (P:iW) (w:iZ) (K:Frag) (mg:Str->Option Value) (base:Heap) (k:Nat) (c fld prm:Str) (C M f:Addr) (fd:jb):Prop where
 rf:Ref K c C M
 ini:findIn K (.ref C) "__init__" = some (some (.ref f))
 fn:isFn K (.ref f)=true
 kp:keepIn K (.ref C)=true
 nf:findIn K (.ref C) fld=some none
 m:mg c=some (.ref C)
 b:qI K fd ["self", prm] []
 ok:wX P w K mg base O0 k f fd ["self", prm] (RJ K c fld)
def U8{H:Hp}{e dx:Addr}{a b c:HO}:pY (pY (pY H e a) dx b) e c=pY (pY H dx b) e c:=by
 funext x;unfold pY;split
 .rfl
 .rename_i h;split
  .rfl
  .first|rfl|rw[oO h]
section
variable {X:Cx}{k:Nat}{c fld prm:Str}{C M f:Addr}{fd:jb}{p pos:Pos}{a:Expr}{t:TA}
def VB{mZ:List (Addr×Obj)}{σ:St}{H1:Hp}{s1:iM}{Q:VK}{u:Value}{v:V}(G:Ini X.prog X.w X.K X.mg X.base k c fld prm C M f fd) (hr:si (k+1) X.A) (I1:Inv X mZ σ H1 s1) (ru:qb v u)
  (q:∀e dx,H1 e=none->H1 dx=none->dx≠e->Q (.ref e) (pY (pY H1 dx (.xd [(fld,v)])) e (Mi e C (some dx)))):iS (iQ X.prog X.w) X.A (call (.ref C) [u]) (EP X mZ σ Q) X.xe s1:=by
 obtain⟨⟨N,q',bs,sn,sub,ab,col,dd,k0,k1,k2,k3,k5,hC⟩,_,T⟩:=xg G.rf.xc;obtain⟨hh,g,d,tk,os⟩:=s1;refine OV (T _ I1.kIn) (I1.kIn _ _ hC) (looks_findIn I1.kIn G.ini) (λself=>bind_fn I1.kIn self (beq_iff_eq.mp G.fn)) (λh' e hm hs=>?_) (by rw[jj];simp)
 have nE:H1 e=none:=I1.hok.fresh hs;obtain⟨t0,hx,_,_⟩:=hm.there;have I2:Inv X mZ σ (pY H1 e (Mi e C none)) ⟨h',g,d,tk,os⟩:=I1.laid (t':=tk) hm.keeps hs (HN hx);have hsp:RJ X.K c fld [.ref e,v] (pY H1 e (Mi e C none)) (λv' H2=>v' = .non/\Q (.ref e) H2) E0:=by
  refine⟨e,v,C,M,rfl,og,G.rf,G.nf,λdx nd ne=>⟨rfl,?_⟩⟩
  rw[U8];rw[nT ne]at nd;exact q e dx nE nd ne
 refine jG (jL (G.ok.run _ X.stack _ _ ⟨[.ref e,u],[]⟩ [.ref e,u] [.ref e,v] _ E0 (hr.make C [u] []) (I2.env0.make C [u] []) (G.b _ [.ref e,u] I2.kIn rfl) (.cons rfl (.cons ru .nil)) hsp) λr s' hq'=>?_)
 cases r with
 |error e=>exact False.elim hq'
 |ok fl =>
  cases fl with
  |ret u =>
   obtain⟨v',H',I3,rv,ev,q3⟩:=I2.after hq';subst ev;exact⟨rv,⟨V.ref e,H',I3,rfl,q3⟩⟩
  |next=>exact False.elim hq'
  |brk=>exact False.elim hq'
  |cont=>exact False.elim hq'
def TF(G:Ini X.prog X.w X.K X.mg X.base k c fld prm C M f fd) (hr:si (k+1) X.A) (ha:PA X [a] t) (hg:Gl X c:=by rfl) (hdb:(c == ("__debug__" : Str))=false:=by decide)
  (he:iY [a] X.env=(false,eval a X.env)::iY [] X.env:=by rfl) (hpl:(jl pos (iY [] X.env)).any (·.1)=false:=by rfl) :
  PE X (.Call (.Name c p) [a] [] pos) (acv X.K c fld t):=by
 intro mZ s σ H Q I h;refine jo (xV I hg G.m ?_ hdb);refine W.callWith_K (h₀:=X.base) I.ok.mod.kin G.kp (rL (ha pos mZ s σ H _ I h) λus s1 hz1=>?_) he hpl
 obtain⟨vs,H1,I1,r,v,C',M',ev,rf',nf',q⟩:=hz1;refine⟨I1.kIn,?_⟩;obtain⟨rfl,rfl⟩:=G.rf.one rf';subst ev;cases r with
 |cons ru r2 =>
  cases r2;exact VB G hr I1 ru q
end
def UP(P:iW) (w:iZ):KR:=λouter H s E ev s'=>∃e C od H' o vs,ev = .ref e/\s'.os=s.os/\jV s'.gens/\Un (Ld outer) [] H H' s.heap s'.heap/\Aj P w H' s'.heap/\H' e=some (E3 e C od) /\
 s'.heap.get? e=some o/\o.data = .fields vs/\G8 s'.heap vs/\E (.ref e) od H'
def UH(X:Cx) (E:XK):Prop:=∀(mZ:List (Addr×Obj)) (σ:St) (H:Hp) (s:iM) (e C:Addr) (od:Option Addr) (o:Obj) (vs:Array Value) (φ:Heap->Prop),Inv X mZ σ H s->H e=some (.ext φ)->s.heap.get? e=some o ->
 o.cls = .ref C->o.dict=od->o.data = .fields vs->G8 s.heap vs->E (.ref e) od (pY H e (E3 e C od))->X.xe (.ref e) s
section
variable {P:iW}{w:iZ}{H:Hp}{h h':Heap}{e C T:Addr}{od:Option Addr}{o:Obj}{vs:Array Value}{fs:List Addr}{φ:Heap->Prop}
def JG(N:Hj fs e o T h h') (hE:H e=some (.ext φ)):Un fs [] H (pY H e (E3 e C od)) h h':=by
 have ne:∀b,H b=none->b≠e:=λb z q=>by rw[q,hE]at z;cases z
 have nE:∀(b:Addr) (ob:HO),H b=some ob->(∀φ,ob ≠ .ext φ)->b≠e:=λb ob z k q=>by rw[q,hE]at z;cases z;exact k _ rfl
 refine⟨λb ob z n hb _=>N.keep b ob (ne b n) hb z,λb ob z n _ _=>N.slot b ob (ne b n) z,λb ob z n _=>by rw[nT (ne b n)];exact n,λb ob z _=>?_,
  λb xs z=>by rw[nT (nE b _ z λφ w=>by cases w)];exact z,λb o' u' z=>by rw[nT (nE b _ z λφ w=>by cases w)];exact z,
  λb ps z=>⟨#[],by rw[nT (nE b _ z λφ w=>by cases w),z];simp⟩⟩
 by_cases hb:b=e
 .subst hb;exact⟨_,N.exc⟩
 .obtain ⟨sl,q⟩:=N.slot b ob hb z;exact⟨_,q⟩
def KM(N:Hj fs e o T h h') (hE:H e=some (.ext φ)) (ok:Aj P w H h) (hf:∀b∈fs,H b=none) (hc:o.cls = .ref C) (hd:o.dict=od) (hdat:o.data = .fields vs):Aj P w (pY H e (E3 e C od)) h':=by
 have nE:∀(b:Addr) (ob:HO),H b=some ob->(∀φ,ob ≠ .ext φ)->b≠e:=λb ob z k q=>by rw[q,hE]at z;cases z;exact k _ rfl
 have nf:∀b ob,H b=some ob->b∉fs:=λb ob z q=>by rw[hf b q]at z;cases z
 intro b u z
 by_cases hb:b=e
 .subst hb;rw[og]at z;cases z;refine aad N.exc ?_ ?_ (Obj.data_mapFields hdat _)
  .rw [Obj.cls_mapFields];exact hc
  .obtain ⟨_,_,dt,_⟩:=o;cases dt <;> exact hd
 .rw [nT hb]at z;refine(ok b u z).stay (λc' v' hc r=>N.keep c' v' ?_ ?_ r) (λc' r=>?_) λc' xs r=>?_
  .rcases hc with rfl|hc
   .exact hb
   .exact nE c' _ hc λφ w=>by cases w
  .rcases hc with rfl|hc
   .exact nf _ _ z
   .exact nf _ _ hc
  .rw [nT (nE c' _ r λφ w=>by cases w)];exact r
  .rw [nT (nE c' _ r λφ w=>by cases w)];exact r
def D5(N:Hj fs e o T h h') (hdat:o.data = .fields vs) (hz:1<vs.size):∃o' vs',h'.get? e=some o'/\o'.data = .fields vs'/\vs'[1]?=some (.ref T)/\G8 h' vs':=by
 obtain⟨oT,ts,h1,h2,h3⟩:=N.ent;have q:(vs.setIfInBounds 1 (ai T))[1]?=some (.ref T):=by simp[hz]
 exact⟨_,_,N.exc,Obj.data_mapFields hdat _,q,.inr ⟨T,oT,ts,q,h1,h2,h3⟩⟩
def FF(q:G8 h vs):1<vs.size:=by
 rcases q with q|⟨_,_,_,q,_⟩ <;> exact(aG.mp q).1
end
section
variable {P:iW}{w:iZ}{K:Frag}{mg:Str->Option Value}{base:Heap}{N:List Str}{qual:Str}{scope:jJ}{f:Addr}{cd:Value}{A:Around}{outer:List Env}{s:iM}{H:Hp}{E:XK}
def wN:UH (HM (UP P w) P w K mg base N qual scope f cd A outer s H E) E:=by
 intro mZ σ H1 s1 e C od o vs φ I hE ho hc hd hdat hq he;show iS (iQ P w) (A.deeper (jk qual scope s.heap.objs.size f cd)) (lY (jk qual scope s.heap.objs.size f cd) (.ref e)) _ _ s1;have fr:(A.deeper (jk qual scope s.heap.objs.size f cd)).frames=some (jk qual scope s.heap.objs.size f cd::outer):=I.ok.frames;have st:s1.heap.FunFrames base (jk qual scope s.heap.objs.size f cd::outer):=I.stack;refine ack fr st rfl ho hdat hq λh' T Nt=>?_
 have free:∀b∈(jk qual scope s.heap.objs.size f cd::outer).filterMap (·.frame),H1 b=none:=I.stkFree;have un:=JG (C:=C) (od:=od) Nt hE;have ok:=KM (P:=P) (w:=w) Nt hE I.hok free hc hd hdat;obtain⟨o',vs',g1,g2,g3,g4⟩:=D5 Nt hdat (FF hq);have B:Un (Ld outer) [] H H1 s.heap s1.heap:=I.base;have nL:∀b ob,s.heap.get? b=some ob->b∉Ld outer->b∉(jk qual scope s.heap.objs.size f cd::outer).filterMap (·.frame):=λb ob z nb m=>by
  rcases ak.mp (show b∈s.heap.objs.size::Ld outer from m) with q|q
  .rw [q]at z;exact absurd (aj z) (cC _)
  .exact nb q
 refine⟨e,C,od,pY H1 e (E3 e C od),o',vs',rfl,I.os,I.bare,⟨λb ob z n hb hx=>un.keep b ob (B.keep b ob z n hb hx) (B.free b ob z n hx) (nL b ob z hb) hx,λb ob z n hb hx=>?_,λb ob z n hx=>?_,λb ob z hx=>?_,λb xs z=>un.tups b xs (B.tups b xs z),λb o1 u1 z=>un.frzs b o1 u1 (B.frzs b o1 u1 z),λb ps z=>?_⟩,ok,og,g1,g2,g4,he⟩
 .obtain ⟨sl,q⟩:=B.slot b ob z n hb hx;obtain⟨sl',q'⟩:=un.any q (B.free b ob z n hx) hx;exact⟨sl',q'⟩
 .obtain ⟨o1,q⟩:=B.there b ob z hx;exact un.free b o1 q (B.free b ob z n hx) hx
 .obtain ⟨o1,q⟩:=B.there b ob z hx;exact un.there b o1 q hx
 .obtain ⟨m1,e1⟩:=B.tbls b ps z;obtain⟨m2,e2⟩:=un.tbls b _ e1;exact⟨m1++m2,by rw[e2,gG]⟩
def qU:wA (UP P w) (HM (UP P w) P w K mg base N qual scope f cd A outer s H E) E:=by
 intro mZ σ H1 s1 ev s2 I h;obtain⟨e,C,od,H',o,vs,rfl,os,bare,un,hok,hA,ho,hd,hq,hE⟩:=h;have I':=I.call' os un hok bare (λb z=>nomatch z)
 obtain⟨o',vs',a1,a2,a3,a4⟩:=Cs hok hA;rw[ho]at a1;cases a1;exact wN mZ σ H' s2 e C od o vs _ I' hA ho a2 a3 hd hq (by rw[FD hA];exact hE)
def okX{x:Str}{st:Stmt}{fd:jb}{ps:List Str}{k:Nat}{sp:Sp}(F:FA K x qual st f fd) (S:oa N ps (nH st)) (len:∀vs H Q E,sp vs H Q E->vs.length=ps.length)
  (hbody:∀(qK:Value) (A:Around) (outer:List Env) (s:iM) (H:Hp) (vs:List V) (Q:VK) (E:XK),si k (A.deeper (jk qual (nH st) s.heap.objs.size f qK))->sp vs H Q E ->
   ∃t,JI (HM (UP P w) P w K mg base N qual (nH st) f qK A outer s H E) (qL st) t/\t { nx:=λ_ H'=>Q .non H',rt:=Q } (sZ N vs) H):wX P w K mg base (UP P w) (k+1) f fd ps sp:=by
 obtain⟨oc,od,kV,doc,pm,an,qK,ct,osl,rfl,lk,hcd⟩:=F.ex;exact Xf lk hcd S len λA outer s H vs Q E hr hsp=>hbody qK A outer s H vs Q E hr hsp
end
section
variable {X:Cx}{E:XK}{c:Str}{C M:Addr}{e:Expr}{te:TE}{pos:Pos}
def tRs(E:XK) (C:Addr) (te:TE):TS:=λ_ σ H=>te σ H λv H1=>∃e od,v = .ref e/\H1 e=some (Mi e C od)/\E (.ref e) od (pY H1 e (E3 e C od))
def AO(rf:Ref X.K c C M) (hl:UH X E) (hc:X.calm=true) (he:PE X e te):PS X (.Raise (some e) none pos) (tRs E C te):=by
 intro mZ s σ H D I h;obtain⟨⟨N,q',bs,sn,sub,ab,col,dd,k0,k1,k2,k3,k5,hC⟩,_,T⟩:=xg rf.xc;rw[arm_exec_Raise];simp only[evalOpt,Option.map];refine iT (kE (LF (C:=C) (nm:=c) (q:=q') (N:=N) (bs:=bs) (bm:=.ref M::xE) (hdct:=true) (sn:=sn) (sub:=sub) (ab:=ab) (col:=col) (dd:=dd) (k0:=k0) (k1:=k1) (k2:=k2) (k3:=k3) (k5:=k5) (newId := "ValueError.__new__") (by rw[bp,show xE.contains (dg "BaseException")=true by decide,dm]) (I.ok.hd hc)
  (iT (jg (he mZ s σ H _ I h) (λv s3 h3=>iT (kE (jd ?_))) λ_ _ x=>x))))
 obtain⟨v',H1,I1,r,ev,od,rfl,hx,hE⟩:=h3;obtain rfl:v=ai ev:=r;obtain⟨t0,ho⟩:=IM I1.hok hx;exact⟨ev,t0,od,rfl,I1.kIn _ _ hC,ho,hl mZ σ H1 s3 ev C od _ _ _ I1 hx ho rfl rfl rfl (.inl rfl) hE⟩
end
structure IZ (P:iW) (w:iZ) (K:Frag) (mg:Str->Option Value) (base:Heap) (k:Nat) (x:Str) (st:Stmt) (ps:List Str) (sp:Sp) (f:Addr) (fd:jb):Prop where
 D:xP K mg x st ps f fd
 ok:wX P w K mg base (UP P w) k f fd ps sp
noncomputable abbrev P5(X:Cx) (e:Addr):Cx:={ X with A:=X.A.mark (some (.ref e)),calm:=false,xe:=λ_ _=>False }
section
variable {X:Cx}{mZ:List (Addr×Obj)}{σ:St}{H:Hp}{s:iM}{e:Addr}
def Nq(I:Inv X mZ σ H s):Inv (P5 X e) mZ σ H s :=
 ⟨⟨I.ok.mod,I.ok.kind,I.ok.glob,I.ok.blt,I.ok.above,I.ok.inj,I.ok.has,I.ok.cab,λz=>gY z,I.ok.frames,I.ok.stk,I.ok.exf,I.ok.bs,I.ok.bsz,I.ok.noex,I.ok.exfs,I.ok.funs,I.ok.frf⟩,I.os,I.bare,I.base,I.loc,I.cell,I.free,I.freeC,I.pin,I.hok,I.len⟩
def Qy(ok:X.Ok) (I:Inv (P5 X e) mZ σ H s):Inv X mZ σ H s:=⟨ok,I.os,I.bare,I.base,I.loc,I.cell,I.free,I.freeC,I.pin,I.hok,I.len⟩
def Inv.gone{i:Nat}{n:Str}{v:Option Value}{h':Heap}{t':Nat}{m:Str->Option Value}(I:Inv X mZ σ H s) (hN:X.N.Nodup) (hi:X.N[i]?=some n)
  (hm:∀(j:Nat) (y:Str) (v':V),X.N[j]?=some y->σ[j]?=some (some v')->Vis X.env.scope y->∃u,qb v' u/\aaZ X.env s.heap m y u)
  (hn':h'.Ns X.env.locals (λx=>if x=n then v else m x)) (hs:dZ X.env.locals s.heap h') (hn:s.heap.Ns X.env.locals m):Inv X mZ (σ.set i none) H { s with heap:=h',toks:=t' }:=by
 have hiσ:i<σ.length:=by rw[I.len];exact(gSq.mp hi).1
 have cne:=I.cne;obtain⟨oL,_,_,hoL,_⟩:=id hn;refine⟨I.ok,I.os,I.bare,⟨λb o e n hb hx=>?_,λb o e n hb hx=>?_,I.base.free,λb o e hx=>?_,I.base.tups,I.base.frzs,I.base.tbls⟩,⟨_,hn',λj y v' e1 e2 e3=>?_⟩,λy c e=>?_,I.free,I.freeC,λp hp=>?_,λb ob e=>?_,by simpa using I.len⟩
 .exact (hs.2 b (aF (aE (aj e) I.ok.above))).trans (I.base.keep b o e n hb hx)
 .obtain ⟨sl,e1⟩:=I.base.slot b o e n hb hx;exact⟨sl,(hs.2 b (aF (aE (aj e) I.ok.above))).trans e1⟩
 .obtain ⟨o',e1⟩:=I.base.there b o e hx;exact⟨o',(hs.2 b (aF (aE (aj e) I.ok.above))).trans e1⟩
 .by_cases hj:j=i
  .subst hj;rw[aN hiσ]at e2;cases e2
  .rw [ao (Ne.symm hj)]at e2;obtain⟨u',r',q⟩:=hm j y v' e1 e2 e3;refine⟨u',r',?_⟩;rcases q with ⟨k,e⟩|⟨k,c,e,z⟩
   .refine .inl ⟨k,?_⟩;have:y≠n:=λe=>hj (EX hN e1 (e ▸ hi))
    simp[this,e]
   .exact .inr ⟨k,c,e,z.sameBut hs (cne y c e)⟩
 .obtain ⟨w',z⟩:=I.cell y c e;exact⟨w',z.sameBut hs (cne y c e)⟩
 .obtain ⟨e,n,ne,nf,d⟩:=I.pin p hp;exact⟨(hs.2 p.1 ne).trans e,n,ne,nf,d⟩
 .refine (I.hok b ob e).stay (λc w' hc q=>(hs.2 c ?_).trans q) (λ_ q=>q) λ_ _ q=>q
  rintro rfl;rcases hc with z|hc
  .rw [←z,I.free]at e;cases e
  .rw [I.free]at hc;cases hc
end
abbrev XH:=Addr->Addr->Option Addr->wL->St->Hp->Prop
def PH(X:Cx) (hs:List ExceptHandler) (th:XH):Prop:=∀(mZ:List (Addr×Obj)) (s:iM) (σ:St) (H:Hp) (D:wL) (e C:Addr) (od:Option Addr) (o:Obj) (vs:Array Value) (T:Addr),Inv X mZ σ H s->H e=some (E3 e C od) ->
 s.heap.get? e=some o->o.data = .fields vs->vs[1]?=some (.ref T)->(∃oT ts,s.heap.get? T=some oT/\oT.data = .fields ts/\ts[3]?=some .none)->th e C od D σ H ->
 iS (iQ X.prog X.w) X.A (kQ (.ref e) X.env hs) (SP X mZ D) X.xe s
def hAs(K:Frag) (C':Addr) (i:Nat) (tb:TS) (rest:XH):XH:=λe C od D σ H=>∃c M b,Ref K c C M/\mroIn K C (.ref C')=some b /\
 if b=true then tb { nx:=λσ' H'=>D.nx (σ'.set i none) H',rt:=D.rt,bk:=λσ' H'=>D.bk (σ'.set i none) H',ct:=λσ' H'=>D.ct (σ'.set i none) H' } (σ.set i (some (.ref e))) H else rest e C od D σ H
def abB:XH:=λ_ _ _ _ _ _=>False
section
variable {X:Cx}{c' n:Str}{C':Addr}{bm':List Value}{np pos:Pos}{b₀:Stmt}{suite:List Stmt}{rest:List ExceptHandler}{tb:TS}{tr:XH}{i:Nat}
def abw{K:Frag}{M:jQ}{c:Str}{C Mp e:Addr}{b:Bool}{s:iM}{o:Obj}(X:K.In s.heap) (rf:Ref K c C Mp) (xc':yj K c' C' bm'=true) (hbase:bm'.contains (.type "BaseException")=true) (hb:mroIn K C (.ref C')=some b)
  (ho:s.heap.get? e=some o) (hc:o.cls = .ref C):Mt M e (.ref C') b s:=by
 obtain⟨⟨N,q',bs,sn,sub,ab,col,dd,k0,k1,k2,k3,k5,hC⟩,⟨cd,hcd,hm,_⟩,_⟩:=xg rf.xc;obtain⟨⟨N',q'',bs',sn',sub',ab',col',dd',k0',k1',k2',k3',k5',hC'⟩,_,_⟩:=xg xc';intro A Q E hq;obtain⟨hh,g,d,tk,os⟩:=s;refine Jr (X _ _ hC) (X _ _ hC') hbase ho hc ?_;unfold mroIn at hb;rw[hcd,dF,hm]at hb;simp only[eE,cK,if_false,aS.injEq]at hb;rw[hb];exact hq
def Nj(xc':yj X.K c' C' bm'=true) (hbase:bm'.contains (.type "BaseException")=true) (hm:X.mg c'=some (.ref C')) (hN:X.N.Nodup) (hi:X.N[i]?=some n) (hl:X.env.kindOf n=some .local) (hb:∀e,JI (P5 X e) (b₀::suite) tb) (hr:PH X rest tr)
  (hg:Gl X c':=by rfl) (hdb:(c' == ("__debug__" : Str))=false:=by decide):PH X (.ExceptHandler (some (.Name c' np)) (some n) (b₀::suite) pos::rest) (hAs X.K C' i tb tr):=by
 intro mZ s σ H D e C od o vs T I hA ho hd h1 hT h;obtain⟨c,M,b,rf,hmro,h⟩:=h;obtain⟨o',vs',a1,a2,a3,a4⟩:=Cs I.hok hA;rw[ho]at a1;cases a1;have mt:Mt (iQ X.prog X.w) e (.ref C') b s:=abw I.kIn rf xc' hbase hmro ho a2;have ev:∀Q':Value->iM->Prop,Q' (.ref C') s->iS (iQ X.prog X.w) (X.A.mark (some (.ref e))) (eval (.Name c' np) X.env) Q' (λ_ _=>False) s:=λQ' q=>xV (X:=P5 X e) (Nq I) hg hm q hdb
 cases b with
 |false =>
  rw[oO (by decide)]at h
  exact acw mt ev (hr mZ s σ H D e C od o vs T I hA ho hd h1 hT h)
 |true =>
  rw[oJ rfl]at h;obtain⟨oT,ts,t1,t2,t3⟩:=hT;refine TJ mt ev ?_;refine wpAny_setFlight_none ho hd h1 t1 t2 (aG.mp t3).1 ?_;rw[fo s.heap T oT ts 3 .none t1 t2 t3];refine Dh (X:=P5 X e) (v:=.ref e) (Nq I) hN hi (.inl hl) rfl (λs3 I3=>?_) (.inr hl)
  refine rL (hb e mZ s3 _ H _ I3 h) λf s4 hf=>?_
  have gone:∀{σ':St}{H':Hp}{Q:Unit->iM->Prop},Inv (P5 X e) mZ σ' H' s4->(∀s5,Inv X mZ (σ'.set i none) H' s5->Q () s5)->iS (iQ X.prog X.w) X.A (do bindName X.env n .none;lJ X.env n pos) Q X.xe s4:=λ{σ' H' Q} J k=>by
   obtain⟨m,hn,hlk⟩:=J.loc;refine wpAny_nameGoes_keeps hl hn (by show (X.env.scope.kind == .class || (X.env.scope.kind == .module && X.env.locals != X.env.globals))=false;rw[I.ok.kind];rfl) λh' v hn' hs=>?_
   exact k _ (Inv.gone (Qy I.ok J) hN hi hlk hn' hs hn)
  cases f with
  |next=>obtain⟨σ',H',J,q⟩:=hf;exact gone J λs5 J5=>⟨_,H',J5,q⟩
  |brk=>obtain⟨σ',H',J,q⟩:=hf;exact gone J λs5 J5=>⟨_,H',J5,q⟩
  |cont=>obtain⟨σ',H',J,q⟩:=hf;exact gone J λs5 J5=>⟨_,H',J5,q⟩
  |ret u=>obtain⟨v,σ',H',J,r,q⟩:=hf;exact gone J λs5 J5=>⟨v,_,H',J5,r,q⟩
def IJ:PH X [] abB:=λ_ _ _ _ _ _ _ _ _ _ _ _ _ _ _ _ _ h=>h.elim
end
section
variable {X:Cx}{k:Nat}{x:Str}{st:Stmt}{ps:List Str}{sp:Sp}{f:Addr}{fd:jb}{p pos pos2 pos3:Pos}{e:Expr}{es:List Expr}{t:TA}{h₀:ExceptHandler}{hs:List ExceptHandler}{th:XH}
def Up{mZ:List (Addr×Obj)}{σ:St}{H1:Hp}{s1:iM}{Q:VK}{D:wL}{us:List Value}{vs:List V}{QQ:Value->iM->Prop}(ok:wX X.prog X.w X.K X.mg X.base (UP X.prog X.w) k f fd ps sp) (hb:qI X.K fd ps []) (hr:si k X.A)
  (hstk:X.stack=X.env::X.outer) (hfr:X.env.frame=some X.env.locals) (hh:PH X (h₀::hs) th) (I1:Inv X mZ σ H1 s1) (r:oV vs us)
  (q:sp vs H1 Q λv _ H2=>∀e,v = .ref e->∃C od,H2 e=some (E3 e C od)/\th e C od D σ H2) (hQ:∀u s',EP X mZ σ Q u s'->QQ u s') :
  iS (iQ X.prog X.w) X.A (call (.ref f) us) QQ (λe s₁=>iS (iQ X.prog X.w) X.A (kW e X.env) (λ_ s₂=>iS (iQ X.prog X.w) X.A (kB e none) (λ_ s₃ =>
   iS (iQ X.prog X.w) X.A (kQ e X.env (h₀::hs)) (SP X mZ D) X.xe s₃) X.xe s₂) X.xe s₁) s1:=by
 have hl:us.length=ps.length:=by rw[←r.length];exact ok.len _ _ _ _ q
 refine jG (jL (ok.run X.A X.stack s1 H1 ⟨us,[]⟩ us vs Q _ hr I1.env0 (by have:=hb s1 us I1.kIn (by rw[aNq];exact hl);rw[aNq]at this;exact this) r q) λres s' hq=>?_)
 cases res with
 |ok fl =>
  cases fl with
  |ret u=>exact hQ u s' (I1.after hq)
  |next=>exact False.elim hq
  |brk=>exact False.elim hq
  |cont=>exact False.elim hq
 |error ev =>
  obtain⟨e,C,od,H',o,vs',rfl,os,bare,un,hok,hA,ho,hd,hqt,hE⟩:=hq;have I':=I1.call' os un hok bare (λb z=>nomatch z)
  obtain⟨o',vs'',a1,a2,a3,a4⟩:=Cs hok hA;rw[ho]at a1;cases a1;have fr:X.A.frames=some (X.env::X.outer):=by rw[←hstk];exact I'.ok.frames
  have sk:s'.heap.FunFrames X.base (X.env::X.outer):=by rw[←hstk];exact I'.stack
  refine abm fr sk hfr ho hd hqt λh' T Nt=>?_
  have free:∀b∈(X.env::X.outer).filterMap (·.frame),H' b=none:=by
   have z:=I'.stkFree;rw[hstk]at z;exact z
  have un2:=JG (C:=C) (od:=od) Nt hA;have ok2:=KM (P:=X.prog) (w:=X.w) Nt hA hok free a2 a3 hd;rw[FD hA]at un2 ok2;have I2:Inv X mZ σ H' { s' with heap:=h' }:=I'.call' (s':={ s' with heap:=h' }) rfl (by rw[hstk];exact un2) ok2 I'.bare (λb z=>absurd z (by simp))
  obtain⟨o2,vs2,g1,g2,g3,g4⟩:=D5 Nt hd (FF hqt);obtain⟨C2,od2,hA2,hth⟩:=hE e rfl;exact hh mZ _ σ H' D e C2 od2 o2 vs2 T I2 hA2 g1 g2 g3 Nt.ent hth
def Xj(i:Nat) (sp:Sp) (t:TA) (th:XH):TS:=λD σ H=>t σ H λvs H1=>sp vs H1 (λv H2=>D.nx (σ.set i (some v)) H2) λv _ H2=>∀e,v = .ref e->∃C od,H2 e=some (E3 e C od)/\th e C od D σ H2
end
section
variable {X:Cx}{o:Expr}{f:Str}{pos:Pos}{ta:TE}
def tXF(K:Frag) (ta:TE) (f:Str):TE:=λσ H Q=>ta σ H λx H1=>∃e c C M dx fs n,x = .ref e/\H1 e=some (E3 e C (some dx))/\H1 dx=some (.xd fs)/\Ref K c C M/\findIn K (.ref C) f=some none/\fs.lookup f=some (.int n)/\Q (.int n) H1
def Oj(he:PE X o ta) (hb:jY o f X.env (eval o X.env)=eval o X.env):PE X (.Attribute o f pos) (tXF X.K ta f):=by
 intro mZ s σ H Q I h;refine N3 hb (rL (he mZ s σ H _ I h) λu s1 hz1=>?_)
 obtain⟨x,H1,I1,rx,e,c,C,M,dx,fs,n,ex,ea,ed,rf,nf,l,q⟩:=hz1;subst ex;obtain rfl:u=ai e:=rx;obtain⟨o',vs',a1,a2,a3,a4⟩:=Cs I1.hok ea;obtain⟨mA,hns,hrel⟩:=(show qJ X.prog X.w H1 s1.heap dx (.xd fs) from I1.hok dx _ ed)
 obtain⟨⟨N,q',bs,sn,sub,ab,col,dd,k0,k1,k2,k3,k5,hC⟩,_,T⟩:=xg rf.xc;have L:=rf.lks (Mo:=iQ X.prog X.w) I1.kIn;have LN:=looks_findIn (M:=iQ X.prog X.w) I1.kIn nf;have hr:=hrel f;rw[l]at hr;cases hv:mA f with
 |none=>rw[hv]at hr;exact hr.elim
 |some u =>
  rw[hv]at hr;obtain⟨tk,rfl⟩:=(show ∃tk,u=fW n tk from hr)
  obtain⟨hh,g,d,t,os⟩:=s1;exact Pp (T _ I1.kIn) (I1.kIn _ _ hC) a1 a2 (λz w=>by rw[a4]at w;cases w) a3 LN L.ga L.gt hns hv rfl ⟨.int n,H1,I1.tok _,⟨tk,rfl⟩,q⟩
def KO{K:Frag}{c:Str}{e C M:Addr}{od:Option Addr}(rf:Ref K c C M):KitX K (.ref e) (.ref C) (λh=>∃o vs,h.get? e=some o/\o.cls = .ref C/\o.dict=od/\o.data = .fields vs):=by
 obtain⟨⟨N,q',bs,sn,sub,ab,col,dd,k0,k1,k2,k3,k5,hC⟩,⟨cd,hcd,_,_⟩,T⟩:=xg rf.xc;refine⟨λMo h X ⟨o,vs,a1,a2,_⟩=>a2 ▸ (Looks.ld a1).andThen .now,λMo h X _=>?_,λh tp dd its n sl X htp=>?_,λ{prog w A E Q s} X ⟨o,vs,a1,a2,_⟩ hq=>?_⟩
 .intro A' Q' E' s' k q;unfold isType loadHead;exact iT (wpAny_loadPart (k _ _ (X _ _ hC)) (jd q))
 .refine gR.mpr λq=>?_
  have e:C=tp:=ai.inj (beq_iff_eq.mp q);subst e;have z:=congrArg (λo:Option Obj=>o.map (·.cls)) ((X _ _ hC).symm.trans htp)
  simp at z
 .have L:=rf.lks (Mo:=iQ prog w) X;obtain⟨hh,g,d,t,os⟩:=s;exact K7 (T _ X) (X _ _ hC) a1 a2 L.cl L.ga L.gt hq
noncomputable def HA:V->Option Value
 | .ty n=>some (.type n)
 | .ref a=>some (.ref a)
 |_=>none
def Ya(K:Frag):List V->Hp->VK->Prop:=λvs H Q=>∃e c C M od cv b,vs=[.ref e,cv]/\H e=some (E3 e C od)/\Ref K c C M /\
 ((∃u,HA cv=some u/\kitOne K (.ref C) u=some b)∨∃tp cvs us,cv = .ref tp/\H tp=some (.tup cvs)/\cvs.mapM HA=some us/\kitAny K (.ref C) us=some b)/\Q (.bl b) H
def J7{v:V}{u u':Value}(h:HA v=some u) (r:qb v u'):u'=u:=by
 cases v <;> simp[HA]at h <;> (subst h;exact r)
theorem KG:∀{cvs:List V}{us us':List Value},cvs.mapM HA=some us->oV cvs us'->us'=us
 | [],us,us',h,r=>by cases r;simp at h;exact h.symm
 |v::cvs,us,us',h,r=>by
  cases r with
  |cons r1 r2 =>
   rw[il]at h;cases h1:HA v with
   |none=>rw[h1]at h;simp at h
   |some u =>
    cases h2:cvs.mapM HA with
    |none=>rw[h1,h2]at h;simp at h
    |some us2 =>
     rw[h1,h2]at h;simp at h;rw[←h,J7 h1 r1,KG h2 r2]
def A6:tj X (.builtin "isinstance") (Ya X.K):=by
 intro mZ s σ H vs us Q I r h;obtain⟨e,c,C,M,od,cv,b,rfl,hA,rf,hk,q⟩:=h;cases r with
 |cons r1 r2 =>
  cases r2 with
  |cons r3 r4 =>
   cases r4;obtain rfl:=(show _=ai e from r1)
   have a:=Cs I.hok hA;rcases hk with ⟨u,hu,hk⟩|⟨tp,cvs,us,rfl,ht,hus,hk⟩
   .obtain rfl:=J7 hu r3;exact kia_one (KO rf) I.kIn a hk (λz=>nomatch z) λtk=>⟨.bl b,H,I.tok _,rfl,q⟩
   .obtain rfl:=(show _=ai tp from r3)
    obtain⟨_,its,rv,o,h1,h2,n,h3⟩:=(show qJ X.prog X.w H s.heap tp (.tup cvs) from I.hok tp _ ht)
    obtain rfl:=KG hus rv;obtain⟨oc,od',oda,osl⟩:=o;dsimp only at h2 h3;subst h2 h3;exact kia_tup (KO rf) I.kIn a h1 hk (λz=>nomatch z) λtk=>⟨.bl b,H,I.tok _,rfl,q⟩
end
section
variable {X:Cx}
def ZS{nV:List (pN×V)}{vs:List (pN×Value)}(r:KV nV vs):∀{i:Nat}{p:pN×V},nV[i]?=some p->∃u,vs[i]?=some (p.1,u)/\qb p.2 u:=by
 induction r with
 |nil=>intro i p h;simp at h
 | @cons a b _ _ r t ih =>
  intro i p h;cases i with
  |zero=>simp at h;subst h;exact⟨b.2,by simp[r.1],r.2⟩
  |succ i=>obtain⟨u,g1,g2⟩:=ih (by simpa using h);exact⟨u,by simpa using g1,g2⟩
end
end Xe
namespace Xe
open PySem
section
variable {prog:iW}{w:iZ}{A:Around}{E:Value->iM->Prop}{h:Heap}{g:Array ky}{d:Drawn}{t:Nat}{os:mh}
variable {nm q:Str}{C N:Addr}{bs bm:List Value}{hdct:Bool}{sn:List Str}{sub:List Value}{ab:Bool}{col:Option Bool}{dd:Option Addr}{k0 k1 k2 k3 k5:Option Value}
def El(T:ju h xE bm) {rest:List Value}{Q:Fin->iM->Prop}
  (hC:h.get? C=some (jh nm q C N bs bm hdct sn sub ab col dd k0 k1 k2 k3 k5 "ValueError.__new__"))
  (hi:Lk (iQ prog w) h (je (.ref C) "__init__") (some (.builtin "ValueError.__init__")))
  (hq:∀h' e,eZ h h' e (.ref C) rest->h.objs.size<=e->Q (.done (.ret (.ref e))) ⟨h',g,d,t,os⟩) (hrest:rest.length<=iX) :
  iS (iQ prog w) A (Builtin.«type.__call__» ⟨.ref C::rest,[]⟩) Q E ⟨h,g,d,t,os⟩:=by
 have F:=dD
 repeat (first|with_reducible refine ja hC ?_|with_reducible refine wpAny_madeBy_exc hC ?_|wp_step)
 refine kJ (Code.quiet_builtin _ F.quiet) (lI F T hC ?_);refine lO F T hC ?_ hrest;show iS _ _ _ _ _ _;have hC₁:=ae { cls:=.ref C,data:=.fields #[.ref h.objs.size,.none,.none,.none,.bool false,.none] }
  (ae { cls:=.type "tuple", data:=.seq rest.toArray } hC)
 have hget:((h.push { cls:=.type "tuple", data:=.seq rest.toArray }).push
   { cls:=.ref C,data:=.fields #[.ref h.objs.size,.none,.none,.none,.bool false,.none] }).get? (h.objs.size+1)=some
   { cls:=.ref C,data:=.fields #[.ref h.objs.size,.none,.none,.none,.bool false,.none] }:=by heap_get
 have hcC:(ai C::bm).contains (.ref C)=true:=by simp
 have kk:∀b o,h.get? b=some o->((h.push { cls:=.type "tuple", data:=.seq rest.toArray }).push { cls:=.ref C,data:=.fields #[.ref h.objs.size,.none,.none,.none,.bool false,.none] }).get? b=some o:=λb o e=>ae _ (ae _ e)
 have T₁:=T.keeps (h':=(h.push { cls:=.type "tuple", data:=.seq rest.toArray }).push { cls:=.ref C,data:=.fields #[.ref h.objs.size,.none,.none,.none,.bool false,.none] })
  λb o e=>ae _ (ae _ e)
 unfold lS
 repeat (first|with_reducible refine ja hget ?_|(with_reducible refine ji hC₁ ?_;rw[hcC])|wp_step)
 show iS _ _ (je (.ref C) _) _ _ _;refine hi _ _ _ _ kk ?_;refine kF (iT (wpAny_of_eq (F.init.bind _) ?_));refine iT (jG (jq F.init.plain F.initEntry (lB F T₁ hC₁ hget rfl ?_)))
 wp_walk
 refine hq _ _ ⟨λb o hb=>?_,bX (bR _),h.objs.size+2,?_,bX (by lia),?_⟩ (bR _)
 .rw [bz _ _ (ee (cj (aj hb)))];exact ae _ (ae _ (ae _ hb))
 .rw [cM _ (ae _ hget) rfl];simp only[eA];rfl
 .rw [bz _ _ (show h.objs.size+1≠h.objs.size+2 by lia)]
  exact fq (by simp only[eA]) rfl
def LV(T:ju h xE bm) {rest:List Value}{Q:Value->iM->Prop}
  (hC:h.get? C=some (jh nm q C N bs bm hdct sn sub ab col dd k0 k1 k2 k3 k5 "ValueError.__new__"))
  (hi:Lk (iQ prog w) h (je (.ref C) "__init__") (some (.builtin "ValueError.__init__")))
  (hq:∀h' e,eZ h h' e (.ref C) rest->h.objs.size<=e->Q (.ref e) ⟨h',g,d,t,os⟩) (hrest:rest.length<=iX) :
  iS (iQ prog w) A (call (.ref C) rest) Q E ⟨h,g,d,t,os⟩:=by
 have f1:=tc_lookup;have f2:=tc_bind (.ref C);have hT:(⟨h,g,d,t,os⟩:iM).TypeIs (.ref C) "type" := ⟨_,hC,rfl⟩;refine jG (codeAny_of_tree ?_);show iS _ _ (callAny (.ref C) _) _ _ _
 repeat (any_goals (first|assumption|with_reducible refine ja hC ?_|wp_step))
 refine⟨rfl,?_⟩;refine kR (Code.quiet_builtin _ (by decide +kernel)) entry_typeCall (kH hC (El (hrest:=hrest) T hC hi λh' e hm hs=>?_))
 exact hq h' e hm hs
end
end Xe
namespace Xe
open PySem PySem.Spec PySem.W PyProof.Rows L2 Mr
def abJ(K:Frag) (c:Str):TE:=λ_ H Q=>∃C M,Ref K c C M/\∀e,H e=none->Q (.ref e) (pY H e (Mi e C none))
structure aa1 (K:Frag) (mg:Str->Option Value) (c:Str) (C M:Addr):Prop where
 rf:Ref K c C M
 ini:findIn K (.ref C) "__init__" = some (some (.builtin "ValueError.__init__"))
 kp:keepIn K (.ref C)=true
 m:mg c=some (.ref C)
section
variable {X:Cx}{c:Str}{C M:Addr}{p pos:Pos}
def MU(G:aa1 X.K X.mg c C M) (hg:Gl X c:=by rfl) (hdb:(c == ("__debug__" : Str))=false:=by decide):PE X (.Call (.Name c p) [] [] pos) (abJ X.K c):=by
 intro mZ s σ H Q I h;refine jo (xV I hg G.m ?_ hdb);refine W.callWith_K0 I.kIn G.kp ?_;obtain⟨C',M',rf',q⟩:=h;obtain⟨rfl,rfl⟩:=G.rf.one rf';obtain⟨⟨N,q',bs,sn,sub,ab,col,dd,k0,k1,k2,k3,k5,hC⟩,_,T⟩:=xg G.rf.xc;obtain⟨hh,g,d,tk,os⟩:=s;refine LV (rest:=[]) (T _ I.kIn) (I.kIn _ _ hC) (looks_findIn I.kIn G.ini) (λh' e hm hs=>?_) (by rw[jj];simp)
 obtain⟨t0,hx,_,_⟩:=hm.there;exact⟨.ref e,_,I.laid (t':=tk) hm.keeps hs (HN hx),rfl,q e (I.hok.fresh hs)⟩
end
end Xe
namespace Xe
open PySem
end Xe
namespace Xe
open PySem PySem.Spec PySem.W PyProof.Rows L2 Mr
end Xe
namespace PySem.SCG
open PySem Builtin Builtin.Str
end PySem.SCG
namespace Mr
open PySem PySem.Spec PyProof.Rows L2
end Mr
namespace Mr
open PySem PyProof.Rows L2
section
variable {X:Cx}
end
end Mr
namespace Mr
open PySem L2
end Mr
namespace Mr
open PySem PySem.Calls PySem.Spec PyProof.Rows L2
section
variable {X:Cx}
def Nu:V->List V->Hp->VK->Prop:=λx vs H Q=>∃l xs i y,x = .ref l/\vs=[.int (i:Nat),y]/\H l=some (.lst xs)/\i<=xs.length/\xs.length<iX/\Q .non (pY H l (.lst (xs.take i++y::xs.drop i)))
def Px:MtM X "list.insert" Nu:=by
 intro mZ s σ H x vs v us Q I rx rv h;obtain⟨l,xs,i,y,rfl,rfl,hH,hi,hz,q⟩:=h;cases rx;obtain⟨u1,u2,rfl,r1,r2⟩:∃u1 u2,us=[u1,u2]/\qb (.int (i:Nat)) u1/\qb y u2:=by
  cases rv with
  |cons a b=>cases b with
   |cons c d=>cases d;exact⟨_,_,rfl,a,c⟩
 obtain⟨t,rfl⟩:=r1;obtain⟨z,its,n,r,hl,e⟩:=I.lstM hH;have hl':xs.length=its.length:=hl;have hz':its.length<iX:=by rw[←hl'];exact hz
 have hs:iX=16777216:=jj;have hfit:(!Builtin.List.listFitsIndex ((i:Nat):Int))=false:=by rw[fitsIndex_both (by lia) (by lia)];rfl
 have hf2:¬ (!Builtin.List.listFitsIndex ((i:Nat):Int))=true:=by rw[hfit];exact ay
 have hsz:its.toArray.size<=iX:=by rw[aq];exact bC hz'
 generalize hj:((i:Nat):Int)=j at hf2 ⊢;have hm:=AutoSeq1.list_insert_list_int_val_1 l its.toArray n j t u2 hf2 hsz;refine jH F.slot_list_insert ⟨_,e,rfl⟩ F.entry_list_insert (F.args_list_insert_3 _ _ _) hm ⟨e,?_⟩;refine⟨.non,_,I.lset (its':=its.take i++u2::its.drop i) hH e ?_ ?_ ?_,rfl,q⟩
 .subst hj;have h1:¬ ((i:Nat):Int)<0:=by lia
  have h2:min ((i:Nat):Int).toNat its.toArray.size=i:=by rw[bS,aq];lia
  show (its.toArray.extract 0 (if ((i:Nat):Int)<0 then _ else min ((i:Nat):Int).toNat its.toArray.size)).push u2++its.toArray.extract (if ((i:Nat):Int)<0 then _ else min ((i:Nat):Int).toNat its.toArray.size)=_
  rw[oO h1,h2];apply Array.toList_inj.mp;simp only[aH,cV,dB,List.extract_eq_drop_take,df,gJ,ar,List.singleton_append,aq];rw[bg (l:=its.drop i) (by rw[au];lia)]
 .exact (r.take i).append (.cons r2 (r.drop i))
 .rw [lAq,lTq,lCq,au];lia
end
section
variable {X:Cx}
def ZV(K:W.Frag) (x:V) (H:Hp) (T:String):Prop:=match x with
 | .int _=>T = "list" ∨ T = "tuple" ∨ T = "str"
 | .str _=>T = "list" ∨ T = "tuple"
 | .non=>T = "list" ∨ T = "tuple"
 | .ref p=>(T = "tuple" /\ ∃xs,rR K H p xs)∨(T = "list" /\ ∃xs,Gm K H p xs)
 |_=>False
def uy:tj X (.builtin "isinstance") (λxs H Q=>∃x T,xs=[x,.ty T]/\ZV X.K x H T/\Q (.bl false) H):=by
 intro mZ s σ H xs us Q I r h;obtain⟨x,T,rfl,e,q⟩:=h;obtain⟨u,v,rfl,rx,rT⟩:=Tp r;cases rT;cases x with
 |int i =>
  obtain⟨t,rfl⟩:=rx;rcases e with rfl|rfl|rfl
  .exact jf (jO (by decide +kernel) F.isi_meta_list F.sub_int_list) (show EP X mZ σ Q (.bool false) { s with toks:=s.toks+1 } from ⟨.bl false,H,I.tok _,rfl,q⟩)
  .exact jf (jO (by decide +kernel) F.isi_meta_tuple F.sub_int_tuple) (show EP X mZ σ Q (.bool false) { s with toks:=s.toks+1 } from ⟨.bl false,H,I.tok _,rfl,q⟩)
  .exact jf (jO (by decide +kernel) F.isi_meta_str F.sub_int_str) (show EP X mZ σ Q (.bool false) { s with toks:=s.toks+1 } from ⟨.bl false,H,I.tok _,rfl,q⟩)
 |str i =>
  obtain⟨t,rfl⟩:=rx;rcases e with rfl|rfl
  .exact jf (lL (by decide +kernel) F.isi_meta_list F.sub_str_list) (show EP X mZ σ Q (.bool false) { s with toks:=s.toks+1 } from ⟨.bl false,H,I.tok _,rfl,q⟩)
  .exact jf (lL (by decide +kernel) F.isi_meta_tuple F.sub_str_tuple) (show EP X mZ σ Q (.bool false) { s with toks:=s.toks+1 } from ⟨.bl false,H,I.tok _,rfl,q⟩)
 |non =>
  cases rx;rcases e with rfl|rfl
  .exact jf (lC (by decide +kernel) F.isi_meta_list F.sub_NoneType_list) (show EP X mZ σ Q (.bool false) { s with toks:=s.toks+1 } from ⟨.bl false,H,I.tok _,rfl,q⟩)
  .exact jf (lC (by decide +kernel) F.isi_meta_tuple F.sub_NoneType_tuple) (show EP X mZ σ Q (.bool false) { s with toks:=s.toks+1 } from ⟨.bl false,H,I.tok _,rfl,q⟩)
 |ref p =>
  cases rx;rcases e with ⟨rfl,xs,hS⟩|⟨rfl,xs,hS⟩
  .obtain ⟨its,rv,pl,hz⟩:=I.list hS;exact jf (isinstance_false_list (by decide +kernel) F.isi_meta_tuple F.sub_list_tuple) ⟨pl.isList.typeIs,⟨.bl false,H,I.tok _,rfl,q⟩⟩
  .obtain ⟨its,rv,⟨o,ho,hc,_⟩,hz⟩:=I.tuple hS;exact jf (isinstance_false_tuple (by decide +kernel) F.isi_meta_list F.sub_tuple_list) ⟨⟨o,ho,hc⟩,⟨.bl false,H,I.tok _,rfl,q⟩⟩
 |_=>exact(show False from e).elim
end
end Mr
namespace MrS
open PySem PySem.W PyProof.Rows
end MrS
namespace Mr
open PySem PySem.W PySem.Spec PyProof.Rows L2
end Mr
namespace Z
open PySem L2 Mr
abbrev St:=L2.St
inductive D where
 |non|bl (b:Bool)|int (i:Int)|str (x:Str)|ty (n:String)|list (xs:List D)|tup (xs:List D)|dict (nV:List (pN×D))|scr (ns:List Int)|exc (c:Str) (fs:List (Str×Int))|cls (c:Str)|fd (nV:List (pN×D))|ins (c:Str) (fs:List (Str×D))
inductive qY (K:W.Frag) (H:Hp):D->V->Prop
 |non:qY K H .non .non
 |bl {b:Bool}:qY K H (.bl b) (.bl b)
 |int {i:Int}:qY K H (.int i) (.int i)
 |str {x:Str}:qY K H (.str x) (.str x)
 |ty {n:String}:qY K H (.ty n) (.ty n)
 |list {p:Addr}{vs:List V}{ds:List D}(h:H p=some (.lst vs)) (l:ds.length=vs.length) (e:∀(i:Nat) (d:D) (v:V),ds[i]?=some d->vs[i]?=some v->qY K H d v):qY K H (.list ds) (.ref p)
 |tup {p:Addr}{vs:List V}{ds:List D}(h:H p=some (.tup vs)) (l:ds.length=vs.length) (e:∀(i:Nat) (d:D) (v:V),ds[i]?=some d->vs[i]?=some v->qY K H d v):qY K H (.tup ds) (.ref p)
 |dict {p:Addr}{nV:List (pN×V)}{ds:List (pN×D)}(h:H p=some (.dK nV)) (l:ds.map (·.1)=nV.map (·.1)) (e:∀(i:Nat) (d:pN×D) (v:pN×V),ds[i]?=some d->nV[i]?=some v->qY K H d.2 v.2):qY K H (.dict ds) (.ref p)
 |scr {p:Addr}{ns:List Int}(h:rR K H p (ns.map V.int)):qY K H (.scr ns) (.ref p)
 |exc {c:Str}{fs:List (Str×Int)}{e C M dx:Addr}(rf:Xe.Ref K c C M) (nf:∀p∈fs,W.findIn K (.ref C) p.1=some none) (h:H e=some (Xe.E3 e C (some dx))) (hx:H dx=some (.xd (fs.map λp=>(p.1,V.int p.2)))):qY K H (.exc c fs) (.ref e)
 |exc0 {c:Str}{e C M:Addr}(rf:Xe.Ref K c C M) (h:H e=some (Xe.E3 e C none)):qY K H (.exc c []) (.ref e)
 |cls {c:Str}{C:Addr}(h:Xe.XO K c C):qY K H (.cls c) (.ref C)
 |fd {p:Addr}{o:Obj}{nV:List (pN×V)}{ds:List (pN×D)}(h:H p=some (.frz o (.dK nV))) (l:ds.map (·.1)=nV.map (·.1)) (e:∀(i:Nat) (d:pN×D) (v:pN×V),ds[i]?=some d->nV[i]?=some v->qY K H d.2 v.2):qY K H (.fd ds) (.ref p)
 |ins {c:Str}{a C dx:Addr}{gs:List (Str×V)}{fs:List (Str×D)}(rf:W.nsIn K iV c=some (some (.ref C))) (h:H a=some (.ins C dx gs)) (l:fs.map (·.1)=gs.map (·.1)) (e:∀(i:Nat) (d:Str×D) (v:Str×V),fs[i]?=some d->gs[i]?=some v->qY K H d.2 v.2):qY K H (.ins c fs) (.ref a)
def qe(K:W.Frag) (H:Hp) (ds:List D) (vs:List V):Prop:=ds.length=vs.length/\∀(i:Nat) (d:D) (v:V),ds[i]?=some d->vs[i]?=some v->qY K H d v
def vB(K:W.Frag) (H:Hp) (ds:List (pN×D)) (nV:List (pN×V)):Prop:=ds.map (·.1)=nV.map (·.1)/\∀(i:Nat) (d:pN×D) (v:pN×V),ds[i]?=some d->nV[i]?=some v->qY K H d.2 v.2
section
variable {K:W.Frag}{H H':Hp}
def qY.mono{d:D}{v:V}(h:qY K H d v) (s:oX H H'):qY K H' d v:=by
 induction h with
 |non=>exact .non
 |bl=>exact .bl
 |int=>exact .int
 |str=>exact .str
 |ty=>exact .ty
 |list h l _ ih=>exact .list (s _ _ h) l ih
 |tup h l _ ih=>exact .tup (s _ _ h) l ih
 |dict h l _ ih=>exact .dict (s _ _ h) l ih
 |scr h=>exact .scr (s.seq h)
 |exc rf nf h hx=>exact .exc rf nf (s _ _ h) (s _ _ hx)
 |exc0 rf h=>exact .exc0 rf (s _ _ h)
 |cls h=>exact .cls h
 |fd h l _ ih=>exact .fd (s _ _ h) l ih
 |ins rf h l _ ih=>exact .ins rf (s _ _ h) l ih
theorem qe.mono{ds:List D}{vs:List V}(h:qe K H ds vs) (s:oX H H'):qe K H' ds vs:=⟨h.1,λi d v a b=>(h.2 i d v a b).mono s⟩
theorem vB.mono{ds:List (pN×D)}{vs:List (pN×V)}(h:vB K H ds vs) (s:oX H H'):vB K H' ds vs:=⟨h.1,λi d v a b=>(h.2 i d v a b).mono s⟩
def qe.nil:qe K H [] []:=⟨rfl,λi d v a=>by simp at a⟩
def qe.cons{d:D}{v:V}{ds:List D}{vs:List V}(h:qY K H d v) (t:qe K H ds vs):qe K H (d::ds) (v::vs):=⟨by simp[t.1],λi e w a b=>by
 cases i with
 |zero =>
  simp at a b;subst a b;exact h
 |succ i=>exact t.2 i e w (by simpa using a) (by simpa using b)⟩
def qe.cons_iff{d:D}{v:V}{ds:List D}{vs:List V}:qe K H (d::ds) (v::vs)↔qY K H d v/\qe K H ds vs :=
 ⟨λh=>⟨h.2 0 d v rfl rfl,by have:=h.1;simpa using this,λi e w a b=>h.2 (i+1) e w (by simpa using a) (by simpa using b)⟩,λh=>.cons h.1 h.2⟩
def qe.nil_inv{vs:List V}(h:qe K H [] vs):vs=[]:=by
 have:=h.1;cases vs with
 |nil=>rfl
 |cons _ _=>simp at this
def qe.cons_inv{d:D}{ds:List D}{vs:List V}(h:qe K H (d::ds) vs):∃v ws,vs=v::ws/\qY K H d v/\qe K H ds ws:=by
 cases vs with
 |nil=>have:=h.1;simp at this
 |cons v ws=>exact⟨v,ws,rfl,qe.cons_iff.mp h⟩
theorem qe.append:∀{ds es:List D}{vs ws:List V},qe K H ds vs->qe K H es ws->qe K H (ds++es) (vs++ws)
 | [],es,vs,ws,h,g=>by rw[h.nil_inv];exact g
 |d::ds,es,vs,ws,h,g=>by
  obtain⟨v,us,rfl,h1,h2⟩:=h.cons_inv;exact .cons h1 (qe.append h2 g)
theorem qe.take{ds:List D}{vs:List V}(h:qe K H ds vs) (n:Nat):qe K H (ds.take n) (vs.take n):=⟨by rw[lTq,lTq,h.1],λi d v a b=>by
 rw[List.getElem?_take]at a b;split at a
 .rename_i hi;rw[oJ hi]at b;exact h.2 i d v a b
 .cases a⟩
theorem qe.drop{ds:List D}{vs:List V}(h:qe K H ds vs) (n:Nat):qe K H (ds.drop n) (vs.drop n):=⟨by rw[au,au,h.1],λi d v a b=>by
 rw[cI]at a b;exact h.2 _ d v a b⟩
def qe.get{ds:List D}{vs:List V}(h:qe K H ds vs) {i:Nat}{d:D}(e:ds[i]?=some d):∃v,vs[i]?=some v/\qY K H d v:=by
 have hi:i<ds.length:=(gSq.mp e).1;have hj:i<vs.length:=h.1 ▸ hi;exact⟨vs[i],gEg hj,h.2 i d _ e (gEg hj)⟩
def qe.get'{ds:List D}{vs:List V}(h:qe K H ds vs) {i:Nat}{v:V}(e:vs[i]?=some v):∃d,ds[i]?=some d/\qY K H d v:=by
 have hi:i<vs.length:=(gSq.mp e).1;have hj:i<ds.length:=h.1.symm ▸ hi;exact⟨ds[i],gEg hj,h.2 i _ v (gEg hj) e⟩
def qY.list_inv{ds:List D}{v:V}(h:qY K H (.list ds) v):∃p vs,v = .ref p/\H p=some (.lst vs)/\qe K H ds vs:=by
 cases h with
 |list h l e=>exact⟨_,_,rfl,h,l,e⟩
def qY.tup_inv{ds:List D}{v:V}(h:qY K H (.tup ds) v):∃p vs,v = .ref p/\H p=some (.tup vs)/\qe K H ds vs:=by
 cases h with
 |tup h l e=>exact⟨_,_,rfl,h,l,e⟩
def qY.dict_inv{ds:List (pN×D)}{v:V}(h:qY K H (.dict ds) v):∃p nV,v = .ref p/\H p=some (.dK nV)/\vB K H ds nV:=by
 cases h with
 |dict h l e=>exact⟨_,_,rfl,h,l,e⟩
def qY.mk_tup{ds:List D}{p:Addr}{vs:List V}(h:H p=some (.tup vs)) (r:qe K H ds vs):qY K H (.tup ds) (.ref p):=.tup h r.1 r.2
def qY.mk_dict{ds:List (pN×D)}{p:Addr}{vs:List (pN×V)}(h:H p=some (.dK vs)) (r:vB K H ds vs):qY K H (.dict ds) (.ref p):=.dict h r.1 r.2
end
noncomputable def D.scal:D->Bool
 | .non=>true
 | .bl _=>true
 | .int _=>true
 | .str _=>true
 | .ty _=>true
 |_=>false
theorem qY.scal{K:W.Frag}{H H':Hp}{d:D}{v:V}(h:qY K H d v) (s:d.scal=true):qY K H' d v:=by
 cases h with
 |non=>exact .non
 |bl=>exact .bl
 |int=>exact .int
 |str=>exact .str
 |ty=>exact .ty
 |_=>cases s
inductive AV where
 |sh (d:D)|ow (avs:List AV)|owd (nV:List (pN×D))
mutual
def nR:AV->D
 | .sh d=>d
 | .ow avs=>.list (Gf avs)
 | .owd nV=>.dict nV
def Gf:List AV->List D
 | []=>[]
 |a::as=>nR a::Gf as
end
theorem GZ:∀avs:List AV,Gf avs=avs.map nR
 | []=>by simp[Gf]
 |a::as=>by simp[Gf,GZ as]
@[simp] theorem uc (d:D):nR (.sh d)=d:=by simp[nR]
@[simp] theorem uX (avs:List AV):nR (.ow avs) = .list (avs.map nR):=by simp[nR,GZ]
@[simp] theorem Dv (nV:List (pN×D)):nR (.owd nV) = .dict nV:=by simp[nR]
inductive pE (K:W.Frag) (Hf H:Hp):AV->V->List Addr->Prop
 |sh {d:D}{v:V}(r:qY K Hf d v):pE K Hf H (.sh d) v []
 |ow {p:Addr}{vs:List V}{avs:List AV}{Fs:List (List Addr)}(h:H p=some (.lst vs)) (n:Hf p=none) (l:avs.length=vs.length) (lf:avs.length=Fs.length)
   (e:∀(i:Nat) (a:AV) (v:V) (F:List Addr),avs[i]?=some a->vs[i]?=some v->Fs[i]?=some F->pE K Hf H a v F):pE K Hf H (.ow avs) (.ref p) (p::Fs.flatten)
 |owd {p:Addr}{nV:List (pN×V)}{ds:List (pN×D)}(h:H p=some (.dK nV)) (n:Hf p=none) (r:vB K Hf ds nV):pE K Hf H (.owd ds) (.ref p) [p]
section
variable {K:W.Frag}{Hf Hf' H H':Hp}{av:AV}{v:V}{F:List Addr}
def pE.owned(h:pE K Hf H av v F):∀q∈F,H q≠none/\Hf q=none:=by
 induction h with
 |sh _=>intro q hq;cases hq
 | @ow p vs avs Fs h n l lf e ih =>
  intro q hq;rcases ak.mp hq with rfl|hq
  .exact ⟨by rw[h];simp,n⟩
  .obtain ⟨F,hF,hq⟩:=mFq.mp hq;obtain⟨i,hi,rfl⟩:=bZ.mp hF;exact ih i avs[i] vs[i] Fs[i] (by simp) (by simp) (by simp) q hq
 |owd h n r =>
  intro q hq;have:=mSq.mp hq;subst this;exact⟨by rw[h];simp,n⟩
def pE.keep(h:pE K Hf H av v F) (s:oX Hf Hf') (hk:∀q∈F,H' q=H q) (hn:∀q∈F,Hf' q=none):pE K Hf' H' av v F:=by
 induction h with
 |sh r=>exact .sh (r.mono s)
 | @ow p vs avs Fs h n l lf e ih =>
  refine .ow (by rw[hk p (by simp)];exact h) (hn p (by simp)) l lf λi a v F h1 h2 h3=>ih i a v F h1 h2 h3 (λq hq=>hk q ?_) λq hq=>hn q ?_
  all_goals exact mCo _ (mFq.mpr ⟨F,mGq h3,hq⟩)
 |owd h n r=>exact .owd (by rw[hk _ (by simp)];exact h) (hn _ (by simp)) (r.mono s)
def pE.rep(h:pE K Hf H av v F) (s:oX Hf H):qY K H (nR av) v:=by
 induction h with
 |sh r=>rw[uc];exact r.mono s
 | @ow p vs avs Fs h n l lf e ih =>
  rw[uX];refine .list h (by simp[l]) λi d v h1 h2=>?_
  rw[gMq]at h1;cases ea:avs[i]? with
  |none=>rw[ea]at h1;cases h1
  |some a =>
   rw[ea]at h1;cases h1;have hi:i<Fs.length:=lf ▸ (gSq.mp ea).1;exact ih i a v Fs[i] ea h2 (gEg hi)
 |owd h n r=>rw[Dv];exact .mk_dict h (r.mono s)
def frz(Hf H:Hp) (F:List Addr):Hp:=λb=>if b∈F then H b else Hf b
def AA{b:Addr}(h:b∈F):frz Hf H F b=H b:=oJ h
def vP{b:Addr}(h:b∉F):frz Hf H F b=Hf b:=oO h
def rq(h:∀q∈F,Hf q=none):oX Hf (frz Hf H F):=λb o e=>by
 rw[vP λm=>by rw[h b m]at e;cases e]
 exact e
def Wu(s:oX Hf H):oX (frz Hf H F) H:=λb o e=>by
 by_cases m:b∈F
 .rw [AA m]at e;exact e
 .rw [vP m]at e;exact s b o e
def pE.frozen(h:pE K Hf H av v F) (s:oX Hf Hf') (hk:∀q∈F,Hf' q=H q):qY K Hf' (nR av) v:=by
 induction h with
 |sh r=>rw[uc];exact r.mono s
 | @ow p vs avs Fs h n l lf e ih =>
  rw[uX];refine .list (by rw[hk p (by simp)];exact h) (by simp[l]) λi d v h1 h2=>?_
  rw[gMq]at h1;cases ea:avs[i]? with
  |none=>rw[ea]at h1;cases h1
  |some a =>
   rw[ea]at h1;cases h1;have hi:i<Fs.length:=lf ▸ (gSq.mp ea).1;exact ih i a v Fs[i] ea h2 (gEg hi) λq hq=>hk q (mCo _ (mFq.mpr ⟨Fs[i],gRq hi,hq⟩))
 |owd h n r=>rw[Dv];exact .mk_dict (by rw[hk _ (by simp)];exact h) (r.mono s)
end
abbrev AS:=List (Option AV)
structure pH (K:W.Frag) (H₀ Hf₀ Hf:Hp) (S:AS) (σ:St) (H:Hp) (Fs:List (List Addr)):Prop where
 len:S.length=σ.length
 lenF:Fs.length=S.length
 rep:∀(i:Nat) (av:AV),S[i]?=some (some av)->∃v F,σ[i]?=some (some v)/\Fs[i]?=some F/\pE K Hf H av v F
 emp:∀i:Nat,S[i]?=some none->Fs[i]?=some []
 nd:Fs.flatten.Nodup
 fresh:∀p∈Fs.flatten,H₀ p=none
 sub:oX Hf H
 fr:oX H₀ H
 lim:∀b,Hf₀ b=none->H₀ b≠none->Hf b=none
 sf:oX Hf₀ Hf
structure Bs (Hf H:Hp) (Fs:List (List Addr)) (Hf' H':Hp) (Fs':List (List Addr)):Prop where
 sf:oX Hf Hf'
 sh:oX H H'
 own:∀p∈Fs'.flatten,p∈Fs.flatten
 gr:∀b,Hf b=none->Hf' b≠none->H b=none∨b∈Fs.flatten
theorem Bs.refl{Hf H:Hp}{Fs:List (List Addr)}:Bs Hf H Fs Hf H Fs:=⟨.refl _,.refl _,λ_ h=>h,λb h g=>absurd h g⟩
def NF{H H':Hp}(s:oX H H') {b:Addr}(h:H b≠none):H' b≠none:=by
 cases e:H b with
 |none=>exact absurd e h
 |some o=>rw[s b o e];simp
theorem Bs.trans{Hf H Hf1 H1 Hf2 H2:Hp}{Fs Fs1 Fs2:List (List Addr)}(a:Bs Hf H Fs Hf1 H1 Fs1) (b:Bs Hf1 H1 Fs1 Hf2 H2 Fs2):Bs Hf H Fs Hf2 H2 Fs2 :=
 ⟨a.sf.trans b.sf,a.sh.trans b.sh,λp h=>a.own p (b.own p h),λc h g=>by
  by_cases e:Hf1 c=none
  .rcases b.gr c e g with q|q
   .exact .inl (a.sh.free q)
   .exact .inr (a.own c q)
  .exact a.gr c h e⟩
section
variable {K:W.Frag}{H₀ Hf₀ Hf Hf' H H':Hp}{S:AS}{σ:St}{Fs Fs':List (List Addr)}
def Ny{b:Addr}(s:oX H H') (h:H b≠none):H' b=H b:=by
 cases e:H b with
 |none=>exact absurd e h
 |some o=>exact s b o e
def pH.mem(R:pH K H₀ Hf₀ Hf S σ H Fs) {q:Addr}(h:q∈Fs.flatten):H q≠none/\Hf q=none:=by
 obtain⟨F,hF,hq⟩:=mFq.mp h;obtain⟨i,hi,rfl⟩:=bZ.mp hF;have hiS:i<S.length:=R.lenF ▸ hi;cases e:S[i] with
 |none =>
  have:=R.emp i (by rw[gEg hiS,e])
  rw[gEg hi]at this;rw[aS.inj this]at hq;cases hq
 |some av =>
  obtain⟨v,F,_,e2,r⟩:=R.rep i av (by rw[gEg hiS,e])
  rw[gEg hi]at e2;rw[aS.inj e2]at hq;exact r.owned q hq
def pH.more(R:pH K H₀ Hf₀ Hf S σ H Fs) (s:oX H H') (sf:oX Hf Hf') (sub:oX Hf' H') (hn:∀q∈Fs.flatten,Hf' q=none) (lim:∀b,Hf₀ b=none->H₀ b≠none->Hf' b=none):pH K H₀ Hf₀ Hf' S σ H' Fs where
 len:=R.len
 lenF:=R.lenF
 rep:=λi av e=>by
  obtain⟨v,F,e1,e2,r⟩:=R.rep i av e;refine⟨v,F,e1,e2,r.keep sf (λq hq=>Ny s (r.owned q hq).1) λq hq=>hn q (mFq.mpr ⟨F,mGq e2,hq⟩)⟩
 emp:=R.emp
 nd:=R.nd
 fresh:=R.fresh
 sub:=sub
 fr:=R.fr.trans s
 lim:=lim
 sf:=R.sf.trans sf
def pH.laid(R:pH K H₀ Hf₀ Hf S σ H Fs) (s:oX H H'):pH K H₀ Hf₀ Hf S σ H' Fs:=R.more s (.refl _) (R.sub.trans s) (λq h=>(R.mem h).2) R.lim
def sR{F:List Addr}{i:Nat}{p:Addr}(h:p∈(Fs.set i F).flatten):p∈F∨p∈Fs.flatten:=by
 obtain⟨G,hG,hp⟩:=mFq.mp h;rcases List.mem_or_eq_of_mem_set hG with q|q
 .exact .inr (mFq.mpr ⟨G,q,hp⟩)
 .subst q;exact .inl hp
theorem ri:∀{Fs:List (List Addr)}{F:List Addr}(i:Nat),Fs.flatten.Nodup->F.Nodup->(∀p∈F,p∉Fs.flatten)->(Fs.set i F).flatten.Nodup
 | [],F,i,h,_,_=>by simp
 |G::Gs,F,0,h,hF,hd=>by
  rw[cJ,fCq,nAq];rw[fCq,nAq]at h;refine⟨hF,h.2.1,λa ha b hb e=>hd a ha ?_⟩
  rw[fCq];exact aC _ (e ▸ hb)
 |G::Gs,F,i+1,h,hF,hd=>by
  rw[dY,fCq,nAq];rw[fCq,nAq]at h;refine⟨h.1,ri i h.2.1 hF λp hp m=>hd p hp (by rw[fCq];exact aC _ m),λa ha b hb e=>?_⟩
  rcases sR hb with q|q
  .exact hd b q (by rw[fCq];exact bY _ (e ▸ ha))
  .exact h.2.2 a ha b q e
theorem pH.set(R:pH K H₀ Hf₀ Hf S σ H Fs) {av:AV}{v:V}{F:List Addr}(i:Nat) (r:pE K Hf H av v F) (nd:F.Nodup) (hf:∀q∈F,H₀ q=none/\q∉Fs.flatten) :
  pH K H₀ Hf₀ Hf (S.set i (some av)) (σ.set i (some v)) H (Fs.set i F) where
 len:=by simp[R.len]
 lenF:=by simp[R.lenF]
 rep:=λj a e=>by
  rw[aZ]at e
  by_cases hij:i=j
  .subst hij;rw[oJ rfl]at e;split at e
   .rename_i hi;cases e;exact⟨v,F,by rw[aN (R.len ▸ hi)],by rw[aN (R.lenF.symm ▸ hi)],r⟩
   .cases e
  .rw [oO hij]at e;obtain⟨w,G,e1,e2,q⟩:=R.rep j a e;exact⟨w,G,by rw[ao hij];exact e1,by rw[ao hij];exact e2,q⟩
 emp:=λj e=>by
  rw[aZ]at e
  by_cases hij:i=j
  .subst hij;rw[oJ rfl]at e;split at e <;> cases e
  .rw [oO hij]at e;rw[ao hij];exact R.emp j e
 nd:=ri i R.nd nd λp hp=>(hf p hp).2
 fresh:=λp hp=>by
  rcases sR hp with q|q
  .exact (hf p q).1
  .exact R.fresh p q
 sub:=R.sub
 fr:=R.fr
 lim:=R.lim
 sf:=R.sf
def qu{i:Nat}{p:Addr}(h:p∈(Fs.set i []).flatten):p∈Fs.flatten:=by
 rcases sR h with q|q
 .cases q
 .exact q
theorem uV:∀{Fs:List (List Addr)}{F:List Addr}{i:Nat}{p:Addr},Fs.flatten.Nodup->Fs[i]?=some F->p∈F->p∉(Fs.set i []).flatten
 | [],F,i,p,_,e,_,_=>by simp at e
 |G::Gs,F,0,p,h,e,hp,m=>by
  simp at e;subst e;rw[cJ,fCq,cm]at m;rw[fCq,nAq]at h;exact h.2.2 p hp p m rfl
 |G::Gs,F,i+1,p,h,e,hp,m=>by
  rw[dY,fCq]at m;rw[fCq,nAq]at h;have e':Gs[i]?=some F:=by simpa using e
  rcases mAq.mp m with q|q
  .exact h.2.2 p q p (mFq.mpr ⟨F,mGq e',hp⟩) rfl
  .exact uV h.2.1 e' hp q
def pH.move(R:pH K H₀ Hf₀ Hf S σ H Fs) {i:Nat}{av:AV}(e:S[i]?=some (some av)):∃v F,σ[i]?=some (some v)/\Fs[i]?=some F/\pE K Hf H av v F/\F.Nodup/\(∀q∈F,H₀ q=none/\q∉(Fs.set i []).flatten) /\
  pH K H₀ Hf₀ Hf (S.set i none) σ H (Fs.set i []):=by
 obtain⟨v,F,e1,e2,r⟩:=R.rep i av e;have hin:∀q∈F,q∈Fs.flatten:=λq hq=>mFq.mpr ⟨F,mGq e2,hq⟩
 refine⟨v,F,e1,e2,r,bf.sublist (bj (mGq e2)) R.nd,λq hq=>⟨R.fresh q (hin q hq),uV R.nd e2 hq⟩,?_⟩
 refine⟨by simp[R.len],by simp[R.lenF],λj a ej=>?_,λj ej=>?_,ri i R.nd aT (λp hp=>by cases hp),λp hp=>R.fresh p (qu hp),R.sub,R.fr,R.lim,R.sf⟩
 .rw [aZ]at ej
  by_cases hij:i=j
  .subst hij;rw[oJ rfl]at ej;split at ej <;> cases ej
  .rw [oO hij]at ej;obtain⟨w,G,f1,f2,q⟩:=R.rep j a ej;exact⟨w,G,f1,by rw[ao hij];exact f2,q⟩
 .rw [aZ]at ej
  by_cases hij:i=j
  .subst hij;rw[oJ rfl]at ej;split at ej
   .rename_i hi;rw[aN (R.lenF.symm ▸ hi)]
   .cases ej
  .rw [oO hij]at ej;rw[ao hij];exact R.emp j ej
theorem pH.frz(R:pH K H₀ Hf₀ Hf S σ H Fs) {F:List Addr}(hf:∀q∈F,H₀ q=none/\q∉Fs.flatten) (hn:∀q∈F,Hf q=none):pH K H₀ Hf₀ (frz Hf H F) S σ H Fs:=by
 refine R.more (.refl _) (rq hn) (Wu R.sub) (λq hq=>?_) λb h1 h2=>?_
 .rw [vP λm=>(hf q m).2 hq]
  exact(R.mem hq).2
 .rw [vP λm=>h2 (hf b m).1]
  exact R.lim b h1 h2
end
abbrev ME:=AS->Option (D×AS)
abbrev MK:=AS->Option (AV×AS)
abbrev ML:=AS->Option (List D×AS)
abbrev MT:=AS->Option (Bool×AS)
abbrev MA:=AS->Option (List AV×AS)
def oQ(K:W.Frag) (Hf H:Hp) (avs:List AV) (vs:List V) (Gs:List (List Addr)):Prop :=
 avs.length=vs.length/\avs.length=Gs.length/\∀(i:Nat) (a:AV) (v:V) (F:List Addr),avs[i]?=some a->vs[i]?=some v->Gs[i]?=some F->pE K Hf H a v F
structure Bv (H₀ H:Hp) (Fs Fs':List (List Addr)) (F:List Addr):Prop where
 nd:F.Nodup
 fr:∀q∈F,H₀ q=none
 out:∀q∈F,q∉Fs'.flatten
 new:∀q∈F,H q=none∨q∈Fs.flatten
def Bv.nil{H₀ H:Hp}{Fs Fs':List (List Addr)}:Bv H₀ H Fs Fs' []:=⟨aT,λq h=>(by cases h),λq h=>(by cases h),λq h=>(by cases h)⟩
section
variable (K:W.Frag)
def SR(te:TE) (m:ME):Prop:=∀{H₀ Hf₀ Hf:Hp}{S:AS}{σ:St}{H:Hp}{Fs:List (List Addr)}{d:D}{S':AS},pH K H₀ Hf₀ Hf S σ H Fs->m S=some (d,S')->∀Q:VK,
 (∀Hf' H' Fs' v,Bs Hf H Fs Hf' H' Fs'->pH K H₀ Hf₀ Hf' S' σ H' Fs'->qY K H' d v->Q v H')->te σ H Q
def SK(te:TE) (m:MK):Prop:=∀{H₀ Hf₀ Hf:Hp}{S:AS}{σ:St}{H:Hp}{Fs:List (List Addr)}{a:AV}{S':AS},pH K H₀ Hf₀ Hf S σ H Fs->m S=some (a,S')->∀Q:VK,
 (∀Hf' H' Fs' v F,Bs Hf H Fs Hf' H' Fs'->pH K H₀ Hf₀ Hf' S' σ H' Fs'->pE K Hf' H' a v F->Bv H₀ H Fs Fs' F->Q v H')->te σ H Q
def SL(te:TE) (m:ML):Prop:=∀{H₀ Hf₀ Hf:Hp}{S:AS}{σ:St}{H:Hp}{Fs:List (List Addr)}{ds:List D}{S':AS},pH K H₀ Hf₀ Hf S σ H Fs->m S=some (ds,S')->∀Q:VK,
 (∀Hf' H' Fs' p vs,Bs Hf H Fs Hf' H' Fs'->pH K H₀ Hf₀ Hf' S' σ H' Fs'->H' p=some (.lst vs)->qe K Hf' ds vs->Q (.ref p) H')->te σ H Q
def Gk(tt:TT) (m:MT):Prop:=∀{H₀ Hf₀ Hf:Hp}{S:AS}{σ:St}{H:Hp}{Fs:List (List Addr)}{b:Bool}{S':AS},pH K H₀ Hf₀ Hf S σ H Fs->m S=some (b,S')->∀Q:Bool->Hp->Prop,
 (∀Hf' H' Fs',Bs Hf H Fs Hf' H' Fs'->pH K H₀ Hf₀ Hf' S' σ H' Fs'->Q b H')->tt σ H Q
def SA(ta:TA) (m:MA):Prop:=∀{H₀ Hf₀ Hf:Hp}{S:AS}{σ:St}{H:Hp}{Fs:List (List Addr)}{as:List AV}{S':AS},pH K H₀ Hf₀ Hf S σ H Fs->m S=some (as,S')->∀Q:List V->Hp->Prop,
 (∀Hf' H' Fs' vs Gs,Bs Hf H Fs Hf' H' Fs'->pH K H₀ Hf₀ Hf' S' σ H' Fs'->oQ K Hf' H' as vs Gs->Bv H₀ H Fs Fs' Gs.flatten->Q vs H')->ta σ H Q
def UQ(ta:TA) (m:ML):Prop:=∀{H₀ Hf₀ Hf:Hp}{S:AS}{σ:St}{H:Hp}{Fs:List (List Addr)}{ds:List D}{S':AS},pH K H₀ Hf₀ Hf S σ H Fs->m S=some (ds,S')->∀Q:List V->Hp->Prop,
 (∀Hf' H' Fs' vs,Bs Hf H Fs Hf' H' Fs'->pH K H₀ Hf₀ Hf' S' σ H' Fs'->qe K H' ds vs->Q vs H')->ta σ H Q
end
section
variable {K:W.Frag}{H₀ Hf₀ Hf Hf' H H':Hp}{S S':AS}{σ:St}{Fs Fs':List (List Addr)}
def pE.stp{av:AV}{v:V}{F:List Addr}(r:pE K Hf H av v F) (ho:∀q∈F,q∉Fs.flatten) (t:Bs Hf H Fs Hf' H' Fs'):pE K Hf' H' av v F :=
 r.keep t.sf (λq hq=>Ny t.sh (r.owned q hq).1) λq hq=>by
  by_cases e:Hf' q=none
  .exact e
  .rcases t.gr q (r.owned q hq).2 e with z|z
   .exact absurd z (r.owned q hq).1
   .exact absurd z (ho q hq)
def pH.new(R:pH K H₀ Hf₀ Hf S σ H Fs) {p:Addr}{o:HO}(hp:H p=none):Bs Hf H Fs Hf (pY H p o) Fs/\pH K H₀ Hf₀ Hf S σ (pY H p o) Fs/\Hf p=none/\H₀ p=none/\p∉Fs.flatten :=
 ⟨⟨.refl _,rh hp,λ_ h=>h,λb h g=>absurd h g⟩,R.laid (rh hp),R.sub.free hp,R.fr.free hp,λm=>(R.mem m).1 hp⟩
def rm(n:Nat):(aD n ([]:List Addr)).flatten=[]:=by
 induction n with
 |zero=>rfl
 |succ n ih=>rw[gD,fCq,ih];rfl
def pE.new{p:Addr}{vs:List V}{ds:List D}(h:H p=some (.lst vs)) (n:Hf p=none) (r:qe K Hf ds vs):pE K Hf H (.ow (ds.map .sh)) (.ref p) [p]:=by
 have e:[p]=p::(aD ds.length ([]:List Addr)).flatten:=by rw[rm]
 rw[e];refine .ow h n (by simp[r.1]) (by simp) λi a v F h1 h2 h3=>?_
 rw[gMq]at h1;cases q:ds[i]? with
 |none=>rw[q]at h1;cases h1
 |some d =>
  rw[q]at h1;cases h1;have:F=[]:=cY (mGq h3);subst this;exact .sh (r.2 i d v q h2)
def pE.news{p:Addr}{vs:List V}{avs:List AV}{Gs:List (List Addr)}(h:H p=some (.lst vs)) (n:Hf p=none) (r:oQ K Hf H avs vs Gs):pE K Hf H (.ow avs) (.ref p) (p::Gs.flatten):=.ow h n r.1 r.2.1 r.2.2
def pE.ow_inv{avs:List AV}{v:V}{F:List Addr}(h:pE K Hf H (.ow avs) v F):∃p vs Gs,v = .ref p/\F=p::Gs.flatten/\H p=some (.lst vs)/\Hf p=none/\oQ K Hf H avs vs Gs:=by
 cases h with
 |ow h n l lf e=>exact⟨_,_,_,rfl,rfl,h,n,l,lf,e⟩
def pE.owd_inv{ds:List (pN×D)}{v:V}{F:List Addr}(h:pE K Hf H (.owd ds) v F):∃p nV,v = .ref p/\F=[p]/\H p=some (.dK nV)/\Hf p=none/\vB K Hf ds nV:=by
 cases h with
 |owd h n r=>exact⟨_,_,rfl,rfl,h,n,r⟩
def pE.sh_inv{d:D}{v:V}{F:List Addr}(h:pE K Hf H (.sh d) v F):F=[]/\qY K Hf d v:=by
 cases h with
 |sh r=>exact⟨rfl,r⟩
def pH.give{H1:Hp}{Fs1:List (List Addr)}(R:pH K H₀ Hf₀ Hf' S σ H1 Fs1) (t:Bs Hf H Fs Hf' H1 Fs1) {av:AV}{v:V}{F:List Addr}(r:pE K Hf' H1 av v F) (o:Bv H₀ H Fs Fs1 F) :
  pH K H₀ Hf₀ (Z.frz Hf' H1 F) S σ H1 Fs1/\qY K (Z.frz Hf' H1 F) (nR av) v/\Bs Hf H Fs (Z.frz Hf' H1 F) H1 Fs1:=by
 have n:∀q∈F,Hf' q=none:=λq hq=>(r.owned q hq).2
 refine⟨R.frz (λq hq=>⟨o.fr q hq,o.out q hq⟩) n,r.frozen (rq n) λq hq=>AA hq,t.sf.trans (rq n),t.sh,t.own,λb h g=>?_⟩
 by_cases m:b∈F
 .exact o.new b m
 .rw [vP m]at g;exact t.gr b h g
def oQ.nil:oQ K Hf H [] [] []:=⟨rfl,rfl,λi a v F h=>by simp at h⟩
def oQ.cons{a:AV}{v:V}{F:List Addr}{as:List AV}{vs:List V}{Gs:List (List Addr)}(h:pE K Hf H a v F) (t:oQ K Hf H as vs Gs):oQ K Hf H (a::as) (v::vs) (F::Gs) :=
 ⟨by simp[t.1],by simp[t.2.1],λi b w G h1 h2 h3=>by
  cases i with
  |zero =>
   simp at h1 h2 h3;subst h1 h2 h3;exact h
  |succ i=>exact t.2.2 i b w G (by simpa using h1) (by simpa using h2) (by simpa using h3)⟩
def oQ.nil_inv{vs:List V}{Gs:List (List Addr)}(h:oQ K Hf H [] vs Gs):vs=[]/\Gs=[]:=by
 obtain⟨a,b,_⟩:=h;exact⟨cA.mp a.symm,cA.mp b.symm⟩
def oQ.cons_inv{a:AV}{as:List AV}{vs:List V}{Gs:List (List Addr)}(h:oQ K Hf H (a::as) vs Gs):∃v ws F Gs',vs=v::ws/\Gs=F::Gs'/\pE K Hf H a v F/\oQ K Hf H as ws Gs':=by
 obtain⟨h1,h2,h3⟩:=h;cases vs with
 |nil=>simp at h1
 |cons v ws =>
  cases Gs with
  |nil=>simp at h2
  |cons F Gs'=>exact⟨v,ws,F,Gs',rfl,rfl,h3 0 a v F rfl rfl rfl,by simpa using h1,by simpa using h2,λi b w G q1 q2 q3=>h3 (i+1) b w G (by simpa using q1) (by simpa using q2) (by simpa using q3)⟩
theorem oQ.frozen(h:oQ K Hf H as vs Gs) (s:oX Hf Hf') (hk:∀q∈Gs.flatten,Hf' q=H q):qe K Hf' (as.map nR) vs :=
 ⟨by simp[h.1],λi d v h1 h2=>by
  rw[gMq]at h1;cases ea:as[i]? with
  |none=>rw[ea]at h1;cases h1
  |some a =>
   rw[ea]at h1;cases h1;have hi:i<Gs.length:=h.2.1 ▸ (gSq.mp ea).1;exact(h.2.2 i a v Gs[i] ea h2 (gEg hi)).frozen s λq hq=>hk q (mFq.mpr ⟨Gs[i],gRq hi,hq⟩)⟩
theorem oQ.owned(h:oQ K Hf H as vs Gs):∀q∈Gs.flatten,H q≠none/\Hf q=none:=λq hq=>by
 obtain⟨F,hF,hq⟩:=mFq.mp hq;obtain⟨i,hi,rfl⟩:=bZ.mp hF;have h1:i<as.length:=h.2.1.symm ▸ hi;have h2:i<vs.length:=h.1 ▸ h1;exact(h.2.2 i as[i] vs[i] Gs[i] (gEg h1) (gEg h2) (gEg hi)).owned q hq
def pH.gives{H1:Hp}{Fs1:List (List Addr)}(R:pH K H₀ Hf₀ Hf' S σ H1 Fs1) (t:Bs Hf H Fs Hf' H1 Fs1) {as:List AV}{vs:List V}{Gs:List (List Addr)}(r:oQ K Hf' H1 as vs Gs) (o:Bv H₀ H Fs Fs1 Gs.flatten) :
  pH K H₀ Hf₀ (Z.frz Hf' H1 Gs.flatten) S σ H1 Fs1/\qe K (Z.frz Hf' H1 Gs.flatten) (as.map nR) vs/\Bs Hf H Fs (Z.frz Hf' H1 Gs.flatten) H1 Fs1:=by
 have n:∀q∈Gs.flatten,Hf' q=none:=λq hq=>(r.owned q hq).2
 refine⟨R.frz (λq hq=>⟨o.fr q hq,o.out q hq⟩) n,r.frozen (rq n) λq hq=>AA hq,t.sf.trans (rq n),t.sh,t.own,λb h g=>?_⟩
 by_cases m:b∈Gs.flatten
 .exact o.new b m
 .rw [vP m]at g;exact t.gr b h g
def Bv.stp{Hf1 H1 Hf2 H2:Hp}{Fs1 Fs2:List (List Addr)}{F:List Addr}(o:Bv H₀ H Fs Fs1 F) (t:Bs Hf1 H1 Fs1 Hf2 H2 Fs2):Bv H₀ H Fs Fs2 F:=⟨o.nd,o.fr,λq h m=>o.out q h (t.own q m),o.new⟩
def Bv.back{Hf1 H1:Hp}{Fs1 Fs2:List (List Addr)}{F:List Addr}(t:Bs Hf H Fs Hf1 H1 Fs1) (o:Bv H₀ H1 Fs1 Fs2 F):Bv H₀ H Fs Fs2 F:=⟨o.nd,o.fr,o.out,λq h=>(o.new q h).elim (λe=>.inl (t.sh.free e)) λm=>.inr (t.own q m)⟩
def Bv.app{F G:List Addr}(a:Bv H₀ H Fs Fs' F) (b:Bv H₀ H Fs Fs' G) (d:∀q∈F,q∉G):Bv H₀ H Fs Fs' (F++G) :=
 ⟨nAq.mpr ⟨a.nd,b.nd,λx hx y hy e=>d x hx (e ▸ hy)⟩,λq h=>(mAq.mp h).elim (a.fr q) (b.fr q),λq h=>(mAq.mp h).elim (a.out q) (b.out q),λq h=>(mAq.mp h).elim (a.new q) (b.new q)⟩
def Bv.apart{Hf1 H1:Hp}{Fs1 Fs2:List (List Addr)}{F G:List Addr}(a:Bv H₀ H Fs Fs1 F) (ha:∀q∈F,H1 q≠none) (b:Bv H₀ H1 Fs1 Fs2 G):∀q∈F,q∉G:=λq h m=>by
 rcases b.new q m with e|e
 .exact ha q h e
 .exact a.out q h e
def Bv.one(R:pH K H₀ Hf₀ Hf S σ H Fs) {p:Addr}(hp:H p=none):Bv H₀ H Fs Fs [p] :=
 ⟨by simp,λq h=>by rw[mSq.mp h];exact R.fr.free hp,λq h m=>by rw[mSq.mp h]at m;exact(R.mem m).1 hp,λq h=>by rw[mSq.mp h];exact .inl hp⟩
end
def nA(i:Nat):ME:=λS=>(S[i]?.join).map λa=>(nR a,S)
noncomputable def nI(i:Nat):MK:=λS=>(S[i]?.join).map λa=>(.sh (nR a),S.set i (some (.sh (nR a))))
def yf(i:Nat):MK:=λS=>(S[i]?.join).map λa=>(a,S.set i none)
noncomputable def Cc(i:Nat):ML:=λS=>match S[i]?.join with
 |some (.sh (.list ds))=>some (ds,S)
 |some (.ow avs)=>some (avs.map nR,S.set i (some (.ow ((avs.map nR).map .sh))))
 |_=>none
def rOf(k:MK):ME:=λS=>(k S).map λx=>(nR x.1,x.2)
def kSc(m:ME):MK:=λS=>(m S).bind λx=>if x.1.scal then some (.sh x.1,x.2) else none
noncomputable def lOf(k:MK):ML:=λS=>(k S).bind λx=>match x.1 with
 | .sh (.list ds)=>some (ds,x.2)
 | .ow avs=>some (avs.map nR,x.2)
 |_=>none
def vx(k:MK):MK:=λS=>(k S).map λx=>(.sh (nR x.1),x.2)
def rC(d:D):ME:=λS=>if d.scal then some (d,S) else none
section
variable {K:W.Frag}
def pW{S:AS}{i:Nat}{a:AV}(h:S[i]?.join=some a):S[i]?=some (some a):=by
 cases e:S[i]? with
 |none=>rw[e]at h;cases h
 |some z=>rw[e]at h;exact congrArg some h
def nq(i:Nat):SR K (uS i) (nA i):=by
 intro H₀ Hf₀ Hf S σ H Fs d S' R e Q q;obtain⟨a,ea,e⟩:=oMq.mp e;cases e;obtain⟨v,F,s1,s2,r⟩:=R.rep i a (pW ea);exact⟨v,s1,q _ _ _ v .refl R (r.rep R.sub)⟩
def tJ(i:Nat):SK K (uS i) (yf i):=by
 intro H₀ Hf₀ Hf S σ H Fs a S' R e Q q;obtain⟨b,ea,e⟩:=oMq.mp e;cases e;obtain⟨v,F,s1,s2,r,nd,o,R1⟩:=R.move (pW ea);exact⟨v,s1,q _ _ _ v F ⟨.refl _,.refl _,λp hp=>qu hp,λb h g=>absurd h g⟩ R1 r ⟨nd,λq hq=>(o q hq).1,λq hq=>(o q hq).2,λq hq=>.inr (mFq.mpr ⟨F,mGq s2,hq⟩)⟩⟩
def pH.again{H₀ Hf₀ Hf H:Hp}{S:AS}{σ:St}{Fs:List (List Addr)}{i:Nat}{av:AV}{v:V}{F G:List Addr}(R:pH K H₀ Hf₀ Hf (S.set i none) σ H (Fs.set i [])) (s1:σ[i]?=some (some v)) (r:pE K Hf H av v G) (nd:G.Nodup) (hf:∀q∈G,H₀ q=none/\q∉(Fs.set i []).flatten) :
  pH K H₀ Hf₀ Hf (S.set i (some av)) σ H (Fs.set i G):=by
 have R2:=R.set i r nd hf;rw[gK,gK]at R2;have e:σ.set i (some v)=σ:=by
  obtain⟨hk,ev⟩:=gSq.mp s1;rw[←ev];exact eN hk
 rw[e]at R2;exact R2
def nC(i:Nat):SK K (uS i) (nI i):=by
 intro H₀ Hf₀ Hf S σ H Fs a S' R e Q q;obtain⟨b,ea,e⟩:=oMq.mp e;cases e;obtain⟨v,F,s1,s2,r,nd,o,R1⟩:=R.move (pW ea);have n:∀q∈F,Hf q=none:=λq hq=>(r.owned q hq).2
 have R2:=R1.frz o n;have r2:=r.frozen (rq (H:=H) n) λq hq=>AA hq
 have R3:=R2.again (F:=F) (G:=[]) s1 (.sh r2) aT λq h=>(by cases h)
 refine⟨v,s1,q _ _ _ v [] ⟨rq n,.refl _,λp hp=>qu hp,λb h g=>?_⟩ R3 (.sh r2) .nil⟩
 by_cases m:b∈F
 .exact .inr (mFq.mpr ⟨F,mGq s2,m⟩)
 .rw [vP m]at g;exact absurd h g
def B4(i:Nat):SL K (uS i) (Cc i):=by
 intro H₀ Hf₀ Hf S σ H Fs ds S' R e Q q;unfold Cc at e;split at e
 .rename_i ds' ea;cases e;obtain⟨v,F,s1,s2,r⟩:=R.rep i _ (pW ea);obtain⟨p,vs,rfl,h1,h2⟩:=r.sh_inv.2.list_inv;exact⟨_,s1,q _ _ _ p vs .refl R (R.sub _ _ h1) h2⟩
 .rename_i avs ea;cases e;obtain⟨v,F,s1,s2,r,nd,o,R1⟩:=R.move (pW ea);obtain⟨p,vs,Gs,rfl,rfl,h1,h2,h3⟩:=r.ow_inv;have n:∀q∈Gs.flatten,Hf q=none:=λq hq=>(h3.owned q hq).2
  have R2:=R1.frz (F:=Gs.flatten) (λq hq=>o q (mCo _ hq)) n
  have r2:=h3.frozen (rq (H:=H) n) λq hq=>AA hq
  have np:p∉Gs.flatten:=(aK.mp nd).1;have r3:pE K (Z.frz Hf H Gs.flatten) H (.ow ((avs.map nR).map .sh)) (.ref p) [p]:=pE.new h1 (by rw[vP np];exact h2) r2
  have R3:=R2.again (F:=p::Gs.flatten) (G:=[p]) s1 r3 (by simp) λq hq=>by rw[mSq.mp hq];exact o p (by simp)
  refine⟨_,s1,q _ _ _ p vs ⟨rq n,.refl _,λb hb=>?_,λb h g=>?_⟩ R3 h1 r2⟩
  .rcases sR hb with z|z
   .rw [mSq.mp z];exact mFq.mpr ⟨_,mGq s2,by simp⟩
   .exact z
  .by_cases m:b∈Gs.flatten
   .exact .inr (mFq.mpr ⟨_,mGq s2,mCo _ m⟩)
   .rw [vP m]at g;exact absurd h g
 .cases e
theorem SK.rOf{te:TE}{k:MK}(h:SK K te k):SR K te (rOf k):=by
 intro H₀ Hf₀ Hf S σ H Fs d S' R e Q q;obtain⟨x,ea,e⟩:=oMq.mp e;cases e;exact h R (a:=x.1) (S':=x.2) ea Q λHf' H' Fs' v F t R' r o=>q _ _ _ v t R' (r.rep R'.sub)
theorem SR.kSc{te:TE}{m:ME}(h:SR K te m):SK K te (kSc m):=by
 intro H₀ Hf₀ Hf S σ H Fs a S' R e Q q;obtain⟨x,ea,e⟩:=oBq.mp e;split at e
 .rename_i hs;cases e;exact h R (d:=x.1) (S':=x.2) ea Q λHf' H' Fs' v t R' r=>q _ _ _ v [] t R' (.sh (r.scal hs)) .nil
 .cases e
def SK.frz{te:TE}{k:MK}(h:SK K te k):SK K te (vx k):=by
 intro H₀ Hf₀ Hf S σ H Fs a S' R e Q q;obtain⟨x,ea,e⟩:=oMq.mp e;cases e;refine h R (a:=x.1) (S':=x.2) ea Q λHf' H' Fs' v F t R' r o=>?_
 obtain⟨R2,r2,t2⟩:=R'.give t r o;exact q _ _ _ v [] t2 R2 (.sh r2) .nil
theorem SK.lOf{te:TE}{k:MK}(h:SK K te k):SL K te (lOf k):=by
 intro H₀ Hf₀ Hf S σ H Fs ds S' R e Q q;obtain⟨x,ea,e⟩:=oBq.mp e;refine h R (a:=x.1) (S':=x.2) ea Q λHf' H' Fs' v F t R' r o=>?_
 split at e
 .rename_i ds' hx;cases e;rw[hx]at r;obtain⟨p,vs,rfl,h1,h2⟩:=r.sh_inv.2.list_inv;exact q _ _ _ p vs t R' (R'.sub _ _ h1) h2
 .rename_i avs hx;cases e;obtain⟨R2,r2,t2⟩:=R'.give t r o;rw[hx,uX]at r2;obtain⟨p,vs,rfl,h1,h2⟩:=r2.list_inv;exact q _ _ _ p vs t2 R2 (R2.sub _ _ h1) h2
 .cases e
def Rf{v:V}{d:D}(h:∀H,qY K H d v):SR K (tC v) (rC d):=by
 intro H₀ Hf₀ Hf S σ H Fs d' S' R e Q q;unfold rC at e;split at e
 .cases e;exact q _ _ _ v .refl R (h _)
 .cases e
def nJ{i:Int}:SR K (tC (.int i)) (rC (.int i)):=Rf λ_=>.int
def qF{i:Str}:SR K (tC (.str i)) (rC (.str i)):=Rf λ_=>.str
def A2{i:Bool}:SR K (tC (.bl i)) (rC (.bl i)):=Rf λ_=>.bl
def sS:SR K (tC .non) (rC .non):=Rf λ_=>.non
def A5{T:String}:SR K (tC (.ty T)) (rC (.ty T)):=Rf λ_=>.ty
end
def we{α:Type}(p:Prop) (x:Option α):Option α:=@ite (Option α) p (fN p) x none
def vV{α:Type}{p:Prop}(h:p) (x:Option α):we p x=x:=oJ h
def yK{α:Type}(x:Option α):we True x=x:=oJ trivial
def oZ{α:Type}{p:Prop}{x y:Option α}(h:we p x=y):(p/\x=y)∨none=y:=by
 by_cases c:p
 .rw [vV c]at h;exact .inl ⟨c,h⟩
 .exact .inr ((@if_neg p (fN p) c _ x none).symm.trans h)
noncomputable def oR(f:D->D->Option D) (a b:ME):ME:=λS=>(a S).bind λx=>(b x.2).bind λy=>(f x.1 y.1).map λd=>(d,y.2)
noncomputable def wx(f:D->Option D) (a:ME):ME:=λS=>(a S).bind λx=>(f x.1).map λd=>(d,x.2)
def Ji(K:W.Frag) (r:R2) (f:D->D->Option D):Prop:=∀{x y:V}{H:Hp}{Q:VK}{dx dy d:D},qY K H dx x->qY K H dy y->f dx dy=some d->(∀v,qY K H d v->Q v H)->r x y H Q
def UnD(K:W.Frag) (r:V->Hp->VK->Prop) (f:D->Option D):Prop:=∀{x:V}{H:Hp}{Q:VK}{dx d:D},qY K H dx x->f dx=some d->(∀v,qY K H d v->Q v H)->r x H Q
section
variable {K:W.Frag}{r:R2}{f:D->D->Option D}{ta tb:TE}{a b:ME}
def nW(hr:Ji K r f) (ha:SR K ta a) (hb:SR K tb b):SR K (WW r ta tb) (oR f a b):=by
 intro H₀ Hf₀ Hf S σ H Fs d S' R e Q q;obtain⟨x,e1,e⟩:=oBq.mp e;obtain⟨y,e2,e⟩:=oBq.mp e;obtain⟨z,e3,e⟩:=oMq.mp e;cases e;refine ha R (d:=x.1) (S':=x.2) e1 _ λHf1 H1 Fs1 v1 t1 R1 r1=>hb R1 (d:=y.1) (S':=y.2) e2 _ λHf2 H2 Fs2 v2 t2 R2 r2=>?_
 exact hr (r1.mono t2.sh) r2 e3 λv rv=>q _ _ _ v (t1.trans t2) R2 rv
def vA{r:V->Hp->VK->Prop}{f:D->Option D}(hr:UnD K r f) (ha:SR K ta a):SR K (tUn r ta) (wx f a):=by
 intro H₀ Hf₀ Hf S σ H Fs d S' R e Q q;obtain⟨x,e1,e⟩:=oBq.mp e;obtain⟨z,e3,e⟩:=oMq.mp e;cases e;exact ha R (d:=x.1) (S':=x.2) e1 _ λHf1 H1 Fs1 v1 t1 R1 r1=>hr r1 e3 λv rv=>q _ _ _ v t1 R1 rv
end
def NJ(c:Int->Int->Prop) (g:Int->Int->D):D->D->Option D
 | .int i,.int j=>we (c i j) (some (g i j))
 |_,_=>none
def dI1(g:Int->D):D->Option D
 | .int i=>some (g i)
 |_=>none
abbrev zb:=NJ (λ_ _=>True) λi j=>.int (i+j)
abbrev VG:=NJ (λ_ _=>True) λi j=>.int (i-j)
abbrev HR:=NJ QP λi j=>.int (i*j)
abbrev um:=NJ (λ_ j=>0<j) λi j=>.int (i % j)
abbrev zf:=NJ ZP λi j=>.int (i / j)
abbrev IV:=NJ YD λi j=>.int (i ^ j.toNat)
abbrev UK:=NJ (λ_ _=>True) λi j=>.bl (decide (i<j))
abbrev dLe:=NJ (λ_ _=>True) λi j=>.bl (decide (i<=j))
abbrev Qx:=NJ (λ_ _=>True) λi j=>.bl (decide (j<i))
abbrev dGe:=NJ (λ_ _=>True) λi j=>.bl (decide (j<=i))
abbrev uj:=dI1 λi=>.int (-i)
noncomputable def Qv(b:Bool):Option D:=some (.bl b)
def Gi(x y:D):Option D:=match x with
 | .int i=>(match y with|.int j=>Qv (decide (i=j))|.non=>Qv false|.str _=>Qv false|_=>none)
 | .str i=>(match y with|.str j=>Qv (decide (i=j))|.non=>Qv false|.int _=>Qv false|_=>none)
 | .bl i=>(match y with|.bl j=>Qv (decide (i=j))|.non=>Qv false|_=>none)
 | .non=>(match y with|.non=>Qv true|.int _=>Qv false|.str _=>Qv false|.bl _=>Qv false|_=>none)
 |_=>none
def Pa:D->Option D
 | .bl b=>some (.bl (!b))
 |_=>none
def G2(x y:D):Option D:=(Gi x y).bind Pa
section
variable {K:W.Frag}
def MY{C:Int->Int->Prop}{g:Int->Int->V}{g':Int->Int->D}(hg:∀H i j,qY K H (g' i j) (g i j)):Ji K (rI C g) (NJ C g'):=by
 intro x y H Q dx dy d rx ry e q;unfold NJ at e;split at e
 .rename_i i j;cases rx;cases ry;rcases oZ e with ⟨h,e⟩|e
  .cases e;exact⟨i,j,rfl,rfl,h,q _ (hg H i j)⟩
  .cases e
 .cases e
def IA{g:Int->Int->V}{g':Int->Int->D}(hg:∀H i j,qY K H (g' i j) (g i j)):Ji K (Q8 g) (NJ (λ_ _=>True) g'):=by
 intro x y H Q dx dy d rx ry e q;unfold NJ at e;split at e
 .rename_i i j;cases rx;cases ry;rw[yK]at e;cases e;exact⟨i,j,rfl,rfl,q _ (hg H i j)⟩
 .cases e
def xq:Ji K (Q8 λi j=>.int (i+j)) zb:=IA λ_ _ _=>.int
def X8:Ji K (Q8 λi j=>.int (i-j)) VG:=IA λ_ _ _=>.int
def RO:Ji K (rI QP λi j=>.int (i*j)) HR:=MY λ_ _ _=>.int
def sJ:Ji K (rI (λ_ j=>0<j) λi j=>.int (i % j)) um:=MY λ_ _ _=>.int
def yk:Ji K (rI ZP λi j=>.int (i / j)) zf:=MY λ_ _ _=>.int
def HQ:Ji K (rI YD λi j=>.int (i ^ j.toNat)) IV:=MY λ_ _ _=>.int
def M8:Ji K (Q8 λi j=>.bl (decide (i<j))) UK:=IA λ_ _ _=>.bl
def Ga:Ji K (Q8 λi j=>.bl (decide (j<i))) Qx:=IA λ_ _ _=>.bl
def tI:UnD K (rU λi=>.int (-i)) uj:=by
 intro x H Q dx d rx e q;cases rx <;> simp only[dI1]at e
 all_goals first|(exfalso;simp at e;done)|skip
 rename_i i;cases e;exact⟨i,rfl,q _ .int⟩
def A4:Ji K rEq Gi:=by
 intro x y H Q dx dy d rx ry e q;unfold Gi at e;cases rx <;> first|(cases e;done)|(cases ry <;> first|(cases e;done)|skip)
 all_goals (cases e;refine⟨rfl,q _ ?_⟩;simp only[reduceCtorEq,decide_false,decide_true,V.int.injEq,V.str.injEq,V.bl.injEq];exact .bl)
def Ff:Ji K rNe G2:=by
 intro x y H Q dx dy d rx ry e q;obtain⟨b,e1,e2⟩:=oBq.mp e;obtain⟨h1,h2⟩:=A4 rx ry e1 (Q:=λv _=>qY K H b v) λv h=>h
 cases h2;cases e2;exact⟨h1,q _ .bl⟩
end
noncomputable def JL(a b:ME):ME:=λS=>(a S).bind λx=>match x.1 with
 | .bl true=>b x.2
 | .bl false=>some (.bl false,x.2)
 |_=>none
noncomputable def rOr(a b:ME):ME:=λS=>(a S).bind λx=>match x.1 with
 | .bl true=>some (.bl true,x.2)
 | .bl false=>b x.2
 |_=>none
def aav(a:ME):ME:=wx Pa a
noncomputable def qH(a:ME):MT:=λS=>(a S).bind λx=>match x.1 with
 | .bl b=>some (b,x.2)
 |_=>none
noncomputable def Cq(a b:MT):MT:=λS=>(a S).bind λx=>if x.1=true then b x.2 else some (false,x.2)
noncomputable def Eg(a b:MT):MT:=λS=>(a S).bind λx=>if x.1=true then some (true,x.2) else b x.2
def rE(a:MT):MT:=λS=>(a S).map λx=>(!x.1,x.2)
noncomputable def rIf(c:MT) (a b:ME):ME:=λS=>(c S).bind λx=>if x.1=true then a x.2 else b x.2
noncomputable def kIf(c:MT) (a b:MK):MK:=λS=>(c S).bind λx=>if x.1=true then a x.2 else b x.2
section
variable {K:W.Frag}{ta tb:TE}{a b:ME}{ca cb:TT}{ma mb:MT}
def Je(ha:SR K ta a) (hb:SR K tb b):SR K (W6 ta tb) (JL a b):=by
 intro H₀ Hf₀ Hf S σ H Fs d S' R e Q q;obtain⟨x,e1,e⟩:=oBq.mp e;refine ha R (d:=x.1) (S':=x.2) e1 _ λHf1 H1 Fs1 v1 t1 R1 r1=>?_
 split at e
 .rename_i hx;rw[hx]at r1;cases r1;exact⟨true,rfl,Gw (hb R1 e Q λHf2 H2 Fs2 v2 t2 R2 r2=>q _ _ _ v2 (t1.trans t2) R2 r2)⟩
 .rename_i hx;rw[hx]at r1;cases r1;cases e;exact⟨false,rfl,GA (q _ _ _ _ t1 R1 .bl)⟩
 .cases e
def Z7(ha:SR K ta a):SR K (Xq ta) (aav a):=by
 intro H₀ Hf₀ Hf S σ H Fs d S' R e Q q;obtain⟨x,e1,e⟩:=oBq.mp e;obtain⟨z,e3,e⟩:=oMq.mp e;cases e;refine ha R (d:=x.1) (S':=x.2) e1 _ λHf1 H1 Fs1 v1 t1 R1 r1=>?_
 cases hx:x.1 <;> rw[hx]at e3 r1 <;> simp only[Pa]at e3
 all_goals first|(exfalso;simp at e3;done)|skip
 cases r1;cases e3;exact⟨_,rfl,q _ _ _ _ t1 R1 .bl⟩
def uN(ha:SR K ta a):Gk K (tB ta) (qH a):=by
 intro H₀ Hf₀ Hf S σ H Fs d S' R e Q q;obtain⟨x,e1,e⟩:=oBq.mp e;refine ha R (d:=x.1) (S':=x.2) e1 _ λHf1 H1 Fs1 v1 t1 R1 r1=>?_
 split at e
 .rename_i b hx;rw[hx]at r1;cases r1;cases e;exact⟨_,rfl,q _ _ _ t1 R1⟩
 .cases e
def oA(ha:SR K ta a):Gk K (Xc ta) (qH a):=uN ha
def Ml(ha:Gk K ca ma) (hb:Gk K cb mb):Gk K (abc ca cb) (Cq ma mb):=by
 intro H₀ Hf₀ Hf S σ H Fs d S' R e Q q;obtain⟨x,e1,e⟩:=oBq.mp e;refine ha R (b:=x.1) (S':=x.2) e1 _ λHf1 H1 Fs1 t1 R1=>?_
 split at e
 .rename_i hx;rw[hx];exact Gw (hb R1 e Q λHf2 H2 Fs2 t2 R2=>q _ _ _ (t1.trans t2) R2)
 .rename_i hx;cases e;rw[bN]at hx;rw[hx];exact GA (q _ _ _ t1 R1)
def JQ(ha:Gk K ca ma) (hb:Gk K cb mb):Gk K (tOr ca cb) (Eg ma mb):=by
 intro H₀ Hf₀ Hf S σ H Fs d S' R e Q q;obtain⟨x,e1,e⟩:=oBq.mp e;refine ha R (b:=x.1) (S':=x.2) e1 _ λHf1 H1 Fs1 t1 R1=>?_
 split at e
 .rename_i hx;cases e;rw[hx];exact Gw (q _ _ _ t1 R1)
 .rename_i hx;rw[bN]at hx;rw[hx];exact GA (hb R1 e Q λHf2 H2 Fs2 t2 R2=>q _ _ _ (t1.trans t2) R2)
def vN(ha:Gk K ca ma):Gk K (abn ca) (rE ma):=by
 intro H₀ Hf₀ Hf S σ H Fs d S' R e Q q;obtain⟨x,e1,e⟩:=oMq.mp e;cases e;exact ha R (b:=x.1) (S':=x.2) e1 _ λHf1 H1 Fs1 t1 R1=>q _ _ _ t1 R1
def abj(hc:Gk K ca ma) (ha:SR K ta a) (hb:SR K tb b):SR K (tIf ca ta tb) (rIf ma a b):=by
 intro H₀ Hf₀ Hf S σ H Fs d S' R e Q q;obtain⟨x,e1,e⟩:=oBq.mp e;refine hc R (b:=x.1) (S':=x.2) e1 _ λHf1 H1 Fs1 t1 R1=>?_
 split at e
 .rename_i hx;rw[hx];exact Gw (ha R1 e Q λHf2 H2 Fs2 v t2 R2=>q _ _ _ v (t1.trans t2) R2)
 .rename_i hx;rw[bN]at hx;rw[hx];exact GA (hb R1 e Q λHf2 H2 Fs2 v t2 R2=>q _ _ _ v (t1.trans t2) R2)
def abE{a b:MK}(hc:Gk K ca ma) (ha:SK K ta a) (hb:SK K tb b):SK K (tIf ca ta tb) (kIf ma a b):=by
 intro H₀ Hf₀ Hf S σ H Fs d S' R e Q q;obtain⟨x,e1,e⟩:=oBq.mp e;refine hc R (b:=x.1) (S':=x.2) e1 _ λHf1 H1 Fs1 t1 R1=>?_
 split at e
 .rename_i hx;rw[hx];exact Gw (ha R1 e Q λHf2 H2 Fs2 v F t2 R2 r o=>q _ _ _ v F (t1.trans t2) R2 r (o.back t1))
 .rename_i hx;rw[bN]at hx;rw[hx];exact GA (hb R1 e Q λHf2 H2 Fs2 v F t2 R2 r o=>q _ _ _ v F (t1.trans t2) R2 r (o.back t1))
end
abbrev qP:Nat:=16777216
def uY:iX=qP:=jj
def SQ(K:W.Frag) (te:TE) (m:ML):Prop:=∀{H₀ Hf₀ Hf:Hp}{S:AS}{σ:St}{H:Hp}{Fs:List (List Addr)}{ds:List D}{S':AS},pH K H₀ Hf₀ Hf S σ H Fs->m S=some (ds,S')->∀Q:VK,
 (∀Hf' H' Fs' p vs,Bs Hf H Fs Hf' H' Fs'->pH K H₀ Hf₀ Hf' S' σ H' Fs'->rR K H' p vs->qe K Hf' ds vs->Q (.ref p) H')->te σ H Q
theorem SL.q{K:W.Frag}{te:TE}{m:ML}(h:SL K te m):SQ K te m:=by
 intro H₀ Hf₀ Hf S σ H Fs ds S' R e Q q;exact h R e Q λHf' H' Fs' p vs t R' hp r=>q _ _ _ p vs t R' (rR.of hp) r
noncomputable def uG(i:Nat):ML:=λS=>match S[i]?.join with
 |some (.sh (.scr ns))=>some (ns.map .int,S)
 |some (.sh (.list ds))=>some (ds,S)
 |some (.ow avs)=>some (avs.map nR,S.set i (some (.ow ((avs.map nR).map .sh))))
 |_=>none
theorem wQ{K:W.Frag}{H:Hp}:∀ns:List Int,qe K H (ns.map .int) (ns.map V.int)
 | []=>.nil
 |n::ns=>.cons .int (wQ ns)
def tV{K:W.Frag}(i:Nat):SQ K (uS i) (uG i):=by
 intro H₀ Hf₀ Hf S σ H Fs ds S' R e Q q;unfold uG at e;split at e
 .rename_i ns ea;cases e;obtain⟨v,F,s1,s2,r⟩:=R.rep i _ (pW ea);cases r.sh_inv.2 with
  |scr h=>exact⟨_,s1,q _ _ _ _ _ .refl R (R.sub.seq h) (wQ ns)⟩
 .rename_i ds' ea;cases e;refine B4 i R (ds:=ds) (S':=S) ?_ Q λHf' H' Fs' p vs t R' hp r=>q _ _ _ p vs t R' (rR.of hp) r
  unfold Cc;rw[ea]
 .rename_i avs ea;refine B4 i R (ds:=ds) (S':=S') ?_ Q λHf' H' Fs' p vs t R' hp r=>q _ _ _ p vs t R' (rR.of hp) r
  unfold Cc;rw[ea];exact e
 .cases e
section
variable {K:W.Frag}{H₀ Hf₀ Hf Hf' H H':Hp}{S S':AS}{σ:St}{Fs Fs':List (List Addr)}
theorem oQ.stp{as:List AV}{vs:List V}{Gs:List (List Addr)}(r:oQ K Hf H as vs Gs) (ho:∀q∈Gs.flatten,q∉Fs.flatten) (t:Bs Hf H Fs Hf' H' Fs'):oQ K Hf' H' as vs Gs :=
 ⟨r.1,r.2.1,λi a v F h1 h2 h3=>(r.2.2 i a v F h1 h2 h3).stp (λq hq=>ho q (mFq.mpr ⟨F,mGq h3,hq⟩)) t⟩
def pH.layF(R:pH K H₀ Hf₀ Hf S σ H Fs) {p:Addr}{o:HO}(hp:H p=none):Bs Hf H Fs (pY Hf p o) (pY H p o) Fs/\pH K H₀ Hf₀ (pY Hf p o) S σ (pY H p o) Fs:=by
 have hf:Hf p=none:=R.sub.free hp;refine⟨⟨rh hf,rh hp,λ_ h=>h,λb h g=>?_⟩,R.more (rh hp) (rh hf) (λb u e=>?_) (λq hq=>?_) λb h1 h2=>?_⟩
 .by_cases m:b=p
  .subst m;exact .inl hp
  .rw [nT m]at g;exact absurd h g
 .by_cases m:b=p
  .subst m;rw[og]at e ⊢;exact e
  .rw [nT m]at e ⊢;exact R.sub b u e
 .rw [nT λe=>(R.mem hq).1 (by rw[e];exact hp)]
  exact(R.mem hq).2
 .rw [nT λe=>h2 (by rw[e];exact R.fr.free hp)]
  exact R.lim b h1 h2
end
def nP:MA:=λS=>some ([],S)
noncomputable def nv(k:MK) (r:MA):MA:=λS=>(k S).bind λx=>(r x.2).map λy=>(x.1::y.1,y.2)
def nQ:ML:=λS=>some ([],S)
noncomputable def nu(k:ME) (r:ML):ML:=λS=>(k S).bind λx=>(r x.2).map λy=>(x.1::y.1,y.2)
section
variable {K:W.Frag}{te ta tb:TE}{tr:TA}
def nD:SA K vL nP:=by
 intro H₀ Hf₀ Hf S σ H Fs as S' R e Q q;cases e;exact q _ _ _ [] [] .refl R .nil .nil
def ni{k:MK}{r:MA}(hk:SK K te k) (hr:SA K tr r):SA K (tM te tr) (nv k r):=by
 intro H₀ Hf₀ Hf S σ H Fs as S' R e Q q;obtain⟨x,e1,e⟩:=oBq.mp e;obtain⟨y,e2,e⟩:=oMq.mp e;cases e;refine hk R (a:=x.1) (S':=x.2) e1 _ λHf1 H1 Fs1 v F t1 R1 r1 o1=>hr R1 (as:=y.1) (S':=y.2) e2 _ λHf2 H2 Fs2 vs Gs t2 R2 r2 o2=>?_
 refine q _ _ _ (v::vs) (F::Gs) (t1.trans t2) R2 (.cons (r1.stp o1.out t2) r2) ?_;rw[fCq];exact(o1.stp t2).app (o2.back t1) (o1.apart (Hf1:=Hf1) (λq hq=>(r1.owned q hq).1) o2)
def nO:UQ K vL nQ:=by
 intro H₀ Hf₀ Hf S σ H Fs as S' R e Q q;cases e;exact q _ _ _ [] .refl R .nil
def ny{k:ME}{r:ML}(hk:SR K te k) (hr:UQ K tr r):UQ K (tM te tr) (nu k r):=by
 intro H₀ Hf₀ Hf S σ H Fs as S' R e Q q;obtain⟨x,e1,e⟩:=oBq.mp e;obtain⟨y,e2,e⟩:=oMq.mp e;cases e;refine hk R (d:=x.1) (S':=x.2) e1 _ λHf1 H1 Fs1 v t1 R1 r1=>hr R1 (ds:=y.1) (S':=y.2) e2 _ λHf2 H2 Fs2 vs t2 R2 r2=>?_
 exact q _ _ _ (v::vs) (t1.trans t2) R2 (.cons (r1.mono t2.sh) r2)
end
def qc(a:MA):MK:=λS=>(a S).bind λx=>we (x.1.length<=qP) (some (.ow x.1,x.2))
def Bx(a:MA):MK:=λS=>(a S).bind λx=>we (x.1.length<=qP) (some (.sh (.tup (x.1.map nR)),x.2))
section
variable {K:W.Frag}{ta:TA}{a:MA}
def oK(ha:SA K ta a):SK K (Qz ta) (qc a):=by
 intro H₀ Hf₀ Hf S σ H Fs av S' R e Q q;obtain⟨x,e1,e⟩:=oBq.mp e;rcases oZ e with ⟨hl,e⟩|e
 .skip
  cases e;refine ha R (as:=x.1) (S':=x.2) e1 _ λHf1 H1 Fs1 vs Gs t1 R1 r1 o1=>⟨by rw[uY,←r1.1];exact hl,λp hp=>?_⟩
  obtain⟨t2,R2,n1,n2,n3⟩:=R1.new (o:=.lst vs) hp;refine q _ _ _ (.ref p) (p::Gs.flatten) (t1.trans t2) R2 (pE.news og n1 (r1.stp o1.out t2)) ?_;have o2:=(Bv.one R1 hp).back t1;refine(show Bv _ _ _ _ ([p]++Gs.flatten) from o2.app o1 λq hq m=>?_)
  rw[mSq.mp hq]at m;exact(r1.owned p m).1 hp
 .cases e
def vG(ha:SA K ta a):SK K (abf ta) (Bx a):=by
 intro H₀ Hf₀ Hf S σ H Fs av S' R e Q q;obtain⟨x,e1,e⟩:=oBq.mp e;rcases oZ e with ⟨hl,e⟩|e
 .skip
  cases e;refine ha R (as:=x.1) (S':=x.2) e1 _ λHf1 H1 Fs1 vs Gs t1 R1 r1 o1=>⟨by rw[uY,←r1.1];exact hl,λp hp=>?_⟩
  obtain⟨R2,r2,t2⟩:=R1.gives t1 r1 o1;obtain⟨t3,R3⟩:=R2.layF (o:=.tup vs) hp;exact q _ _ _ (.ref p) [] (t2.trans t3) R3 (.sh (.mk_tup og (r2.mono t3.sf))) .nil
 .cases e
end
def CP(a b:ML):MK:=λS=>(a S).bind λx=>(b x.2).bind λy=>we (x.1.length+y.1.length<=qP) (some (.ow ((x.1++y.1).map .sh),y.2))
section
variable {K:W.Frag}{ta tb:TE}{a b:ML}
def zD(ha:SL K ta a) (hb:SL K tb b):SK K (WW acd ta tb) (CP a b):=by
 intro H₀ Hf₀ Hf S σ H Fs av S' R e Q q;obtain⟨x,e1,e⟩:=oBq.mp e;obtain⟨y,e2,e⟩:=oBq.mp e;rcases oZ e with ⟨hl,e⟩|e
 .skip
  cases e;refine ha R (ds:=x.1) (S':=x.2) e1 _ λHf1 H1 Fs1 p1 vs1 t1 R1 h1 r1=>hb R1 (ds:=y.1) (S':=y.2) e2 _ λHf2 H2 Fs2 p2 vs2 t2 R2 h2 r2=>?_
  refine⟨p1,p2,vs1,vs2,rfl,rfl,t2.sh _ _ h1,h2,by rw[uY,←r1.1,←r2.1];exact hl,λp hp=>?_⟩
  obtain⟨t3,R3,n1,n2,n3⟩:=R2.new (o:=.lst (vs1++vs2)) hp;exact q _ _ _ (.ref p) [p] ((t1.trans t2).trans t3) R3 (pE.new og n1 ((r1.mono t2.sf).append r2)) ((Bv.one R2 hp).back (t1.trans t2))
 .cases e
end
abbrev MO:=AS->Option (Option Int×AS)
def SO(K:W.Frag) (to:TO) (m:MO):Prop:=∀{H₀ Hf₀ Hf:Hp}{S:AS}{σ:St}{H:Hp}{Fs:List (List Addr)}{o:Option Int}{S':AS},pH K H₀ Hf₀ Hf S σ H Fs->m S=some (o,S')->∀Q:Option Int->Hp->Prop,
 (∀Hf' H' Fs',Bs Hf H Fs Hf' H' Fs'->pH K H₀ Hf₀ Hf' S' σ H' Fs'->Q o H')->to σ H Q
def wF:MO:=λS=>some (none,S)
noncomputable def uO(m:ME):MO:=λS=>(m S).bind λx=>match x.1 with
 | .int i=>some (some i,x.2)
 |_=>none
def wz{α:Type}(xs:List α) (lo hi:Option Int):List α:=(xs.drop (HT.G0 xs.length 0 lo)).take (HT.G0 xs.length xs.length hi-HT.G0 xs.length 0 lo)
def Jk(l:ML) (lo hi:MO):MK:=λS=>(l S).bind λx=>(lo x.2).bind λy=>(hi y.2).map λz=>(.ow ((wz x.1 y.1 z.1).map .sh),z.2)
section
variable {K:W.Frag}{te:TE}{tl th:TO}{l:ML}{lo hi:MO}{m:ME}
def vv:SO K NI wF:=by
 intro H₀ Hf₀ Hf S σ H Fs o S' R e Q q;cases e;exact q _ _ _ .refl R
def ud(h:SR K te m):SO K (W8 te) (uO m):=by
 intro H₀ Hf₀ Hf S σ H Fs o S' R e Q q;obtain⟨x,e1,e⟩:=oBq.mp e;refine h R (d:=x.1) (S':=x.2) e1 _ λHf1 H1 Fs1 v t1 R1 r1=>?_
 split at e
 .rename_i i hx;rw[hx]at r1;cases r1;cases e;exact⟨i,rfl,q _ _ _ t1 R1⟩
 .cases e
def qe.cut{H:Hp}{ds:List D}{vs:List V}(r:qe K H ds vs) (lo hi:Option Int):qe K H (wz ds lo hi) (Mx vs lo hi):=by
 unfold wz Mx;rw[r.1];exact(r.drop _).take _
def zY(hl:SQ K te l) (hlo:SO K tl lo) (hhi:SO K th hi):SK K (tSl (abd K) te tl th) (Jk l lo hi):=by
 intro H₀ Hf₀ Hf S σ H Fs av S' R e Q q;obtain⟨x,e1,e⟩:=oBq.mp e;obtain⟨y,e2,e⟩:=oBq.mp e;obtain⟨z,e3,e⟩:=oMq.mp e;cases e;refine hl R (ds:=x.1) (S':=x.2) e1 _ λHf1 H1 Fs1 p1 vs1 t1 R1 h1 r1=>hlo R1 (o:=y.1) (S':=y.2) e2 _ λHf2 H2 Fs2 t2 R2=>hhi R2 (o:=z.1) (S':=z.2) e3 _ λHf3 H3 Fs3 t3 R3=>?_
 refine⟨p1,vs1,rfl,(t2.sh.trans t3.sh).seq h1,λp hp=>?_⟩
 obtain⟨t4,R4,n1,n2,n3⟩:=R3.new (o:=.lst (Mx vs1 y.1 z.1)) hp;exact q _ _ _ (.ref p) [p] (((t1.trans t2).trans t3).trans t4) R4 (pE.new og n1 ((r1.mono (t2.sf.trans t3.sf)).cut _ _)) ((Bv.one R3 hp).back ((t1.trans t2).trans t3))
end
def Bu:D->D->Option D
 | .list ds,.int i=>atI ds i
 | .scr ns,.int i=>(atI ns i).map .int
 |_,_=>none
def Yt:D->D->Option D
 | .tup ds,.int i=>atI ds i
 |_,_=>none
def Y4(l:ML) (b:ME):MK:=λS=>(l S).bind λx=>(b x.2).bind λy=>match y.1 with
 | .int i=>(atI x.1 i).map λd=>(.sh d,y.2)
 |_=>none
section
variable {K:W.Frag}{ta tb:TE}
theorem qe.atI{H:Hp}{ds:List D}{vs:List V}{i:Int}{d:D}(r:qe K H ds vs) (h:L2.atI ds i=some d):∃v,L2.atI vs i=some v/\qY K H d v:=by
 unfold L2.atI at h ⊢;rw[r.1]at h;obtain⟨j,h1,h2⟩:=oBq.mp h;rw[h1];exact r.get h2
def vz:Ji K (RV K) Bu:=by
 intro x y H Q dx dy d rx ry e q;unfold Bu at e;split at e
 .rename_i ds i;cases ry;obtain⟨p,vs,rfl,h,r⟩:=rx.list_inv;obtain⟨l,e'⟩:=r;obtain⟨v,h1,h2⟩:=qe.atI (K:=K) (H:=H) (ds:=ds) (vs:=vs) ⟨l,e'⟩ e;exact⟨p,vs,i,v,rfl,rfl,rR.of h,h1,q v h2⟩
 .rename_i ns i;cases ry;cases rx;rename_i p h;obtain⟨n,h1,h2⟩:=oMq.mp e;subst h2;obtain⟨v,h3,h4⟩:=qe.atI (K:=K) (H:=H) (wQ ns) (i:=i) (d:=.int n) (by
   unfold L2.atI at h1 ⊢;rw[lMq];obtain⟨j,g1,g2⟩:=oBq.mp h1;rw[g1];show (ns.map D.int)[j]?=_;rw[gMq,g2];rfl)
  exact⟨p,_,i,v,rfl,rfl,h,h3,q v h4⟩
 .cases e
def Ye:Ji K (Yv K) Yt:=by
 intro x y H Q dx dy d rx ry e q;unfold Yt at e;split at e
 .rename_i ds i;cases ry;obtain⟨p,vs,rfl,h,r⟩:=rx.tup_inv;obtain⟨v,h1,h2⟩:=qe.atI (K:=K) (H:=H) (ds:=ds) (vs:=vs) r e;exact⟨p,vs,i,v,rfl,rfl,Gm.of h,h1,q v h2⟩
 .cases e
def Xn{l:ML}{b:ME}(hl:SQ K ta l) (hb:SR K tb b):SK K (WW (RV K) ta tb) (Y4 l b):=by
 intro H₀ Hf₀ Hf S σ H Fs av S' R e Q q;obtain⟨x,e1,e⟩:=oBq.mp e;obtain⟨y,e2,e⟩:=oBq.mp e;refine hl R (ds:=x.1) (S':=x.2) e1 _ λHf1 H1 Fs1 p1 vs1 t1 R1 h1 r1=>hb R1 (d:=y.1) (S':=y.2) e2 _ λHf2 H2 Fs2 v2 t2 R2 r2=>?_
 split at e
 .rename_i i hy;rw[hy]at r2;cases r2;obtain⟨d,e3,e⟩:=oMq.mp e;cases e;obtain⟨v,g1,g2⟩:=(r1.mono t2.sf).atI e3;exact⟨p1,vs1,i,v,rfl,rfl,t2.sh.seq h1,g1,q _ _ _ v [] (t1.trans t2) R2 (.sh g2) .nil⟩
 .cases e
end
def Xw(K:W.Frag) (r:List V->Hp->VK->Prop) (f:List D->Option D):Prop:=∀{vs:List V}{H:Hp}{Q:VK}{ds:List D}{d:D},qe K H ds vs->f ds=some d->(∀v,qY K H d v->Q v H)->r vs H Q
noncomputable def xF(f:List D->Option D) (a:ML):ME:=λS=>(a S).bind λx=>(f x.1).map λd=>(d,x.2)
def qC{K:W.Frag}{r:List V->Hp->VK->Prop}{f:List D->Option D}{ta:TA}{a:ML}(hr:Xw K r f) (ha:UQ K ta a):SR K (tCB r ta) (xF f a):=by
 intro H₀ Hf₀ Hf S σ H Fs d S' R e Q q;obtain⟨x,e1,e⟩:=oBq.mp e;obtain⟨z,e3,e⟩:=oMq.mp e;cases e;exact ha R (ds:=x.1) (S':=x.2) e1 _ λHf1 H1 Fs1 vs t1 R1 r1=>hr r1 e3 λv rv=>q _ _ _ v t1 R1 rv
def uU:List D->Option D
 | [.list ds]=>some (.int ds.length)
 | [.tup ds]=>some (.int ds.length)
 | [.scr ns]=>some (.int ns.length)
 | [.str x]=>we (x.length<=qP) (some (.int x.length))
 |_=>none
noncomputable def OP:List D->Option D
 | [.int i]=>some (.int (if i<0 then -i else i))
 |_=>none
noncomputable def aeg:List D->Option D
 | [.int i,.int j]=>some (.int (if j>i then j else i))
 |_=>none
noncomputable def aei:List D->Option D
 | [.int i,.int j]=>some (.int (if j<i then j else i))
 |_=>none
noncomputable def aek:List D->Option D
 | [.int i]=>some (.int i)
 | [.bl k]=>some (.int (if k then 1 else 0))
 |_=>none
noncomputable def NT:D->String->Option D
 | .int _,T=>if T = "int" then some (.bl true) else if T = "bool" then some (.bl false) else none
 | .bl _,T=>if T = "bool" ∨ T = "int" then some (.bl true) else none
 | .str _,T=>if T = "str" then some (.bl true) else none
 | .list _,T=>if T = "list" then some (.bl true) else none
 | .tup _,T=>if T = "tuple" then some (.bl true) else none
 | .dict _,T=>if T = "dict" then some (.bl true) else none
 |_,_=>none
def BV:List D->Option D
 | [x,.ty T]=>NT x T
 |_=>none
noncomputable def sV:List D->Option (List Int)
 | []=>some []
 | .int i::ds=>(sV ds).map (i :: ·)
 |_=>none
theorem yC:∀{ds:List D}{ns:List Int},sV ds=some ns->ds=ns.map .int
 | [],ns,h=>by cases h;rfl
 |d::ds,ns,h=>by
  cases d with
  |int i =>
   obtain⟨ms,h1,h2⟩:=oMq.mp (show (sV ds).map (i :: ·)=some ns from h)
   subst h2;rw[yC h1];rfl
  |_=>cases h
@[simp] theorem tW (ns:List Int):sV (ns.map .int)=some ns:=by
 induction ns with
 |nil=>rfl
 |cons n ns ih=>show (sV (ns.map .int)).map (n :: ·)=_;rw[ih];rfl
theorem uz{K:W.Frag}{H:Hp}:∀{ns:List Int}{vs:List V},qe K H (ns.map .int) vs->vs=ns.map V.int
 | [],vs,h=>h.nil_inv
 |n::ns,vs,h=>by
  obtain⟨v,ws,rfl,h1,h2⟩:=qe.cons_inv (d:=.int n) (ds:=ns.map .int) h;cases h1;rw[uz h2];rfl
noncomputable def HW:List Int->Option Int
 | []=>none
 |n::ns=>some (ns.foldl min n)
theorem yp:∀(ns:List Int) (n:Int),ns.foldl min n∈n::ns
 | [],n=>by simp
 |m::ns,n=>by
  have h:=yp ns (min n m);rw[eU];rcases ak.mp h with e|e
  .rw [e]
   by_cases c:n<=m
   .rw [Int.min_eq_left c];simp
   .rw [Int.min_eq_right (by lia)];simp
  .exact mCo _ (mCo _ e)
theorem wK:∀(ns:List Int) (n:Int),(ns.foldl min n<=n)/\∀x∈ns,ns.foldl min n<=x
 | [],n=>⟨gU _,λx h=>by cases h⟩
 |m::ns,n=>by
  obtain⟨h1,h2⟩:=wK ns (min n m);rw[eU];refine⟨by lia,λx hx=>?_⟩
  rcases ak.mp hx with e|e
  .subst e;lia
  .exact h2 x e
def Qq:List D->Option D
 | [.list ds]=>(sV ds).bind λns=>(HW ns).map .int
 |_=>none
section
variable {K:W.Frag}
def tS:Xw K (λxs H Q=>∃x n,xs=[x]/\abx K x H n/\Q (.int n) H) uU:=by
 intro vs H Q ds d r e q;unfold uU at e;split at e
 .obtain ⟨v,ws,rfl,h1,h2⟩:=r.cons_inv;rw[h2.nil_inv];obtain⟨p,us,rfl,h3,h4⟩:=h1.list_inv;cases e;exact⟨_,_,rfl,.inl ⟨us,rR.of h3,h4.1⟩,q _ .int⟩
 .obtain ⟨v,ws,rfl,h1,h2⟩:=r.cons_inv;rw[h2.nil_inv];obtain⟨p,us,rfl,h3,h4⟩:=h1.tup_inv;cases e;exact⟨_,_,rfl,.inr ⟨us,Gm.of h3,h4.1⟩,q _ .int⟩
 .obtain ⟨v,ws,rfl,h1,h2⟩:=r.cons_inv;rw[h2.nil_inv];cases e;cases h1 with
  |scr h=>exact⟨_,_,rfl,.inl ⟨_,h,(lMq _).symm⟩,q _ .int⟩
 .rcases oZ e with ⟨hl,e⟩|e
  .skip
   obtain⟨v,ws,rfl,h1,h2⟩:=r.cons_inv;rw[h2.nil_inv];cases e;cases h1;exact⟨_,_,rfl,⟨by rw[uY];exact hl,rfl⟩,q _ .int⟩
  .cases e
 .cases e
def aau:Xw K (λxs H Q=>∃i,xs=[.int i]/\Q (.int (if i<0 then -i else i)) H) OP:=by
 intro vs H Q ds d r e q;unfold OP at e;split at e
 .obtain ⟨v,ws,rfl,h1,h2⟩:=r.cons_inv;rw[h2.nil_inv];cases h1;cases e;exact⟨_,rfl,q _ .int⟩
 .cases e
def QN:Xw K (λxs H Q=>∃(a:Addr) (ns:List Int),xs=[.ref a]/\rR K H a (ns.map V.int)/\0<ns.length/\∀M,M∈ns->(∀x,x∈ns->M<=x)->Q (.int M) H) Qq:=by
 intro vs H Q ds d r e q;unfold Qq at e;split at e
 .obtain ⟨v,ws,rfl,h1,h2⟩:=r.cons_inv;rw[h2.nil_inv];obtain⟨ns,e1,e⟩:=oBq.mp e;obtain⟨m,e2,e⟩:=oMq.mp e;cases e;rw[yC e1]at h1;obtain⟨p,us,rfl,h3,h4⟩:=h1.list_inv;rw[uz h4]at h3;cases ns with
  |nil=>cases e2
  |cons n ns =>
   cases e2;refine⟨p,_,rfl,rR.of h3,by simp,λM hM hm=>?_⟩
   have e3:M=ns.foldl min n:=by
    have a1:=hm _ (yp ns n);have a2:=wK ns n;have a3:ns.foldl min n<=M:=by
     rcases ak.mp hM with z|z
     .subst z;exact a2.1
     .exact a2.2 M z
    lia
   rw[e3];exact q _ .int
 .cases e
def X9:Xw K (λxs H Q=>∃x T b,xs=[x,.ty T]/\Zj K x H T b/\Q (.bl b) H) BV:=by
 intro vs H Q ds d r e q;unfold BV at e;split at e
 rotate_left
 .cases e
 rename_i x T;obtain⟨v,ws,rfl,h1,h2⟩:=r.cons_inv;obtain⟨u,zs,rfl,h3,h4⟩:=h2.cons_inv;rw[h4.nil_inv];cases h3;unfold NT at e;cases x <;> first|(cases e;done)|dsimp only at e
 case int =>
  cases h1;split at e
  .rename_i hT;cases e;exact⟨_,_,_,rfl,.inl ⟨hT,rfl⟩,q _ .bl⟩
  .split at e
   .rename_i hT;cases e;exact⟨_,_,_,rfl,.inr ⟨hT,rfl⟩,q _ .bl⟩
   .cases e
 case bl =>
  cases h1;split at e
  .rename_i hT;cases e;rcases hT with hT|hT
   .exact ⟨_,_,_,rfl,.inl ⟨hT,rfl⟩,q _ .bl⟩
   .exact ⟨_,_,_,rfl,.inr ⟨hT,rfl⟩,q _ .bl⟩
  .cases e
 case str =>
  cases h1;split at e
  .rename_i hT;cases e;exact⟨_,_,_,rfl,⟨hT,rfl⟩,q _ .bl⟩
  .cases e
 case list =>
  obtain⟨p,us,rfl,g3,g4⟩:=h1.list_inv;split at e
  .rename_i hT;cases e;exact⟨_,_,_,rfl,.inl ⟨hT,rfl,us,rR.of g3⟩,q _ .bl⟩
  .cases e
 case tup =>
  obtain⟨p,us,rfl,g3,g4⟩:=h1.tup_inv;split at e
  .rename_i hT;cases e;exact⟨_,_,_,rfl,.inr (.inr ⟨hT,rfl,us,Gm.of g3⟩),q _ .bl⟩
  .cases e
 case dict =>
  obtain⟨p,us,rfl,g3,g4⟩:=h1.dict_inv;split at e
  .rename_i hT;cases e;exact⟨_,_,_,rfl,.inr (.inl ⟨hT,rfl,us,g3⟩),q _ .bl⟩
  .cases e
end
abbrev MF:=List D->Option AV
def oY(K:W.Frag) (f:MF):Sp:=λvs H Q _=>∃(Hf:Hp) (ds:List D) (a:AV),oX Hf H/\qe K Hf ds vs/\f ds=some a /\
 ∀Hf' H' v F,oX Hf Hf'->oX H H'->oX Hf' H'->(∀b,Hf b=none->H b≠none->Hf' b=none)->pE K Hf' H' a v F->F.Nodup->(∀q∈F,H q=none)->Q v H'
noncomputable def oi(f:MF) (a:MA):MK:=λS=>(a S).bind λx=>(f (x.1.map nR)).map λr=>(r,x.2)
def om{K:W.Frag}{f:MF}{ta:TA}{a:MA}(ha:SA K ta a):SK K (wk (oY K f) [] E0 ta) (oi f a):=by
 intro H₀ Hf₀ Hf S σ H Fs av S' R e Q q;obtain⟨x,e1,e⟩:=oBq.mp e;obtain⟨z,e3,e⟩:=oMq.mp e;cases e;refine ha R (as:=x.1) (S':=x.2) e1 _ λHf1 H1 Fs1 vs Gs t1 R1 r1 o1=>?_
 obtain⟨R2,r2,t2⟩:=R1.gives t1 r1 o1;rw[aNq];refine⟨_,_,av,R2.sub,r2,e3,λHf' H' v F s1 s2 s3 l r nd fr=>?_⟩
 have t3:Bs (Z.frz Hf1 H1 Gs.flatten) H1 Fs1 Hf' H' Fs1:=⟨s1,s2,λ_ h=>h,λb h g=>.inl (by
  by_cases e:H1 b=none
  .exact e
  .exact absurd (l b h e) g)⟩
 have hn:∀q∈Fs1.flatten,Hf' q=none:=λq hq=>l q (R2.mem hq).2 (R2.mem hq).1
 have R3:pH K H₀ Hf₀ Hf' x.2 σ H' Fs1:=R2.more s2 s1 s3 hn λb h1 h2=>l b (R2.lim b h1 h2) (NF R2.fr h2)
 refine q _ _ _ v F (t2.trans t3) R3 r ⟨nd,λq hq=>R2.fr.free (fr q hq),λq hq m=>(R2.mem m).1 (fr q hq),λq hq=>.inl (t1.sh.free (fr q hq))⟩
inductive Gq where
 |nx (S:AS)|rt (a:AV)|bk (S:AS)|ct (S:AS)
abbrev MS:=AS->Option Gq
def C9(K:W.Frag) (H₀ Hf₀ Hf:Hp) (D:wL):Gq->Prop
 | .nx S=>∀Hf' σ' H' Fs',oX Hf Hf'->pH K H₀ Hf₀ Hf' S σ' H' Fs'->D.nx σ' H'
 | .bk S=>∀Hf' σ' H' Fs',oX Hf Hf'->pH K H₀ Hf₀ Hf' S σ' H' Fs'->D.bk σ' H'
 | .ct S=>∀Hf' σ' H' Fs',oX Hf Hf'->pH K H₀ Hf₀ Hf' S σ' H' Fs'->D.ct σ' H'
 | .rt a=>∀Hf' H' v F,oX Hf₀ Hf'->oX H₀ H'->oX Hf' H'->(∀b,Hf₀ b=none->H₀ b≠none->Hf' b=none)->pE K Hf' H' a v F->F.Nodup->(∀q∈F,H₀ q=none)->D.rt v H'
def SS(K:W.Frag) (t:TS) (m:MS):Prop:=∀{H₀ Hf₀ Hf:Hp}{S:AS}{σ:St}{H:Hp}{Fs:List (List Addr)}{o:Gq},pH K H₀ Hf₀ Hf S σ H Fs->m S=some o->∀D:wL,C9 K H₀ Hf₀ Hf D o->t D σ H
def C9.mono{K:W.Frag}{H₀ Hf₀ Hf Hf':Hp}{D:wL}{o:Gq}(s:oX Hf Hf') (h:C9 K H₀ Hf₀ Hf D o):C9 K H₀ Hf₀ Hf' D o:=by
 cases o with
 |nx S=>exact λHf2 σ' H' Fs' s2 R=>h Hf2 σ' H' Fs' (s.trans s2) R
 |bk S=>exact λHf2 σ' H' Fs' s2 R=>h Hf2 σ' H' Fs' (s.trans s2) R
 |ct S=>exact λHf2 σ' H' Fs' s2 R=>h Hf2 σ' H' Fs' (s.trans s2) R
 |rt a=>exact h
def oH:MS:=λS=>some (.nx S)
def ac0:MS:=λS=>some (.bk S)
def aeC:MS:=λS=>some (.ct S)
def ada:MS:=λ_=>none
def nS(a b:MS):MS:=λS=>(a S).bind λo=>match o with
 | .nx S'=>b S'
 |o=>some o
def oj(i:Nat) (k:MK):MS:=λS=>(k S).map λx=>.nx (x.2.set i (some x.1))
def aet(k:MK):MS:=λS=>(k S).map λx=>.nx x.2
def pJ(k:MK):MS:=λS=>(k S).map λx=>.rt x.1
noncomputable def uT(c:MT) (a b:MS):MS:=λS=>(c S).bind λx=>if x.1=true then a x.2 else b x.2
section
variable {K:W.Frag}{t u:TS}{a b:MS}{te:TE}{k:MK}
def oy:SS K Xl oH:=by
 intro H₀ Hf₀ Hf S σ H Fs o R e D h;cases e;exact h _ _ _ _ (.refl _) R
def nF(ha:SS K t a) (hb:SS K u b):SS K (Ik t u) (nS a b):=by
 intro H₀ Hf₀ Hf S σ H Fs o R e D h;obtain⟨x,e1,e⟩:=oBq.mp e;refine ha R e1 _ ?_;cases x with
 |nx S'=>exact λHf' σ' H' Fs' s R'=>hb R' e D (h.mono s)
 |rt a=>cases e;exact h
 |bk a=>cases e;exact h
 |ct a=>cases e;exact h
def nY{i:Nat}(hk:SK K te k):SS K (Qb te (uA i)) (oj i k):=by
 intro H₀ Hf₀ Hf S σ H Fs o R e D h;obtain⟨x,e1,e⟩:=oMq.mp e;cases e;refine hk R (a:=x.1) (S':=x.2) e1 _ λHf1 H1 Fs1 v F t1 R1 r1 o1=>?_
 exact h _ _ _ _ t1.sf (R1.set i r1 o1.nd λq hq=>⟨o1.fr q hq,o1.out q hq⟩)
def oq(hk:SK K te k):SS K (Qu te) (pJ k):=by
 intro H₀ Hf₀ Hf S σ H Fs o R e D h;obtain⟨x,e1,e⟩:=oMq.mp e;cases e;exact hk R (a:=x.1) (S':=x.2) e1 _ λHf1 H1 Fs1 v F t1 R1 r1 o1=>h _ _ v F R1.sf R1.fr R1.sub R1.lim r1 o1.nd o1.fr
def qj{c:TT}{m:MT}(hc:Gk K c m) (ha:SS K t a) (hb:SS K u b):SS K (Sn c t u) (uT m a b):=by
 intro H₀ Hf₀ Hf S σ H Fs o R e D h;obtain⟨x,e1,e⟩:=oBq.mp e;refine hc R (b:=x.1) (S':=x.2) e1 _ λHf1 H1 Fs1 t1 R1=>?_
 split at e
 .rename_i hx;rw[hx];exact Gw (ha R1 e D (h.mono t1.sf))
 .rename_i hx;rw[bN]at hx;rw[hx];exact GA (hb R1 e D (h.mono t1.sf))
end
noncomputable def qB(S:AS) (i:Nat):Option (List AV):=match S[i]?.join with
 |some (.ow avs)=>some avs
 |_=>none
noncomputable def xY(S:AS) (i:Nat):Option (List (pN×D)):=match S[i]?.join with
 |some (.owd nV)=>some nV
 |_=>none
def yP(i:Nat) (k:MK):MS:=λS=>(qB S i).bind λ_=>(k S).bind λx=>(qB x.2 i).bind λavs =>
 we (avs.length<qP) (some (.nx (x.2.set i (some (.ow (avs++[x.1]))))))
def Qa(i:Nat) (l:ML):MS:=λS=>(qB S i).bind λ_=>(l S).bind λx=>(qB x.2 i).bind λavs =>
 we (avs.length+x.1.length<=qP) (some (.nx (x.2.set i (some (.ow (avs++x.1.map .sh))))))
def intOf:D->Option Int
 | .int i=>some i
 |_=>none
def aeV(i:Nat) (b:ME) (k:MK):MS:=λS=>(vx k S).bind λx=>(qB x.2 i).bind λ_=>(b x.2).bind λy=>(qB y.2 i).bind λavs=>(intOf y.1).bind λj=>(Hk avs.length j).map λn =>
 .nx (y.2.set i (some (.ow (((avs.map nR).set n (nR x.1)).map .sh))))
def wW:D->Option pN
 | .int i=>some (.inl i)
 | .str x=>some (.inr x)
 |_=>none
noncomputable def EG(nV:List (pN×D)) (k:pN) (d:D):List (pN×D):=if nV.any (λkv=>decide (kv.1=k)) then nV.map (λkv=>if kv.1=k then (kv.1,d) else kv) else nV++[(k,d)]
noncomputable def getD(nV:List (pN×D)) (k:pN):Option D:=(nV.find? λkv=>decide (kv.1=k)).map (·.2)
def Ad(i:Nat) (b:ME) (k:MK):MS:=λS=>(vx k S).bind λx=>(xY x.2 i).bind λ_=>(b x.2).bind λy=>(xY y.2 i).bind λnV=>(wW y.1).bind λkey =>
 we (nV.length<qP) (some (.nx (y.2.set i (some (.owd (EG nV key (nR x.1)))))))
section
variable {K:W.Frag}{H₀ Hf₀ Hf H:Hp}{S:AS}{σ:St}{Fs:List (List Addr)}
def pH.turn(R:pH K H₀ Hf₀ Hf S σ H Fs) {i:Nat}{av:AV}{p:Addr}{o:HO}{F F':List Addr}(s1:σ[i]?=some (some (.ref p))) (s2:Fs[i]?=some F) (hp:p∈F) (r:pE K Hf (pY H p o) av (.ref p) F') (nd:F'.Nodup)
  (hf:∀q∈F',H₀ q=none/\q∉(Fs.set i []).flatten):pH K H₀ Hf₀ Hf (S.set i (some av)) σ (pY H p o) (Fs.set i F'):=by
 have hin:p∈Fs.flatten:=mFq.mpr ⟨F,mGq s2,hp⟩;have pn:Hf p=none:=(R.mem hin).2;have p0:H₀ p=none:=R.fresh p hin;have out:=uV R.nd s2 hp;have R1:pH K H₀ Hf₀ Hf (S.set i none) σ (pY H p o) (Fs.set i []):=by
  refine⟨by simp[R.len],by simp[R.lenF],λj a ej=>?_,λj ej=>?_,ri i R.nd aT (λp hp=>by cases hp),λp hp=>R.fresh p (qu hp),λb u e=>?_,λb u e=>?_,R.lim,R.sf⟩
  .rw [aZ]at ej
   by_cases hij:i=j
   .subst hij;rw[oJ rfl]at ej;split at ej <;> cases ej
   .rw [oO hij]at ej;obtain⟨w,G,f1,f2,q⟩:=R.rep j a ej;refine⟨w,G,f1,by rw[ao hij];exact f2,q.keep (.refl _) (λc hc=>nT λe=>out ?_) λc hc=>(q.owned c hc).2⟩
    subst e;exact mFq.mpr ⟨G,mGq (i:=j) (by rw[ao hij];exact f2),hc⟩
  .rw [aZ]at ej
   by_cases hij:i=j
   .subst hij;rw[oJ rfl]at ej;split at ej
    .rename_i hi;rw[aN (R.lenF.symm ▸ hi)]
    .cases ej
   .rw [oO hij]at ej;rw[ao hij];exact R.emp j ej
  .rw [nT λz=>by rw[z,pn]at e;cases e]
   exact R.sub b u e
  .rw [nT λz=>by rw[z,p0]at e;cases e]
   exact R.fr b u e
 exact R1.again (F:=F) s1 r nd hf
def ql{i:Nat}{F:List Addr}{q:Addr}(s2:Fs[i]?=some F) (h:q∈F):q∈Fs.flatten:=mFq.mpr ⟨F,mGq s2,h⟩
def oQ.snoc{as:List AV}{vs:List V}{Gs:List (List Addr)}{a:AV}{v:V}{F:List Addr}(r:oQ K Hf H as vs Gs) (s:pE K Hf H a v F):oQ K Hf H (as++[a]) (vs++[v]) (Gs++[F]):=by
 obtain⟨h1,h2,h3⟩:=r;refine⟨by simp[h1],by simp[h2],λi b w G e1 e2 e3=>?_⟩
 by_cases hi:i<as.length
 .rw [gZq hi]at e1;rw[gZq (h1 ▸ hi)]at e2;rw[gZq (h2 ▸ hi)]at e3;exact h3 i b w G e1 e2 e3
 .have hi':i=as.length:=by
   have:=(gSq.mp e1).1;rw[lAq,lSq]at this;lia
  subst hi';rw[gYq (af _),bP]at e1;rw[h1,gYq (af _),bP]at e2;rw[h2,gYq (af _),bP]at e3;cases e1;cases e2;cases e3;exact s
def oQ.keepUpd{as:List AV}{vs:List V}{Gs:List (List Addr)}{p:Addr}{o:HO}(r:oQ K Hf H as vs Gs) (hp:p∉Gs.flatten):oQ K Hf (pY H p o) as vs Gs :=
 ⟨r.1,r.2.1,λi a v F h1 h2 h3=>by
  have q:=r.2.2 i a v F h1 h2 h3;refine q.keep (.refl _) (λc hc=>nT λe=>hp ?_) λc hc=>(q.owned c hc).2
  subst e;exact mFq.mpr ⟨F,mGq h3,hc⟩⟩
def pE.keepUpd{a:AV}{v:V}{F:List Addr}{p:Addr}{o:HO}(q:pE K Hf H a v F) (hp:p∉F):pE K Hf (pY H p o) a v F :=
 q.keep (.refl _) (λc hc=>nT λe=>hp (e ▸ hc)) λc hc=>(q.owned c hc).2
def Hz{ds:List D}{vs:List V}(r:qe K Hf ds vs):oQ K Hf H (ds.map .sh) vs (aD ds.length []) :=
 ⟨by simp[r.1],by simp,λi a v F h1 h2 h3=>by
  rw[gMq]at h1;cases q:ds[i]? with
  |none=>rw[q]at h1;cases h1
  |some d =>
   rw[q]at h1;cases h1;have:F=[]:=cY (mGq h3);subst this;exact .sh (r.2 i d v q h2)⟩
def oQ.append{as bs:List AV}{vs ws:List V}{Gs Es:List (List Addr)}(r:oQ K Hf H as vs Gs) (s:oQ K Hf H bs ws Es):oQ K Hf H (as++bs) (vs++ws) (Gs++Es):=by
 obtain⟨h1,h2,h3⟩:=r;refine⟨by simp[h1,s.1],by simp[h2,s.2.1],λi b w G e1 e2 e3=>?_⟩
 by_cases hi:i<as.length
 .rw [gZq hi]at e1;rw[gZq (h1 ▸ hi)]at e2;rw[gZq (h2 ▸ hi)]at e3;exact h3 i b w G e1 e2 e3
 .rw [gYq (by lia)]at e1
  rw[gYq (by lia),←h1]at e2
  rw[gYq (by lia),←h2]at e3
  exact s.2.2 _ b w G e1 e2 e3
end
section
variable {K:W.Frag}{te ta tb:TE}{k:MK}{b:ME}{l:ML}
def pA{S:AS}{i:Nat}{avs:List AV}(h:qB S i=some avs):S[i]?=some (some (.ow avs)):=by
 unfold qB at h;split at h
 .rename_i z e;cases h;exact pW e
 .cases h
def BH{S:AS}{i:Nat}{nV:List (pN×D)}(h:xY S i=some nV):S[i]?=some (some (.owd nV)):=by
 unfold xY at h;split at h
 .rename_i z e;cases h;exact pW e
 .cases h
theorem pH.ow{H₀ Hf₀ Hf H:Hp}{S:AS}{σ:St}{Fs:List (List Addr)}(R:pH K H₀ Hf₀ Hf S σ H Fs) {i:Nat}{avs:List AV}(h:S[i]?=some (some (.ow avs))):∃p vs Gs,σ[i]?=some (some (.ref p))/\Fs[i]?=some (p::Gs.flatten)/\H p=some (.lst vs)/\Hf p=none/\oQ K Hf H avs vs Gs /\
  p∉Gs.flatten/\Gs.flatten.Nodup/\∀q∈p::Gs.flatten,H₀ q=none/\q∉(Fs.set i []).flatten:=by
 obtain⟨v,F,s1,s2,r,nd,o,_⟩:=R.move h;obtain⟨p,vs,Gs,rfl,rfl,h1,h2,h3⟩:=r.ow_inv;exact⟨p,vs,Gs,s1,s2,h1,h2,h3,(aK.mp nd).1,(aK.mp nd).2,o⟩
def wC{i:Nat}(hk:SK K te k):SS K (Aa (Nn K "list" Df (uS i) (tM te vL))) (yP i k):=by
 intro H₀ Hf₀ Hf S σ H Fs o R e D h;obtain⟨a0,e0,e⟩:=oBq.mp e;obtain⟨x,e1,e⟩:=oBq.mp e;obtain⟨avs,e2,e⟩:=oBq.mp e;rcases oZ e with ⟨hl,e⟩|e
 .skip
  cases e;obtain⟨p,vs,Gs,s1,_,h1,_⟩:=R.ow (pA e0);refine⟨.ref p,s1,.inl ⟨rfl,vs,rR.of h1⟩,hk R (a:=x.1) (S':=x.2) e1 _ λHf1 H1 Fs1 v F t1 R1 r1 o1=>?_⟩
  obtain⟨p',vs',Gs',s1',s2',h1',h2',h3',h4',h5',h6'⟩:=R1.ow (pA e2);rw[s1]at s1';cases s1';have pF:p∉F:=λm=>o1.out p m (ql s2' (by simp))
  refine⟨p,vs',v,rfl,rfl,h1',by rw[uY,←h3'.1];exact hl,h _ _ _ _ t1.sf (R1.turn s1 s2' (by simp) (F':=p::(Gs'++[F]).flatten) (pE.news og h2' ((h3'.keepUpd h4').snoc (r1.keepUpd pF))) ?_ λq hq=>?_)⟩
  .rw [fAq,aO];refine aK.mpr ⟨λm=>(mAq.mp m).elim h4' pF,nAq.mpr ⟨h5',o1.nd,λa ha b hb e=>o1.out b hb (ql s2' (mCo _ (e ▸ ha)))⟩⟩
  .rw [fAq,aO]at hq;rcases ak.mp hq with z|z
   .exact h6' q (by rw[z];simp)
   .rcases mAq.mp z with z|z
    .exact h6' q (mCo _ z)
    .exact ⟨o1.fr q z,λm=>o1.out q z (qu m)⟩
 .cases e
def Td{i:Nat}(hl:SL K te l):SS K (Aa (Nn K "list" EF (uS i) (tM te vL))) (Qa i l):=by
 intro H₀ Hf₀ Hf S σ H Fs o R e D h;obtain⟨a0,e0,e⟩:=oBq.mp e;obtain⟨x,e1,e⟩:=oBq.mp e;obtain⟨avs,e2,e⟩:=oBq.mp e;rcases oZ e with ⟨hle,e⟩|e
 .skip
  cases e;obtain⟨p,vs,Gs,s1,_,h1,_⟩:=R.ow (pA e0);refine⟨.ref p,s1,.inl ⟨rfl,vs,rR.of h1⟩,hl R (ds:=x.1) (S':=x.2) e1 _ λHf1 H1 Fs1 b ws t1 R1 hb r1=>?_⟩
  obtain⟨p',vs',Gs',s1',s2',h1',h2',h3',h4',h5',h6'⟩:=R1.ow (pA e2);rw[s1]at s1';cases s1';refine⟨p,b,vs',ws,rfl,rfl,h1',hb,by rw[uY,←h3'.1,←r1.1];exact hle,h _ _ _ _ t1.sf (R1.turn s1 s2' (by simp) (F':=p::(Gs'++aD x.1.length []).flatten) (pE.news og h2' ((h3'.keepUpd h4').append (Hz r1))) ?_ λq hq=>?_)⟩
  .rw [fAq,rm,aNq];exact aK.mpr ⟨h4',h5'⟩
  .rw [fAq,rm,aNq]at hq;exact h6' q hq
 .cases e
theorem Dn{H:Hp}:∀{ds:List (pN×D)}{nV:List (pN×V)}{key:pN},vB K H ds nV->match getD ds key with
  |some d=>∃v,C5 nV key=some v/\qY K H d v
  |none=>C5 nV key=none
 | [],nV,key,h=>by
  have:nV=[]:=by
   have:=congrArg cu h.1;simpa using this.symm
  subst this;rfl
 |d::ds,[],key,h=>by
  have:=congrArg cu h.1;simp at this
 |d::ds,v::nV,key,h=>by
  have h1:d.1=v.1/\ds.map (·.1)=nV.map (·.1):=by
   have:=h.1;simpa using this
  have h2:qY K H d.2 v.2:=h.2 0 d v rfl rfl;have ht:vB K H ds nV:=⟨h1.2,λi a b e1 e2=>h.2 (i+1) a b (by simpa using e1) (by simpa using e2)⟩
  unfold getD C5
  by_cases c:d.1=key
  .rw [eF (by simp[c]),eF (by simp[←h1.1,c])]
   exact⟨v.2,rfl,h2⟩
  .rw [eG (by simp[c]),eG (by simp[←h1.1,c])]
   exact Dn ht
def Bc{H:Hp}{d:D}{v:V}{key:pN}(h:wW d=some key) (r:qY K H d v):v=kV key:=by
 cases r <;> simp only[wW]at h
 all_goals first|(exfalso;simp at h;done)|skip
 all_goals (cases h;rfl)
def vB.key{H:Hp}{ds:List (pN×D)}{nV:List (pN×V)}(h:vB K H ds nV) {i:Nat}{d:pN×D}{v:pN×V}(e1:ds[i]?=some d) (e2:nV[i]?=some v):d.1=v.1:=by
 have:=congrArg (λl=>l[i]?) h.1
 simp only[gMq,e1,e2,cT]at this;exact aS.inj this
def vB.len{H:Hp}{ds:List (pN×D)}{nV:List (pN×V)}(h:vB K H ds nV):ds.length=nV.length:=by
 have:=congrArg cu h.1;simpa using this
def Sf{H:Hp}{ds:List (pN×D)}{nV:List (pN×V)}{key:pN}{d:D}{v:V}(h:vB K H ds nV) (r:qY K H d v):vB K H (EG ds key d) (DP nV key v):=by
 have ha:(ds.any λkv=>decide (kv.1=key))=nV.any λkv=>decide (kv.1=key):=by
  have e1:(ds.any λkv=>decide (kv.1=key))=(ds.map (·.1)).any λk=>decide (k=key):=by rw[gL];rfl
  have e2:(nV.any λkv=>decide (kv.1=key))=(nV.map (·.1)).any λk=>decide (k=key):=by rw[gL];rfl
  rw[e1,e2,h.1]
 unfold EG DP;rw[ha];split
 .refine ⟨?_,λi a b e1 e2=>?_⟩
  .rw [mPq,mPq];have e1:((λkv:pN×D=>kv.1)∘λkv:pN×D=>if kv.1=key then (kv.1,d) else kv)=λkv=>kv.1:=by
    funext kv;show (if kv.1=key then (kv.1,d) else kv).1=kv.1
    split <;> rfl
   have e2:((λkv:pN×V=>kv.1)∘λkv:pN×V=>if kv.1=key then (kv.1,v) else kv)=λkv=>kv.1:=by
    funext kv;show (if kv.1=key then (kv.1,v) else kv).1=kv.1
    split <;> rfl
   rw[e1,e2];exact h.1
  .rw [gMq]at e1 e2;obtain⟨a',f1,rfl⟩:=oMq.mp e1;obtain⟨b',f2,rfl⟩:=oMq.mp e2;have hk:=h.key f1 f2
   by_cases c:a'.1=key
   .rw [oJ c,oJ (hk ▸ c)];exact r
   .rw [oO c,oO (hk ▸ c)];exact h.2 i a' b' f1 f2
 .refine ⟨by rw[mBq,mBq,h.1];rfl,λi a b e1 e2=>?_⟩
  by_cases hi:i<ds.length
  .rw [gZq hi]at e1;rw[gZq (h.len ▸ hi)]at e2;exact h.2 i a b e1 e2
  .have hi':i=ds.length:=by
    have:=(gSq.mp e1).1;rw[lAq,lSq]at this;lia
   subst hi';rw[gYq (af _),bP]at e1;rw[h.len,gYq (af _),bP]at e2;cases e1;cases e2;exact r
def AK:MK:=λS=>some (.owd [],S)
def Dd:SK K Uo AK:=by
 intro H₀ Hf₀ Hf S σ H Fs av S' R e Q q;cases e;intro p hp;obtain⟨t,R2,n1,n2,n3⟩:=R.new (o:=.dK []) hp;exact q _ _ _ (.ref p) [p] t R2 (.owd og n1 ⟨rfl,λi d v h=>by simp at h⟩) (Bv.one R hp)
theorem pH.owd{H₀ Hf₀ Hf H:Hp}{S:AS}{σ:St}{Fs:List (List Addr)}(R:pH K H₀ Hf₀ Hf S σ H Fs) {i:Nat}{ds:List (pN×D)}(h:S[i]?=some (some (.owd ds))):∃p nV,σ[i]?=some (some (.ref p))/\Fs[i]?=some [p]/\H p=some (.dK nV)/\Hf p=none/\vB K Hf ds nV /\
  H₀ p=none/\p∉(Fs.set i []).flatten:=by
 obtain⟨v,F,s1,s2,r,nd,o,_⟩:=R.move h;obtain⟨p,nV,rfl,rfl,h1,h2,h3⟩:=r.owd_inv;exact⟨p,nV,s1,s2,h1,h2,h3,(o p (by simp)).1,(o p (by simp)).2⟩
def Co{i:Nat}(hk:SK K te k) (hb:SR K tb b):SS K (XF (uS i) tb te) (Ad i b k):=by
 intro H₀ Hf₀ Hf S σ H Fs o R e D h;obtain⟨x,e1,e⟩:=oBq.mp e;obtain⟨a0,e0,e⟩:=oBq.mp e;obtain⟨y,e2,e⟩:=oBq.mp e;obtain⟨nV,e3,e⟩:=oBq.mp e;obtain⟨key,e4,e⟩:=oBq.mp e;rcases oZ e with ⟨hl,e⟩|e
 .skip
  cases e;have hk':SK K te (vx k):=SK.frz hk;refine hk' R (a:=x.1) (S':=x.2) e1 _ λHf1 H1 Fs1 v F t1 R1 r1 o1=>?_
  obtain⟨p',_,s1,_⟩:=R1.owd (BH e0);refine⟨_,s1,hb R1 (d:=y.1) (S':=y.2) e2 _ λHf2 H2 Fs2 w t2 R2 r2=>?_⟩
  obtain⟨q',kv,s1',s2',h1',h2',h3',h4',h5'⟩:=R2.owd (BH e3);rw[s1]at s1';cases s1';obtain⟨x1,hx1⟩:∃d,x.1 = .sh d:=by
   obtain⟨w,_,e⟩:=oMq.mp e1;rw[←e];exact⟨_,rfl⟩
  rw[hx1]at r1;have rv:=(r1.sh_inv.2).mono t2.sf;have hw:=Bc e4 r2;subst hw;refine⟨p',_,rfl,SN.k h1' (by rw[uY,←h3'.len];exact hl),h _ _ _ _ (t1.sf.trans t2.sf) (R2.turn s1 s2' (by simp) (F':=[p']) (.owd og h2' ?_) (by simp) λq hq=>by rw[mSq.mp hq];exact⟨h4',h5'⟩)⟩
  rw[hx1,uc];exact Sf h3' rv
 .cases e
def adO(a b:ME):ME:=λS=>(a S).bind λx=>(b x.2).bind λy=>match y.1 with
 | .dict nV=>(wW x.1).map λkey=>(.bl (getD nV key).isSome,y.2)
 |_=>none
def vS(a b:ME):ME:=λS=>(a S).bind λx=>(b x.2).bind λy=>match y.1 with
 | .dict nV=>(wW x.1).map λkey=>(.bl (!(getD nV key).isSome),y.2)
 |_=>none
def Jx(a b:ME):ME:=λS=>(a S).bind λx=>(b x.2).bind λy=>match x.1 with
 | .dict nV=>(wW y.1).bind λkey=>(getD nV key).map λd=>(d,y.2)
 |_=>none
def O8{H:Hp}{nV:List (pN×D)}{x:V}{key:pN}{d:D}(r:qY K H (.dict nV) x) (e:getD nV key=some d):∃a v,x = .ref a/\Fl H a (kV key) (some v)/\qY K H d v:=by
 obtain⟨p,vs,rfl,h1,h2⟩:=r.dict_inv;have g:=Dn (key:=key) h2;rw[e]at g;obtain⟨v,g1,g2⟩:=g;exact⟨p,v,rfl,by rw[←g1];exact Fl.k h1,g2⟩
def To{H:Hp}{nV:List (pN×D)}{x:V}{key:pN}(r:qY K H (.dict nV) x):∃a o,x = .ref a/\Fl H a (kV key) o/\o.isSome=(getD nV key).isSome:=by
 obtain⟨p,vs,rfl,h1,h2⟩:=r.dict_inv;have g:=Dn (key:=key) h2;refine⟨p,_,rfl,Fl.k h1,?_⟩;cases e:getD nV key with
 |none=>rw[e]at g;rw[g];rfl
 |some d=>rw[e]at g;obtain⟨v,g1,_⟩:=g;rw[g1];rfl
def DT{a:ME}(ha:SR K ta a) (hb:SR K tb b):SR K (Nw ta tb) (vS a b):=by
 intro H₀ Hf₀ Hf S σ H Fs d S' R e Q q;obtain⟨x,e1,e⟩:=oBq.mp e;obtain⟨y,e2,e⟩:=oBq.mp e;refine ha R (d:=x.1) (S':=x.2) e1 _ λHf1 H1 Fs1 v1 t1 R1 r1=>hb R1 (d:=y.1) (S':=y.2) e2 _ λHf2 H2 Fs2 v2 t2 R2 r2=>?_
 split at e
 .rename_i nV hy;rw[hy]at r2;obtain⟨key,e3,e⟩:=oMq.mp e;cases e;obtain⟨p,o,rfl,g1,g2⟩:=To (key:=key) r2;refine⟨p,o,rfl,by rw[Bc e3 r1];exact g1,?_⟩
  rw[g2];exact q _ _ _ _ (t1.trans t2) R2 .bl
 .cases e
def N6{a:ME}(ha:SR K ta a) (hb:SR K tb b):SR K (RT ta tb) (Jx a b):=by
 intro H₀ Hf₀ Hf S σ H Fs d S' R e Q q;obtain⟨x,e1,e⟩:=oBq.mp e;obtain⟨y,e2,e⟩:=oBq.mp e;refine ha R (d:=x.1) (S':=x.2) e1 _ λHf1 H1 Fs1 v1 t1 R1 r1=>hb R1 (d:=y.1) (S':=y.2) e2 _ λHf2 H2 Fs2 v2 t2 R2 r2=>?_
 split at e
 .rename_i nV hy;rw[hy]at r1;obtain⟨key,e3,e⟩:=oBq.mp e;obtain⟨d',e4,e⟩:=oMq.mp e;cases e;obtain⟨p,v,rfl,g1,g2⟩:=O8 (r1.mono t2.sh) e4;exact⟨p,v,rfl,by rw[Bc e3 r2];exact g1,q _ _ _ _ (t1.trans t2) R2 g2⟩
 .cases e
end
def tN(x:Nat) (body:MS):List D->AS->Option Gq
 | [],S=>some (.nx S)
 |d::ds,S=>(body (S.set x (some (.sh d)))).bind λo=>match o with
  | .nx S'=>tN x body ds S'
  | .ct S'=>tN x body ds S'
  | .bk S'=>some (.nx S')
  | .rt a=>some (.rt a)
noncomputable def rW:D->Option (List D)
 | .list ds=>some ds
 | .scr ns=>some (ns.map .int)
 |_=>none
def C6(x:Nat) (k:MK) (body:MS):MS:=λS=>(vx k S).bind λy=>(rW (nR y.1)).bind λds=>tN x body ds y.2
def pZ(lo:Int) (n:Nat):List D:=(bu n).map λi:Nat=>.int (lo+i)
def GK:List D->Option (List D)
 | [.int j]=>we (-(2 ^ 62)<=j/\j<2 ^ 62) (some (pZ 0 j.toNat))
 |_=>none
def adG:List D->Option (List D)
 | [.int i,.int j]=>we (-(2 ^ 62)<=i/\i<2 ^ 62/\-(2 ^ 62)<=j/\j<2 ^ 62) (some (pZ i (j-i).toNat))
 |_=>none
def Ge(x:Nat) (a:ML) (body:MS):MS:=λS=>(a S).bind λy=>(GK y.1).bind λds=>tN x body ds y.2
def ac2(x:Nat) (a:ML) (body:MS):MS:=λS=>(a S).bind λy=>(adG y.1).bind λds=>tN x body ds y.2
def Lj(x y:Nat) (body:MS):Nat->List D->AS->Option Gq
 |_,[],S=>some (.nx S)
 |i,d::ds,S=>(body ((S.set x (some (.sh (.int i)))).set y (some (.sh d)))).bind λo=>match o with
  | .nx S'=>Lj x y body (i+1) ds S'
  | .ct S'=>Lj x y body (i+1) ds S'
  | .bk S'=>some (.nx S')
  | .rt a=>some (.rt a)
def abY(x y:Nat) (k:MK) (body:MS):MS:=λS=>(vx k S).bind λz=>(rW (nR z.1)).bind λds=>Lj x y body 0 ds z.2
def B3(x y:Nat) (body:MS):List D->List D->AS->Option Gq
 |d::ds,e::es,S=>(body ((S.set x (some (.sh d))).set y (some (.sh e)))).bind λo=>match o with
  | .nx S'=>B3 x y body ds es S'
  | .ct S'=>B3 x y body ds es S'
  | .bk S'=>some (.nx S')
  | .rt a=>some (.rt a)
 |_,_,S=>some (.nx S)
def TC(x y:Nat) (k l:MK) (body:MS):MS:=λS=>(vx k S).bind λz=>(vx l z.2).bind λw=>(rW (nR z.1)).bind λds=>(rW (nR w.1)).bind λes =>
 if ds.length=es.length then B3 x y body ds es w.2 else none
def vE(c:MT) (body:MS):Nat->MS
 |0,_=>none
 |n+1,S=>(c S).bind λx=>if x.1=true then (body x.2).bind λo=>match o with
   | .nx S'=>vE c body n S'
   | .ct S'=>vE c body n S'
   | .bk S'=>some (.nx S')
   | .rt a=>some (.rt a)
  else some (.nx x.2)
section
variable {K:W.Frag}{te tf:TE}{k l:MK}{tb:TS}{body:MS}{x y:Nat}
def yV{H:Hp}{d:D}{ds:List D}{v:V}(e:rW d=some ds) (r:qY K H d v):∃a vs,v = .ref a/\rR K H a vs/\qe K H ds vs:=by
 cases d with
 |list es =>
  cases e;obtain⟨p,vs,rfl,h1,h2⟩:=r.list_inv;exact⟨p,vs,rfl,rR.of h1,h2⟩
 |scr ns =>
  cases e;cases r with
  |scr h=>exact⟨_,_,rfl,h,wQ ns⟩
 |_=>cases e
def Ar{te:TE}{S:AS}{z:AV×AS}(e:vx k S=some z):∃d,z.1 = .sh d:=by
 obtain⟨w,_,e⟩:=oMq.mp e;rw[←e];exact⟨_,rfl⟩
def pH.setD{H₀ Hf₀ Hf H:Hp}{S:AS}{σ:St}{Fs:List (List Addr)}{d:D}{v:V}(R:pH K H₀ Hf₀ Hf S σ H Fs) (i:Nat) (r:qY K Hf d v):pH K H₀ Hf₀ Hf (S.set i (some (.sh d))) (σ.set i (some v)) H (Fs.set i []) :=
 R.set i (.sh r) aT λq h=>(by cases h)
def AX(hk:SK K te k) (hb:SS K tb body):SS K (P2 (M6 K te) (uA x) tb) (C6 x k body):=by
 intro H₀ Hf₀ Hf S σ H Fs o R e D h;obtain⟨z,e1,e⟩:=oBq.mp e;obtain⟨ds,e2,e⟩:=oBq.mp e;have hk':SK K te (vx k):=SK.frz hk;refine hk' R (a:=z.1) (S':=z.2) e1 _ λHf1 H1 Fs1 v F t1 R1 r1 o1=>?_
 obtain⟨d,hd⟩:=Ar (te:=te) e1;rw[hd]at r1;rw[hd,uc]at e2;obtain⟨a,vs,rfl,g1,g2⟩:=yV e2 r1.sh_inv.2;refine⟨a,rfl,⟨vs,R1.sub.seq g1⟩,Ky (xs:=vs) (λi σ' H'=>∃Hf' S' Fs',pH K H₀ Hf₀ Hf' S' σ' H' Fs'/\oX Hf1 Hf'/\tN x body (ds.drop i) S'=some o) ⟨Hf1,z.2,Fs1,R1,.refl _,e⟩
  (λi σ' H' _ ⟨Hf',S',Fs',R',s',_⟩=>R'.sub.seq (s'.seq g1)) ?_ ?_⟩
 .rintro i w σ' H' hw ⟨Hf',S',Fs',R',s',e'⟩;obtain⟨di,hdi,rw'⟩:=g2.get' hw;have hlt:i<ds.length:=(gSq.mp hdi).1;rw[aL hlt]at e';have hdi':ds[i]=di:=(gSq.mp hdi).2;rw[hdi']at e';obtain⟨ob,e3,e4⟩:=oBq.mp e';refine hb (R'.setD x (rw'.mono s')) e3 _ ?_;cases ob with
  |nx S2=>exact λHf2 σ2 H2 Fs2 s2 R2=>⟨Hf2,S2,Fs2,R2,s'.trans s2,e4⟩
  |ct S2=>exact λHf2 σ2 H2 Fs2 s2 R2=>⟨Hf2,S2,Fs2,R2,s'.trans s2,e4⟩
  |bk S2=>cases e4;exact λHf2 σ2 H2 Fs2 s2 R2=>h _ _ _ _ ((t1.sf.trans s').trans s2) R2
  |rt a=>cases e4;exact h
 .rintro σ' H' ⟨Hf',S',Fs',R',s',e'⟩;rw[←g2.1,cF]at e';cases e';exact h _ _ _ _ (t1.sf.trans s') R'
def Po{H₀ Hf₀ Hf1 H1:Hp}{S1:AS}{σ:St}{Fs1:List (List Addr)}{o:Gq}{D:wL}{lo:Int}{n:Nat}(hb:SS K tb body) (R1:pH K H₀ Hf₀ Hf1 S1 σ H1 Fs1) (e:tN x body (pZ lo n) S1=some o) (h:C9 K H₀ Hf₀ Hf1 D o) :
  ∃W:Nat->Nat->St->Hp->Prop,(∃m,W 0 m σ H1)/\∀i m σ H,W i m σ H ->
   ((Vw lo n).stop i H/\D.nx σ H)∨((Vw lo n).go i H/\∃N:St->Hp->Prop,(∀σ' H',N σ' H'->∃m',m'<m/\W (i+1) m' σ' H')/\∀v H',(Vw lo n).yld i H v H'->uA x v σ H' λσ2 H2=>tb { D with nx:=N,ct:=N,bk:=D.nx } σ2 H2):=by
 refine P6 (λi σ' H'=>∃Hf' S' Fs',pH K H₀ Hf₀ Hf' S' σ' H' Fs'/\oX Hf1 Hf'/\tN x body ((pZ lo n).drop i) S'=some o) ⟨Hf1,S1,Fs1,R1,.refl _,e⟩ ?_ ?_
 .rintro i σ' H' hi ⟨Hf',S',Fs',R',s',e'⟩;have hlt:i<(pZ lo n).length:=by unfold pZ;rw[lMq,ba];exact hi
  rw[aL hlt]at e';have hdi:(pZ lo n)[i] = .int (lo+i):=by simp[pZ]
  rw[hdi]at e';obtain⟨ob,e3,e4⟩:=oBq.mp e';refine hb (R'.setD x .int) e3 _ ?_;cases ob with
  |nx S2=>exact λHf2 σ2 H2 Fs2 s2 R2=>⟨Hf2,S2,Fs2,R2,s'.trans s2,e4⟩
  |ct S2=>exact λHf2 σ2 H2 Fs2 s2 R2=>⟨Hf2,S2,Fs2,R2,s'.trans s2,e4⟩
  |bk S2=>cases e4;exact λHf2 σ2 H2 Fs2 s2 R2=>h _ _ _ _ (s'.trans s2) R2
  |rt a=>cases e4;exact h
 .rintro σ' H' ⟨Hf',S',Fs',R',s',e'⟩;have hl:(pZ lo n).length=n:=by unfold pZ;rw[lMq,ba]
  rw[bT (ef hl)]at e';cases e';exact h _ _ _ _ s' R'
def J3{ta:TA}{a:ML}(ha:UQ K ta a) (hb:SS K tb body):SS K (P2 (Ts ta) (uA x) tb) (Ge x a body):=by
 intro H₀ Hf₀ Hf S σ H Fs o R e D h;obtain⟨z,e1,e⟩:=oBq.mp e;obtain⟨ds,e2,e⟩:=oBq.mp e;refine ha R (ds:=z.1) (S':=z.2) e1 _ λHf1 H1 Fs1 vs t1 R1 r1=>?_
 unfold GK at e2;split at e2
 .rename_i j hz;rcases oZ e2 with ⟨hj,e2⟩|e2
  .skip
   cases e2;rw[hz]at r1;obtain⟨v,ws,rfl,h1,h2⟩:=r1.cons_inv;rw[h2.nil_inv];cases h1;exact⟨j,rfl,hj.1,hj.2,Po hb R1 e (h.mono t1.sf)⟩
  .cases e2
 .cases e2
def Wl(hk:SK K te k) (hl:SK K tf l) (hb:SS K tb body):SS K (P2 (aaY K (tM te (tM tf vL))) (So K 2 (Cn (uA x) (Cn (uA y) Rx))) tb) (TC x y k l body):=by
 intro H₀ Hf₀ Hf S σ H Fs o R e D h;obtain⟨z,e1,e⟩:=oBq.mp e;obtain⟨w,e1',e⟩:=oBq.mp e;obtain⟨ds,e2,e⟩:=oBq.mp e;obtain⟨es,e2',e⟩:=oBq.mp e;split at e
 .rename_i hlen;have hk':SK K te (vx k):=SK.frz hk;have hl':SK K tf (vx l):=SK.frz hl;refine hk' R (a:=z.1) (S':=z.2) e1 _ λHf1 H1 Fs1 v F t1 R1 r1 o1=>hl' R1 (a:=w.1) (S':=w.2) e1' _ λHf2 H2 Fs2 v2 F2 t2 R2 r2 o2=>?_
  obtain⟨d,hd⟩:=Ar (te:=te) e1;obtain⟨d2,hd2⟩:=Ar (te:=te) e1';rw[hd]at r1;rw[hd,uc]at e2;rw[hd2]at r2;rw[hd2,uc]at e2';obtain⟨a,vs,rfl,g1,g2⟩:=yV e2 (r1.sh_inv.2.mono t2.sf);obtain⟨b,ws,rfl,g3,g4⟩:=yV e2' r2.sh_inv.2;refine⟨a,b,rfl,⟨vs,R2.sub.seq g1⟩,⟨ws,R2.sub.seq g3⟩,Vj (xs:=vs) (ys:=ws) (λi σ' H'=>∃Hf' S' Fs',pH K H₀ Hf₀ Hf' S' σ' H' Fs'/\oX Hf2 Hf'/\B3 x y body (ds.drop i) (es.drop i) S'=some o) ⟨Hf2,w.2,Fs2,R2,.refl _,e⟩ (by rw[←g2.1,←g4.1,hlen])
   (λi σ' H' _ ⟨Hf',S',Fs',R',s',_⟩=>⟨R'.sub.seq (s'.seq g1),R'.sub.seq (s'.seq g3)⟩) ?_ ?_⟩
  .rintro i u u' σ' H' T hu hu' ⟨Hf',S',Fs',R',s',e'⟩ hT;obtain⟨di,hdi,rw'⟩:=g2.get' hu;obtain⟨ei,hei,rw2⟩:=g4.get' hu';have hlt:i<ds.length:=(gSq.mp hdi).1;have hlt2:i<es.length:=(gSq.mp hei).1;rw[aL hlt,aL hlt2,(gSq.mp hdi).2,(gSq.mp hei).2]at e';obtain⟨ob,e3,e4⟩:=oBq.mp e';have R3:=(R'.new (o:=.tup [u,u']) hT).2.1;refine hb ((R3.setD x (rw'.mono s')).setD y (rw2.mono s')) e3 _ ?_;cases ob with
   |nx S2=>exact λHf2 σ2 H2 Fs2 s2 R2=>⟨Hf2,S2,Fs2,R2,s'.trans s2,e4⟩
   |ct S2=>exact λHf2 σ2 H2 Fs2 s2 R2=>⟨Hf2,S2,Fs2,R2,s'.trans s2,e4⟩
   |bk S2=>cases e4;exact λHf2 σ2 H2 Fs2 s2 R2=>h _ _ _ _ (((t1.sf.trans t2.sf).trans s').trans s2) R2
   |rt a=>cases e4;exact h
  .rintro σ' H' ⟨Hf',S',Fs',R',s',e'⟩;have e0:ds.drop vs.length=[]:=by rw[←g2.1,cF]
   rw[e0]at e';have e0':B3 x y body [] (es.drop vs.length) S'=some (.nx S'):=by
    cases es.drop vs.length <;> rfl
   rw[e0']at e';cases e';exact h _ _ _ _ ((t1.sf.trans t2.sf).trans s') R'
 .cases e
def JK{c:TT}{m:MT}(n:Nat) (hc:Gk K c m) (hb:SS K tb body):SS K (TR c tb) (vE m body n):=by
 intro H₀ Hf₀ Hf S σ H Fs o R e D h;refine⟨λn σ' H'=>∃Hf' S' Fs',pH K H₀ Hf₀ Hf' S' σ' H' Fs'/\oX Hf Hf'/\vE m body n S'=some o,⟨n,Hf,S,Fs,R,.refl _,e⟩,?_⟩
 rintro n σ' H' ⟨Hf',S',Fs',R',s',e'⟩;cases n with
 |zero=>cases e'
 |succ n =>
  obtain⟨z,e1,e2⟩:=oBq.mp e';refine hc R' (b:=z.1) (S':=z.2) e1 _ λHf1 H1 Fs1 t1 R1=>?_
  split at e2
  .rename_i hz;rw[hz];refine Gw ⟨λσ2 H2=>∃Hf' S' Fs',pH K H₀ Hf₀ Hf' S' σ2 H2 Fs'/\oX Hf Hf'/\vE m body n S'=some o,λσ2 H2 w=>⟨n,dh n,w⟩,?_⟩
   obtain⟨ob,e3,e4⟩:=oBq.mp e2;refine hb R1 e3 _ ?_;cases ob with
   |nx S2=>exact λHf2 σ2 H2 Fs2 s2 R2=>⟨Hf2,S2,Fs2,R2,(s'.trans t1.sf).trans s2,e4⟩
   |ct S2=>exact λHf2 σ2 H2 Fs2 s2 R2=>⟨Hf2,S2,Fs2,R2,(s'.trans t1.sf).trans s2,e4⟩
   |bk S2=>cases e4;exact λHf2 σ2 H2 Fs2 s2 R2=>h _ _ _ _ ((s'.trans t1.sf).trans s2) R2
   |rt a=>cases e4;exact h
  .rename_i hz;rw[bN]at hz;rw[hz];cases e2;exact GA (h _ _ _ _ (s'.trans t1.sf) R1)
end
def sX(np n:Nat) (m:MS):MF:=λds=>if ds.length=np then (m (ds.map (λd=>some (.sh d))++aD (n-ds.length) none)).bind λo=>match o with
  | .rt a=>some a
  | .nx _=>some (.sh .non)
  |_=>none
 else none
def GU{K:W.Frag}{Hf H:Hp}{ds:List D}{vs:List V}(N:List Str) (s:oX Hf H) (r:qe K Hf ds vs) :
  pH K H Hf Hf (ds.map (λd=>some (.sh d))++aD (N.length-ds.length) none) (L2.sZ N vs) H (aD (ds.length+(N.length-ds.length)) []):=by
 have fl:=rm (ds.length+(N.length-ds.length));refine⟨by simp[L2.sZ,r.1],by simp,λi av e=>?_,λi e=>?_,by rw[fl];exact aT,λp hp=>(by rw[fl]at hp;cases hp),s,oX.refl _,λb h _=>h,oX.refl _⟩
 .by_cases hi:i<ds.length
  .rw [gZq (by simpa using hi),gMq]at e
   obtain⟨d,e1,e2⟩:=oMq.mp e;cases e2;obtain⟨v,e3,rv⟩:=r.get e1;refine⟨v,[],?_,?_,.sh rv⟩
   .unfold L2.sZ;rw[gZq (by simpa [←r.1] using hi),gMq,e3]
    rfl
   .rw [bD,oJ (by lia)]
  .rw [gYq (by simpa using hi)]at e
   have:=mGq e;rw[cY this]at e;have h2:=cY this;cases h2
 .rw [bD];have hi:=(gSq.mp e).1;rw[lAq,lMq,cL]at hi;rw[oJ hi]
def oP{K:W.Frag}{t:TS}{m:MS}{np:Nat}(N:List Str) (h:SS K t m) {vs:List V}{H:Hp}{Q:VK}{E:XK}(hs:oY K (sX np N.length m) vs H Q E):t { nx:=λ_ H'=>Q .non H',rt:=Q } (L2.sZ N vs) H:=by
 obtain⟨Hf,ds,a,s,r,e,q⟩:=hs;unfold sX at e;split at e
 .obtain ⟨o,e1,e2⟩:=oBq.mp e;refine h (GU N s r) e1 _ ?_;cases o with
  |rt a' =>
   cases e2;exact λHf' H' v F s1 s2 s3 l r nd fr=>q Hf' H' v F s1 s2 s3 l r nd fr
  |nx S' =>
   cases e2;exact λHf' σ' H' Fs' s1 R=>q Hf' H' .non [] R.sf R.fr R.sub R.lim (.sh .non) aT λq h=>(by cases h)
  |bk S'=>cases e2
  |ct S'=>cases e2
 .cases e
def qg{K:W.Frag}{m:MS}{np n:Nat}{vs:List V}{H:Hp}{Q:VK}{E:XK}(hs:oY K (sX np n m) vs H Q E):vs.length=np:=by
 obtain⟨Hf,ds,a,s,r,e,q⟩:=hs;unfold sX at e;split at e
 .rename_i h;rw[←r.1,h]
 .cases e
noncomputable def fzAll:List Nat->AS->Option AS
 | [],S=>some S
 |j::js,S=>(S[j]?.join).bind λa=>fzAll js (S.set j (some (.sh (nR a))))
noncomputable def Z6:Option AV->Option AV
 |some (.sh d)=>some (.sh d)
 |_=>none
def GI(S:AS):List Nat->Option AS
 | []=>some []
 |j::js=>(Z6 S[j]?.join).bind λa=>(GI S js).map (some a :: ·)
noncomputable def qO(tf:MT) (te:MK) (cap:AS):List D->Option (List AV)
 | []=>some []
 |d::ds=>(tf (some (.sh d)::cap)).bind λb=>if b.1=true then (te b.2).bind λa=>(qO tf te cap ds).map (a.1 :: ·) else qO tf te cap ds
abbrev MI:=AS->Option (List D×AS)
def xJ(k:MK):MI:=λS=>(vx k S).bind λy=>(rW (nR y.1)).map λds=>(ds,y.2)
def Yp(a:ML):MI:=λS=>(a S).bind λy=>(GK y.1).map λds=>(ds,y.2)
def rQ(src:MI) (fr:List Nat) (tf:MT) (te:MK):MK:=λS=>(src S).bind λy=>(fzAll fr y.2).bind λS2=>(GI S2 fr).bind λcap=>we (y.1.length<=qP) ((qO tf te cap y.1).map λavs=>(.ow avs,S2))
def rY:MT:=λS=>some (true,S)
section
variable {K:W.Frag}{H₀ Hf₀ Hf Hf' H H':Hp}{S S':AS}{σ:St}{Fs Fs':List (List Addr)}
def pH.fz(R:pH K H₀ Hf₀ Hf S σ H Fs) {j:Nat}{a:AV}(e:S[j]?.join=some a):∃Hf' Fs',Bs Hf H Fs Hf' H Fs'/\pH K H₀ Hf₀ Hf' (S.set j (some (.sh (nR a)))) σ H Fs':=by
 obtain⟨v,F,s1,s2,r,nd,o,R1⟩:=R.move (pW e);have n:∀q∈F,Hf q=none:=λq hq=>(r.owned q hq).2
 have R2:=R1.frz o n;have r2:=r.frozen (rq (H:=H) n) λq hq=>AA hq
 have R3:=R2.again (F:=F) (G:=[]) s1 (.sh r2) aT λq h=>(by cases h)
 refine⟨_,_,⟨rq n,.refl _,λp hp=>qu hp,λb h g=>?_⟩,R3⟩
 by_cases m:b∈F
 .exact .inr (mFq.mpr ⟨F,mGq s2,m⟩)
 .rw [vP m]at g;exact absurd h g
theorem pH.fzAll:∀{fr:List Nat}{Hf:Hp}{S S':AS}{Fs:List (List Addr)},pH K H₀ Hf₀ Hf S σ H Fs->fzAll fr S=some S'->∃Hf' Fs',Bs Hf H Fs Hf' H Fs'/\pH K H₀ Hf₀ Hf' S' σ H Fs'
 | [],Hf,S,S',Fs,R,e=>by
  cases e;exact⟨Hf,Fs,.refl,R⟩
 |j::js,Hf,S,S',Fs,R,e=>by
  obtain⟨a,e1,e2⟩:=oBq.mp e;obtain⟨Hf1,Fs1,t1,R1⟩:=R.fz e1;obtain⟨Hf2,Fs2,t2,R2⟩:=pH.fzAll R1 e2;exact⟨Hf2,Fs2,t1.trans t2,R2⟩
theorem J8(R:pH K H₀ Hf₀ Hf S σ H Fs):∀{fr:List Nat}{cap:AS},GI S fr=some cap->cap.length=fr.length/\∀(k:Nat) (a:AV),cap[k]?=some (some a)->∃d v,a = .sh d/\(slots σ fr)[k]?=some (some v)/\qY K Hf d v
 | [],cap,e=>by
  cases e;exact⟨rfl,λk a h=>by simp at h⟩
 |j::js,cap,e=>by
  obtain⟨a,e1,e2⟩:=oBq.mp e;obtain⟨cap',e3,e4⟩:=oMq.mp e2;subst e4;obtain⟨h1,h2⟩:=J8 R e3;refine⟨by simp[h1],λk b hk=>?_⟩
  cases k with
  |zero =>
   cases hk;cases ej:S[j]?.join with
   |none=>rw[ej]at e1;cases e1
   |some c =>
    rw[ej]at e1;cases c with
    |sh d =>
     cases e1;obtain⟨v,F,s1,s2,r⟩:=R.rep j _ (pW ej);refine⟨d,v,rfl,?_,r.sh_inv.2⟩;show some ((σ[j]?).join)=_;rw[s1];rfl
    |_=>cases e1
  |succ k=>exact h2 k b (by simpa using hk)
def O3(R:pH K H₀ Hf₀ Hf S σ H Fs) {fr:List Nat}{cap:AS}(e:GI S fr=some cap) {d:D}{x:V}(rx:qY K Hf d x) :
  pH K H₀ Hf₀ Hf (some (.sh d)::cap) (some x::slots σ fr) H (aD (cap.length+1) []):=by
 obtain⟨h1,h2⟩:=J8 R e;have fl:=rm (cap.length+1);refine⟨by simp[slots,h1],by simp,λi av ei=>?_,λi ei=>?_,by rw[fl];exact aT,λp hp=>(by rw[fl]at hp;cases hp),R.sub,R.fr,R.lim,R.sf⟩
 .cases i with
  |zero =>
   cases ei;exact⟨x,[],rfl,by simp,.sh rx⟩
  |succ k =>
   have hk:k<cap.length:=(gSq.mp (by simpa using ei)).1
   obtain⟨d',v,rfl,s1,r⟩:=h2 k av (by simpa using ei)
   exact⟨v,[],by simpa using s1,by rw[bD,oJ (by lia)],.sh r⟩
 .rw [bD];have hi:=(gSq.mp ei).1;rw[oJ (by simpa using hi)]
def pH.updOut(R:pH K H₀ Hf₀ Hf S σ H Fs) {p:Addr}{o:HO}(h1:p∉Fs.flatten) (h2:Hf p=none) (h3:H₀ p=none):pH K H₀ Hf₀ Hf S σ (pY H p o) Fs where
 len:=R.len
 lenF:=R.lenF
 rep:=λi av e=>by
  obtain⟨v,F,s1,s2,r⟩:=R.rep i av e;exact⟨v,F,s1,s2,r.keepUpd λm=>h1 (ql s2 m)⟩
 emp:=R.emp
 nd:=R.nd
 fresh:=R.fresh
 sub:=λb u e=>by
  rw[nT λz=>by rw[z,h2]at e;cases e]
  exact R.sub b u e
 fr:=λb u e=>by
  rw[nT λz=>by rw[z,h3]at e;cases e]
  exact R.fr b u e
 lim:=R.lim
 sf:=R.sf
def pH.outer{σ2:St}{Fs2 Fs3:List (List Addr)}{Hf3 H3:Hp}{S3:AS}(R:pH K H₀ Hf₀ Hf S σ H Fs) (R3:pH K H₀ Hf₀ Hf3 S3 σ2 H3 Fs3) (t:Bs Hf H Fs2 Hf3 H3 Fs3) (h0:Fs2.flatten=[]):Bs Hf H Fs Hf3 H3 Fs/\pH K H₀ Hf₀ Hf3 S σ H3 Fs:=by
 have g:∀b,Hf b=none->H b≠none->Hf3 b=none:=λb h1 h2=>by
  by_cases e:Hf3 b=none
  .exact e
  .rcases t.gr b h1 e with z|z
   .exact absurd z h2
   .rw [h0]at z;cases z
 exact⟨⟨t.sf,t.sh,λ_ h=>h,λb h1 h2=>.inl (by
  by_cases e:H b=none
  .exact e
  .exact absurd (g b h1 e) h2)⟩,R.more t.sh t.sf R3.sub (λq hq=>g q (R.mem hq).2 (R.mem hq).1) R3.lim⟩
end
section
variable {K:W.Frag}{tf:TT}{te:TE}{mf:MT}{me:MK}{fr:List Nat}
def Hi{H₀ Hf₀ Hf1 H1:Hp}{S1:AS}{σ:St}{Fs1:List (List Addr)}{cap:AS}{ds:List D}{avs:List AV}{J:It}{Q:VK}(hf:Gk K tf mf) (he:SK K te me)
  (R1:pH K H₀ Hf₀ Hf1 S1 σ H1 Fs1) (ec:GI S1 fr=some cap) (hl:ds.length<=qP) (e:qO mf me cap ds=some avs)
  (hgo:∀i H,oX Hf1 H->i<ds.length->J.go i H) (hst:∀H,oX Hf1 H->J.stop ds.length H) (hy:∀i H x H',oX Hf1 H->i<ds.length->J.yld i H x H'->H'=H/\∃d,ds[i]?=some d/\qY K Hf1 d x)
  (q:∀Hf' H' v F,Bs Hf1 H1 Fs1 Hf' H' Fs1->pH K H₀ Hf₀ Hf' S1 σ H' Fs1->pE K Hf' H' (.ow avs) v F->Bv H₀ H1 Fs1 Fs1 F->Q v H') :
  ∀acc,H1 acc=none->∃W:Nat->Nat->Hp->Prop,(∃m,W 0 m (pY H1 acc (.lst [])))/\∀i m H,W i m H ->
   (J.stop i H/\Q (.ref acc) H) ∨
   (J.go i H/\∃N:Hp->Prop,(∀H',N H'->∃m',m'<m/\W (i+1) m' H')/\∀x H',J.yld i H x H'->tf (some x::slots σ fr) H' λb H2 =>
    if b=true then te (some x::slots σ fr) H2 λy H3=>∃ys,H3 acc=some (.lst ys)/\ys.length<iX/\N (pY H3 acc (.lst (ys++[y]))) else N H2):=by
 intro acc hacc;obtain⟨t0,R0,n1,n2,n3⟩:=R1.new (o:=.lst []) hacc
 let P:Nat->Hp->Prop:=λi H=>∃Hf as vs Gs rest,pH K H₀ Hf₀ Hf S1 σ H Fs1/\Bs Hf1 H1 Fs1 Hf H Fs1/\H acc=some (.lst vs)/\Hf acc=none/\oQ K Hf H as vs Gs/\Bv H₀ H1 Fs1 Fs1 (acc::Gs.flatten)/\as.length<=i /\
  qO mf me cap (ds.drop i)=some rest/\avs=as++rest
 refine⟨λi m H=>m=ds.length-i/\i<=ds.length/\P i H,⟨ds.length,by simp,aV _,Hf1,[],[],[],avs,R0,t0,og,n1,.nil,Bv.one R1 hacc,aV _,e,rfl⟩,?_⟩
 rintro i m H ⟨rfl,hi,Hf,as,vs,Gs,rest,R,t,ha,hfa,ra,ow,la,er,ea⟩;have hs:oX Hf1 H:=t.sf.trans R.sub
 by_cases hlt:i<ds.length
 .refine .inr ⟨hgo i H hs hlt,P (i+1),λH' p=>⟨ds.length-(i+1),by lia,rfl,hlt,p⟩,λx H' y=>?_⟩
  obtain⟨rfl,d,hd,rx⟩:=hy i H x H' hs hlt y;rw[aL hlt,(gSq.mp hd).2]at er;obtain⟨b,e1,e2⟩:=oBq.mp er;have fl:=rm (cap.length+1);refine hf (O3 R ec (rx.mono t.sf)) (b:=b.1) (S':=b.2) e1 _ λHf2 H2 Fs2 t2 R2=>?_
  obtain⟨t2',R2'⟩:=R.outer R2 t2 fl;have ha2:H2 acc=some (.lst vs):=t2.sh _ _ ha;have hfa2:Hf2 acc=none:=by
   by_cases z:Hf2 acc=none
   .exact z
   .rcases t2.gr acc hfa z with z|z
    .rw [ha]at z;cases z
    .rw [fl]at z;cases z
  have ra2:=ra.stp (λq hq=>ow.out q (mCo _ hq)) t2'
  split at e2
  .rename_i hb;rw[hb];refine Gw ?_;obtain⟨a,e3,e4⟩:=oBq.mp e2;obtain⟨rest',e5,e6⟩:=oMq.mp e4;subst e6;refine he R2 (a:=a.1) (S':=a.2) e3 _ λHf3 H3 Fs3 v F t3 R3 r3 o3=>?_
   have fl2:Fs2.flatten=[]:=by
    cases hz:Fs2.flatten with
    |nil=>rfl
    |cons z zs =>
     have:=t2.own z (by rw[hz];simp)
     rw[fl]at this;cases this
   obtain⟨t3',R3'⟩:=R2'.outer R3 t3 fl2;have ha3:H3 acc=some (.lst vs):=t3.sh _ _ ha2;have hfa3:Hf3 acc=none:=by
    by_cases z:Hf3 acc=none
    .exact z
    .rcases t3.gr acc hfa2 z with z|z
     .rw [ha2]at z;cases z
     .rw [fl2]at z;cases z
   have ra3:=ra2.stp (λq hq=>ow.out q (mCo _ hq)) t3'
   have newF:∀q∈F,H2 q=none:=λq hq=>(o3.new q hq).elim id λz=>by rw[fl2]at z;cases z
   have accF:acc∉F:=λm=>by rw[newF acc m]at ha2;cases ha2
   have accG:acc∉Gs.flatten:=(aK.mp ow.nd).1;have tt:=(t.trans t2').trans t3';refine⟨vs,ha3,?_,?_⟩
   .rw [uY,←ra.1];lia
   .refine ⟨Hf3,as++[a.1],vs++[v],Gs++[F],rest',R3'.updOut n3 hfa3 n2,⟨tt.sf,λb o eb=>?_,λ_ h=>h,tt.gr⟩,og,hfa3,(ra3.keepUpd accG).snoc (r3.keepUpd accF),?_,by rw[lAq,lSq];lia,e5,by rw[ea];simp⟩
    .rw [nT λz=>by rw[z,hacc]at eb;cases eb]
     exact tt.sh b o eb
    .rw [fAq,aO];have oF:Bv H₀ H1 Fs1 Fs1 F:=⟨o3.nd,o3.fr,λq hq m=>(R2'.mem m).1 (newF q hq),λq hq=>.inl ((t.trans t2').sh.free (newF q hq))⟩
     refine(show Bv H₀ H1 Fs1 Fs1 ((acc::Gs.flatten)++F) from ow.app oF λq hq m=>?_)
     rcases ak.mp hq with z|z
     .rw [z]at m;exact accF m
     .exact (ra2.owned q z).1 (newF q m)
  .rename_i hb;rw[bN]at hb;rw[hb];exact GA ⟨Hf2,as,vs,Gs,rest,R2',t.trans t2',ha2,hfa2,ra2,ow,by lia,e2,ea⟩
 .have e0:i=ds.length:=by lia
  subst e0;rw[cF]at er;cases er;rw[aNq]at ea;subst ea;exact .inl ⟨hst H hs,q Hf H (.ref acc) _ t R (pE.news ha hfa ra) ow⟩
def tU{tl:TE}{k:MK}(hk:SK K tl k) (hf:Gk K tf mf) (he:SK K te me):SK K (N0 (M6 K tl) fr tf te) (rQ (xJ k) fr mf me):=by
 intro H₀ Hf₀ Hf S σ H Fs av S' R e Q q;obtain⟨y,e1,e⟩:=oBq.mp e;obtain⟨z,e0,e1⟩:=oBq.mp e1;obtain⟨ds,e2,e1⟩:=oMq.mp e1;subst e1;obtain⟨S2,e3,e⟩:=oBq.mp e;obtain⟨cap,e4,e⟩:=oBq.mp e;rcases oZ e with ⟨hl,e⟩|e
 .obtain ⟨avs,e5,e⟩:=oMq.mp e;cases e;have hk':SK K tl (vx k):=SK.frz hk;refine hk' R (a:=z.1) (S':=z.2) e0 _ λHf1 H1 Fs1 v F t1 R1 r1 o1=>?_
  obtain⟨d,hd⟩:=Ar (te:=tl) e0;rw[hd]at r1;rw[hd,uc]at e2;obtain⟨Hf2,Fs2,t2,R2⟩:=R1.fzAll e3;obtain⟨a,vs,rfl,g1,g2⟩:=yV e2 (r1.sh_inv.2.mono t2.sf);refine⟨a,rfl,⟨vs,R2.sub.seq g1⟩,Hi (K:=K) hf he R2 e4 hl e5 (λi H s hi=>⟨vs,vs[i]'(g2.1 ▸ hi),s.seq g1,gEg (g2.1 ▸ hi)⟩) (λH s=>⟨vs,s.seq g1,ef g2.1.symm⟩) (λi H x H' s hi y=>?_) λHf' H' v F t R' r o=>q _ _ _ v F ((t1.trans t2).trans t) R' r (o.back (t1.trans t2))⟩
  obtain⟨y1,y2⟩:=y;obtain⟨di,h1,h2⟩:=g2.get' (y2 vs (s.seq g1));exact⟨y1,di,h1,h2⟩
 .cases e
def Ck{lo:Int}{n i:Nat}(h:i<n):(pZ lo n)[i]?=some (.int (lo+i)):=by
 unfold pZ;rw[gMq,dO h];rfl
def rN(lo:Int) (n:Nat):(pZ lo n).length=n:=by unfold pZ;rw[lMq,ba]
def Bl{ta:TA}{a:ML}(ha:UQ K ta a) (hf:Gk K tf mf) (he:SK K te me):SK K (N0 (Ts ta) fr tf te) (rQ (Yp a) fr mf me):=by
 intro H₀ Hf₀ Hf S σ H Fs av S' R e Q q;obtain⟨y,e1,e⟩:=oBq.mp e;obtain⟨z,e0,e1⟩:=oBq.mp e1;obtain⟨ds,e2,e1⟩:=oMq.mp e1;subst e1;obtain⟨S2,e3,e⟩:=oBq.mp e;obtain⟨cap,e4,e⟩:=oBq.mp e;rcases oZ e with ⟨hl,e⟩|e
 .obtain ⟨avs,e5,e⟩:=oMq.mp e;cases e;refine ha R (ds:=z.1) (S':=z.2) e0 _ λHf1 H1 Fs1 vs t1 R1 r1=>?_
  unfold GK at e2;split at e2
  .rename_i j hz;rcases oZ e2 with ⟨hj,e2⟩|e2
   .skip
    cases e2;rw[hz]at r1;obtain⟨v,ws,rfl,h1,h2⟩:=r1.cons_inv;rw[h2.nil_inv];cases h1;obtain⟨Hf2,Fs2,t2,R2⟩:=R1.fzAll e3;refine⟨j,rfl,hj.1,hj.2,Hi (K:=K) hf he R2 e4 hl e5 (λi H s hi=>(by rw[rN]at hi;exact hi)) (λH s=>(by rw[rN];exact af _)) (λi H x H' s hi y=>?_) λHf' H' v F t R' r o=>q _ _ _ v F ((t1.trans t2).trans t) R' r (o.back (t1.trans t2))⟩
    obtain⟨y1,y2⟩:=y;rw[rN]at hi;exact⟨y1,_,Ck hi,by rw[y2];exact .int⟩
   .cases e2
  .cases e2
 .cases e
def zk:Gk K abA rY:=by
 intro H₀ Hf₀ Hf S σ H Fs b S' R e Q q;cases e;exact q _ _ _ .refl R
end
mutual
def py:D->Option PyData
 | .non=>some .none
 | .bl b=>some (.bool b)
 | .int i=>some (.int i)
 | .str x=>some (.str x)
 | .list ds=>(UN ds).map .list
 | .tup ds=>(UN ds).map .tuple
 |_=>none
def UN:List D->Option (List PyData)
 | []=>some []
 |d::ds=>(py d).bind λx=>(UN ds).map (x :: ·)
end
noncomputable def Us(d e:D):Option D:=(py d).bind λa=>(py e).bind λb=>if SeqAt.shaped a=true/\SeqAt.shaped b=true/\SeqAt.noMix a b=true then some (.bl (PySem.Spec.same a b)) else none
def afq(d e:D):Option D:=(Us d e).bind Pa
noncomputable abbrev dI(ns:List Int):D:=.list (ns.map .int)
abbrev dM(rs:List (List Int)):D:=.list (rs.map dI)
def UF(ns:List Int):UN (ns.map .int)=some (ns.map PyData.int):=by
 induction ns with
 |nil=>simp[UN]
 |cons n ns ih=>simp[UN,py,ih]
def aaF(ns:List Int):py (dI ns)=some (xG ns):=by
 show py (.list _)=_;simp only[py,UF];rfl
def QL(rs:List (List Int)):UN (rs.map dI)=some (rs.map xG):=by
 induction rs with
 |nil=>simp[UN]
 |cons r rs ih =>
  show UN (dI r::rs.map dI)=_;simp only[UN,aaF,ih];rfl
def aa0(rs:List (List Int)):py (dM rs)=some (CA rs):=by
 show py (.list _)=_;simp only[py,QL];rfl
def EU(r:List Int):SeqAt.shaped (xG r)=true:=by
 have h2:=W.depthAll_ints r;have h3:PyData.depth (xG r)<=64:=by simp only[xG,PyData.depth];lia
 show (PyData.canLay0 (xG r) && decide (PyData.depth (xG r)<=64))=true;rw[cE];exact⟨by simp only[xG,PyData.canLay0];exact W.canLayAll0_ints r,decide_eq_true h3⟩
@[simp] theorem ac1 (ns ms:List Int):Us (dI ns) (dI ms)=some (.bl (decide (ns=ms))):=by
 unfold Us;rw[aaF,aaF];show (if _ then _ else _)=_
 rw[oJ ⟨EU ns,EU ms,by simp only[xG,SeqAt.noMix];exact W.noMix_ints ns ms⟩]
 simp only[xG,PySem.Spec.same,W.same_ints]
@[simp] theorem ade (rs ts:List (List Int)):Us (dM rs) (dM ts)=some (.bl (decide (rs=ts))):=by
 unfold Us;rw[aa0,aa0];show (if _ then _ else _)=_
 rw[oJ ⟨D2 rs,D2 ts,by simp only[CA,SeqAt.noMix];exact Fq rs ts⟩]
 simp only[CA,PySem.Spec.same,Hm]
def De(l:ML):MK:=λS=>(l S).map λx=>(.ow (x.1.map .sh),x.2)
def LO(l:ML):MK:=λS=>(l S).bind λx=>(sV x.1).map λns=>(.ow ((By ns).map λn=>.sh (.int n)),x.2)
def wy:List D->Option (List (List Int))
 | []=>some []
 | .list ds::es=>(sV ds).bind λr=>(wy es).map (r :: ·)
 |_=>none
theorem Bi:∀{ds:List D}{rs:List (List Int)},wy ds=some rs->ds=rs.map dI
 | [],rs,h=>by cases h;rfl
 |d::ds,rs,h=>by
  cases d with
  |list es =>
   obtain⟨r,h1,h⟩:=oBq.mp (show (sV es).bind (λr=>(wy ds).map (r :: ·))=some rs from h)
   obtain⟨ts,h2,h3⟩:=oMq.mp h;subst h3;rw[Bi h2,yC h1];rfl
  |_=>cases h
@[simp] theorem LK (rs:List (List Int)):wy (rs.map dI)=some rs:=by
 induction rs with
 |nil=>rfl
 |cons r rs ih =>
  show (sV (r.map .int)).bind (λr=>(wy (rs.map dI)).map (r :: ·))=_
  rw[tW,ih];rfl
def adf(l:ML):MK:=λS=>(l S).bind λx=>(wy x.1).map λrs=>(.ow ((yl rs).map λr=>.sh (dI r)),x.2)
section
variable {K:W.Frag}{te:TE}{l:ML}
def IS(hl:SQ K te l):SK K (tCB (λxs H Q=>∃p ys,xs=[.ref p]/\(rR K H p ys∨Gm K H p ys)/\∀l,H l=none->Q (.ref l) (pY H l (.lst ys))) (tM te vL)) (De l):=by
 intro H₀ Hf₀ Hf S σ H Fs av S' R e Q q;obtain⟨x,e1,e⟩:=oMq.mp e;cases e;refine hl R (ds:=x.1) (S':=x.2) e1 _ λHf1 H1 Fs1 p1 vs1 t1 R1 h1 r1=>⟨p1,vs1,rfl,.inl h1,λp hp=>?_⟩
 obtain⟨t4,R4,n1,n2,n3⟩:=R1.new (o:=.lst vs1) hp;exact q _ _ _ (.ref p) [p] (t1.trans t4) R4 (pE.new og n1 r1) ((Bv.one R1 hp).back t1)
def Ea(ns:List Int):(ns.map λn=>AV.sh (.int n))=(ns.map D.int).map .sh:=by rw[mPq];rfl
def QF(hl:SQ K te l):SK K (tCB (λxs H Q=>∃(a:Addr) (ns:List Int),xs=[.ref a]/\rR K H a (ns.map V.int)/\∀p,H p=none->Q (.ref p) (pY H p (.lst ((By ns).map V.int)))) (tM te vL)) (LO l):=by
 intro H₀ Hf₀ Hf S σ H Fs av S' R e Q q;obtain⟨x,e1,e⟩:=oBq.mp e;obtain⟨ns,e2,e⟩:=oMq.mp e;cases e;refine hl R (ds:=x.1) (S':=x.2) e1 _ λHf1 H1 Fs1 p1 vs1 t1 R1 h1 r1=>?_
 rw[yC e2]at r1;rw[uz r1]at h1;refine⟨p1,ns,rfl,h1,λp hp=>?_⟩
 obtain⟨t4,R4,n1,n2,n3⟩:=R1.new (o:=.lst ((By ns).map V.int)) hp;rw[Ea]at q;exact q _ _ _ (.ref p) [p] (t1.trans t4) R4 (pE.new og n1 (wQ _)) ((Bv.one R1 hp).back t1)
theorem vT{H:Hp}:∀{rs:List (List Int)}{vs:List V},qe K H (rs.map dI) vs->∃ps,vs=ps.map V.ref/\qW H ps rs
 | [],vs,h=>⟨[],h.nil_inv,.nil⟩
 |r::rs,vs,h=>by
  obtain⟨v,ws,rfl,h1,h2⟩:=qe.cons_inv (d:=dI r) (ds:=rs.map dI) h;obtain⟨p,us,rfl,h3,h4⟩:=h1.list_inv;rw[uz h4]at h3;obtain⟨ps,rfl,h5⟩:=vT h2;exact⟨p::ps,rfl,qW.cons_iff.mpr ⟨h3,h5⟩⟩
end
noncomputable def tyD:String->D->Bool
 |T,.list _=>T == "list"
 |T,.scr _=>T == "list"
 |T,.str _=>T == "str"
 |_,_=>false
def rBM(T:String) (f:D->List D->Option D) (a:ME) (as:ML):ME:=λS=>(a S).bind λx=>if tyD T x.1=true then (as x.2).bind λy=>(f x.1 y.1).map λd=>(d,y.2) else none
def BmD(K:W.Frag) (r:V->List V->Hp->VK->Prop) (f:D->List D->Option D):Prop:=∀{x:V}{vs:List V}{H:Hp}{Q:VK}{dx:D}{ds:List D}{d:D},qY K H dx x->qe K H ds vs->f dx ds=some d->(∀v,qY K H d v->Q v H)->r x vs H Q
section
variable {K:W.Frag}{te:TE}{ta:TA}{a:ME}{as:ML}{r:V->List V->Hp->VK->Prop}{f:D->List D->Option D}{T:String}
def aaq{H:Hp}{d:D}{v:V}(h:tyD T d=true) (rv:qY K H d v):tyV K T v H:=by
 cases rv <;> simp only[tyD]at h
 all_goals first|(exfalso;simp at h;done)|skip
 .exact eq_of_beq h
 .rename_i p vs ds h1 l e;exact .inl ⟨eq_of_beq h,vs,rR.of h1⟩
 .rename_i p ns h1;exact .inl ⟨eq_of_beq h,_,h1⟩
def NO(hr:BmD K r f) (ha:SR K te a) (hs:UQ K ta as):SR K (Nn K T r te ta) (rBM T f a as):=by
 intro H₀ Hf₀ Hf S σ H Fs d S' R e Q q;obtain⟨x,e1,e⟩:=oBq.mp e;split at e
 .rename_i hT;obtain⟨y,e2,e⟩:=oBq.mp e;obtain⟨z,e3,e⟩:=oMq.mp e;cases e;refine ha R (d:=x.1) (S':=x.2) e1 _ λHf1 H1 Fs1 v t1 R1 r1=>⟨aaq hT r1,hs R1 (ds:=y.1) (S':=y.2) e2 _ λHf2 H2 Fs2 vs t2 R2 r2=>?_⟩
  exact hr (r1.mono t2.sh) r2 e3 λv rv=>q _ _ _ v (t1.trans t2) R2 rv
 .cases e
def zi:D->List D->Option D
 | .list ds,[.int k]=>(sV ds).bind λns=>if k∈ns then some (.int (ns.idxOf k:Nat)) else none
 |_,_=>none
def Cw:BmD K (Uu K) zi:=by
 intro x vs H Q dx ds d rx rs e q;unfold zi at e;split at e
 .rename_i es k;obtain⟨ns,e1,e⟩:=oBq.mp e;split at e
  .rename_i hk;cases e;obtain⟨v,ws,rfl,h1,h2⟩:=rs.cons_inv;rw[h2.nil_inv];cases h1;rw[yC e1]at rx;obtain⟨p,us,rfl,h3,h4⟩:=rx.list_inv;rw[uz h4]at h3;exact⟨p,ns,k,rfl,rfl,rR.of h3,hk,q _ .int⟩
  .cases e
 .cases e
def Q1(a:ME):ME:=λS=>(a S).bind λx=>match x.1 with
 | .list ds=>(wy ds).map λrs=>(.int (rs.countP (·=([]:List Int)):Nat),x.2)
 |_=>none
def WX(ha:SR K te a):SR K (Nn K "list" Sl te (tM (Qz vL) vL)) (Q1 a):=by
 intro H₀ Hf₀ Hf S σ H Fs d S' R e Q q;obtain⟨x,e1,e⟩:=oBq.mp e;refine ha R (d:=x.1) (S':=x.2) e1 _ λHf1 H1 Fs1 v t1 R1 r1=>?_
 split at e
 .rename_i ds hx;obtain⟨rs,e2,e⟩:=oMq.mp e;cases e;rw[hx,Bi e2]at r1;obtain⟨p,us,rfl,h3,h4⟩:=r1.list_inv;obtain⟨ps,rfl,hE⟩:=vT h4;refine⟨.inl ⟨rfl,_,rR.of h3⟩,aV _,λb hb=>?_⟩
  obtain⟨t4,R4,n1,n2,n3⟩:=R1.new (o:=.lst []) hb;refine⟨p,b,ps,rs,[],rfl,rfl,(by rw[nT (qq h3 hb)];exact h3),hE.same t4.sh,og,hE.free (H:=H1) hb,q _ _ _ _ (t1.trans t4) R4 .int⟩
 .cases e
noncomputable def yO:D->Option Bool
 | .non=>some false
 | .bl b=>some b
 | .int i=>some (i != 0)
 | .list ds=>some (!ds.isEmpty)
 | .tup ds=>some (!ds.isEmpty)
 | .dict ds=>some (!ds.isEmpty)
 |_=>none
def Bq(a:ME):MT:=λS=>(a S).bind λx=>(yO x.1).map λb=>(b,x.2)
def A7{α β:Type}{xs:List α}{ys:List β}(h:xs.length=ys.length):(!xs.isEmpty) = !ys.isEmpty:=by
 cases xs <;> cases ys <;> simp at h ⊢
def AB(ha:SR K te a):Gk K (λσ H Q=>te σ H λx H'=>∃k,Y6 K x H' k/\Q k H') (Bq a):=by
 intro H₀ Hf₀ Hf S σ H Fs b S' R e Q q;obtain⟨x,e1,e⟩:=oBq.mp e;obtain⟨c,e2,e⟩:=oMq.mp e;cases e;refine ha R (d:=x.1) (S':=x.2) e1 _ λHf1 H1 Fs1 v t1 R1 r1=>⟨_,?_,q _ _ _ t1 R1⟩
 cases hx:x.1 <;> rw[hx]at e2 r1 <;> simp only[yO]at e2
 all_goals first|(exfalso;simp at e2;done)|skip
 .cases r1;cases e2;rfl
 .cases r1;cases e2;rfl
 .cases r1;cases e2;rfl
 .obtain ⟨p,us,rfl,h3,h4⟩:=r1.list_inv;cases e2;exact .inl ⟨us,rR.of h3,A7 h4.1⟩
 .obtain ⟨p,us,rfl,h3,h4⟩:=r1.tup_inv;cases e2;exact .inr (.inl ⟨us,Gm.of h3,A7 h4.1⟩)
 .obtain ⟨p,us,rfl,h3,h4⟩:=r1.dict_inv;cases e2;exact .inr (.inr ⟨us,h3,A7 h4.len⟩)
end
noncomputable def pe:AV->List Nat->Option (List AV)
 | .ow avs,[]=>some avs
 | .ow avs,j::js=>(avs[j]?).bind λa=>pe a js
 |_,_=>none
noncomputable def putAt:AV->List Nat->List AV->AV
 | .ow _,[],as=>.ow as
 | .ow avs,j::js,as=>match avs[j]? with
  |some a=>.ow (avs.set j (putAt a js as))
  |none=>.ow avs
 |a,_,_=>a
def G9(H:Hp):V->List Nat->V->Prop
 |v,[],w=>v=w
 |v,j::js,w=>∃p vs u,v = .ref p/\H p=some (.lst vs)/\vs[j]?=some u/\G9 H u js w
section
variable {K:W.Frag}{H₀ Hf₀ Hf Hf' H H':Hp}{S S':AS}{σ:St}{Fs Fs':List (List Addr)}
theorem Ac:∀{Fs:List (List Addr)}{F G:List Addr}(i:Nat),Fs.flatten.Nodup->Fs[i]?=some G->F.Nodup->(∀p∈F,p∈G∨p∉Fs.flatten)->(Fs.set i F).flatten.Nodup
 | [],F,G,i,h,e,_,_=>by simp at e
 |E::Gs,F,G,0,h,e,hF,hd=>by
  simp at e;subst e;rw[cJ,fCq,nAq];rw[fCq,nAq]at h;refine⟨hF,h.2.1,λa ha b hb e=>?_⟩
  subst e;rcases hd a ha with z|z
  .exact h.2.2 a z a hb rfl
  .exact z (by rw[fCq];exact aC _ hb)
 |E::Gs,F,G,i+1,h,e,hF,hd=>by
  rw[dY,fCq,nAq];rw[fCq,nAq]at h;have e':Gs[i]?=some G:=by simpa using e
  refine⟨h.1,Ac i h.2.1 e' hF λp hp=>(hd p hp).imp id λz m=>z (by rw[fCq];exact aC _ m),λa ha b hb e=>?_⟩
  subst e;rcases sR hb with q|q
  .rcases hd a q with z|z
   .exact h.2.2 a ha a (mFq.mpr ⟨G,mGq e',z⟩) rfl
   .exact z (by rw[fCq];exact bY _ ha)
  .exact h.2.2 a ha a q rfl
theorem Fx:∀{Fs:List (List Addr)}{F G:List Addr}{i j:Nat}{p:Addr},Fs.flatten.Nodup->Fs[i]?=some F->Fs[j]?=some G->i≠j->p∈F->p∉G
 | [],F,G,i,j,p,_,e,_,_,_,_=>by simp at e
 |E::Es,F,G,0,0,p,h,e,f,n,_,_=>n rfl
 |E::Es,F,G,0,j+1,p,h,e,f,n,hp,m=>by
  simp at e;subst e;rw[fCq,nAq]at h;exact h.2.2 p hp p (mFq.mpr ⟨G,mGq (i:=j) (by simpa using f),m⟩) rfl
 |E::Es,F,G,i+1,0,p,h,e,f,n,hp,m=>by
  simp at f;subst f;rw[fCq,nAq]at h;exact h.2.2 p m p (mFq.mpr ⟨F,mGq (i:=i) (by simpa using e),hp⟩) rfl
 |E::Es,F,G,i+1,j+1,p,h,e,f,n,hp,m=>by
  rw[fCq,nAq]at h;exact Fx h.2.1 (i:=i) (j:=j) (by simpa using e) (by simpa using f) (λz=>n (by rw[z])) hp m
theorem pE.path:∀{path:List Nat}{av:AV}{v:V}{F:List Addr}{as:List AV},pE K Hf H av v F->F.Nodup->pe av path=some as->∃p vs Gs,G9 H v path (.ref p)/\H p=some (.lst vs)/\Hf p=none/\oQ K Hf H as vs Gs/\p∈F/\p∉Gs.flatten/\Gs.flatten.Nodup/\(∀q∈Gs.flatten,q∈F) /\
  ∀as' vs' Gs',oQ K Hf (pY H p (.lst vs')) as' vs' Gs'->(p::Gs'.flatten).Nodup->(∀q∈Gs'.flatten,q∈Gs.flatten∨q∉F)->∃F',pE K Hf (pY H p (.lst vs')) (putAt av path as') v F'/\F'.Nodup/\∀q∈F',q∈F∨q∈Gs'.flatten
 | [],av,v,F,as,r,nd,e=>by
  cases av with
  |ow avs =>
   cases e;obtain⟨p,vs,Gs,rfl,rfl,h1,h2,h3⟩:=r.ow_inv;have n:=aK.mp nd;refine⟨p,vs,Gs,rfl,h1,h2,h3,by simp,n.1,n.2,λq hq=>mCo _ hq,λas' vs' Gs' r' nd' _=>⟨p::Gs'.flatten,pE.news og h2 r',nd',λq hq=>?_⟩⟩
   rcases ak.mp hq with z|z
   .exact .inl (by rw[z];simp)
   .exact .inr z
  |_=>cases e
 |j::js,av,v,F,as,r,nd,e=>by
  cases av with
  |ow avs =>
   obtain⟨a,e1,e2⟩:=oBq.mp (show (avs[j]?).bind (λa=>pe a js)=some as from e)
   obtain⟨p0,vs0,Gs0,rfl,rfl,h1,h2,h3⟩:=r.ow_inv;have n:=aK.mp nd;have hj:j<avs.length:=(gSq.mp e1).1;have hv:vs0[j]?=some (vs0[j]'(h3.1 ▸ hj)):=gEg _;have hg:Gs0[j]?=some (Gs0[j]'(h3.2.1 ▸ hj)):=gEg _;generalize vs0[j]'(h3.1 ▸ hj)=vj at hv;generalize Gs0[j]'(h3.2.1 ▸ hj)=Fj at hg;have rj:=h3.2.2 j a vj Fj e1 hv hg;have ndj:Fj.Nodup:=bf.sublist (bj (mGq hg)) n.2;have sub:∀q∈Fj,q∈Gs0.flatten:=λq hq=>ql hg hq
   obtain⟨p,vs,Gs,g1,g2,g3,g4,g5,g6,g6',g7,g8⟩:=pE.path rj ndj e2;have pne:p0≠p:=λz=>n.1 (z ▸ sub p g5)
   refine⟨p,vs,Gs,⟨p0,vs0,vj,rfl,h1,hv,g1⟩,g2,g3,g4,mCo _ (sub p g5),g6,g6',λq hq=>mCo _ (sub q (g7 q hq)),λas' vs' Gs' r' nd' hd=>?_⟩
   obtain⟨F',k1,k2,k3⟩:=g8 as' vs' Gs' r' nd' λq hq=>(hd q hq).imp id λz m=>z (mCo _ (sub q m))
   have hF':∀q∈F',q∈Fj∨q∉Gs0.flatten:=λq hq=>by
    rcases k3 q hq with z|z
    .exact .inl z
    .rcases hd q z with y|y
     .exact .inl (g7 q y)
     .exact .inr λm=>y (mCo _ m)
   refine⟨p0::(Gs0.set j F').flatten,?_,aK.mpr ⟨λm=>?_,Ac j n.2 hg k2 hF'⟩,λq hq=>?_⟩
   .show pE K Hf (pY H p (.lst vs')) (match avs[j]? with|some a=>.ow (avs.set j (putAt a js as'))|none=>.ow avs) (.ref p0) _
    rw[e1];refine .ow (vs:=vs0) (by rw[nT pne];exact h1) h2 (by rw[lZq];exact h3.1) (by rw[lZq,lZq];exact h3.2.1) λi b w G q1 q2 q3=>?_
    rw[aZ]at q1 q3
    by_cases hij:j=i
    .subst hij;rw[oJ rfl,oJ hj]at q1;rw[oJ rfl,oJ (h3.2.1 ▸ hj)]at q3;rw[hv]at q2;cases q1;cases q2;cases q3;exact k1
    .rw [oO hij]at q1 q3;exact(h3.2.2 i b w G q1 q2 q3).keepUpd λm=>Fx n.2 hg q3 hij g5 m
   .rcases sR m with z|z
    .rcases k3 p0 z with y|y
     .exact n.1 (sub p0 y)
     .rcases hd p0 y with x|x
      .exact n.1 (sub p0 (g7 p0 x))
      .exact x (by simp)
    .exact n.1 z
   .rcases ak.mp hq with z|z
    .exact .inl (by rw[z];simp)
    .rcases sR z with z|z
     .exact (k3 q z).imp (λy=>mCo _ (sub q y)) id
     .exact .inl (mCo _ z)
  |_=>cases e
def pH.turnAny(R:pH K H₀ Hf₀ Hf S σ H Fs) {i:Nat}{av:AV}{p:Addr}{o:HO}{v:V}{F F':List Addr}(s1:σ[i]?=some (some v)) (s2:Fs[i]?=some F) (hp:p∈F) (r:pE K Hf (pY H p o) av v F') (nd:F'.Nodup)
  (hf:∀q∈F',H₀ q=none/\q∉(Fs.set i []).flatten):pH K H₀ Hf₀ Hf (S.set i (some av)) σ (pY H p o) (Fs.set i F'):=by
 have hin:p∈Fs.flatten:=mFq.mpr ⟨F,mGq s2,hp⟩;have pn:Hf p=none:=(R.mem hin).2;have p0:H₀ p=none:=R.fresh p hin;have out:=uV R.nd s2 hp;have R1:pH K H₀ Hf₀ Hf (S.set i none) σ (pY H p o) (Fs.set i []):=by
  refine⟨by simp[R.len],by simp[R.lenF],λj a ej=>?_,λj ej=>?_,ri i R.nd aT (λp hp=>by cases hp),λp hp=>R.fresh p (qu hp),λb u e=>?_,λb u e=>?_,R.lim,R.sf⟩
  .rw [aZ]at ej
   by_cases hij:i=j
   .subst hij;rw[oJ rfl]at ej;split at ej <;> cases ej
   .rw [oO hij]at ej;obtain⟨w,G,f1,f2,q⟩:=R.rep j a ej;refine⟨w,G,f1,by rw[ao hij];exact f2,q.keep (.refl _) (λc hc=>nT λe=>out ?_) λc hc=>(q.owned c hc).2⟩
    subst e;exact mFq.mpr ⟨G,mGq (i:=j) (by rw[ao hij];exact f2),hc⟩
  .rw [aZ]at ej
   by_cases hij:i=j
   .subst hij;rw[oJ rfl]at ej;split at ej
    .rename_i hi;rw[aN (R.lenF.symm ▸ hi)]
    .cases ej
   .rw [oO hij]at ej;rw[ao hij];exact R.emp j ej
  .rw [nT λz=>by rw[z,pn]at e;cases e]
   exact R.sub b u e
  .rw [nT λz=>by rw[z,p0]at e;cases e]
   exact R.fr b u e
 exact R1.again (F:=F) s1 r nd hf
def pH.kill(R:pH K H₀ Hf₀ Hf S σ H Fs) (x:Nat):pH K H₀ Hf₀ Hf (S.set x none) σ H (Fs.set x []):=by
 refine⟨by simp[R.len],by simp[R.lenF],λj a ej=>?_,λj ej=>?_,ri x R.nd aT (λp hp=>by cases hp),λp hp=>R.fresh p (qu hp),R.sub,R.fr,R.lim,R.sf⟩
 .rw [aZ]at ej
  by_cases hij:x=j
  .subst hij;rw[oJ rfl]at ej;split at ej <;> cases ej
  .rw [oO hij]at ej;obtain⟨w,G,f1,f2,q⟩:=R.rep j a ej;exact⟨w,G,f1,by rw[ao hij];exact f2,q⟩
 .rw [aZ]at ej
  by_cases hij:x=j
  .subst hij;rw[oJ rfl]at ej;split at ej
   .rename_i hi;rw[aN (R.lenF.symm ▸ hi)]
   .cases ej
  .rw [oO hij]at ej;rw[ao hij];exact R.emp j ej
def pH.any(R:pH K H₀ Hf₀ Hf (S.set x none) σ H Fs) (v:V):pH K H₀ Hf₀ Hf (S.set x none) (σ.set x (some v)) H Fs where
 len:=by rw[R.len,lZq]
 lenF:=R.lenF
 rep:=λi av e=>by
  by_cases hij:x=i
  .subst hij;rw[aZ]at e;rw[oJ rfl]at e;split at e <;> cases e
  .obtain ⟨w,G,f1,f2,q⟩:=R.rep i av e;exact⟨w,G,by rw[ao hij];exact f1,f2,q⟩
 emp:=R.emp
 nd:=R.nd
 fresh:=R.fresh
 sub:=R.sub
 fr:=R.fr
 lim:=R.lim
 sf:=R.sf
end
def QY(d:D):List AV->Option (List AV)
 | []=>some []
 | .ow as::r=>we (as.length<qP) ((QY d r).map (.ow (as++[.sh d]) :: ·))
 |_=>none
def YJ(i x:Nat) (d:D):MS:=λS=>if i=x∨S.length<=x then none else if d.scal=true then (qB S i).bind λavs=>(QY d avs).map λbs=>.nx ((S.set i (some (.ow bs))).set x none) else none
noncomputable abbrev aI(ns:List Int):AV:=.ow (ns.map λn=>.sh (.int n))
noncomputable def Ed:List AV->Option (List Int)
 | []=>some []
 | .sh (.int i)::r=>(Ed r).map (i :: ·)
 |_=>none
def FW:List AV->Option (List (List Int))
 | []=>some []
 | .ow as::r=>(Ed as).bind λns=>(FW r).map (ns :: ·)
 |_=>none
theorem JT:∀{as:List AV}{ns:List Int},Ed as=some ns->as=ns.map λn=>.sh (.int n)
 | [],ns,h=>by cases h;rfl
 |a::as,ns,h=>by
  cases a with
  |sh d =>
   cases d with
   |int i =>
    obtain⟨ms,h1,h2⟩:=oMq.mp (show (Ed as).map (i :: ·)=some ns from h)
    subst h2;rw[JT h1];rfl
   |_=>cases h
  |_=>cases h
theorem JH:∀{as:List AV}{rs:List (List Int)},FW as=some rs->as=rs.map aI
 | [],rs,h=>by cases h;rfl
 |a::as,rs,h=>by
  cases a with
  |ow es =>
   obtain⟨r,h1,h⟩:=oBq.mp (show (Ed es).bind (λns=>(FW as).map (ns :: ·))=some rs from h)
   obtain⟨ts,h2,h3⟩:=oMq.mp h;subst h3;rw[JH h2,JT h1];rfl
  |_=>cases h
@[simp] theorem OE (ns:List Int):Ed (ns.map λn=>.sh (.int n))=some ns:=by
 induction ns with
 |nil=>rfl
 |cons n ns ih=>show (Ed (ns.map λn=>.sh (.int n))).map (n :: ·)=_;rw[ih];rfl
@[simp] theorem Qp (rs:List (List Int)):FW (rs.map aI)=some rs:=by
 induction rs with
 |nil=>rfl
 |cons r rs ih=>show (Ed (r.map λn=>.sh (.int n))).bind (λns=>(FW (rs.map aI)).map (ns :: ·))=_;rw[OE,ih];rfl
def Ey(k:MK):MK:=λS=>(k S).bind λx=>match x.1 with
 | .ow avs=>(FW avs).map λrs=>(.ow ((yl rs).map aI),x.2)
 |_=>none
section
variable {K:W.Frag}{Hf H:Hp}
def L1{ns:List Int}{v:V}{F:List Addr}(h:pE K Hf H (aI ns) v F):∃p,v = .ref p/\F=[p]/\H p=some (.lst (ns.map V.int))/\Hf p=none:=by
 obtain⟨p,vs,Gs,rfl,rfl,h1,h2,h3⟩:=h.ow_inv;have e:∀{ns:List Int}{vs:List V}{Gs:List (List Addr)},oQ K Hf H (ns.map λn=>AV.sh (.int n)) vs Gs->vs=ns.map V.int/\Gs.flatten=[]:=by
  intro ns
  induction ns with
  |nil =>
   intro vs Gs h;obtain⟨a,b⟩:=h.nil_inv;exact⟨a,by rw[b];rfl⟩
  |cons n ns ih =>
   intro vs Gs h;obtain⟨v,ws,F,Gs',rfl,rfl,r1,r2⟩:=oQ.cons_inv (a:=.sh (.int n)) h;obtain⟨f1,f2⟩:=r1.sh_inv;subst f1;cases f2;obtain⟨g1,g2⟩:=ih r2;rw[g1];exact⟨rfl,by rw[fCq,g2];rfl⟩
 obtain⟨e1,e2⟩:=e h3;rw[e2];subst e1;exact⟨p,rfl,rfl,h1,h2⟩
def aai{ns:List Int}{p:Addr}(h1:H p=some (.lst (ns.map V.int))) (h2:Hf p=none):pE K Hf H (aI ns) (.ref p) [p]:=by
 have:=pE.new (K:=K) (Hf:=Hf) (H:=H) (ds:=ns.map D.int) h1 h2 (wQ ns);rw[←Ea]at this;exact this
theorem AJ:∀{rs:List (List Int)}{vs:List V}{Gs:List (List Addr)},oQ K Hf H (rs.map aI) vs Gs->∃ps,vs=ps.map V.ref/\Gs=ps.map (λp=>[p])/\qW H ps rs/\∀p∈ps,Hf p=none
 | [],vs,Gs,h=>by
  obtain⟨a,b⟩:=h.nil_inv;exact⟨[],a,b,.nil,λp hp=>by cases hp⟩
 |r::rs,vs,Gs,h=>by
  obtain⟨v,ws,F,Gs',rfl,rfl,r1,r2⟩:=oQ.cons_inv (a:=aI r) (as:=rs.map aI) h;obtain⟨p,rfl,rfl,h1,h2⟩:=L1 r1;obtain⟨ps,rfl,rfl,h3,h4⟩:=AJ r2;exact⟨p::ps,rfl,rfl,qW.cons_iff.mpr ⟨h1,h3⟩,λq hq=>(ak.mp hq).elim (λe=>e ▸ h2) (h4 q)⟩
theorem FX:∀{rs:List (List Int)}{ps:List Addr},qW H ps rs->(∀p∈ps,Hf p=none)->oQ K Hf H (rs.map aI) (ps.map V.ref) (ps.map λp=>[p])
 | [],[],_,_=>.nil
 | [],_::_,h,_=>by have:=h.length;simp at this
 |_::_,[],h,_=>by have:=h.length;simp at this
 |r::rs,p::ps,h,n=>by
  obtain⟨h1,h2⟩:=qW.cons_iff.mp h;exact .cons (aai h1 (n p (by simp))) (FX h2 λq hq=>n q (mCo _ hq))
def Ju(ps:List Addr):(ps.map λp=>[p]).flatten=ps:=by
 induction ps with
 |nil=>rfl
 |cons p ps ih=>rw[aw,fCq,ih];rfl
def GP{te:TE}{k:MK}(hk:SK K te k):SK K (tCB (λxs H Q=>∃(a:Addr) (ps:List Addr) (rs:List (List Int)),xs=[.ref a]/\rR K H a (ps.map V.ref)/\qW H ps rs /\
  ∀p qs,H p=none->qs.Perm ps->qW (pY H p (.lst (qs.map V.ref))) qs (yl rs)->Q (.ref p) (pY H p (.lst (qs.map V.ref)))) (tM te vL)) (Ey k):=by
 intro H₀ Hf₀ Hf S σ H Fs av S' R e Q q;obtain⟨x,e1,e⟩:=oBq.mp e;refine hk R (a:=x.1) (S':=x.2) e1 _ λHf1 H1 Fs1 v F t1 R1 r1 o1=>?_
 split at e
 .rename_i avs hx;obtain⟨rs,e2,e⟩:=oMq.mp e;cases e;rw[hx,JH e2]at r1;obtain⟨p0,vs,Gs,rfl,rfl,h1,h2,h3⟩:=r1.ow_inv;obtain⟨ps,rfl,rfl,hE,hn⟩:=AJ h3;rw[Ju]at o1;refine⟨p0,ps,rs,rfl,rR.of h1,hE,λp qs hp hq hE2=>?_⟩
  obtain⟨t4,R4,n1,n2,n3⟩:=R1.new (o:=.lst (qs.map V.ref)) hp;have pq:p∉qs:=λm=>hE.free (H:=H1) hp (hq.mem_iff.mp m)
  have hm:∀z∈qs,z∈p0::ps:=λz hz=>mCo _ (hq.mem_iff.mp hz)
  refine q _ _ _ (.ref p) (p::(qs.map λp=>[p]).flatten) (t1.trans t4) R4 (pE.news og n1 (FX hE2 λz hz=>hn z (hq.mem_iff.mp hz))) ?_
  rw[Ju];refine⟨aK.mpr ⟨pq,hq.nodup_iff.mpr (aK.mp o1.nd).2⟩,λz hz=>?_,λz hz=>?_,λz hz=>?_⟩
  .rcases ak.mp hz with y|y
   .rw [y];exact n2
   .exact o1.fr z (hm z y)
  .rcases ak.mp hz with y|y
   .rw [y];exact n3
   .exact o1.out z (hm z y)
  .rcases ak.mp hz with y|y
   .rw [y];exact .inl (t1.sh.free hp)
   .exact o1.new z (hm z y)
 .cases e
def Sq:AV->Option D
 | .sh d=>if d.scal=true then some d else none
 |_=>none
def pK(f:MF) (a:ML):ME:=λS=>(a S).bind λx=>(f x.1).bind λr=>(Sq r).map λd=>(d,x.2)
def qo{f:MF}{ta:TA}{a:ML}(ha:UQ K ta a):SR K (wk (oY K f) [] E0 ta) (pK f a):=by
 intro H₀ Hf₀ Hf S σ H Fs d S' R e Q q;obtain⟨x,e1,e⟩:=oBq.mp e;obtain⟨r,e2,e⟩:=oBq.mp e;obtain⟨z,e3,e⟩:=oMq.mp e;cases e;refine ha R (ds:=x.1) (S':=x.2) e1 _ λHf1 H1 Fs1 vs t1 R1 r1=>?_
 rw[aNq];refine⟨H1,x.1,r,.refl _,r1,e2,λHf' H' v F s1 s2 s3 l rv nd fr=>?_⟩
 have t2:Bs Hf1 H1 Fs1 Hf1 H' Fs1:=⟨.refl _,s2,λ_ h=>h,λb h g=>absurd h g⟩
 cases r with
 |sh d' =>
  simp only[Sq]at e3;split at e3
  .rename_i hs;cases e3;exact q _ _ _ v (t1.trans t2) (R1.laid s2) (rv.sh_inv.2.scal hs)
  .cases e3
 |_=>cases e3
end
section
variable (S:AS)
@[simp] theorem acs (i:Nat):nA i S=(S[i]?.join).map λa=>(nR a,S):=rfl
@[simp] theorem ab6 (i:Nat):nI i S=(S[i]?.join).map λa=>(.sh (nR a),S.set i (some (.sh (nR a)))):=rfl
@[simp] theorem abW (i:Nat):yf i S=(S[i]?.join).map λa=>(a,S.set i none):=rfl
@[simp] theorem adg (k:MK):rOf k S=(k S).map λx=>(nR x.1,x.2):=rfl
@[simp] theorem ac5 (m:ME):kSc m S=(m S).bind λx=>if x.1.scal then some (.sh x.1,x.2) else none:=rfl
@[simp] theorem ab3 (k:MK):vx k S=(k S).map λx=>(.sh (nR x.1),x.2):=rfl
@[simp] theorem rC_ (d:D):rC d S=if d.scal then some (d,S) else none:=rfl
@[simp] theorem adu (f:D->D->Option D) (a b:ME):oR f a b S=(a S).bind λx=>(b x.2).bind λy=>(f x.1 y.1).map λd=>(d,y.2):=rfl
@[simp] theorem adq (f:D->Option D) (a:ME):wx f a S=(a S).bind λx=>(f x.1).map λd=>(d,x.2):=rfl
@[simp] theorem acy (a:ME):aav a S=(a S).bind λx=>(Pa x.1).map λd=>(d,x.2):=rfl
@[simp] theorem Zs (a b:MT):Cq a b S=(a S).bind λx=>if x.1=true then b x.2 else some (false,x.2):=rfl
@[simp] theorem abl (a b:MT):Eg a b S=(a S).bind λx=>if x.1=true then some (true,x.2) else b x.2:=rfl
@[simp] theorem YV (a:MT):rE a S=(a S).map λx=>(!x.1,x.2):=rfl
@[simp] theorem adm (c:MT) (a b:ME):rIf c a b S=(c S).bind λx=>if x.1=true then a x.2 else b x.2:=rfl
@[simp] theorem ac9 (c:MT) (a b:MK):kIf c a b S=(c S).bind λx=>if x.1=true then a x.2 else b x.2:=rfl
def Zb:D->Option Bool
 | .bl b=>some b
 |_=>none
@[simp] theorem adx (a:ME):qH a S=(a S).bind λx=>(Zb x.1).map λb=>(b,x.2):=by
 show (a S).bind _=_;congr 1;funext x;obtain⟨d,S'⟩:=x;cases d <;> rfl
@[simp] theorem abF (a b:ME):JL a b S=(a S).bind λx=>(Zb x.1).bind λc=>if c=true then b x.2 else some (.bl false,x.2):=by
 show (a S).bind _=_;congr 1;funext x;obtain⟨d,S'⟩:=x;cases d <;> try rfl
 rename_i c;cases c <;> rfl
@[simp] theorem UT (b:Bool):Zb (.bl b)=some b:=rfl
@[simp] theorem abt:nP S=some ([],S):=rfl
@[simp] theorem Yx (k:MK) (r:MA):nv k r S=(k S).bind λx=>(r x.2).map λy=>(x.1::y.1,y.2):=rfl
@[simp] theorem YX:nQ S=some ([],S):=rfl
@[simp] theorem WI (k:ME) (r:ML):nu k r S=(k S).bind λx=>(r x.2).map λy=>(x.1::y.1,y.2):=rfl
@[simp] theorem aaX (a:MA):qc a S=(a S).bind λx=>we (x.1.length<=qP) (some (.ow x.1,x.2)):=rfl
@[simp] theorem abU (a:MA):Bx a S=(a S).bind λx=>we (x.1.length<=qP) (some (.sh (.tup (x.1.map nR)),x.2)):=rfl
@[simp] theorem aaV (a b:ML):CP a b S=(a S).bind λx=>(b x.2).bind λy=>we (x.1.length+y.1.length<=qP) (some (.ow ((x.1++y.1).map .sh),y.2)):=rfl
@[simp] theorem Z1:wF S=some (none,S):=rfl
@[simp] theorem ZW (m:ME):uO m S=(m S).bind λx=>(intOf x.1).map λi=>(some i,x.2):=by
 show (m S).bind _=_;congr 1;funext x;obtain⟨d,S'⟩:=x;cases d <;> rfl
@[simp] theorem Ql (i:Int):intOf (.int i)=some i:=rfl
@[simp] theorem adE (l:ML) (lo hi:MO):Jk l lo hi S=(l S).bind λx=>(lo x.2).bind λy=>(hi y.2).map λz=>(.ow ((wz x.1 y.1 z.1).map .sh),z.2):=rfl
@[simp] theorem adL (l:ML) (b:ME):Y4 l b S=(l S).bind λx=>(b x.2).bind λy=>(intOf y.1).bind λi=>(atI x.1 i).map λd=>(.sh d,y.2):=by
 show (l S).bind _=_;congr 1;funext x;show (b x.2).bind _=_;congr 1;funext y;obtain⟨d,S'⟩:=y;cases d <;> rfl
@[simp] theorem adP (f:List D->Option D) (a:ML):xF f a S=(a S).bind λx=>(f x.1).map λd=>(d,x.2):=rfl
@[simp] theorem ZJ (f:MF) (a:MA):oi f a S=(a S).bind λx=>(f (x.1.map nR)).map λr=>(r,x.2):=rfl
@[simp] theorem YR (f:MF) (a:ML):pK f a S=(a S).bind λx=>(f x.1).bind λr=>(Sq r).map λd=>(d,x.2):=rfl
@[simp] theorem ZT:oH S=some (.nx S):=rfl
def Rl(o:Option Gq) (b:MS):Option Gq:=o.bind λo=>match o with
 | .nx S'=>b S'
 |o=>some o
@[simp] theorem SJ (b:MS):Rl (some (.nx S)) b=b S:=rfl
@[simp] theorem Tz (a:AV) (b:MS):Rl (some (.rt a)) b=some (.rt a):=rfl
@[simp] theorem aa6 (a b:MS):nS a b S=Rl (a S) b:=rfl
@[simp] theorem abG (i:Nat) (k:MK):oj i k S=(k S).map λx=>.nx (x.2.set i (some x.1)):=rfl
@[simp] theorem acj (k:MK):pJ k S=(k S).map λx=>.rt x.1:=rfl
@[simp] theorem ad7 (c:MT) (a b:MS):uT c a b S=(c S).bind λx=>if x.1=true then a x.2 else b x.2:=rfl
@[simp] theorem ace (i:Nat) (k:MK):yP i k S=(qB S i).bind λ_=>(k S).bind λx=>(qB x.2 i).bind λavs=>we (avs.length<qP) (some (.nx (x.2.set i (some (.ow (avs++[x.1])))))):=rfl
@[simp] theorem abH (i:Nat) (l:ML):Qa i l S=(qB S i).bind λ_=>(l S).bind λx=>(qB x.2 i).bind λavs=>we (avs.length+x.1.length<=qP) (some (.nx (x.2.set i (some (.ow (avs++x.1.map .sh)))))):=rfl
@[simp] theorem aas (i:Nat) (b:ME) (k:MK):Ad i b k S=(vx k S).bind λx=>(xY x.2 i).bind λ_=>(b x.2).bind λy=>(xY y.2 i).bind λnV=>(wW y.1).bind λkey =>
 we (nV.length<qP) (some (.nx (y.2.set i (some (.owd (EG nV key (nR x.1))))))):=rfl
noncomputable def dictOf:D->Option (List (pN×D))
 | .dict nV=>some nV
 |_=>none
@[simp] theorem JC (nV:List (pN×D)):dictOf (.dict nV)=some nV:=rfl
@[simp] theorem P8 (i:Int):wW (.int i)=some (.inl i):=rfl
@[simp] theorem QJ (a b:ME):vS a b S=(a S).bind λx=>(b x.2).bind λy=>(dictOf y.1).bind λnV=>(wW x.1).map λkey=>(.bl (!(getD nV key).isSome),y.2):=by
 show (a S).bind _=_;congr 1;funext x;show (b x.2).bind _=_;congr 1;funext y;obtain⟨d,S'⟩:=y;cases d <;> rfl
@[simp] theorem YB (a b:ME):Jx a b S=(a S).bind λx=>(b x.2).bind λy=>(dictOf x.1).bind λnV=>(wW y.1).bind λkey=>(getD nV key).map λd=>(d,y.2):=by
 show (a S).bind _=_;congr 1;funext x;show (b x.2).bind _=_;congr 1;funext y;obtain⟨d,S'⟩:=x;cases d <;> rfl
@[simp] theorem aac:AK S=some (.owd [],S):=rfl
@[simp] theorem acD (x:Nat) (k:MK) (body:MS):C6 x k body S=(vx k S).bind λy=>(rW (nR y.1)).bind λds=>tN x body ds y.2:=rfl
@[simp] theorem WK (x:Nat) (a:ML) (body:MS):Ge x a body S=(a S).bind λy=>(GK y.1).bind λds=>tN x body ds y.2:=rfl
@[simp] theorem YH (x y:Nat) (k l:MK) (body:MS):TC x y k l body S=(vx k S).bind λz=>(vx l z.2).bind λw=>(rW (nR z.1)).bind λds=>(rW (nR w.1)).bind λes =>
 if ds.length=es.length then B3 x y body ds es w.2 else none:=rfl
@[simp] theorem aag (src:MI) (fr:List Nat) (tf:MT) (te:MK):rQ src fr tf te S=(src S).bind λy=>(fzAll fr y.2).bind λS2=>(GI S2 fr).bind λcap=>we (y.1.length<=qP) ((qO tf te cap y.1).map λavs=>(.ow avs,S2)):=rfl
@[simp] theorem aa3 (k:MK):xJ k S=(vx k S).bind λy=>(rW (nR y.1)).map λds=>(ds,y.2):=rfl
@[simp] theorem adC (a:ML):Yp a S=(a S).bind λy=>(GK y.1).map λds=>(ds,y.2):=rfl
@[simp] theorem O5:fzAll [] S=some S:=rfl
@[simp] theorem Mj (j:Nat) (js:List Nat):fzAll (j::js) S=(S[j]?.join).bind λa=>fzAll js (S.set j (some (.sh (nR a)))):=rfl
@[simp] theorem RH:GI S []=some []:=rfl
@[simp] theorem OB (j:Nat) (js:List Nat):GI S (j::js)=(Z6 S[j]?.join).bind λa=>(GI S js).map (some a :: ·):=rfl
@[simp] theorem XU (l:ML):De l S=(l S).map λx=>(.ow (x.1.map .sh),x.2):=rfl
@[simp] theorem WU (l:ML):LO l S=(l S).bind λx=>(sV x.1).map λns=>(.ow ((By ns).map λn=>.sh (.int n)),x.2):=rfl
def ZZ:AV->Option (List AV)
 | .ow avs=>some avs
 |_=>none
@[simp] theorem WG (avs:List AV):ZZ (.ow avs)=some avs:=rfl
@[simp] theorem UI (k:MK):Ey k S=(k S).bind λx=>(ZZ x.1).bind λavs=>(FW avs).map λrs=>(.ow ((yl rs).map aI),x.2):=by
 show (k S).bind _=_;congr 1;funext x;obtain⟨d,S'⟩:=x;cases d <;> rfl
@[simp] theorem adn (T:String) (f:D->List D->Option D) (a:ME) (as:ML):rBM T f a as S=(a S).bind λx=>if tyD T x.1=true then (as x.2).bind λy=>(f x.1 y.1).map λd=>(d,y.2) else none:=rfl
def Xm:D->Option (List D)
 | .list ds=>some ds
 |_=>none
@[simp] theorem LJ (ds:List D):Xm (.list ds)=some ds:=rfl
@[simp] theorem Y3 (a:ME):Q1 a S=(a S).bind λx=>(Xm x.1).bind λds=>(wy ds).map λrs=>(.int (rs.countP (·=([]:List Int)):Nat),x.2):=by
 show (a S).bind _=_;congr 1;funext x;obtain⟨d,S'⟩:=x;cases d <;> rfl
@[simp] theorem aa9 (a:ME):Bq a S=(a S).bind λx=>(yO x.1).map λb=>(b,x.2):=rfl
noncomputable def lsA:AV->Option (List D)
 | .sh (.list ds)=>some ds
 | .ow avs=>some (avs.map nR)
 |_=>none
@[simp] theorem Zu (ds:List D):lsA (.sh (.list ds))=some ds:=rfl
@[simp] theorem EZ (avs:List AV):lsA (.ow avs)=some (avs.map nR):=rfl
@[simp] theorem ac3 (k:MK):lOf k S=(k S).bind λx=>(lsA x.1).map λds=>(ds,x.2):=by
 show (k S).bind _=_;congr 1;funext x;obtain⟨a,S'⟩:=x;cases a with
 |sh d=>cases d <;> rfl
 |_=>rfl
end
def hlf:AV->AV
 | .ow avs=>.ow ((avs.map nR).map .sh)
 |a=>a
@[simp] theorem Zc (d:D):hlf (.sh d) = .sh d:=rfl
@[simp] theorem ZM (avs:List AV):hlf (.ow avs) = .ow ((avs.map nR).map .sh):=rfl
def FQ{S:AS}{i:Nat}{a:AV}(h:S[i]?=some (some a)):S.set i (some a)=S:=by
 obtain⟨hk,ev⟩:=gSq.mp h;rw[←ev];exact eN hk
@[simp] theorem ab8 (S:AS) (i:Nat):Cc i S=(S[i]?.join).bind λa=>(lsA a).map λds=>(ds,S.set i (some (hlf a))):=by
 unfold Cc;cases e:S[i]?.join with
 |none=>rfl
 |some a =>
  cases a with
  |sh d =>
   cases d with
   |list ds =>
    show some (ds,S)=some (ds,S.set i (some (.sh (.list ds))));rw[FQ (pW e)]
   |_=>rfl
  |ow avs=>rfl
  |owd nV=>rfl
def lsQ:AV->Option (List D)
 | .sh (.scr ns)=>some (ns.map .int)
 |a=>lsA a
@[simp] theorem W4 (ns:List Int):lsQ (.sh (.scr ns))=some (ns.map .int):=rfl
@[simp] theorem Zt (ds:List D):lsQ (.sh (.list ds))=some ds:=rfl
@[simp] theorem ZF (avs:List AV):lsQ (.ow avs)=some (avs.map nR):=rfl
@[simp] theorem abC (S:AS) (i:Nat):uG i S=(S[i]?.join).bind λa=>(lsQ a).map λds=>(ds,S.set i (some (hlf a))):=by
 unfold uG;cases e:S[i]?.join with
 |none=>rfl
 |some a =>
  cases a with
  |sh d =>
   cases d with
   |list ds =>
    show some (ds,S)=some (ds,S.set i (some (.sh (.list ds))));rw[FQ (pW e)]
   |scr ns =>
    show some (ns.map D.int,S)=some (ns.map D.int,S.set i (some (.sh (.scr ns))));rw[FQ (pW e)]
   |_=>rfl
  |ow avs=>rfl
  |owd nV=>rfl
@[simp] theorem Sx (i:Int):(D.int i).scal=true:=rfl
@[simp] theorem Vf (i:Bool):(D.bl i).scal=true:=rfl
@[simp] theorem QG (i:Str):(D.str i).scal=true:=rfl
@[simp] theorem Uc:D.non.scal=true:=rfl
@[simp] theorem Va (i:String):(D.ty i).scal=true:=rfl
@[simp] theorem T7 (i:Int):Sq (.sh (.int i))=some (.int i):=rfl
@[simp] theorem Wt (i:Bool):Sq (.sh (.bl i))=some (.bl i):=rfl
@[simp] theorem We (i j:Int):Gi (.int i) (.int j)=some (.bl (decide (i=j))):=rfl
@[simp] theorem Wq (i j:Str):Gi (.str i) (.str j)=some (.bl (decide (i=j))):=rfl
@[simp] theorem WE (b:Bool):Pa (.bl b)=some (.bl (!b)):=rfl
@[simp] theorem VJ (i j:Int):G2 (.int i) (.int j)=some (.bl (!decide (i=j))):=rfl
@[simp] theorem VZ (i j:Str):G2 (.str i) (.str j)=some (.bl (!decide (i=j))):=rfl
@[simp] theorem OI (ds:List D):uU [.list ds]=some (.int ds.length):=rfl
@[simp] theorem UG (ns:List Int):uU [.scr ns]=some (.int ns.length):=rfl
@[simp] theorem UC (ds:List D):uU [.tup ds]=some (.int ds.length):=rfl
@[simp] theorem TQ (i:Int):OP [.int i]=some (.int (if i<0 then -i else i)):=rfl
@[simp] theorem Ie (ds:List D):rW (.list ds)=some ds:=rfl
@[simp] theorem QE (ds:List D) (i:Int):Bu (.list ds) (.int i)=atI ds i:=rfl
@[simp] theorem Vo (ns:List Int) (i:Int):Bu (.scr ns) (.int i)=(atI ns i).map .int:=rfl
@[simp] theorem V2 (d:D):Z6 (some (.sh d))=some (.sh d):=rfl
@[simp] theorem Re (ds:List D):tyD "list" (.list ds)=true:=rfl
def Ws(S:AS) (i:Nat):qB S i=(S[i]?.join).bind ZZ:=by
 unfold qB;cases S[i]?.join with
 |none=>rfl
 |some a=>cases a <;> rfl
def Rz:AV->Option (List (pN×D))
 | .owd nV=>some nV
 |_=>none
@[simp] theorem PP (nV:List (pN×D)):Rz (.owd nV)=some nV:=rfl
def QM(S:AS) (i:Nat):xY S i=(S[i]?.join).bind Rz:=by
 unfold xY;cases S[i]?.join with
 |none=>rfl
 |some a=>cases a <;> rfl
theorem Ka{x:Nat}{body:MS}(P:Nat->AS->Prop):∀{ds:List D}{S:AS}{k:Nat},P k S->(∀i d S,ds[i]?=some d->P (k+i) S->∃S',(body (S.set x (some (.sh d)))=some (.nx S')∨body (S.set x (some (.sh d)))=some (.ct S'))/\P (k+i+1) S')->∃S',tN x body ds S=some (.nx S')/\P (k+ds.length) S'
 | [],S,k,h0,_=>⟨S,rfl,h0⟩
 |d::ds,S,k,h0,hs=>by
  obtain⟨S',e,h1⟩:=hs 0 d S rfl h0;have hs':∀i d S,ds[i]?=some d->P (k+1+i) S->∃S',(body (S.set x (some (.sh d)))=some (.nx S')∨body (S.set x (some (.sh d)))=some (.ct S'))/\P (k+1+i+1) S':=λi d S h p=>by
   have:=hs (i+1) d S (by simpa using h) (by rw[show k+(i+1)=k+1+i by lia];exact p)
   rw[show k+(i+1)=k+1+i by lia]at this
   exact this
  obtain⟨S2,e2,h2⟩:=Ka P (k:=k+1) h1 hs';refine⟨S2,?_,by rw[lCq,show k+(ds.length+1)=k+1+ds.length by lia];exact h2⟩
  show (body _).bind _=_;rcases e with e|e <;> (rw[e];exact e2)
def Ae{x:Nat}{body:MS}(P:Nat->AS->Prop) {ds:List D}{S:AS}(h0:P 0 S) (hs:∀i d S,ds[i]?=some d->P i S->∃S',body (S.set x (some (.sh d)))=some (.nx S')/\P (i+1) S'):∃S',tN x body ds S=some (.nx S')/\P ds.length S':=by
 have:=Ka (x:=x) (body:=body) P (ds:=ds) (k:=0) h0 λi d S h p=>by
  rw[cR]at p ⊢;obtain⟨S',e,q⟩:=hs i d S h p;exact⟨S',.inl e,q⟩
 rw[cR]at this;exact this
theorem Xx{x y:Nat}{body:MS}(P:Nat->AS->Prop):∀{ds es:List D}{S:AS}{k:Nat},ds.length=es.length->P k S->(∀i d e S,ds[i]?=some d->es[i]?=some e->P (k+i) S->∃S',body ((S.set x (some (.sh d))).set y (some (.sh e)))=some (.nx S')/\P (k+i+1) S')->∃S',B3 x y body ds es S=some (.nx S')/\P (k+ds.length) S'
 | [],[],S,k,_,h0,_=>⟨S,rfl,h0⟩
 | [],_::_,S,k,hl,_,_=>by simp at hl
 |_::_,[],S,k,hl,_,_=>by simp at hl
 |d::ds,b::es,S,k,hl,h0,hs=>by
  obtain⟨S',e,h1⟩:=hs 0 d b S rfl rfl h0;have hs':∀i d e S,ds[i]?=some d->es[i]?=some e->P (k+1+i) S->∃S',body ((S.set x (some (.sh d))).set y (some (.sh e)))=some (.nx S')/\P (k+1+i+1) S':=λi d e S h h' p=>by
   have:=hs (i+1) d e S (by simpa using h) (by simpa using h') (by rw[show k+(i+1)=k+1+i by lia];exact p)
   rw[show k+(i+1)=k+1+i by lia]at this
   exact this
  obtain⟨S2,e2,h2⟩:=Xx P (k:=k+1) (by simpa using hl) h1 hs'
  refine⟨S2,?_,by rw[lCq,show k+(ds.length+1)=k+1+ds.length by lia];exact h2⟩
  show (body _).bind _=_;rw[e];exact e2
theorem uZ{te:MK}{cap:AS}(g:D->AV):∀{ds:List D},(∀d∈ds,∃S',te (some (.sh d)::cap)=some (g d,S'))->qO rY te cap ds=some (ds.map g)
 | [],_=>rfl
 |d::ds,h=>by
  obtain⟨S',e⟩:=h d (by simp)
  show (te (some (.sh d)::cap)).bind (λa=>(qO rY te cap ds).map (a.1 :: ·))=_
  rw[e,uZ g λx hx=>h x (mCo _ hx)]
  rfl
theorem tY{tf:MT}{te:MK}{cap:AS}(p:D->Bool) (g:D->AV):∀{ds:List D},(∀d∈ds,∃S1,tf (some (.sh d)::cap)=some (p d,S1)/\(p d=true->∃S',te S1=some (g d,S')))->qO tf te cap ds=some ((ds.filter p).map g)
 | [],_=>rfl
 |d::ds,h=>by
  obtain⟨S1,e1,e2⟩:=h d (by simp)
  have ih:=tY (tf:=tf) (te:=te) (cap:=cap) p g λx hx=>h x (mCo _ hx)
  show (tf (some (.sh d)::cap)).bind _=_;rw[e1];show (if p d=true then _ else _)=_
  by_cases c:p d=true
  .obtain ⟨S',e3⟩:=e2 c;rw[oJ c,e3,List.filter_cons_of_pos c];show (qO tf te cap ds).map _=_;rw[ih];rfl
  .rw [oO c,List.filter_cons_of_neg c,ih]
def tq{α β:Type}(f:α->β) (xs:List α) (lo hi:Option Int):wz (xs.map f) lo hi=(wz xs lo hi).map f:=by
 unfold wz;rw[lMq,fu,iw]
def DW{α:Type}(xs:List α) (i:Nat) (h:i<=xs.length):wz xs (some (i:Int)) none=xs.drop i:=by
 unfold wz;rw[HT.Bf,HT.CO,dr h,bg (by rw[au];exact af _)]
def Ez{α:Type}(xs:List α) (i:Nat) (h:i<=xs.length):wz xs none (some (i:Int))=xs.take i:=by
 unfold wz;rw[HT.Bf,HT.CO,dr h,df,gJ]
def QH{α:Type}(xs:List α) (i j:Nat):wz xs (some (i:Int)) (some (j:Int))=(xs.drop i).take (j-i):=by
 unfold wz;rw[HT.Bf,HT.Bf]
 by_cases h:i<=xs.length
 .rw [dr h]
  by_cases h2:j<=xs.length
  .rw [dr h2]
  .rw [eO (by lia),bg (by rw[au];exact af _),bg (by rw[au];lia)]
 .have e:min i xs.length=xs.length:=eO (by lia)
  rw[e,cH (af xs.length),cH (show xs.length<=i by lia)]
  simp
def Ew{α:Type}{xs:List α}{i:Int}(h0:0<=i):atI xs i=xs[i.toNat]?:=by
 unfold atI Hk;rw[oJ h0]
 by_cases h:i<xs.length
 .rw [oJ h];rfl
 .rw [oO h,bK (by lia)]
  rfl
def HC{n:Nat}{i:Nat}(h:i<n):Hk n (i:Int)=some i:=by
 unfold Hk;rw[oJ (by lia),oJ (by lia)]
 simp
def CU(ns:List Int):(ns.map D.int).map AV.sh=ns.map λn=>AV.sh (.int n):=by rw[mPq];rfl
def Iq(ns:List Int):(ns.map λn=>AV.sh (.int n)).map nR=ns.map D.int:=by rw[mPq];exact mCq λn _=>by simp
def M0(rs:List (List Int)):(rs.map dI).map AV.sh=rs.map λr=>AV.sh (dI r):=by rw[mPq];rfl
def NN(rs:List (List Int)):(rs.map λr=>AV.sh (dI r)).map nR=rs.map dI:=by rw[mPq];exact mCq λn _=>by simp
def oS(ns:List Int):nR (aI ns)=dI ns:=by
 show nR (.ow (ns.map λn=>AV.sh (.int n)))=_
 rw[uX,Iq]
def VX(i j:Int):zb (.int i) (.int j)=some (.int (i+j)):=yK _
def WZ(i j:Int):VG (.int i) (.int j)=some (.int (i-j)):=yK _
def YE(i j:Int):UK (.int i) (.int j)=some (.bl (decide (i<j))):=yK _
def aah(i j:Int):Qx (.int i) (.int j)=some (.bl (decide (j<i))):=yK _
def ZA(i:Int):uj (.int i)=some (.int (-i)):=rfl
def p60:IV (.int 10) (.int 60)=some (.int (10 ^ 60)):=vV ⟨by decide,by decide,by decide⟩ _
def p58:IV (.int 10) (.int 58)=some (.int (10 ^ 58)):=vV ⟨by decide,by decide,by decide⟩ _
def acu{i j:Int}(h1:-(2 ^ 64)<i) (h2:i<2 ^ 64):HR (.int i) (.int j)=some (.int (i*j)):=vV (.inl ⟨h1,h2⟩) _
def aa5{i j:Int}(h1:-(2 ^ 64)<j) (h2:j<2 ^ 64):HR (.int i) (.int j)=some (.int (i*j)):=vV (.inr ⟨h1,h2⟩) _
def zR{i j:Int}(h:0<j):um (.int i) (.int j)=some (.int (i % j)):=vV h _
def zA{i j:Int}(h:0<j) (h2:j<1073741824):zf (.int i) (.int j)=some (.int (i / j)):=vV ⟨h,h2⟩ _
def abS:(0:Nat)<=qP:=by decide
def aa8:(1:Nat)<=qP:=by decide
def abk:(2:Nat)<=qP:=by decide
def acg:(6:Nat)<=qP:=by decide
def rP{n:Nat}(h:n<=16777216):n<=qP:=h
def aaE{n:Nat}(h:n<16777216):n<qP:=h
def Bd{n:Nat}(h:n<1000000):GK [.int (n:Int)]=some (pZ 0 n):=by
 have e:GK [.int (n:Int)]=some (pZ 0 (n:Int).toNat):=vV ⟨by lia,by lia⟩ _
 rw[e,bS]
def D3(n:Nat):pZ 0 n=(bu n).map λi:Nat=>D.int i:=by
 unfold pZ;exact mCq λi _=>by rw[dA]
def ab5(np n:Nat) (m:MS) (ds:List D):sX np n m ds=if ds.length=np then (m (ds.map (λd=>some (.sh d))++aD (n-ds.length) none)).bind λo=>match o with
  | .rt a=>some a
  | .nx _=>some (.sh .non)
  |_=>none
 else none:=rfl
def gt1{α:Type}{a b:α}{l:List α}:(a::b::l)[1]?=some b:=rfl
def st1{α:Type}{a b v:α}{l:List α}:(a::b::l).set 1 v=a::v::l:=rfl
def gt2{α:Type}{a b c:α}{l:List α}:(a::b::c::l)[2]?=some c:=rfl
def Jj{α:Type}{a b c v:α}{l:List α}:(a::b::c::l).set 2 v=a::b::v::l:=rfl
def gt3{α:Type}{a b c d:α}{l:List α}:(a::b::c::d::l)[3]?=some d:=rfl
def UV{α:Type}{a b c d v:α}{l:List α}:(a::b::c::d::l).set 3 v=a::b::c::v::l:=rfl
def gt4{α:Type}{a b c d:α}{l:List α}{n:Nat}:(a::b::c::d::l)[n+4]?=l[n]?:=rfl
def st4{α:Type}{a b c d v:α}{l:List α}{n:Nat}:(a::b::c::d::l).set (n+4) v=a::b::c::d::l.set n v:=rfl
def zq:=aa @Z.yK (aa @Z.abS (aa @Z.aa8 (aa @Z.abk (aa @Z.acg (aa @Z.acs (aa @Z.ab6 (aa @Z.abW (aa @Z.adg (aa @Z.ac5 (aa @Z.ab3 (aa @Z.rC_ (aa @Z.adu (aa @Z.adq (aa @Z.acy (aa @Z.Zs (aa @Z.abl (aa @Z.YV (aa @Z.adm (aa @Z.ac9 (aa @Z.adx (aa @Z.abF (aa @Z.UT (aa @Z.abt (aa @Z.Yx (aa @Z.YX (aa @Z.WI (aa @Z.aaX (aa @Z.abU (aa @Z.aaV (aa @Z.Z1 (aa @Z.ZW (aa @Z.Ql (aa @Z.adE (aa @Z.adL (aa @Z.adP (aa @Z.ZJ (aa @Z.YR (aa @Z.ZT (aa @Z.SJ (aa @Z.Tz (aa @Z.aa6 (aa @Z.abG (aa @Z.acj (aa @Z.ad7 (aa @Z.ace (aa @Z.abH (aa @Z.aas (aa @Z.JC (aa @Z.P8 (aa @Z.QJ (aa @Z.YB (aa @Z.aac (aa @Z.acD (aa @Z.WK (aa @Z.YH (aa @Z.aag (aa @Z.aa3 (aa @Z.adC (aa @Z.O5 (aa @Z.Mj (aa @Z.RH (aa @Z.OB (aa @Z.XU (aa @Z.WU (aa @Z.WG (aa @Z.UI (aa @Z.adn (aa @Z.LJ (aa @Z.Y3 (aa @Z.aa9 (aa @Z.Zu (aa @Z.EZ (aa @Z.ac3 (aa @Z.Zc (aa @Z.ZM (aa @Z.ab8 (aa @Z.W4 (aa @Z.Zt (aa @Z.ZF (aa @Z.abC (aa @Z.Sx (aa @Z.Vf (aa @Z.QG (aa @Z.Uc (aa @Z.Va (aa @Z.T7 (aa @Z.Wt (aa @Z.VX (aa @Z.WZ (aa @Z.YE (aa @Z.aah (aa @Z.ZA (aa @Z.p58 (aa @Z.p60 (aa @Z.CU (aa @Z.Iq (aa @Z.M0 (aa @Z.NN (aa @Z.We (aa @Z.Wq (aa @Z.WE (aa @Z.VJ (aa @Z.VZ (aa @Z.OI (aa @Z.UG (aa @Z.UC (aa @Z.TQ (aa @Z.Ie (aa @Z.QE (aa @Z.Vo (aa @Z.V2 (aa @Z.Re (aa @Z.Ws (aa @Z.QM (aa @Z.PP (aa @Z.uc (aa @Z.uX (aa @Z.Dv (aa @Z.ab5 (aa @Z.tW (aa @Z.LK (aa @Z.Qp (aa @List.getElem?_cons_zero.{0} (aa @Z.gt1 (aa @Z.gt2 (aa @Z.gt3 (aa @Z.gt4 (aa @List.set_cons_zero.{0} (aa @Z.st1 (aa @Z.Jj (aa @Z.UV (aa @Z.st4 (aa @Option.join_some.{0} (aa @Option.map_some.{0, 0} (aa @Option.map_none.{0, 0} (aa @Option.bind_some.{0, 0} (aa @Option.bind_none.{0, 0} (aa @List.length_cons.{0} (aa @List.length_nil.{0} (aa @List.map_cons.{0, 0} (aa @List.map_nil.{0, 0} (aa @List.nil_append.{0} (aa @List.cons_append.{0} (aa @List.length_map.{0, 0} (aa @Bool.not_true (aa @Bool.not_false (aa @Bool.false_eq_true (aa @decide_true (aa @decide_false (aa @Nat.zero_add (aa @List.replicate_zero.{0} @List.append_nil.{0})))))))))))))))))))))))))))))))))))))))))))))))))))))))))))))))))))))))))))))))))))))))))))))))))))))))))))))))))))))))))))))))))))))))))))))))))))))))
def U2{K:W.Frag}{f:MF}(h:∀ns:List Int,ns.length<=63->f [.scr ns]=some (.sh (.bl true))):∀vs H Q E,M3 K vs H Q E->oY K f vs H Q E:=by
 rintro vs H Q E ⟨a,ns,rfl,hS,hl,q⟩;refine⟨H,[.scr ns],_,.refl _,.cons (.scr hS) .nil,h ns hl,λHf' H' v F _ _ _ _ r _ _=>?_⟩
 cases r.sh_inv.2;exact q H'
end Z
namespace Mr
open PySem PySem.Spec PyProof.Rows L2
section
variable {X:Cx}{tg:Expr}
def LM{α:Type}(P:α->Prop):List α->Prop
 | []=>True
 |a::l=>P a/\LM P l
theorem LM.mem{α:Type}{P:α->Prop}:∀{l:List α},LM P l->∀a∈l,P a
 | [],_,a,h=>by cases h
 |b::l,hp,a,h=>(ak.mp h).elim (λe=>e ▸ hp.1) (LM.mem hp.2 a)
def ur.of{scope:jJ}{cl:List (Str×Addr)}{x:Str}{N:List Str}{fr:List Nat}(h1:N.Nodup) (h2:N[0]?=some x) (h3:N.length=fr.length+1)
  (h4:LM (λp=>X.env.cells.lookup p.1=some p.2) cl) (h5:LM (λp=>(p.2 = .cell∨p.2 = .free)->∃c,cl.lookup p.1=some c) (kz scope X.env).names)
  (h6:LM (λp=>X.N[p.1]?=some p.2/\X.env.scope.names.lookup p.2=some .cell/\(kz scope X.env).names.lookup p.2=some .cell) (fr.zip (N.drop 1))):ur X scope cl x N fr where
 names:=h1
 own:=h2
 len:=h3
 sub:=λy c e=>h4.mem (y,c) (PySem.mem_of_lookup e)
 has:=λy e=>by
  rcases e with e|e
  .exact h5.mem _ (PySem.mem_of_lookup e) (.inl rfl)
  .exact h5.mem _ (PySem.mem_of_lookup e) (.inr rfl)
 get:=λk j y e1 e2=>by
  have hm:(j,y)∈fr.zip (N.drop 1):=by
   refine mGq (i:=k) ?_;rw[cX];exact⟨e1,by rw[cI,fO];exact e2⟩
  exact h6.mem _ hm
end
end Mr
namespace Z
open PySem L2 Mr
end Z
namespace Mr
open PySem PySem.W PySem.Spec PyProof.Rows L2
abbrev g2(K:W.Frag):TG:=So K 2 (Cn (uA 0) (Cn (uA 1) Rx))
end Mr
namespace Mr
open PySem L2
end Mr
namespace Xe
open PySem PySem.Spec PySem.W PyProof.Rows L2 Mr
section
variable {X:Cx}
def Itk(o:Obj) (d:Addr) (nV:List (pN×V)):It :=
  ⟨λi H=>H d=some (.frz o (.dK nV))/\∃p,nV[i]?=some p,
   λi H x H'=>H'=H/\∃p,nV[i]?=some p/\x=kV p.1,
   λi H=>H d=some (.frz o (.dK nV))/\nV.length<=i⟩
def Qd{P:iW}{w:iZ}{K:Frag}{tg:Expr}(o:Obj) (d it:Addr) (nV:List (pN×V)) (vs:List (pN×Value)) (ep:Nat) (hne:d≠it)
  (ho:∀h:Heap,h.get? d=some o->h.DictAt (rV P w) d vs ep) (kv:KV nV vs):Pz P w K tg (Itk o d nV) [it] it (λi h=>h.IsKeyIter it d i vs.length ep) where
 mem:=by simp
 obj:=λi h st b hb=>by
  have e:b=it:=by simpa using hb
  subst e;obtain⟨o',e,c,dd⟩:=st;exact⟨o',e,λv z=>by rw[dd]at z;cases z⟩
 keep:=λi h h' st k=>by
  obtain⟨o',e,c,dd⟩:=st;exact⟨o',k it (by simp) _ e,c,dd⟩
 item:=by
  intro X hP hw hK hc i mZ s σ H E I hf st hg;subst hP hw hK;obtain⟨hd,p,hp⟩:=hg;have e1:s.heap.get? d=some o:=(show qJ X.prog X.w H s.heap d (.frz o (.dK nV)) from I.hok d _ hd).1
  obtain⟨u,hx,ru⟩:=ZS kv hp;obtain⟨f0,f1,f2,f3,f4,f5⟩:=hf it (by simp)
  refine wpAny_pyNext_dict_item st (ho _ e1) hx λkey h' hkey st' sb=>?_
  have I1:L2.Inv X mZ σ H { s with heap:=h' }:=I.turned (t':=s.toks) (λb o hb e=>(sb.2 b hb).trans e) f0 f1 f3 f4 f5
  have rk:qb (kV p.1) key:=by
   rcases qQ hkey with ⟨j,t,e,rfl⟩|⟨z,t,e,rfl⟩
   .rw [e];exact⟨t,rfl⟩
   .rw [e];exact⟨t,rfl⟩
  obtain⟨o',e,c,dd⟩:=id st';exact⟨key,rfl,RE (s:={ s with heap:=h' }) e c dd (by decide) ⟨_,H,I1,rk,⟨rfl,p,hp,rfl⟩,st',λb hb=>(hf b hb).1⟩⟩
 done:=by
  intro X hP hw hK hc i mZ s σ H E I hf st hg;subst hP hw hK;obtain⟨hd,hl⟩:=hg;have e1:s.heap.get? d=some o:=(show qJ X.prog X.w H s.heap d (.frz o (.dK nV)) from I.hok d _ hd).1
  have l:=Paired.length kv;obtain⟨f0,f1,f2,f3,f4,f5⟩:=hf it (by simp)
  exact wpAny_pyNext_dict_end (I.ok.hd hc) st (ho _ e1) (bK (by lia)) λh' eb=>⟨rfl,I.turned (t':=s.toks) (λb o hb e=>eb b o hb e) f0 f1 f3 f4 f5⟩
 self:=λ_ _ _ _ _ st h=>wpAny_pyIter_keyiter st h
def Xz(te:TE):TI:=λσ H R=>te σ H λx H1=>∃d nV,x = .ref d/\H1 d=some (.dK nV)/\∀o,R (Itk o d nV) (pY H1 d (.frz o (.dK nV)))
def NP{tg o:Expr}{te:TE}(ho:PE X o te):PI X tg o (Xz te):=by
 intro mZ s σ H R I h;refine rL (ho mZ s σ H _ I h) λv s1 hz1=>?_
 obtain⟨x,H1,I1,r1,d,nV,ex,ha,q⟩:=hz1;subst ex;obtain rfl:=(show v=ai d from r1)
 obtain⟨hz,sa,vs,kv,dd⟩:=(show qJ X.prog X.w H1 s1.heap d (.dK nV) from I1.hok d _ ha)
 obtain⟨ep,ob,es,hob,rest⟩:=dd.dictAt;have da:∀h:Heap,h.get? d=some ob->h.DictAt (rV X.prog X.w) d vs ep:=λh e=>⟨ob,es,e,rest⟩
 have hlt:d<s1.heap.objs.size:=aj hob;refine wpAny_pyIter_dict sa (da _ hob) ?_;have kp:∀b u,s1.heap.get? b=some u->(s1.heap.push { cls:=.type "dict_keyiterator", data:=.fields #[.ref d,.int 0 0,.int vs.length 0,.int ep 0] }).get? b=some u:=λb u e=>ae _ e
 have I2:L2.Inv X mZ σ (pY H1 d (.frz ob (.dK nV))) { s1 with heap:=s1.heap.push { cls:=.type "dict_keyiterator", data:=.fields #[.ref d,.int 0 0,.int vs.length 0,.int ep 0] } } :=
  (I1.kept (t':=s1.toks) kp).write (x:=d) (e:=d) (o:=.frz ob (.dK nV)) (t':=s1.toks) (by rw[ha];trivial) (.inl rfl) (λb u _ e=>e) ⟨_,kp _ _ hob⟩ ⟨kp _ _ hob,hz,sa,vs,kv,(da _ (kp _ _ hob)).dictOf⟩
 refine⟨s1.heap.objs.size,[s1.heap.objs.size],_,_,_,rfl,I2,Qd ob d _ nV vs ep (aF hlt) da kv,?_,λb hb=>?_,q ob⟩
 .exact ⟨_,bb _ rfl,rfl,rfl⟩
 .have e:b=s1.heap.objs.size:=by simpa using hb
  subst e;exact I1.fpOk (af _) (by rw[nT (ee hlt)];exact I1.hok.fresh (af _))
end
end Xe
namespace Mr
open PySem PySem.Spec PyProof.Rows L2
end Mr
namespace Z
open PySem L2 Mr
def WY(c:MT) (body:MS) (n:Nat) (S:AS):vE c body (n+1) S=(c S).bind λx=>if x.1=true then (body x.2).bind λo=>match o with
   | .nx S'=>vE c body n S'
   | .ct S'=>vE c body n S'
   | .bk S'=>some (.nx S')
   | .rt a=>some (.rt a)
  else some (.nx x.2):=rfl
end Z
namespace Z
open PySem L2 Mr Xe
inductive QU where
 |ok (a:AV)|ex (c:Str) (fs:List (Str×Int))
abbrev xU:=List D->Option QU
def W9(K:W.Frag) (Hf H:Hp) (Q:VK) (E:XK):QU->Prop
 | .ok a=>∀Hf' H' v F,oX Hf Hf'->oX H H'->oX Hf' H'->(∀b,Hf b=none->H b≠none->Hf' b=none)->pE K Hf' H' a v F->F.Nodup->(∀q∈F,H q=none)->Q v H'
 | .ex c fs=>∀Hf' H' e od,oX Hf Hf'->oX H H'->oX Hf' H'->(∀b,Hf b=none->H b≠none->Hf' b=none)->qY K Hf' (.exc c fs) (.ref e)->E (.ref e) od H'
def yi(K:W.Frag) (f:xU):Sp:=λvs H Q E=>∃(Hf:Hp) (ds:List D) (r:QU),oX Hf H/\qe K Hf ds vs/\f ds=some r/\W9 K Hf H Q E r
noncomputable def okR:QU->Option AV
 | .ok a=>some a
 |_=>none
def okX(f:xU):MF:=λds=>(f ds).bind okR
inductive Br where
 |ok (o:Gq)|ex (c:Str) (fs:List (Str×Int))
abbrev MX:=AS->Option Br
def Ft(K:W.Frag) (H₀ Hf₀ Hf:Hp) (D:wL) (E:XK):Br->Prop
 | .ok o=>C9 K H₀ Hf₀ Hf D o
 | .ex c fs=>∀Hf' H' e od,oX Hf₀ Hf'->oX H₀ H'->oX Hf' H'->(∀b,Hf₀ b=none->H₀ b≠none->Hf' b=none)->qY K Hf' (.exc c fs) (.ref e)->E (.ref e) od H'
theorem Ft.mono{K:W.Frag}{H₀ Hf₀ Hf Hf':Hp}{D:wL}{E:XK}{o:Br}(s:oX Hf Hf') (h:Ft K H₀ Hf₀ Hf D E o):Ft K H₀ Hf₀ Hf' D E o:=by
 cases o with
 |ok o=>exact C9.mono s h
 |ex c fs=>exact h
def K6(K:W.Frag) (E:XK) (t:TS) (m:MX):Prop:=∀{H₀ Hf₀ Hf:Hp}{S:AS}{σ:St}{H:Hp}{Fs:List (List Addr)}{o:Br},pH K H₀ Hf₀ Hf S σ H Fs->m S=some o->∀D:wL,Ft K H₀ Hf₀ Hf D E o->t D σ H
def Ex(m:MS):MX:=λS=>(m S).map .ok
def xI(a b:MX):MX:=λS=>(a S).bind λo=>match o with
 | .ok (.nx S')=>b S'
 |o=>some o
noncomputable def RC(c:MT) (a b:MX):MX:=λS=>(c S).bind λx=>if x.1=true then a x.2 else b x.2
noncomputable def B9(c fld:Str) (a:ML):MX:=λS=>(a S).bind λx=>match x.1 with
 | [.int n]=>some (.ex c [(fld,n)])
 |_=>none
section
variable {K:W.Frag}{E:XK}{t u:TS}{m n:MS}{a b:MX}{tt:TT}{c:MT}{ta:TA}
def xD(h:SS K t m):K6 K E t (Ex m):=by
 intro H₀ Hf₀ Hf S σ H Fs o R e D q;obtain⟨z,e1,e2⟩:=oMq.mp e;subst e2;exact h R e1 D q
def wG(ha:K6 K E t a) (hb:K6 K E u b):K6 K E (Ik t u) (xI a b):=by
 intro H₀ Hf₀ Hf S σ H Fs o R e D q;obtain⟨z,e1,e2⟩:=oBq.mp e;refine ha R e1 { D with nx:=u D } ?_
 cases z with
 |ok z =>
  cases z with
  |nx S'=>exact λHf' σ' H' Fs' s R'=>hb R' e2 D (q.mono s)
  |bk S'=>cases e2;exact q
  |ct S'=>cases e2;exact q
  |rt a=>cases e2;exact q
 |ex c fs=>cases e2;exact q
def Dy(hc:Gk K tt c) (ha:K6 K E t a) (hb:K6 K E u b):K6 K E (Sn tt t u) (RC c a b):=by
 intro H₀ Hf₀ Hf S σ H Fs o R e D q;obtain⟨x,e1,e2⟩:=oBq.mp e;refine hc R (b:=x.1) (S':=x.2) e1 _ λHf1 H1 Fs1 t1 R1=>?_
 split at e2
 .rename_i hx;rw[oJ hx];exact ha R1 e2 D (q.mono t1.sf)
 .rename_i hx;rw[oO hx];exact hb R1 e2 D (q.mono t1.sf)
def KC{H:Hp}{n:Int}{v:V}(r:qY K H (.int n) v):v = .int n:=by cases r;rfl
def GV{cn fld:Str}{C M:Addr}{l:ML}(rf:Ref K cn C M) (nf:W.findIn K (.ref C) fld=some none) (hl:UQ K ta l):K6 K E (tRs E C (acv K cn fld ta)) (B9 cn fld l):=by
 intro H₀ Hf₀ Hf S σ H Fs o R e D q;obtain⟨x,e1,e2⟩:=oBq.mp e;refine hl R (ds:=x.1) (S':=x.2) e1 _ λHf1 H1 Fs1 vs t1 R1 r1=>?_
 split at e2
 .rename_i k hk;cases e2;rw[hk]at r1;obtain⟨v,ws,rfl,r2,r3⟩:=r1.cons_inv;obtain rfl:=r3.nil_inv;obtain rfl:=KC r2;refine⟨_,C,M,rfl,rf,nf,λex dx n1 n2 n3=>⟨ex,some dx,rfl,og,?_⟩⟩
  rw[CT];have nf1:Hf1 ex=none:=R1.sub.free n1;have nf2:Hf1 dx=none:=R1.sub.free n2;have s1:oX Hf1 (pY (pY Hf1 dx (.xd [(fld,.int k)])) ex (E3 ex C (some dx))):=(rh nf2).trans (rh (by rw[nT (Ne.symm n3)];exact nf1))
  have s2:oX H1 (pY (pY H1 dx (.xd [(fld,.int k)])) ex (E3 ex C (some dx))):=(rh n2).trans (rh (by rw[nT (Ne.symm n3)];exact n1))
  refine q (pY (pY Hf1 dx (.xd [(fld,.int k)])) ex (E3 ex C (some dx))) _ ex (some dx) (R1.sf.trans s1) (R1.fr.trans s2) (λb o' z=>?_) (λb z1 z2=>?_) (.exc rf (λp hp=>?_) og ?_)
  .by_cases hb:b=ex
   .subst hb;rw[og]at z ⊢;exact z
   .rw [nT hb]at z ⊢
    by_cases hb2:b=dx
    .subst hb2;rw[og]at z ⊢;exact z
    .rw [nT hb2]at z ⊢;exact R1.sub b o' z
  .have h1:b≠ex:=λz=>z2 (by rw[z];exact R1.fr.free n1)
   have h2:b≠dx:=λz=>z2 (by rw[z];exact R1.fr.free n2)
   rw[nT h1,nT h2];exact R1.lim b z1 z2
  .simp only [mSq]at hp;subst hp;exact nf
  .rw [nT n3,og];rfl
 .cases e2
end
def xw(np n:Nat) (m:MX):xU:=λds=>if ds.length=np then (m (ds.map (λd=>some (.sh d))++aD (n-ds.length) none)).bind λo=>match o with
  | .ok (.rt a)=>some (.ok a)
  | .ok (.nx _)=>some (.ok (.sh .non))
  | .ex c fs=>some (.ex c fs)
  |_=>none
 else none
def qV{K:W.Frag}{t:TS}{m:MX}{np:Nat}(N:List Str) {E:XK}(h:K6 K E t m) {vs:List V}{H:Hp}{Q:VK}(hs:yi K (xw np N.length m) vs H Q E):t { nx:=λ_ H'=>Q .non H',rt:=Q } (L2.sZ N vs) H:=by
 obtain⟨Hf,ds,r,s,rr,e,q⟩:=hs;unfold xw at e;split at e
 .obtain ⟨o,e1,e2⟩:=oBq.mp e;refine h (GU N s rr) e1 _ ?_;cases o with
  |ok o =>
   cases o with
   |rt a'=>cases e2;exact λHf' H' v F s1 s2 s3 l r nd fr=>q Hf' H' v F s1 s2 s3 l r nd fr
   |nx S'=>cases e2;exact λHf' σ' H' Fs' s1 R=>q Hf' H' .non [] R.sf R.fr R.sub R.lim (.sh .non) aT λq h=>(by cases h)
   |bk S'=>cases e2
   |ct S'=>cases e2
  |ex c fs=>cases e2;exact q
 .cases e
def uk{K:W.Frag}{m:MX}{np n:Nat}{vs:List V}{H:Hp}{Q:VK}{E:XK}(hs:yi K (xw np n m) vs H Q E):vs.length=np:=by
 obtain⟨Hf,ds,a,s,r,e,q⟩:=hs;unfold xw at e;split at e
 .rename_i h;rw[←r.1,h]
 .cases e
abbrev MH:=Str->List (Str×Int)->MS
def SH(K:W.Frag) (th:XH) (hm:MH):Prop:=∀{H₀ Hf₀ Hf:Hp}{S:AS}{σ:St}{H:Hp}{Fs:List (List Addr)}{o:Gq}{c:Str}{fs:List (Str×Int)}{e:Addr},pH K H₀ Hf₀ Hf S σ H Fs->hm c fs S=some o ->
 qY K Hf (.exc c fs) (.ref e)->∀D:wL,C9 K H₀ Hf₀ Hf D o->∀C M od,Ref K c C M->H e=some (E3 e C od)->th e C od D σ H
noncomputable def under(c c':Str):Bool:=decide (c'=c∨c' = "MapError")
def clr(i:Nat):Gq->Gq
 | .nx S=>.nx (S.set i none)
 | .bk S=>.bk (S.set i none)
 | .ct S=>.ct (S.set i none)
 | .rt a=>.rt a
def xAs(c':Str) (i:Nat) (mb:MS) (rest:MH):MH:=λc fs S=>if under c c'=true then (mb (S.set i (some (.sh (.exc c fs))))).map (clr i) else rest c fs S
def xNo(c':Str) (mb:MS) (rest:MH):MH:=λc fs S=>if under c c'=true then mb S else rest c fs S
def RU:MH:=λ_ _ _=>none
def Ref.mro{K:W.Frag}{c c':Str}{C M C':Addr}(rf:Ref K c C M) (h:XO K c' C'):W.mroIn K C (.ref C')=some (under c c'):=by
 obtain⟨_,⟨cd,hcd,hm,hn⟩,_⟩:=xg rf.xc;unfold W.mroIn;rw[hcd,dF,hm];simp only[eE,cK,if_false,aS.injEq];have key:(ai C::ai M::xE).contains (ai C')=decide (C'=C∨C'=M):=by
  have e1:xE.contains (ai C')=false:=by simp[xE]
  rw[bp,bp,e1]
  by_cases h1:C'=C
  .simp [h1]
  .by_cases h2:C'=M
   .simp [h2]
   .have a1:(ai C' == ai C)=false:=by simp[h1]
    have a2:(ai C' == ai M)=false:=by simp[h2]
    rw[a1,a2];simp[h1,h2]
 rw[key];unfold under;rcases h with ⟨hnm,⟨M',rf'⟩|⟨hc,hx⟩⟩
 .obtain rfl:M=M':=by have z:=rf.nmM.symm.trans rf'.nmM;simpa using z
  have n1:C'≠M:=λz=>by subst z;have y:=(NS rf'.xc rf.xm).2;simp at y
  have n2:c' ≠ "MapError" := λz=>by subst z;have y:=rf'.nm.symm.trans rf.nmM;simp at y;exact n1 y
  by_cases hc:c'=c
  .subst hc;have y:=(rf.one rf').1;simp[y]
  .have n3:C'≠C:=λz=>by subst z;exact hc ((NS rf'.xc rf.xc).1)
   simp[n1,n2,n3,hc]
 .subst hc;obtain rfl:M=C':=by have z:=rf.nmM.symm.trans hnm;simpa using z
  simp
section
variable {K:W.Frag}{tb:TS}{mb:MS}{tr:XH}{mr:MH}{c':Str}{C':Addr}{i:Nat}
def Vq{H:Hp}{c:Str}{fs:List (Str×Int)}{e:Addr}(r:qY K H (.exc c fs) (.ref e)):∃C M od,Ref K c C M/\H e=some (E3 e C od):=by
 cases r with
 |exc rf nf h hx=>exact⟨_,_,_,rf,h⟩
 |exc0 rf h=>exact⟨_,_,_,rf,h⟩
def pH.clear{H₀ Hf₀ Hf H:Hp}{S:AS}{σ:St}{Fs:List (List Addr)}(R:pH K H₀ Hf₀ Hf S σ H Fs) (i:Nat):pH K H₀ Hf₀ Hf (S.set i none) (σ.set i none) H (Fs.set i []):=by
 refine⟨by simp[R.len],by simp[R.lenF],λj a ej=>?_,λj ej=>?_,ri i R.nd aT (λp hp=>by cases hp),λp hp=>R.fresh p (qu hp),R.sub,R.fr,R.lim,R.sf⟩
 .rw [aZ]at ej
  by_cases hij:i=j
  .subst hij;rw[oJ rfl]at ej;split at ej <;> cases ej
  .rw [oO hij]at ej;obtain⟨w,G,f1,f2,q⟩:=R.rep j a ej;exact⟨w,G,by rw[ao hij];exact f1,by rw[ao hij];exact f2,q⟩
 .rw [aZ]at ej
  by_cases hij:i=j
  .subst hij;rw[oJ rfl]at ej;split at ej
   .rename_i hi;rw[aN (R.lenF.symm ▸ hi)]
   .cases ej
  .rw [oO hij]at ej;rw[ao hij];exact R.emp j ej
def M5(hC:XO K c' C') (hb:SS K tb mb) (hr:SH K tr mr):SH K (hAs K C' i tb tr) (xAs c' i mb mr):=by
 intro H₀ Hf₀ Hf S σ H Fs o c fs e R eq rx D q C M od rf hA;unfold xAs at eq;split at eq
 .rename_i hu;refine⟨c,M,true,rf,by rw[Ref.mro rf hC,hu],?_⟩
  rw[oJ rfl];obtain⟨z,e1,e2⟩:=oMq.mp eq;subst e2;refine hb (R.setD i rx) e1 _ ?_;cases z with
  |nx S'=>exact λHf' σ' H' Fs' s R'=>q Hf' _ H' _ s (pH.clear R' i)
  |bk S'=>exact λHf' σ' H' Fs' s R'=>q Hf' _ H' _ s (pH.clear R' i)
  |ct S'=>exact λHf' σ' H' Fs' s R'=>q Hf' _ H' _ s (pH.clear R' i)
  |rt a=>exact q
 .rename_i hu;refine⟨c,M,false,rf,by rw[Ref.mro rf hC,gR.mpr hu],?_⟩
  rw[oO (by decide)]
  exact hr R eq rx D q C M od rf hA
def HB:SH K abB RU:=by
 intro H₀ Hf₀ Hf S σ H Fs o c fs e R eq rx D q;cases eq
end
def aeD(f:xU) (a:MA) (hm:MH):MS:=λS=>(a S).bind λx=>(f (x.1.map nR)).bind λr=>match r with
 | .ok _=>some (.nx x.2)
 | .ex c fs=>hm c fs x.2
def GT(i:Nat) (f:xU) (a:MA) (hm:MH):MS:=λS=>(a S).bind λx=>(f (x.1.map nR)).bind λr=>match r with
 | .ok r=>some (.nx (x.2.set i (some r)))
 | .ex c fs=>hm c fs x.2
section
variable {K:W.Frag}{ta:TA}{a:MA}{f:xU}{th:XH}{hm:MH}{i:Nat}
def yN{H₀ Hf₀ Hf1 H1 Hf' H':Hp}{S:AS}{σ:St}{Fs1:List (List Addr)}(R2:pH K H₀ Hf₀ Hf1 S σ H1 Fs1) (s1:oX Hf1 Hf') (s2:oX H1 H') (s3:oX Hf' H') (l:∀b,Hf1 b=none->H1 b≠none->Hf' b=none):pH K H₀ Hf₀ Hf' S σ H' Fs1 :=
 R2.more s2 s1 s3 (λq hq=>l q (R2.mem hq).2 (R2.mem hq).1) λb h1 h2=>l b (R2.lim b h1 h2) (NF R2.fr h2)
def EC(ha:SA K ta a) (hh:SH K th hm):SS K (Xj i (yi K f) ta th) (GT i f a hm):=by
 intro H₀ Hf₀ Hf S σ H Fs o R e D q;obtain⟨x,e1,e⟩:=oBq.mp e;obtain⟨r,e2,e⟩:=oBq.mp e;refine ha R (as:=x.1) (S':=x.2) e1 _ λHf1 H1 Fs1 vs Gs t1 R1 r1 o1=>?_
 obtain⟨R2,r2,t2⟩:=R1.gives t1 r1 o1;refine⟨_,_,r,R2.sub,r2,e2,?_⟩;cases r with
 |ok av=>cases e;exact λHf' H' v F s1 s2 s3 l ra nd fr=>q _ _ _ _ (t2.sf.trans s1) ((yN R2 s1 s2 s3 l).set i ra nd λq hq=>⟨R2.fr.free (fr q hq),λm=>(R2.mem m).1 (fr q hq)⟩)
 |ex c fs =>
  intro Hf' H' ex od s1 s2 s3 l rx e0 he;cases he;have R3:=yN R2 s1 s2 s3 l;obtain⟨C,M,od',rf,hA⟩:=Vq rx;exact⟨C,od',R3.sub _ _ hA,hh R3 e rx D (q.mono (t2.sf.trans s1)) C M od' rf (R3.sub _ _ hA)⟩
end
def GR(f:Str):D->Option D
 | .exc _ fs=>(fs.lookup f).map .int
 |_=>none
section
variable {K:W.Frag}{te:TE}{m:ME}{f:Str}
def FE{fs:List (Str×Int)}{f:Str}{n:Int}(h:fs.lookup f=some n):(f,n)∈fs/\(fs.map λp=>(p.1,V.int p.2)).lookup f=some (.int n):=by
 induction fs with
 |nil=>cases h
 |cons p fs ih =>
  obtain⟨g,k⟩:=p;simp only[bQ]at h ⊢;cases e:f == g with
  |true=>rw[e]at h;cases h;simp[bQ,e,eq_of_beq e]
  |false=>rw[e]at h;obtain⟨a,b⟩:=ih h;exact⟨mCo _ a,by simp[bQ,e,b]⟩
def N9(ha:SR K te m):SR K (tXF K te f) (wx (GR f) m):=by
 intro H₀ Hf₀ Hf S σ H Fs d S' R e Q q;obtain⟨x,e1,e⟩:=oBq.mp e;obtain⟨z,e2,e⟩:=oMq.mp e;cases e;refine ha R (d:=x.1) (S':=x.2) e1 _ λHf1 H1 Fs1 v t1 R1 r1=>?_
 cases hx:x.1 <;> rw[hx]at e2 r1 <;> simp only[GR]at e2
 all_goals first|(exfalso;simp at e2;done)|skip
 rename_i c fs;obtain⟨n,e3,rfl⟩:=oMq.mp e2;cases r1 with
 |exc rf nf h hx=>exact⟨_,c,_,_,_,_,n,rfl,h,hx,rf,nf _ (FE e3).1,(FE e3).2,q _ _ _ _ t1 R1 .int⟩
 |exc0 rf h=>simp at e3
def PD(c:Str):ME:=λS=>some (.cls c,S)
def Ic{c:Str}{C:Addr}(h:XO K c C):SR K (λ_ H Q=>Q (.ref C) H) (PD c):=by
 intro H₀ Hf₀ Hf S σ H Fs d S' R e Q q;cases e;exact q _ _ _ _ .refl R (.cls h)
def DD(c:Str):D->Option Bool
 | .cls c'=>some (under c c')
 | .ty T=>if T = "ValueError" then some true else none
 |_=>none
def CH(c:Str):List D->Option Bool
 | []=>some false
 |d::ds=>(DD c d).bind λb=>(CH c ds).map λb2=>b || b2
def Gp:List D->Option D
 | [.exc c _,.tup ds]=>(CH c ds).map .bl
 | [.exc c _,d]=>(DD c d).map .bl
 |_=>none
def Ui{c':Str}{C':Addr}(h:XO K c' C'):(W.clsIn K C').isSome=true/\W.typeIn K (.ref C')=some (.type "type"):=by
 have key:∀{bm:List Value},yj K c' C' bm=true->(W.clsIn K C').isSome=true/\W.typeIn K (.ref C')=some (.type "type"):=λ{bm} e=>by
  obtain⟨⟨N,q',bs,sn,sub,ab,col,dd,k0,k1,k2,k3,k5,hC⟩,⟨cd,hcd,_,_⟩,_⟩:=xg e;refine⟨by rw[hcd];rfl,?_⟩
  show (K.lookup C').map (·.cls)=_;rw[hC];rfl
 rcases h with ⟨_,⟨M',rf'⟩|⟨rfl,hx⟩⟩
 .exact key rf'.xc
 .exact key hx
def Ha{c:Str}{C M:Addr}{d:D}{v:V}{b:Bool}{H:Hp}(rf:Ref K c C M) (r:qY K H d v) (e:DD c d=some b):∃u,HA v=some u/\W.kitOne K (.ref C) u=some b:=by
 cases r <;> simp only[DD]at e
 all_goals first|(exfalso;simp at e;done)|skip
 .rename_i n;split at e
  .rename_i hn;subst hn;cases e;refine⟨_,rfl,?_⟩;obtain⟨_,⟨cd,hcd,hm,hn⟩,_⟩:=xg rf.xc;have h1:W.mroIn K C (.type "ValueError")=some true:=by
    unfold W.mroIn;rw[hcd,dF,hm];simp only[eE,cK,if_false,aS.injEq];rw[bp,bp,show xE.contains (dg "ValueError")=true by decide,dm,dm]
   show (if (ai C == dg "ValueError")=true then some true else if W.kitMeta "ValueError" = true then W.mroIn K C (.type "ValueError") else none)=some true
   rw[h1,show W.kitMeta "ValueError" = true by decide +kernel]
   simp
  .cases e
 .rename_i c' C' h;cases e;refine⟨_,rfl,?_⟩;obtain⟨g1,g2⟩:=Ui h;have h1:=Ref.mro rf h;show (if (ai C == ai C')=true then some true else if ((W.clsIn K C').isSome && W.typeIn K (.ref C') == some (.type "type"))=true then W.mroIn K C (.ref C') else none)=_
  rw[g1,g2,h1]
  by_cases hz:(ai C == ai C')=true
  .have hz':C=C':=ai.inj (beq_iff_eq.mp hz);subst hz';rw[oJ hz];obtain⟨_,⟨cd,hcd,hm,hn⟩,_⟩:=xg rf.xc;unfold W.mroIn at h1;rw[hcd,dF,hm]at h1;simp only[eE,cK,if_false,aS.injEq]at h1;rw[←h1];simp
  .rw [oO hz];simp
theorem NV{c:Str}{C M:Addr}{H:Hp}(rf:Ref K c C M):∀{ds:List D}{vs:List V}{b:Bool},qe K H ds vs->CH c ds=some b->∃us,vs.mapM HA=some us/\W.kitAny K (.ref C) us=some b
 | [],vs,b,r,e=>by
  obtain rfl:=r.nil_inv;cases e;exact⟨[],rfl,rfl⟩
 |d::ds,vs,b,r,e=>by
  obtain⟨v,ws,rfl,r1,r2⟩:=r.cons_inv;obtain⟨b1,e1,e2⟩:=oBq.mp e;obtain⟨b2,e3,e4⟩:=oMq.mp e2;obtain⟨u,h1,h2⟩:=Ha rf r1 e1;obtain⟨us,h3,h4⟩:=NV rf r2 e3;refine⟨u::us,by rw[il,h1,h3];rfl,?_⟩
  subst e4;unfold W.kitAny;rw[h2];cases b1 with
  |true=>rfl
  |false=>exact h4
def E7:Xw K (Ya K) Gp:=by
 intro vs H Q ds d r e q;have main:∀(c:Str) (fs:List (Str×Int)) (dv:D),ds=[.exc c fs,dv]->((∃es b,dv = .tup es/\CH c es=some b/\d = .bl b)∨∃b,DD c dv=some b/\d = .bl b)->Ya K vs H Q:=by
  intro c fs dv hd hb;subst hd;obtain⟨v,ws,rfl,r1,r2⟩:=r.cons_inv;obtain⟨v2,ws2,rfl,r3,r4⟩:=r2.cons_inv;obtain rfl:=r4.nil_inv;obtain⟨e0,C,M,od,he,rf,hA⟩:∃e0 C M od,v = .ref e0/\Ref K c C M/\H e0=some (E3 e0 C od):=by
   cases r1 with
   |exc rf nf h hx=>exact⟨_,_,_,_,rfl,rf,h⟩
   |exc0 rf h=>exact⟨_,_,_,_,rfl,rf,h⟩
  subst he;rcases hb with ⟨es,b,rfl,hb,rfl⟩|⟨b,hb,rfl⟩
  .obtain ⟨p,us,rfl,h1,h2⟩:=r3.tup_inv;obtain⟨cs,h3,h4⟩:=NV rf h2 hb;exact⟨e0,c,C,M,od,_,b,rfl,hA,rf,.inr ⟨p,us,cs,rfl,h1,h3,h4⟩,q _ .bl⟩
  .obtain ⟨u,h1,h2⟩:=Ha rf r3 hb;exact⟨e0,c,C,M,od,_,b,rfl,hA,rf,.inl ⟨u,h1,h2⟩,q _ .bl⟩
 unfold Gp at e;split at e
 .rename_i c fs es;obtain⟨b,h1,h2⟩:=oMq.mp e;exact main c fs _ rfl (.inl ⟨es,b,rfl,h1,h2.symm⟩)
 .rename_i c fs dv _;obtain⟨b,h1,h2⟩:=oMq.mp e;exact main c fs _ rfl (.inr ⟨b,h1,h2.symm⟩)
 .cases e
end
def kD:pN->D
 | .inl i=>.int i
 | .inr x=>.str x
def VU{K:W.Frag}{H:Hp}(k:pN):qY K H (kD k) (kV k):=by
 cases k with
 |inl i=>exact .int
 |inr x=>exact .str
def Mb(x y:Nat) (body:MS):List (pN×D)->AS->Option Gq
 | [],S=>some (.nx S)
 |p::ps,S=>(body ((S.set x (some (.sh (kD p.1)))).set y (some (.sh p.2)))).bind λo=>match o with
  | .nx S'=>Mb x y body ps S'
  | .ct S'=>Mb x y body ps S'
  | .bk S'=>some (.nx S')
  | .rt a=>some (.rt a)
def aen(x y:Nat) (k:MK) (body:MS):MS:=λS=>(k S).bind λz=>(Rz z.1).bind λnV=>Mb x y body nV z.2
section
variable {K:W.Frag}{te tf:TE}{k:MK}{tb:TS}{body:MS}{x y:Nat}
def pH.fix{H₀ Hf₀ Hf H:Hp}{S:AS}{σ:St}{Fs:List (List Addr)}(R:pH K H₀ Hf₀ Hf S σ H Fs) {p:Addr}{o:HO}(h1:p∉Fs.flatten) (h2:Hf p=none) (h3:H₀ p=none):pH K H₀ Hf₀ (pY Hf p o) S σ (pY H p o) Fs:=by
 have s:oX Hf (pY Hf p o):=rh h2;refine⟨R.len,R.lenF,λi av e=>?_,R.emp,R.nd,R.fresh,λb u z=>?_,λb u z=>?_,λb z1 z2=>?_,R.sf.trans s⟩
 .obtain ⟨v,F,e1,e2,r⟩:=R.rep i av e;have hne:∀q∈F,q≠p:=λq hq z=>h1 (by rw[←z];exact mFq.mpr ⟨F,mGq e2,hq⟩)
  exact⟨v,F,e1,e2,r.keep s (λq hq=>nT (hne q hq)) λq hq=>by rw[nT (hne q hq)];exact(r.owned q hq).2⟩
 .by_cases hb:b=p
  .subst hb;rw[og]at z ⊢;exact z
  .rw [nT hb]at z ⊢;exact R.sub b u z
 .have hb:b≠p:=λq=>by rw[q,h3]at z;cases z
  rw[nT hb];exact R.fr b u z
 .have hb:b≠p:=λq=>z2 (by rw[q];exact h3)
  rw[nT hb];exact R.lim b z1 z2
def adN(a:ME):MK:=λS=>(a S).bind λx=>(dictOf x.1).map λnV=>(.ow (nV.map λp=>.sh (kD p.1)),x.2)
end
def U3:jM "ValueError" = some (.type "ValueError"):=by decide +kernel
structure RF (K:W.Frag) (mg:Str->Option Value) (cn:Str) (C:Addr) (bm:List Value):Prop where
 c:XO K cn C
 xc:yj K cn C bm=true
 base:bm.contains (.type "BaseException")=true
 mgc:mg cn=some (.ref C)
structure P7 (P:iW) (w:iZ) (K:W.Frag) (mg:Str->Option Value) (bs:Heap) (cn fld prm:Str) (C M f:Addr) (fd:jb):Prop where
 c:XO K cn C
 xc:yj K cn C (.ref M::xE)=true
 base:(ai M::xE).contains (.type "BaseException")=true
 mgc:mg cn=some (.ref C)
 i:Ini P w K mg bs 1 cn fld prm C M f fd
def Lm(M:Addr):(ai M::xE).contains (.type "BaseException")=true:=by rw[bp,show xE.contains (dg "BaseException")=true by decide,dm]
section
variable {K:W.Frag}{h:Heap}{mg:Str->Option Value}{c:Str}{C M:Addr}
def Jd(a:W.nsIn K iV c=some (some (.ref C))) (aM:W.nsIn K iV "MapError" = some (some (.ref M))) (x:yj K c C (.ref M::xE)=true) (xM:yj K "MapError" M xE=true) (l:Zp K C=true):Ref K c C M:=⟨a,aM,x,xM,l⟩
def VT(X:K.In h) (G:h.Ns iV mg) (aM:W.nsIn K iV "MapError" = some (some (.ref M))) (xM:yj K "MapError" M xE=true):RF K mg "MapError" M xE:=⟨⟨aM,.inr ⟨rfl,xM⟩⟩,xM,by decide,W.mg_of X G aM⟩
end
section
variable {P:iW}{w:iZ}{K:W.Frag}{mg:Str->Option Value}{base:Heap}
def JN{c fld:Str}{prm:Str}{vs:List V}{H:Hp}{Q:VK}{E:XK}{tx:Str}(hs:RJ K c fld vs H Q E) :
  Ik (Aa (tBI K (tM (uS 0) (tM (tC (.str tx)) vL)))) (sXF K (uS 0) (uS 1) fld) { nx:=λ_ H'=>Q .non H',rt:=Q } (sZ ["self", prm] vs) H:=by
 obtain⟨e,v,C,M,rfl,hE,rf,nf,q⟩:=hs;exact⟨_,rfl,e,_,c,C,M,rfl,hE,rf,_,rfl,_,rfl,e,c,C,M,rfl,hE,rf,nf,q⟩
end
def afw(c:Str):MK:=λS=>some (.sh (.cls c),S)
def M4:Option Br->MX->Option Br
 |none,_=>none
 |some (.ok (.nx S)),b=>b S
 |some o,_=>some o
noncomputable def Np(c fld:Str):List D->Option Br
 | [.int n]=>some (.ex c [(fld,n)])
 |_=>none
def Of:Br->Option QU
 | .ok (.rt a)=>some (.ok a)
 | .ok (.nx _)=>some (.ok (.sh .non))
 | .ex c fs=>some (.ex c fs)
 |_=>none
def afh(hm:MH) (S:AS):QU->Option Gq
 | .ok _=>some (.nx S)
 | .ex c fs=>hm c fs S
def XY(i:Nat) (hm:MH) (S:AS):QU->Option Gq
 | .ok r=>some (.nx (S.set i (some r)))
 | .ex c fs=>hm c fs S
variable (S:AS)
def ad4(m:MS):Ex m S=(m S).map .ok:=rfl
def S6(b:MX):M4 (some (.ok (.nx S))) b=b S:=rfl
def SY(a:AV) (b:MX):M4 (some (.ok (.rt a))) b=some (.ok (.rt a)):=rfl
def TV(c:Str) (fs:List (Str×Int)) (b:MX):M4 (some (.ex c fs)) b=some (.ex c fs):=rfl
def abP(a b:MX):xI a b S=M4 (a S) b:=by
 show (a S).bind _=_;cases a S with
 |none=>rfl
 |some o =>
  cases o with
  |ok o=>cases o <;> rfl
  |ex c fs=>rfl
def adZ(c:MT) (a b:MX):RC c a b S=(c S).bind λx=>if x.1=true then a x.2 else b x.2:=rfl
def K3(c fld:Str) (n:Int):Np c fld [.int n]=some (.ex c [(fld,n)]):=rfl
def WL(c fld:Str) (a:ML):B9 c fld a S=(a S).bind λx=>Np c fld x.1:=rfl
def QA(a:AV):Of (.ok (.rt a))=some (.ok a):=rfl
def QV:Of (.ok (.nx S))=some (.ok (.sh .non)):=rfl
def Ub(c:Str) (fs:List (Str×Int)):Of (.ex c fs)=some (.ex c fs):=rfl
def aca(np n:Nat) (m:MX) (ds:List D):xw np n m ds=if ds.length=np then (m (ds.map (λd=>some (.sh d))++aD (n-ds.length) none)).bind Of else none:=by
 show (if ds.length=np then (m _).bind _ else none)=_
 first|rfl|(congr 2;funext o;cases o with
 |ok o=>cases o <;> rfl
 |ex c fs=>rfl)
def U6(i:Nat) (hm:MH) (a:AV):XY i hm S (.ok a)=some (.nx (S.set i (some a))):=rfl
def U5(i:Nat) (hm:MH) (c:Str) (fs:List (Str×Int)):XY i hm S (.ex c fs)=hm c fs S:=rfl
def YF(i:Nat) (f:xU) (a:MA) (hm:MH):GT i f a hm S=(a S).bind λx=>(f (x.1.map nR)).bind (XY i hm x.2):=by
 show (a S).bind _=_;congr 1
def adp(c':Str) (i:Nat) (mb:MS) (rest:MH) (c:Str) (fs:List (Str×Int)):xAs c' i mb rest c fs S=if under c c'=true then (mb (S.set i (some (.sh (.exc c fs))))).map (clr i) else rest c fs S:=rfl
def Yn(i:Nat):clr i (.nx S) = .nx (S.set i none):=rfl
def MW(c:Str):under c c=true:=by simp[under]
def TY(c c':Str) (fs:List (Str×Int)):Gp [.exc c fs,.cls c']=some (.bl (under c c')):=rfl
def Vc(c:Str) (fs:List (Str×Int)):Gp [.exc c fs,.ty "ValueError"]=some (.bl true):=by simp[Gp,DD]
def O4(f c:Str) (n:Int):GR f (.exc c [(f,n)])=some (.int n):=by simp[GR,bQ]
def abr(c:Str):PD c S=some (.cls c,S):=rfl
def zq3:=aa @ad4 (aa @S6 (aa @SY (aa @TV (aa @abP (aa @adZ (aa @K3 (aa @WL (aa @QA (aa @QV (aa @Ub (aa @aca (aa @U6 (aa @U5 (aa @YF (aa @adp (aa @Yn (aa @MW (aa @TY (aa @Vc (aa @O4 @abr))))))))))))))))))))
def TN(x:Nat) (body:MX):List D->AS->Option Br
 | [],S=>some (.ok (.nx S))
 |d::ds,S=>(body (S.set x (some (.sh d)))).bind λo=>match o with
  | .ok (.nx S')=>TN x body ds S'
  | .ok (.ct S')=>TN x body ds S'
  | .ok (.bk S')=>some (.ok (.nx S'))
  | .ok (.rt a)=>some (.ok (.rt a))
  | .ex c fs=>some (.ex c fs)
def Zi(x:Nat) (k:MK) (body:MX):MX:=λS=>(vx k S).bind λy=>(rW (nR y.1)).bind λds=>TN x body ds y.2
def wm(f:AV->Option Br):QU->Option Br
 | .ok r=>f r
 | .ex c fs=>some (.ex c fs)
def CV(f:xU) (a:MA):MX:=λS=>(a S).bind λx=>(f (x.1.map nR)).bind (wm λ_=>some (.ok (.nx x.2)))
def aaf(i:Nat) (f:xU) (a:MA):MX:=λS=>(a S).bind λx=>(f (x.1.map nR)).bind (wm λr=>some (.ok (.nx (x.2.set i (some r)))))
def JJ(f:xU) (a:MA):MX:=λS=>(a S).bind λx=>(f (x.1.map nR)).bind (wm λr=>some (.ok (.rt r)))
def CL(c:Str):MX:=λ_=>some (.ex c [])
section
variable {K:W.Frag}{E:XK}{te:TE}{tb:TS}{k:MK}{body:MX}{x:Nat}{ta:TA}{a:MA}{f:xU}
def zu{H₀ Hf₀ Hf:Hp}{S':AS}{σ:St}{o:Br}{D:wL}{Hf1 H1:Hp}{Fs1:List (List Addr)}{r:QU}{g:AV->Option Br}{Q:VK}(R2:pH K H₀ Hf₀ Hf1 S' σ H1 Fs1) (e:wm g r=some o) (s0:oX Hf Hf1)
  (q:Ft K H₀ Hf₀ Hf D E o) (hg:∀av,g av=some o->∀Hf' H' v F,oX Hf1 Hf'->pH K H₀ Hf₀ Hf' S' σ H' Fs1->pE K Hf' H' av v F->F.Nodup->(∀p∈F,H1 p=none)->Q v H'):W9 K Hf1 H1 Q E r:=by
 cases r with
 |ok av=>exact λHf' H' v F s1 s2 s3 l ra nd fr=>hg av e Hf' H' v F s1 (yN R2 s1 s2 s3 l) ra nd fr
 |ex c fs =>
  cases e;intro Hf' H' ex od s1 s2 s3 l rx;have R3:=yN R2 s1 s2 s3 l;exact q Hf' H' ex od R3.sf R3.fr R3.sub R3.lim rx
def FJ(ha:SA K ta a):K6 K E (Aa (wk (yi K f) [] E ta)) (CV f a):=by
 intro H₀ Hf₀ Hf S σ H Fs o R e D q;obtain⟨x,e1,e⟩:=oBq.mp e;obtain⟨r,e2,e⟩:=oBq.mp e;refine ha R (as:=x.1) (S':=x.2) e1 _ λHf1 H1 Fs1 vs Gs t1 R1 r1 o1=>?_
 obtain⟨R2,r2,t2⟩:=R1.gives t1 r1 o1;rw[aNq];exact⟨_,_,r,R2.sub,r2,e2,zu R2 e t2.sf q λav z Hf' H' v F s1 R' ra nd fr=>by cases z;exact q _ _ _ _ (t2.sf.trans s1) R'⟩
def VS{i:Nat}(ha:SA K ta a):K6 K E (Qb (wk (yi K f) [] E ta) (uA i)) (aaf i f a):=by
 intro H₀ Hf₀ Hf S σ H Fs o R e D q;obtain⟨x,e1,e⟩:=oBq.mp e;obtain⟨r,e2,e⟩:=oBq.mp e;refine ha R (as:=x.1) (S':=x.2) e1 _ λHf1 H1 Fs1 vs Gs t1 R1 r1 o1=>?_
 obtain⟨R2,r2,t2⟩:=R1.gives t1 r1 o1;rw[aNq];exact⟨_,_,r,R2.sub,r2,e2,zu R2 e t2.sf q λav z Hf' H' v F s1 R' ra nd fr=>by cases z;exact q _ _ _ _ (t2.sf.trans s1) (R'.set i ra nd λp hp=>⟨R2.fr.free (fr p hp),λm=>(R2.mem m).1 (fr p hp)⟩)⟩
def BO{cn:Str}{C M:Addr}(rf:Ref K cn C M):K6 K E (tRs E C (abJ K cn)) (CL cn):=by
 intro H₀ Hf₀ Hf S σ H Fs o R e D q;cases e;refine⟨C,M,rf,λex n1=>⟨ex,none,rfl,og,?_⟩⟩
 rw[CT];have nf1:Hf ex=none:=R.sub.free n1;refine q (pY Hf ex (E3 ex C none)) _ ex none (R.sf.trans (rh nf1)) (R.fr.trans (rh n1)) (λb o' z=>?_) (λb z1 z2=>?_) (.exc0 rf og)
 .by_cases hb:b=ex
  .subst hb;rw[og]at z ⊢;exact z
  .rw [nT hb]at z ⊢;exact R.sub b o' z
 .have h1:b≠ex:=λz=>z2 (by rw[z];exact R.fr.free n1)
  rw[nT h1];exact R.lim b z1 z2
noncomputable def ac8(c fld:Str) (S:AS):List D->Option (D×AS)
 | [.int n]=>some (.exc c [(fld,n)],S)
 |_=>none
def rMk(c fld:Str) (a:ML):ME:=λS=>(a S).bind λx=>ac8 c fld x.2 x.1
noncomputable def ac4(c f1 f2:Str) (S:AS):List D->Option (D×AS)
 | [.int n,.int m]=>some (.exc c [(f1,n),(f2,m)],S)
 |_=>none
def ae1(c f1 f2:Str) (a:ML):ME:=λS=>(a S).bind λx=>ac4 c f1 f2 x.2 x.1
noncomputable def aeS:D->D->Option D
 | .tup [.str u,.int i],.tup [.str v,.int j]=>some (.bl (decide (u=v/\i=j)))
 |_,_=>none
noncomputable def afg:D->D->Option D
 | .tup [.str u,.int i],.tup [.str v,.int j]=>some (.bl (!decide (u=v/\i=j)))
 |_,_=>none
end
def yu{X:Cx}{E:XK}{k:Nat}{f:Addr}{fd:jb}{ps:List Str}{x:Str}{p pos:Pos}{e:Expr}{es:List Expr}{t:TA}{st:Stmt}{g:xU}(G:IZ X.prog X.w X.K X.mg X.base k x st ps (yi X.K g) f fd) (hr:si k X.A) (hx:wA (UP X.prog X.w) X E) (ha:PA X (e::es) t) (hg:Gl X x:=by rfl) (hdb:(x == ("__debug__" : Str))=false:=by decide)
  (he:iY (e::es) X.env=(false,eval e X.env)::iY es X.env:=by rfl) (hpl:(jl pos (iY es X.env)).any (·.1)=false:=by rfl) :
  PE X (.Call (.Name x p) (e::es) [] pos) (wk (yi X.K g) [] E t):=ND G.ok hr hg G.D.m G.D.F.kp G.D.b .nil hx ha hdb he hpl
structure K2 (K:W.Frag) (mg:Str->Option Value) (cn:Str) (C M:Addr):Prop where
 c:XO K cn C
 xc:yj K cn C (.ref M::xE)=true
 base:(ai M::xE).contains (.type "BaseException")=true
 mgc:mg cn=some (.ref C)
 i:aa1 K mg cn C M
def Ni{K:W.Frag}{h:Heap}{mg:Str->Option Value}{c:Str}{C M:Addr}(X:K.In h) (G:h.Ns iV mg) (r:Ref K c C M) (ini:W.findIn K (.ref C) "__init__" = some (some (.builtin "ValueError.__init__"))) (kp:W.keepIn K (.ref C)=true):K2 K mg c C M :=
 ⟨⟨r.nm,.inl ⟨M,r⟩⟩,r.xc,Lm M,W.mg_of X G r.nm,⟨r,ini,kp,W.mg_of X G r.nm⟩⟩
def Si(g:AV->Option Br) (r:AV):wm g (.ok r)=g r:=rfl
def Ra(g:AV->Option Br) (c:Str) (fs:List (Str×Int)):wm g (.ex c fs)=some (.ex c fs):=rfl
def aao(S:AS) (f:xU) (a:MA):CV f a S=(a S).bind λx=>(f (x.1.map nR)).bind (wm λ_=>some (.ok (.nx x.2))):=rfl
def aaW(S:AS) (i:Nat) (f:xU) (a:MA):aaf i f a S=(a S).bind λx=>(f (x.1.map nR)).bind (wm λr=>some (.ok (.nx (x.2.set i (some r))))):=rfl
def TM(S:AS) (c:Str):CL c S=some (.ex c []):=rfl
def zq4:=aa @Si (aa @Ra (aa @aao (aa @aaW @TM)))
def Q7:D->Option Str
 | .str x=>some x
 |_=>none
noncomputable def acQ:D->List D->Option D
 | .str a,[.str b]=>some (.bl (Txt.startswith a b))
 |_,_=>none
noncomputable def aeY:D->D->Option D
 | .str i,.str j=>some (.bl (!(Builtin.Str.occurrences j i 0 j.length 1).isEmpty))
 |_,_=>none
noncomputable def acI:D->D->Option D
 | .str i,.str j=>some (.bl (!(!(Builtin.Str.occurrences j i 0 j.length 1).isEmpty)))
 |_,_=>none
noncomputable def xH(x y:D):Option D:=match y with
 | .non=>(match x with|.non=>some (.bl true)|.int _=>some (.bl false)|.str _=>some (.bl false)|.bl _=>some (.bl false)|.list _=>some (.bl false)|.tup _=>some (.bl false)|_=>none)
 |_=>none
def aez:List D->Option D
 | [.str x]=>(intText? x).bind λn=>we (x.length<=640) (some (.int n))
 |_=>none
noncomputable def acJ:D->List D->Option D
 | .str a,[.str b]=>((Builtin.Str.occurrences a b 0 a.length 1).head?).map λi=>.int (i:Nat)
 |_,_=>none
noncomputable def Nz:List D->Option (List Bool)
 | []=>some []
 | .bl b::ds=>(Nz ds).map (b :: ·)
 |_=>none
def afe:List D->Option D
 | [.list ds]=>(Nz ds).map λbs=>.bl (bs.all id)
 |_=>none
section
variable {K:W.Frag}
def yq:Ji K (λx y H Q=>y = .non/\Q (.bl (decide (x = .non))) H) xH:=by
 intro x y H Q dx dy d rx ry e q;unfold xH at e;cases ry <;> first|(cases e;done)|skip
 cases rx <;> first|(cases e;done)|(cases e;exact⟨rfl,q _ (by simpa using qY.bl)⟩)
def aeU(a:ME) (lo hi:MO):ME:=λS=>(a S).bind λx=>(lo x.2).bind λy=>(hi y.2).bind λz=>(Q7 x.1).bind λt=>we (t.length<=qP) (some (.str (Txt.slice t y.1 z.1),z.2))
def Wa:D->List D->Option (List Str)
 | .str a,[.str b]=>we ((b.length == 0)=false/\a.length<=qP/\(Builtin.Str.partsBetween a (Builtin.Str.occurrences a b 0 a.length (a.length+1)) b.length).length<=qP/\(Txt.split a b).length<=qP) (some (Txt.split a b))
 |_,_=>none
def adY(a:ME) (as:ML):MK:=λS=>(a S).bind λx=>(as x.2).bind λy=>(Wa x.1 y.1).map λws=>(.ow (ws.map λw=>.sh (.str w)),y.2)
noncomputable def XB(x:Str):List D:=x.cps.toList.map λc=>.str ⟨#[c]⟩
def iSg(a:ME):MI:=λS=>(a S).bind λx=>(Q7 x.1).map λt=>(XB t,x.2)
def aev(x:Nat) (a:ME) (body:MS):MS:=λS=>(a S).bind λy=>(Q7 y.1).bind λt=>tN x body (XB t) y.2
def MC(x y:Nat) (body:MX):Nat->List D->AS->Option Br
 |_,[],S=>some (.ok (.nx S))
 |i,d::ds,S=>(body ((S.set x (some (.sh (.int i)))).set y (some (.sh d)))).bind λo=>match o with
  | .ok (.nx S')=>MC x y body (i+1) ds S'
  | .ok (.ct S')=>MC x y body (i+1) ds S'
  | .ok (.bk S')=>some (.ok (.nx S'))
  | .ok (.rt a)=>some (.ok (.rt a))
  | .ex c fs=>some (.ex c fs)
def aeu(x y:Nat) (k:MK) (body:MX):MX:=λS=>(vx k S).bind λz=>(rW (nR z.1)).bind λds=>MC x y body 0 ds z.2
def C7{E:XK}{ta:TA}{a:MA}{f:xU}(ha:SA K ta a):K6 K E (Qu (wk (yi K f) [] E ta)) (JJ f a):=by
 intro H₀ Hf₀ Hf S σ H Fs o R e D q;obtain⟨x,e1,e⟩:=oBq.mp e;obtain⟨r,e2,e⟩:=oBq.mp e;refine ha R (as:=x.1) (S':=x.2) e1 _ λHf1 H1 Fs1 vs Gs t1 R1 r1 o1=>?_
 obtain⟨R2,r2,t2⟩:=R1.gives t1 r1 o1;rw[aNq];exact⟨_,_,r,R2.sub,r2,e2,zu R2 e t2.sf q λav z Hf' H' v F s1 R' ra nd fr=>by cases z;exact q _ _ _ _ R'.sf R'.fr R'.sub R'.lim ra nd λp hp=>R2.fr.free (fr p hp)⟩
end
def T4:xH .non .non=some (.bl true):=rfl
def KN(i:Int):xH (.int i) .non=some (.bl false):=rfl
def Jn(x:Str):xH (.str x) .non=some (.bl false):=rfl
def Pe(ds:List D):xH (.list ds) .non=some (.bl false):=rfl
def acz(S:AS) (f:xU) (a:MA):JJ f a S=(a S).bind λx=>(f (x.1.map nR)).bind (wm λr=>some (.ok (.rt r))):=rfl
def zq5:=aa @T4 (aa @KN (aa @Jn (aa @Pe @acz)))
def SM(K:W.Frag) (te:TE) (m:ME):Prop:=∀{H₀ Hf₀ Hf:Hp}{S:AS}{σ:St}{H:Hp}{Fs:List (List Addr)}{d:D}{S':AS},pH K H₀ Hf₀ Hf S σ H Fs->m S=some (d,S')->∀Q:VK,
 (∀Hf' H' Fs' v,oX Hf Hf'->pH K H₀ Hf₀ Hf' S' σ H' Fs'->qY K Hf' d v->Q v H')->te σ H Q
def Yj:AV->Option D
 | .sh d=>some d
 |_=>none
def SI{a:AV}{d:D}(h:Yj a=some d):a = .sh d:=by
 unfold Yj at h;split at h <;> cases h
 rfl
def Em(i:Nat) (b:ME):ME:=λS=>(qB S i).bind λ_=>(b S).bind λy=>(intOf y.1).bind λz=>(qB y.2 i).bind λavs=>we (0<=z/\z<avs.length/\avs.length<=qP) ((avs[z.toNat]?.bind Yj).map λd=>(d,y.2.set i (some (.ow (avs.eraseIdx z.toNat)))))
def GW(i:Nat):ME:=λS=>(qB S i).bind λavs=>(avs[avs.length-1]?.bind Yj).map λd=>(d,S.set i (some (.ow avs.dropLast)))
noncomputable def abQ(nV:List (pN×D)) (k:pN):List (pN×D):=nV.filter λkv=>decide (kv.1≠k)
def aeA(i:Nat) (b:ME):ME:=λS=>(xY S i).bind λ_=>(b S).bind λy=>(wW y.1).bind λkey=>(xY y.2 i).bind λnV=>(getD nV key).map λd=>(d,y.2.set i (some (.owd (abQ nV key))))
section
variable {K:W.Frag}
def oQ.erase{Hf H:Hp}{as:List AV}{vs:List V}{Gs:List (List Addr)}(r:oQ K Hf H as vs Gs) (k:Nat):oQ K Hf H (as.eraseIdx k) (vs.eraseIdx k) (Gs.eraseIdx k):=by
 obtain⟨h1,h2,h3⟩:=r;refine⟨by rw[dC,dC,h1],by rw[dC,dC,h2],λi b w G e1 e2 e3=>?_⟩
 rw[List.getElem?_eraseIdx]at e1 e2 e3;split at e1
 .rename_i q;rw[oJ q]at e2 e3;exact h3 i b w G e1 e2 e3
 .rename_i q;rw[oO q]at e2 e3;exact h3 (i+1) b w G e1 e2 e3
def K8{Gs:List (List Addr)}{k:Nat}(h:Gs[k]?=some []):(Gs.eraseIdx k).flatten=Gs.flatten:=by
 induction Gs generalizing k with
 |nil=>cases h
 |cons g r ih =>
  cases k with
  |zero =>
   simp at h;subst h;rfl
  |succ k =>
   rw[cx,fCq,fCq,ih (by simpa using h)]
def pH.lose{H₀ Hf₀ Hf H:Hp}{S:AS}{σ:St}{Fs:List (List Addr)}(R:pH K H₀ Hf₀ Hf S σ H Fs) {i k:Nat}{avs:List AV}{d:D}(h:S[i]?=some (some (.ow avs))) (hk:avs[k]?=some (.sh d)) :
  ∃p vs y F',σ[i]?=some (some (.ref p))/\H p=some (.lst vs)/\avs.length=vs.length/\vs[k]?=some y/\qY K Hf d y/\pH K H₀ Hf₀ Hf (S.set i (some (.ow (avs.eraseIdx k)))) σ (pY H p (.lst (vs.eraseIdx k))) (Fs.set i F'):=by
 obtain⟨p,vs,Gs,s1,s2,h1,h2,h3,h4,h5,h6⟩:=R.ow h;have lk:k<avs.length:=(gSq.mp hk).1;obtain⟨y,hy⟩:∃y,vs[k]?=some y:=⟨_,gEg (by rw[←h3.1];exact lk)⟩
 obtain⟨G,hG⟩:∃G,Gs[k]?=some G:=⟨_,gEg (by rw[←h3.2.1];exact lk)⟩
 obtain⟨hG0,ry⟩:=(h3.2.2 k _ _ _ hk hy hG).sh_inv;subst hG0;have hf:=K8 hG;refine⟨p,vs,y,p::(Gs.eraseIdx k).flatten,s1,h1,h3.1,hy,ry,R.turn s1 s2 (by simp) (pE.news og h2 ((h3.keepUpd h4).erase k)) ?_ ?_⟩
 .rw [hf];exact aK.mpr ⟨h4,h5⟩
 .rw [hf];exact h6
def UE{i:Nat}{tb:TE}{b:ME}(hb:SR K tb b):SM K (Nn K "list" Rk (uS i) (tM tb vL)) (Em i b):=by
 intro H₀ Hf₀ Hf S σ H Fs d S' R e Q q;obtain⟨a0,e0,e⟩:=oBq.mp e;obtain⟨y,e1,e⟩:=oBq.mp e;obtain⟨z,e2,e⟩:=oBq.mp e;obtain⟨avs,e3,e⟩:=oBq.mp e;rcases oZ e with ⟨⟨z0,z1,z2⟩,e⟩|e
 .obtain ⟨d',e4,e⟩:=oMq.mp e;cases e;obtain⟨a,e4,e5⟩:=oBq.mp e4;have e5:=SI e5;subst e5;obtain⟨p,vs,Gs,s1,_,h1,_⟩:=R.ow (pA e0);refine⟨.ref p,s1,.inl ⟨rfl,vs,rR.of h1⟩,hb R (d:=y.1) (S':=y.2) e1 _ λHf1 H1 Fs1 v t1 R1 r1=>?_⟩
  obtain⟨p',vs',w,F',s1',hp,hl,hw,rw',R2⟩:=R1.lose (pA e3) e4;rw[s1]at s1';cases s1';have hv:v = .int z:=by
   have:y.1 = .int z:=by
    revert e2
    unfold intOf;split <;> intro e2 <;> cases e2
    assumption
   rw[this]at r1;cases r1;rfl
  subst hv;have hz:(avs.length:Int)<=16777216:=by
   have:avs.length<=16777216:=z2;lia
  refine⟨p,vs',z,z.toNat,w,rfl,rfl,hp,by lia,by lia,?_,hw,q _ _ _ _ t1.sf R2 rw'⟩
  rw[←hl];unfold lX;have n1:¬ z<0:=by lia
  have n2:(decide (0<=z) && decide (z<(avs.length:Int)))=true:=by
   rw[decide_eq_true z0,decide_eq_true z1];rfl
  simp only[n1,if_false];exact oJ n2
 .cases e
def ZL{i:Nat}:SM K (Nn K "list" X2 (uS i) vL) (GW i):=by
 intro H₀ Hf₀ Hf S σ H Fs d S' R e Q q;obtain⟨avs,e0,e⟩:=oBq.mp e;obtain⟨d',e4,e⟩:=oMq.mp e;cases e;obtain⟨a,e4,e5⟩:=oBq.mp e4;have e5:=SI e5;subst e5;obtain⟨p,vs,w,F',s1,hp,hl,hw,rw',R2⟩:=R.lose (pA e0) e4;refine⟨.ref p,s1,.inl ⟨rfl,vs,rR.of hp⟩,p,vs,w,rfl,rfl,hp,by rw[←hl];exact hw,?_⟩
 rw[Ce,hl,Ce]at R2;exact q _ _ _ _ (.refl _) R2 rw'
def abT(i:Nat) (m:ME):MS:=λS=>(m S).map λx=>.nx (x.2.set i (some (.sh x.1)))
def aea(i:Nat) (m:ME):MS:=λS=>(qB S i).bind λ_=>(m S).bind λx=>(qB x.2 i).bind λavs=>we (avs.length<qP) (some (.nx (x.2.set i (some (.ow (avs++[.sh x.1]))))))
def adU(i:Nat) (b:ME) (m:ME):MS:=λS=>(m S).bind λx=>(xY x.2 i).bind λ_=>(b x.2).bind λy=>(xY y.2 i).bind λnV=>(wW y.1).bind λkey =>
 we (nV.length<qP) (some (.nx (y.2.set i (some (.owd (EG nV key x.1))))))
end
def Zg(d:D):Yj (.sh d)=some d:=rfl
def QS(S:AS) (i:Nat) (b:ME):Em i b S=(qB S i).bind λ_=>(b S).bind λy=>(intOf y.1).bind λz=>(qB y.2 i).bind λavs=>we (0<=z/\z<avs.length/\avs.length<=qP) ((avs[z.toNat]?.bind Yj).map λd=>(d,y.2.set i (some (.ow (avs.eraseIdx z.toNat))))):=rfl
def Yl(S:AS) (i:Nat):GW i S=(qB S i).bind λavs=>(avs[avs.length-1]?.bind Yj).map λd=>(d,S.set i (some (.ow avs.dropLast))):=rfl
def zq6:=aa @Zg (aa @QS @Yl)
def PQ(x y:D):Option D:=match x with
 | .tup _=>Yt x y
 |_=>Bu x y
def Rg:MF:=λ_=>none
def afs(i:Nat) (b:ME) (k:MK):MS:=λS=>(qB S i).bind λ_=>(b S).bind λy=>(intOf y.1).bind λz=>(vx k y.2).bind λx=>(qB x.2 i).bind λavs=>we (0<=z/\z<=avs.length/\avs.length<qP) (some (.nx (x.2.set i (some (.ow (avs.take z.toNat++x.1::avs.drop z.toNat))))))
section
variable {K:W.Frag}
def Se:Ji K (λx y H Q=>RV K x y H Q∨Yv K x y H Q) PQ:=by
 intro x y H Q dx dy d rx ry e q;unfold PQ at e;split at e
 .exact .inr (Ye rx ry e q)
 .exact .inl (vz rx ry e q)
def Vz{P:iW}{w:iZ}{mg:Str->Option Value}{base:Heap}{k:Nat}{x:Str}{st:Stmt}{ps:List Str}{f:Addr}{fd:jb}(D:xP K mg x st ps f fd):Fn P w K mg base k x st ps (oY K Rg) f fd :=
 ⟨D,⟨λvs H Q E h=>(by obtain⟨Hf,ds,a,s,r,e,q⟩:=h;cases e),λA outer s H args us vs Q E _ _ _ _ h=>(by obtain⟨Hf,ds,a,s,r,e,q⟩:=h;cases e)⟩⟩
def oQ.ins{Hf H:Hp}{as:List AV}{vs:List V}{Gs:List (List Addr)}{d:D}{v:V}(r:oQ K Hf H as vs Gs) (rv:qY K Hf d v) (n:Nat) (hn:n<=as.length):oQ K Hf H (as.take n ++ .sh d::as.drop n) (vs.take n++v::vs.drop n) (Gs.take n++[]::Gs.drop n):=by
 obtain⟨h1,h2,h3⟩:=r;have e1:(as.take n).length=n:=by rw[lTq];lia
 have e2:(vs.take n).length=n:=by rw[lTq];lia
 have e3:(Gs.take n).length=n:=by rw[lTq];lia
 refine⟨by simp[h1],by simp[h2],λi b w G g1 g2 g3=>?_⟩
 by_cases hi:i<n
 .rw [gZq (by lia),bw hi]at g1
  rw[gZq (by lia),bw hi]at g2
  rw[gZq (by lia),bw hi]at g3
  exact h3 i b w G g1 g2 g3
 .rw [gYq (by lia),e1]at g1
  rw[gYq (by lia),e2]at g2
  rw[gYq (by lia),e3]at g3
  cases hj:i-n with
  |zero =>
   rw[hj]at g1 g2 g3;simp at g1 g2 g3;subst g1;subst g2;subst g3;exact .sh rv
  |succ j =>
   rw[hj,List.getElem?_cons_succ,cI]at g1 g2 g3;exact h3 (n+j) b w G g1 g2 g3
end
def PK(ds:List D) (i:Int):PQ (.list ds) (.int i)=atI ds i:=rfl
def TK(ds:List D) (i:Int):PQ (.tup ds) (.int i)=atI ds i:=rfl
def zq7:=aa @PK @TK
noncomputable def NW:D->String->Option D
 | .int _,T=>if T = "list" ∨ T = "tuple" ∨ T = "str" then some (.bl false) else none
 | .str _,T=>if T = "list" ∨ T = "tuple" then some (.bl false) else none
 | .non,T=>if T = "list" ∨ T = "tuple" then some (.bl false) else none
 | .list _,T=>if T = "tuple" then some (.bl false) else none
 | .tup _,T=>if T = "list" then some (.bl false) else none
 |_,_=>none
def B8:List D->Option D
 | [x,.ty T]=>NW x T
 |_=>none
def tQ(ds:List D):Option D:=match BV ds with
 |some d=>some d
 |none=>B8 ds
section
variable {K:W.Frag}
def Z2:Xw K (λxs H Q=>∃x T,xs=[x,.ty T]/\ZV K x H T/\Q (.bl false) H) B8:=by
 intro vs H Q ds d r e q;unfold B8 at e;split at e
 rotate_left
 .cases e
 rename_i x T;obtain⟨v,ws,rfl,h1,h2⟩:=r.cons_inv;obtain⟨u,zs,rfl,h3,h4⟩:=h2.cons_inv;rw[h4.nil_inv];cases h3;unfold NW at e;cases x <;> first|(cases e;done)|dsimp only at e
 all_goals
  split at e
  rotate_left
  .cases e
  rename_i hT;cases e
 .cases h1;exact⟨_,_,rfl,hT,q _ .bl⟩
 .cases h1;exact⟨_,_,rfl,hT,q _ .bl⟩
 .cases h1;exact⟨_,_,rfl,hT,q _ .bl⟩
 .obtain ⟨p,xs,rfl,h,_⟩:=h1.list_inv;exact⟨_,_,rfl,.inl ⟨hT,xs,rR.of h⟩,q _ .bl⟩
 .obtain ⟨p,xs,rfl,h,_⟩:=h1.tup_inv;exact⟨_,_,rfl,.inr ⟨hT,xs,Gm.of h⟩,q _ .bl⟩
def yt:Xw K (λxs H Q=>(∃x T b,xs=[x,.ty T]/\Zj K x H T b/\Q (.bl b) H)∨∃x T,xs=[x,.ty T]/\ZV K x H T/\Q (.bl false) H) tQ:=by
 intro vs H Q ds d r e q;unfold tQ at e;split at e
 .rename_i e';cases e;exact .inl (X9 r e' q)
 .exact .inr (Z2 r e q)
end
def aam(ds:List D):tQ [.list ds,.ty "list"]=some (.bl true):=by simp[tQ,BV,B8,NT,NW]
def aal(ds:List D):tQ [.list ds,.ty "tuple"]=some (.bl false):=by simp[tQ,BV,B8,NT,NW]
def Yh(ds:List D):tQ [.tup ds,.ty "list"]=some (.bl false):=by simp[tQ,BV,B8,NT,NW]
def YA(ds:List D):tQ [.tup ds,.ty "tuple"]=some (.bl true):=by simp[tQ,BV,B8,NT,NW]
def Zw(x:Str):tQ [.str x,.ty "list"]=some (.bl false):=by simp[tQ,BV,B8,NT,NW]
def Y0(x:Str):tQ [.str x,.ty "tuple"]=some (.bl false):=by simp[tQ,BV,B8,NT,NW]
def YY(x:Str):tQ [.str x,.ty "str"]=some (.bl true):=by simp[tQ,BV,B8,NT,NW]
def ZY(i:Int):tQ [.int i,.ty "list"]=some (.bl false):=by simp[tQ,BV,B8,NT,NW]
def Yq(i:Int):tQ [.int i,.ty "tuple"]=some (.bl false):=by simp[tQ,BV,B8,NT,NW]
def ZN(i:Int):tQ [.int i,.ty "str"]=some (.bl false):=by simp[tQ,BV,B8,NT,NW]
def aaj(i:Int):tQ [.int i,.ty "int"]=some (.bl true):=by simp[tQ,BV,B8,NT,NW]
def ZE(i:Int):tQ [.int i,.ty "bool"]=some (.bl false):=by simp[tQ,BV,B8,NT,NW]
def zq8:=aa @aam (aa @aal (aa @Yh (aa @YA (aa @Zw (aa @Y0 (aa @YY (aa @ZY (aa @Yq (aa @ZN (aa @aaj @ZE))))))))))
section
variable {K:W.Frag}{H₀ Hf₀ Hf H:Hp}{S:AS}{σ:St}{Fs:List (List Addr)}{te tb:TE}{k:MK}{b:ME}
def YI(b:ME) (k:MK):MK:=λS=>(b S).bind λy=>(vx k y.2).bind λx=>(wW y.1).map λkey=>(.owd [(key,nR x.1)],x.2)
def Ww{i:Nat}:SM K (abh K "list" X2 (uS i)) (GW i):=ZL
noncomputable def XE:List (pN×D)->Option (List Int)
 | []=>some []
 | (.inl i,_)::r=>(XE r).map (i :: ·)
 |_=>none
def Yk(a:ME):MK:=λS=>(a S).bind λx=>match x.1 with
 | .dict nV=>(XE nV).map λns=>(.ow ((By ns).map λn=>.sh (.int n)),x.2)
 |_=>none
end
noncomputable def T8:D->Option V
 | .non=>some .non
 | .bl b=>some (.bl b)
 | .int i=>some (.int i)
 | .str s=>some (.str s)
 |_=>none
def Dt:List D->Option (List V)
 | []=>some []
 |d::ds=>(T8 d).bind λv=>(Dt ds).map (v :: ·)
noncomputable def aae:D->Option (List D)
 | .list ds=>some ds
 | .tup ds=>some ds
 |_=>none
def JF(neg:Bool) (x y:D):Option D:=(T8 x).bind λv=>(aae y).bind λds=>(Dt ds).map λvs=>.bl (if neg then !inV v vs else inV v vs)
section
variable {K:W.Frag}{te:TE}
def G7{H:Hp}{d:D}{v w:V}(e:T8 d=some v) (r:qY K H d w):w=v/\BC v=true:=by
 cases d <;> first|(cases e;cases r;exact⟨rfl,rfl⟩)|cases e
theorem Ax{H:Hp}:∀{ds:List D}{vs ws:List V},Dt ds=some vs->qe K H ds ws->ws=vs/\vs.all BC=true
 | [],vs,ws,e,r=>by
  cases e;exact⟨r.nil_inv,rfl⟩
 |d::ds,vs,ws,e,r=>by
  obtain⟨v,e1,e⟩:=oBq.mp e;obtain⟨us,e2,rfl⟩:=oMq.mp e;obtain⟨w,ws',rfl,r1,r2⟩:=r.cons_inv;obtain⟨rfl,f1⟩:=G7 e1 r1;obtain⟨rfl,f2⟩:=Ax e2 r2;exact⟨rfl,by rw[gw,f1,f2];rfl⟩
def Fp(neg:Bool):Ji K (rIn K neg) (JF neg):=by
 intro x y H Q dx dy d rx ry e q;obtain⟨v,e1,e⟩:=oBq.mp e;obtain⟨ds,e2,e⟩:=oBq.mp e;obtain⟨vs,e3,e⟩:=oMq.mp e;subst e;obtain⟨rfl,f1⟩:=G7 e1 rx;cases dy with
 |list xs =>
  cases e2;obtain⟨p,us,rfl,h1,h2⟩:=ry.list_inv;obtain⟨rfl,f2⟩:=Ax e3 h2;exact⟨p,us,rfl,.inl (rR.of h1),f1,f2,q _ .bl⟩
 |tup xs =>
  cases e2;obtain⟨p,us,rfl,h1,h2⟩:=ry.tup_inv;obtain⟨rfl,f2⟩:=Ax e3 h2;exact⟨p,us,rfl,.inr (Gm.of h1),f1,f2,q _ .bl⟩
 |_=>cases e2
end
def Kj(ns:List Int):Dt (ns.map D.int)=some (ns.map V.int):=by
 induction ns with
 |nil=>rfl
 |cons n ns ih=>rw[aw,Dt,ih];rfl
def R6(i:Int) (ns:List Int):inV (.int i) (ns.map V.int)=decide (i∈ns):=by
 unfold inV
 induction ns with
 |nil=>rfl
 |cons n ns ih =>
  rw[aw,cU,ih];show (n == i || decide (i∈ns))=_
  by_cases h:i=n
  .subst h;simp
  .have h':¬ n=i:=λz=>h z.symm
   simp[h,h']
def QT(neg:Bool) (i:Int) (ns:List Int):JF neg (.int i) (.list (ns.map D.int))=some (.bl (if neg then !decide (i∈ns) else decide (i∈ns))):=by
 show (Dt (ns.map D.int)).map _=_;rw[Kj,cT,R6]
noncomputable def Jh(tf:MT) (te:MK) (cap:AS):List (D×D)->Option (List AV)
 | []=>some []
 |d::ds=>(tf (some (.sh d.1)::some (.sh d.2)::cap)).bind λb=>if b.1=true then (te b.2).bind λa=>(Jh tf te cap ds).map (a.1 :: ·) else Jh tf te cap ds
noncomputable def XG:Nat->List D->List (D×D)
 |_,[]=>[]
 |n,d::ds=>(.int (n:Int),d)::XG (n+1) ds
def adQ(k:MK) (fr:List Nat) (tf:MT) (te:MK):MK:=λS=>(vx k S).bind λy=>(rW (nR y.1)).bind λds=>(fzAll fr y.2).bind λS2=>(GI S2 fr).bind λcap=>we (ds.length<=qP) ((Jh tf te cap (XG 0 ds)).map λavs=>(.ow avs,S2))
def zqb:=@QT
section
variable {K:W.Frag}{H₀ Hf₀ Hf Hf' H H':Hp}{S S':AS}{σ σ':St}{Fs Fs':List (List Addr)}
theorem G9.same(s:oX H H'):∀{path:List Nat}{v w:V},G9 H v path w->G9 H' v path w
 | [],v,w,h=>h
 |j::js,v,w,⟨p,vs,u,h1,h2,h3,h4⟩=>⟨p,vs,u,h1,s _ _ h2,h3,G9.same s h4⟩
theorem G9.one:∀{path:List Nat}{v w w':V},G9 H v path w->G9 H v path w'->w=w'
 | [],v,w,w',h,h'=>h.symm.trans h'
 |j::js,v,w,w',⟨p,vs,u,h1,h2,h3,h4⟩,⟨p',vs',u',g1,g2,g3,g4⟩=>by
  rw[h1]at g1;cases g1;rw[h2]at g2;cases g2;rw[h3]at g3;cases g3;exact h4.one g4
theorem G9.snoc:∀{path:List Nat}{v:V}{p:Addr}{vs:List V}{n:Nat}{u:V},G9 H v path (.ref p)->H p=some (.lst vs)->vs[n]?=some u->G9 H v (path++[n]) u
 | [],v,p,vs,n,u,h,h1,h2=>⟨p,vs,u,h,h1,h2,rfl⟩
 |j::js,v,p,vs,n,u,⟨p',vs',u',g1,g2,g3,g4⟩,h1,h2=>⟨p',vs',u',g1,g2,g3,g4.snoc h1 h2⟩
theorem G9.kept:∀{path:List Nat}{av:AV}{v w:V}{F:List Addr}{as:List AV},pE K Hf H av v F->pe av path=some as->G9 H v path w->(∀q∈F,H' q=H q)->G9 H' v path w
 | [],av,v,w,F,as,_,_,h,_=>h
 |j::js,av,v,w,F,as,r,e,⟨p,vs,u,h1,h2,h3,h4⟩,hk=>by
  cases av with
  |ow avs =>
   obtain⟨p',vs',Gs,e1,e2,e3,e4,e5⟩:=r.ow_inv;rw[h1]at e1;cases e1;rw[h2]at e3;cases e3;obtain⟨a,ea,e⟩:=oBq.mp (show (avs[j]?).bind (λa=>pe a js)=some as from e)
   have hj:j<avs.length:=(gSq.mp ea).1;have hG:=gEg (e5.2.1 ▸ hj);have rj:=e5.2.2 j a u _ ea h3 hG;refine⟨p,vs,u,h1,by rw[hk p (by rw[e2];simp)];exact h2,h3,h4.kept rj e λq hq=>hk q ?_⟩
   rw[e2];exact mCo _ (ql hG hq)
  |_=>cases e
def frm(H₀ H:Hp) (F:List Addr):Hp:=λb=>if b∈F then H b else H₀ b
def IW{F:List Addr}{b:Addr}(h:b∈F):frm H₀ H F b=H b:=oJ h
def Bb{F:List Addr}{b:Addr}(h:b∉F):frm H₀ H F b=H₀ b:=oO h
def pH.frame(R:pH K H₀ Hf₀ Hf S σ H Fs) {i:Nat}{F:List Addr}(s2:Fs[i]?=some F):pH K (frm H₀ H F) Hf₀ Hf (S.set i none) σ H (Fs.set i []):=by
 have R1:=R.kill i;have hF:∀q∈F,q∈Fs.flatten:=λq hq=>ql s2 hq
 refine⟨R1.len,R1.lenF,R1.rep,R1.emp,R1.nd,λp hp=>?_,R1.sub,λb u e=>?_,λb h1 h2=>?_,R1.sf⟩
 .have hn:p∉F:=λz=>uV R.nd s2 z hp
  rw[Bb hn];exact R1.fresh p hp
 .by_cases hb:b∈F
  .rw [IW hb]at e;exact e
  .rw [Bb hb]at e;exact R.fr b u e
 .by_cases hb:b∈F
  .exact (R.mem (hF b hb)).2
  .rw [Bb hb]at h2;exact R.lim b h1 h2
def LY{α:Type}{l:List α}{i:Nat}{a:α}(h:l[i]?=some a):l.set i a=l:=by
 obtain⟨hk,ev⟩:=gSq.mp h;rw[←ev];exact eN hk
def pH.unframe(R:pH K H₀ Hf₀ Hf S σ H Fs) {i:Nat}{av:AV}{v:V}{F:List Addr}(s2:Fs[i]?=some F) (r:pE K Hf H av v F) (nd:F.Nodup) (h0:∀q∈F,H₀ q=none)
  (R':pH K (frm H₀ H F) Hf₀ Hf' S' σ' H' Fs') (e':S'[i]?=some none) (s1:σ'[i]?=some (some v)) (sf:oX Hf Hf') :
  (∀q∈F,H' q=H q)/\pE K Hf' H' av v F/\pH K H₀ Hf₀ Hf' (S'.set i (some av)) σ' H' (Fs'.set i F):=by
 have hk:∀q∈F,H' q=H q:=λq hq=>by
  have hn:=(R.mem (ql s2 hq)).1;cases hu:H q with
  |none=>exact absurd hu hn
  |some u=>exact R'.fr q u (by rw[IW hq];exact hu)
 have hf:∀q∈F,Hf' q=none:=λq hq=>by
  have hm:=R.mem (ql s2 hq);refine R'.lim q ?_ (by rw[IW hq];exact hm.1)
  cases hz:Hf₀ q with
  |none=>rfl
  |some u=>rw[R.sf q u hz]at hm;exact absurd hm.2 (by simp)
 have r':=r.keep sf hk hf;refine⟨hk,r',?_⟩;have R1:pH K H₀ Hf₀ Hf' (S'.set i none) σ' H' (Fs'.set i []):=by
  rw[LY e',LY (R'.emp i e')];refine⟨R'.len,R'.lenF,R'.rep,R'.emp,R'.nd,λp hp=>?_,R'.sub,λb u e=>?_,λb h1 h2=>?_,R'.sf⟩
  .have:=R'.fresh p hp
   by_cases hb:p∈F
   .exact h0 p hb
   .rwa [Bb hb]at this
  .refine R'.fr b u ?_;rw[Bb λz=>by rw[h0 b z]at e;cases e]
   exact e
  .refine R'.lim b h1 ?_;rw[Bb λz=>h2 (h0 b z)]
   exact h2
 refine R1.again (F:=F) s1 r' nd λq hq=>⟨h0 q hq,λm=>?_⟩
 rw[LY (R'.emp i e')]at m;have:=R'.fresh q m;rw[IW hq]at this;exact(R.mem (ql s2 hq)).1 this
end
abbrev MP:=AS->Option (List Nat×AS)
def GN(i:Nat):MP:=λS=>(qB S i).map λ_=>([],S)
def Pl(i:Nat) (pf:MP) (b:ME):MP:=λS=>(pf S).bind λx=>(b x.2).bind λy=>(intOf y.1).bind λj=>(qB y.2 i).bind λavs=>(pe (.ow avs) x.1).bind λas=>(Hk as.length j).map λn=>(x.1++[n],y.2)
def SPh(K:W.Frag) (i:Nat) (te:TE) (pf:MP):Prop:=∀{H₀ Hf₀ Hf:Hp}{S:AS}{σ:St}{H:Hp}{Fs:List (List Addr)}{path:List Nat}{S':AS},pH K H₀ Hf₀ Hf S σ H Fs->pf S=some (path,S')->∀Q:VK,
 (∀Hf' H' Fs' v w,Bs Hf H Fs Hf' H' Fs'->pH K H₀ Hf₀ Hf' S' σ H' Fs'->σ[i]?=some (some v)->G9 H' v path w->Q w H')->te σ H Q
section
variable {K:W.Frag}
def Bm(i:Nat):SPh K i (uS i) (GN i):=by
 intro H₀ Hf₀ Hf S σ H Fs path S' R e Q q;obtain⟨avs,e1,e⟩:=oMq.mp e;cases e;obtain⟨p,vs,Gs,s1,_⟩:=R.ow (pA e1);exact⟨_,s1,q _ _ _ _ _ .refl R s1 rfl⟩
def zJ{H₀ Hf₀ Hf H:Hp}{S:AS}{σ:St}{Fs:List (List Addr)}{i:Nat}{avs as:List AV}{path:List Nat}{v w:V}(R:pH K H₀ Hf₀ Hf S σ H Fs) (e:S[i]?=some (some (.ow avs))) (s1:σ[i]?=some (some v)) (en:pe (.ow avs) path=some as) (h:G9 H v path w) :
  ∃p vs,w = .ref p/\H p=some (.lst vs)/\vs.length=as.length:=by
 obtain⟨v',F,t1,t2,r,nd,_⟩:=R.move e;rw[s1]at t1;cases t1;obtain⟨p,vs,Gs,g1,g2,g3,g4,_⟩:=r.path nd en;exact⟨p,vs,h.one g1,g2,g4.1.symm⟩
def AH{i:Nat}{te tb:TE}{pf:MP}{b:ME}(hp:SPh K i te pf) (hb:SR K tb b):SPh K i (WW (RV K) te tb) (Pl i pf b):=by
 intro H₀ Hf₀ Hf S σ H Fs path S' R e Q q;obtain⟨x,e1,e⟩:=oBq.mp e;obtain⟨y,e2,e⟩:=oBq.mp e;obtain⟨j,e3,e⟩:=oBq.mp e;obtain⟨avs,e4,e⟩:=oBq.mp e;obtain⟨as,e5,e⟩:=oBq.mp e;obtain⟨n,e6,e⟩:=oMq.mp e;cases e;refine hp R (path:=x.1) (S':=x.2) e1 _ λHf1 H1 Fs1 v w t1 R1 s1 a1=>hb R1 (d:=y.1) (S':=y.2) e2 _ λHf2 H2 Fs2 u t2 R2 r2=>?_
 have hy:y.1 = .int j:=by
  cases hx:y.1 <;> rw[hx]at e3 <;> first|(cases e3;rfl)|cases e3
 rw[hy]at r2;cases r2;have a2:=a1.same t2.sh;obtain⟨p,vs,rfl,h1,h2⟩:=zJ R2 (pA e4) s1 e5 a2;have hix:=e6;obtain⟨_,hn,_⟩:=Nc e6;have hn':n<vs.length:=by rw[h2];exact hn
 obtain⟨u,hv⟩:∃u,vs[n]?=some u:=⟨_,gEg hn'⟩;refine⟨p,vs,j,u,rfl,rfl,rR.of h1,?_,q _ _ _ v _ (t1.trans t2) R2 s1 (a2.snoc h1 hv)⟩;unfold atI;rw[h2,e6];exact hv
end
section
variable {K:W.Frag}
def pH.grow{H₀ Hf₀ Hf H:Hp}{S:AS}{σ:St}{Fs:List (List Addr)}{i:Nat}{avs as:List AV}{path:List Nat}{v:V}{p:Addr}(R:pH K H₀ Hf₀ Hf S σ H Fs) (e:S[i]?=some (some (.ow avs))) (s1:σ[i]?=some (some v)) (en:pe (.ow avs) path=some as) (h:G9 H v path (.ref p)) :
  ∃vs,H p=some (.lst vs)/\as.length=vs.length/\∀(bs:List AV) (ws:List V) (Gs:List (List Addr)),oQ K Hf H bs ws Gs->Gs.flatten.Nodup->(∀q∈Gs.flatten,H₀ q=none/\q∉Fs.flatten) ->
   ∃Fs',pH K H₀ Hf₀ Hf (S.set i (some (putAt (.ow avs) path (as++bs)))) σ (pY H p (.lst (vs++ws))) Fs':=by
 obtain⟨v',F,t1,t2,r,nd,oo,_⟩:=R.move e;rw[s1]at t1;cases t1;obtain⟨p',vs,Es,g1,g2,g3,g4,g5,g6,g6',g7,g8⟩:=r.path nd en;have hpp:V.ref p=V.ref p':=h.one g1;cases hpp;refine⟨vs,g2,g4.1,λbs ws Gs rb nG oG=>?_⟩
 have pG:p∉Gs.flatten:=λm=>(oG p m).2 (ql t2 g5)
 have hfl:(Es++Gs).flatten=Es.flatten++Gs.flatten:=fAq;obtain⟨F',k1,k2,k3⟩:=g8 (as++bs) (vs++ws) (Es++Gs) ((g4.keepUpd g6).append (rb.keepUpd pG)) (by
  rw[hfl];refine aK.mpr ⟨λm=>(mAq.mp m).elim g6 pG,nAq.mpr ⟨g6',nG,λa ha b hb z=>(oG b hb).2 (ql t2 (g7 b (z ▸ ha)))⟩⟩) (λq hq=>by
  rw[hfl]at hq;exact(mAq.mp hq).imp id λm z=>(oG q m).2 (ql t2 z))
 refine⟨_,R.turnAny s1 t2 g5 k1 k2 λq hq=>?_⟩
 rcases k3 q hq with z|z
 .exact oo q z
 .rw [hfl]at z;rcases mAq.mp z with z|z
  .exact oo q (g7 q z)
  .exact ⟨(oG q z).1,λm=>(oG q z).2 (qu m)⟩
def Hw(i:Nat) (pf:MP) (k:MK):MS:=λS=>(pf S).bind λx=>(qB x.2 i).bind λa0=>(pe (.ow a0) x.1).bind λ_=>(k x.2).bind λy=>(qB y.2 i).bind λavs=>(pe (.ow avs) x.1).bind λas=>we (as.length<qP) (some (.nx (y.2.set i (some (putAt (.ow avs) x.1 (as++[y.1]))))))
def IL{i:Nat}{tp te:TE}{pf:MP}{k:MK}(hp:SPh K i tp pf) (hk:SK K te k):SS K (Aa (Nn K "list" Df tp (tM te vL))) (Hw i pf k):=by
 intro H₀ Hf₀ Hf S σ H Fs o R e D h;obtain⟨x,e1,e⟩:=oBq.mp e;obtain⟨a0,e2,e⟩:=oBq.mp e;obtain⟨n0,e3,e⟩:=oBq.mp e;obtain⟨y,e4,e⟩:=oBq.mp e;obtain⟨avs,e5,e⟩:=oBq.mp e;obtain⟨as,e6,e⟩:=oBq.mp e;rcases oZ e with ⟨hl,e⟩|e
 .cases e;refine hp R (path:=x.1) (S':=x.2) e1 _ λHf1 H1 Fs1 v w t1 R1 s1 a1=>?_
  obtain⟨p,vs,rfl,h1,h2⟩:=zJ R1 (pA e2) s1 e3 a1;refine⟨.inl ⟨rfl,vs,rR.of h1⟩,hk R1 (a:=y.1) (S':=y.2) e4 _ λHf2 H2 Fs2 u F t2 R2 r2 o2=>?_⟩
  obtain⟨vs',g1,g2,g3⟩:=R2.grow (pA e5) s1 e6 (a1.same t2.sh);obtain⟨Fs',R3⟩:=g3 [y.1] [u] [F] (oQ.nil.snoc r2) (by rw[aO];exact o2.nd) (λq hq=>by rw[aO]at hq;exact⟨o2.fr q hq,o2.out q hq⟩)
  exact⟨p,vs',u,rfl,rfl,g1,by rw[uY,←g2];exact hl,h _ _ _ _ (t1.sf.trans t2.sf) R3⟩
 .cases e
def RY(i:Nat) (pf:MP) (l:ML):MS:=λS=>(pf S).bind λx=>(qB x.2 i).bind λa0=>(pe (.ow a0) x.1).bind λ_=>(l x.2).bind λy=>(qB y.2 i).bind λavs=>(pe (.ow avs) x.1).bind λas=>we (as.length+y.1.length<=qP) (some (.nx (y.2.set i (some (putAt (.ow avs) x.1 (as++y.1.map .sh))))))
def VR{i:Nat}{tp te:TE}{pf:MP}{l:ML}(hp:SPh K i tp pf) (hk:SL K te l):SS K (Aa (Nn K "list" EF tp (tM te vL))) (RY i pf l):=by
 intro H₀ Hf₀ Hf S σ H Fs o R e D h;obtain⟨x,e1,e⟩:=oBq.mp e;obtain⟨a0,e2,e⟩:=oBq.mp e;obtain⟨n0,e3,e⟩:=oBq.mp e;obtain⟨y,e4,e⟩:=oBq.mp e;obtain⟨avs,e5,e⟩:=oBq.mp e;obtain⟨as,e6,e⟩:=oBq.mp e;rcases oZ e with ⟨hl,e⟩|e
 .cases e;refine hp R (path:=x.1) (S':=x.2) e1 _ λHf1 H1 Fs1 v w t1 R1 s1 a1=>?_
  obtain⟨p,vs,rfl,h1,h2⟩:=zJ R1 (pA e2) s1 e3 a1;refine⟨.inl ⟨rfl,vs,rR.of h1⟩,hk R1 (ds:=y.1) (S':=y.2) e4 _ λHf2 H2 Fs2 b ws t2 R2 hb r2=>?_⟩
  obtain⟨vs',g1,g2,g3⟩:=R2.grow (pA e5) s1 e6 (a1.same t2.sh);obtain⟨Fs',R3⟩:=g3 (y.1.map .sh) ws (aD y.1.length []) (Hz r2) (by rw[rm];exact aT) (λq hq=>by rw[rm]at hq;cases hq)
  exact⟨p,b,vs',ws,rfl,rfl,g1,hb,by rw[uY,←g2,←r2.1];exact hl,h _ _ _ _ (t1.sf.trans t2.sf) R3⟩
 .cases e
def Als(x i:Nat) (path:List Nat) (S:AS) (σ:St) (H:Hp):Prop:=∃v p avs as,S[i]?=some (some (.ow avs))/\pe (.ow avs) path=some as/\σ[x]?=some (some (.ref p))/\σ[i]?=some (some v)/\G9 H v path (.ref p)
def Qn(K:W.Frag) (x i:Nat) (t:TS) (m:List Nat->MS):Prop:=∀{path:List Nat}{H₀ Hf₀ Hf:Hp}{S:AS}{σ:St}{H:Hp}{Fs:List (List Addr)}{o:Gq},pH K H₀ Hf₀ Hf S σ H Fs->Als x i path S σ H->m path S=some o->∀D:wL,C9 K H₀ Hf₀ Hf D o->t D σ H
def RA(x i:Nat) (pf:MP) (m:List Nat->MS):MS:=λS=>(pf S).bind λy=>(qB y.2 i).bind λavs=>(pe (.ow avs) y.1).bind λ_=>we (x≠i/\x<y.2.length) (m y.1 (y.2.set x none))
def Ti{x i:Nat}{te:TE}{pf:MP}{t:TS}{m:List Nat->MS}(hp:SPh K i te pf) (hm:Qn K x i t m):SS K (Ik (Qb te (uA x)) t) (RA x i pf m):=by
 intro H₀ Hf₀ Hf S σ H Fs o R e D h;obtain⟨y,e1,e⟩:=oBq.mp e;obtain⟨avs,e2,e⟩:=oBq.mp e;obtain⟨as,e3,e⟩:=oBq.mp e;rcases oZ e with ⟨⟨hne,hlt⟩,e⟩|e
 .refine hp R (path:=y.1) (S':=y.2) e1 _ λHf1 H1 Fs1 v w t1 R1 s1 a1=>?_
  obtain⟨p,vs,rfl,h1,h2⟩:=zJ R1 (pA e2) s1 e3 a1;have R2:=(R1.kill x).any (V.ref p);refine hm R2 ⟨v,p,avs,as,?_,e3,?_,?_,a1⟩ e D (h.mono t1.sf)
  .rw [ao hne];exact pA e2
  .exact aN (by rw[←R1.len];exact hlt)
  .rw [ao hne];exact s1
 .cases e
def XM{x i:Nat}{t:TS}{m:MS}(h:SS K t m):Qn K x i t (λ_=>m):=λR _ e D o=>h R e D o
def RW{x i:Nat}{t u:TS}{a:List Nat->MS}{b:MS}(ha:Qn K x i t a) (hb:SS K u b):Qn K x i (Ik t u) (λpath=>nS (a path) b):=by
 intro path H₀ Hf₀ Hf S σ H Fs o R A e D h;obtain⟨y,e1,e⟩:=oBq.mp e;refine ha R A e1 _ ?_;cases y with
 |nx S'=>exact λHf' σ' H' Fs' s R'=>hb R' e D (h.mono s)
 |rt a=>cases e;exact h
 |bk a=>cases e;exact h
 |ct a=>cases e;exact h
def Gn(i:Nat) (c:MT) (a b:List Nat->MS):List Nat->MS:=λpath S=>(c S).bind λy=>(qB y.2 i).bind λavs=>(pe (.ow avs) path).bind λ_=>if y.1=true then a path y.2 else b path y.2
def NR{x i:Nat}{c:TT}{m:MT}{t u:TS}{a b:List Nat->MS}(hc:Gk K c m) (ha:Qn K x i t a) (hb:Qn K x i u b):Qn K x i (Sn c t u) (Gn i m a b):=by
 intro path H₀ Hf₀ Hf S σ H Fs o R A e D h;obtain⟨y,e1,e⟩:=oBq.mp e;obtain⟨avs,e2,e⟩:=oBq.mp e;obtain⟨as,e3,e⟩:=oBq.mp e;obtain⟨v,p,_,_,_,_,s2,s1,at0⟩:=A;refine hc R (b:=y.1) (S':=y.2) e1 _ λHf1 H1 Fs1 t1 R1=>?_
 have A1:Als x i path y.2 σ H1:=⟨v,p,avs,as,pA e2,e3,s2,s1,at0.same t1.sh⟩;split at e
 .rename_i hx;rw[hx];exact Gw (ha R1 A1 e D (h.mono t1.sf))
 .rename_i hx;rw[bN]at hx;rw[hx];exact GA (hb R1 A1 e D (h.mono t1.sf))
def Nh(i:Nat) (k:MK):List Nat->MS:=λpath S=>(k S).bind λy=>(qB y.2 i).bind λavs=>(pe (.ow avs) path).bind λas=>we (as.length<qP) (some (.nx (y.2.set i (some (putAt (.ow avs) path (as++[y.1]))))))
def ZQ{x i:Nat}{te:TE}{k:MK}(hk:SK K te k):Qn K x i (Aa (Nn K "list" Df (uS x) (tM te vL))) (Nh i k):=by
 intro path H₀ Hf₀ Hf S σ H Fs o R A e D h;obtain⟨y,e4,e⟩:=oBq.mp e;obtain⟨avs,e5,e⟩:=oBq.mp e;obtain⟨as,e6,e⟩:=oBq.mp e;rcases oZ e with ⟨hl,e⟩|e
 .cases e;obtain⟨v,p,a0,n0,e2,e3,s2,s1,at0⟩:=A;obtain⟨p',vs,hp,h1,h2⟩:=zJ R e2 s1 e3 at0;cases hp;refine⟨.ref p,s2,.inl ⟨rfl,vs,rR.of h1⟩,hk R (a:=y.1) (S':=y.2) e4 _ λHf2 H2 Fs2 u F t2 R2 r2 o2=>?_⟩
  obtain⟨vs',g1,g2,g3⟩:=R2.grow (pA e5) s1 e6 (at0.same t2.sh);obtain⟨Fs',R3⟩:=g3 [y.1] [u] [F] (oQ.nil.snoc r2) (by rw[aO];exact o2.nd) (λq hq=>by rw[aO]at hq;exact⟨o2.fr q hq,o2.out q hq⟩)
  exact⟨p,vs',u,rfl,rfl,g1,by rw[uY,←g2];exact hl,h _ _ _ _ t2.sf R3⟩
 .cases e
def NB(i:Nat) (l:ML):List Nat->MS:=λpath S=>(l S).bind λy=>(qB y.2 i).bind λavs=>(pe (.ow avs) path).bind λas=>we (as.length+y.1.length<=qP) (some (.nx (y.2.set i (some (putAt (.ow avs) path (as++y.1.map .sh))))))
def YL{x i:Nat}{te:TE}{l:ML}(hk:SL K te l):Qn K x i (Aa (Nn K "list" EF (uS x) (tM te vL))) (NB i l):=by
 intro path H₀ Hf₀ Hf S σ H Fs o R A e D h;obtain⟨y,e4,e⟩:=oBq.mp e;obtain⟨avs,e5,e⟩:=oBq.mp e;obtain⟨as,e6,e⟩:=oBq.mp e;rcases oZ e with ⟨hl,e⟩|e
 .cases e;obtain⟨v,p,a0,n0,e2,e3,s2,s1,at0⟩:=A;obtain⟨p',vs,hp,h1,h2⟩:=zJ R e2 s1 e3 at0;cases hp;refine⟨.ref p,s2,.inl ⟨rfl,vs,rR.of h1⟩,hk R (ds:=y.1) (S':=y.2) e4 _ λHf2 H2 Fs2 b ws t2 R2 hb r2=>?_⟩
  obtain⟨vs',g1,g2,g3⟩:=R2.grow (pA e5) s1 e6 (at0.same t2.sh);obtain⟨Fs',R3⟩:=g3 (y.1.map .sh) ws (aD y.1.length []) (Hz r2) (by rw[rm];exact aT) (λq hq=>by rw[rm]at hq;cases hq)
  exact⟨p,b,vs',ws,rfl,rfl,g1,hb,by rw[uY,←g2,←r2.1];exact hl,h _ _ _ _ t2.sf R3⟩
 .cases e
def HV(i:Nat) (mm:ME):List Nat->MS:=λpath S=>(qB S i).bind λavs=>(pe (.ow avs) path).bind λas=>(mm (S.set i none)).bind λy=>we (y.2[i]?=some none/\as.length<qP) (some (.nx (y.2.set i (some (putAt (.ow avs) path (as++[.sh y.1]))))))
def Vi{x i:Nat}{te:TE}{mm:ME}(hk:SM K te mm):Qn K x i (Aa (Nn K "list" Df (uS x) (tM te vL))) (HV i mm):=by
 intro path H₀ Hf₀ Hf S σ H Fs o R A e D h;obtain⟨avs,e2,e⟩:=oBq.mp e;obtain⟨as,e3,e⟩:=oBq.mp e;obtain⟨y,e4,e⟩:=oBq.mp e;rcases oZ e with ⟨⟨hn,hl⟩,e⟩|e
 .cases e;obtain⟨v,p,a0,n0,_,_,s2,s1,at0⟩:=A;have e2':=pA e2;obtain⟨p',vs,hp,h1,h2⟩:=zJ R e2' s1 e3 at0;cases hp;obtain⟨v',F,t1,t2,r,nd,oo,_⟩:=R.move e2';rw[s1]at t1;cases t1;refine⟨.ref p,s2,.inl ⟨rfl,vs,rR.of h1⟩,hk (R.frame t2) (d:=y.1) (S':=y.2) e4 _ λHf2 H2 Fs2 u t3 R2 r2=>?_⟩
  obtain⟨k1,k2,R3⟩:=R.unframe t2 r nd (λq hq=>(oo q hq).1) R2 hn s1 t3
  have hlt:i<y.2.length:=(gSq.mp hn).1;have e5:(y.2.set i (some (.ow avs)))[i]?=some (some (.ow avs)):=aN hlt;obtain⟨vs',g1,g2,g3⟩:=R3.grow e5 s1 e3 (at0.kept r e3 k1);obtain⟨Fs',R4⟩:=g3 [.sh y.1] [u] [[]] (oQ.nil.snoc (.sh r2)) (by simp) (λq hq=>by simp at hq)
  rw[gK]at R4;exact⟨p,vs',u,rfl,rfl,g1,by rw[uY,←g2];exact hl,h _ _ _ _ t3 R4⟩
 .cases e
def SSk(K:W.Frag) (J:List Nat) (t:TS) (m:MS):Prop:=∀{H₀ Hf₀ Hf:Hp}{S:AS}{σ:St}{H:Hp}{Fs:List (List Addr)}{S':AS},pH K H₀ Hf₀ Hf S σ H Fs->m S=some (.nx S')->∀D:wL,(∀Hf' σ' H' Fs',oX Hf Hf'->pH K H₀ Hf₀ Hf' S' σ' H' Fs'->(∀j∈J,σ'[j]?=σ[j]?)->D.nx σ' H')->t D σ H
def Sw{J:List Nat}{t:TS}(h:∀D σ H,D.nx σ H->t D σ H):SSk K J t oH:=by
 intro H₀ Hf₀ Hf S σ H Fs S' R e D q;cases e;exact h _ _ _ (q _ _ _ _ (.refl _) R λ_ _=>rfl)
def N5{J:List Nat}{y:Nat}{te:TE}{k:MK}(hk:SK K te k) (hJ:y∉J):SSk K J (Qb te (uA y)) (oj y k):=by
 intro H₀ Hf₀ Hf S σ H Fs S' R e D q;obtain⟨x,e1,e⟩:=oMq.mp e;cases e;refine hk R (a:=x.1) (S':=x.2) e1 _ λHf1 H1 Fs1 v F t1 R1 r1 o1=>?_
 exact q _ _ _ _ t1.sf (R1.set y r1 o1.nd λq hq=>⟨o1.fr q hq,o1.out q hq⟩) λj hj=>ao (show y≠j from λz=>hJ (by rw[z];exact hj))
def aan{J:List Nat}{c:TT}{m:MT}{t u:TS}{a b:MS}(hc:Gk K c m) (ha:SSk K J t a) (hb:SSk K J u b):SSk K J (Sn c t u) (uT m a b):=by
 intro H₀ Hf₀ Hf S σ H Fs S' R e D q;obtain⟨x,e1,e⟩:=oBq.mp e;refine hc R (b:=x.1) (S':=x.2) e1 _ λHf1 H1 Fs1 t1 R1=>?_
 split at e
 .rename_i hx;rw[hx];exact Gw (ha R1 e D λHf' σ' H' Fs' s R' j=>q _ _ _ _ (t1.sf.trans s) R' j)
 .rename_i hx;rw[bN]at hx;rw[hx];exact GA (hb R1 e D λHf' σ' H' Fs' s R' j=>q _ _ _ _ (t1.sf.trans s) R' j)
def Lf(i:Nat) (a:MS) (m:List Nat->MS):List Nat->MS:=λpath S=>(qB S i).bind λavs=>(a (S.set i none)).bind λo=>match o with
 | .nx S1=>we (S1[i]?=some none) (m path (S1.set i (some (.ow avs))))
 |_=>none
def Q3{x i:Nat}{t u:TS}{a:MS}{m:List Nat->MS}(ha:SSk K [x,i] t a) (hm:Qn K x i u m):Qn K x i (Ik t u) (Lf i a m):=by
 intro path H₀ Hf₀ Hf S σ H Fs o R A e D h;obtain⟨avs,e2,e⟩:=oBq.mp e;obtain⟨oo,e3,e⟩:=oBq.mp e;cases oo with
 |nx S1 =>
  rcases oZ (show we (S1[i]?=some none) (m path (S1.set i (some (.ow avs))))=some o from e) with ⟨hn,e⟩|e
  .obtain ⟨v,p,a0,n0,e2',e4,s2,s1,at0⟩:=A;have e5:=pA e2;rw[e5]at e2';cases e2';obtain⟨v',F,t1,t2,r,nd,ow,_⟩:=R.move e5;rw[s1]at t1;cases t1;refine ha (R.frame t2) e3 _ λHf' σ' H' Fs' s R' hJ=>?_
   have j1:σ'[x]?=σ[x]?:=hJ x (by simp)
   have j2:σ'[i]?=σ[i]?:=hJ i (by simp)
   obtain⟨k1,k2,R3⟩:=R.unframe t2 r nd (λq hq=>(ow q hq).1) R' hn (j2.trans s1) s
   have hlt:i<S1.length:=(gSq.mp hn).1;exact hm R3 ⟨v,p,avs,n0,aN hlt,e4,j1.trans s2,j2.trans s1,at0.kept r e4 k1⟩ e D (h.mono s)
  .cases e
 |_=>cases e
end
def aba(S:AS) (i:Nat):GN i S=(qB S i).map λ_=>([],S):=rfl
def adK(S:AS) (i:Nat) (pf:MP) (b:ME):Pl i pf b S=(pf S).bind λx=>(b x.2).bind λy=>(intOf y.1).bind λj=>(qB y.2 i).bind λavs=>(pe (.ow avs) x.1).bind λas=>(Hk as.length j).map λn=>(x.1++[n],y.2):=rfl
def Y2(S:AS) (i:Nat) (pf:MP) (k:MK):Hw i pf k S=(pf S).bind λx=>(qB x.2 i).bind λa0=>(pe (.ow a0) x.1).bind λ_=>(k x.2).bind λy=>(qB y.2 i).bind λavs=>(pe (.ow avs) x.1).bind λas=>we (as.length<qP) (some (.nx (y.2.set i (some (putAt (.ow avs) x.1 (as++[y.1])))))):=rfl
def Yo(S:AS) (i:Nat) (pf:MP) (l:ML):RY i pf l S=(pf S).bind λx=>(qB x.2 i).bind λa0=>(pe (.ow a0) x.1).bind λ_=>(l x.2).bind λy=>(qB y.2 i).bind λavs=>(pe (.ow avs) x.1).bind λas=>we (as.length+y.1.length<=qP) (some (.nx (y.2.set i (some (putAt (.ow avs) x.1 (as++y.1.map .sh)))))):=rfl
def acE(S:AS) (x i:Nat) (pf:MP) (m:List Nat->MS):RA x i pf m S=(pf S).bind λy=>(qB y.2 i).bind λavs=>(pe (.ow avs) y.1).bind λ_=>we (x≠i/\x<y.2.length) (m y.1 (y.2.set x none)):=rfl
def abV(S:AS) (i:Nat) (c:MT) (a b:List Nat->MS) (path:List Nat):Gn i c a b path S=(c S).bind λy=>(qB y.2 i).bind λavs=>(pe (.ow avs) path).bind λ_=>if y.1=true then a path y.2 else b path y.2:=rfl
def YG(S:AS) (i:Nat) (k:MK) (path:List Nat):Nh i k path S=(k S).bind λy=>(qB y.2 i).bind λavs=>(pe (.ow avs) path).bind λas=>we (as.length<qP) (some (.nx (y.2.set i (some (putAt (.ow avs) path (as++[y.1])))))):=rfl
def Yi(S:AS) (i:Nat) (l:ML) (path:List Nat):NB i l path S=(l S).bind λy=>(qB y.2 i).bind λavs=>(pe (.ow avs) path).bind λas=>we (as.length+y.1.length<=qP) (some (.nx (y.2.set i (some (putAt (.ow avs) path (as++y.1.map .sh)))))):=rfl
def UW(S:AS) (i:Nat) (mm:ME) (path:List Nat):HV i mm path S=(qB S i).bind λavs=>(pe (.ow avs) path).bind λas=>(mm (S.set i none)).bind λy=>we (y.2[i]?=some none/\as.length<qP) (some (.nx (y.2.set i (some (putAt (.ow avs) path (as++[.sh y.1])))))):=rfl
def abg(i:Nat) (avs:List AV) (m:List Nat->MS) (path:List Nat):Gq->Option Gq
 | .nx S1=>we (S1[i]?=some none) (m path (S1.set i (some (.ow avs))))
 |_=>none
def abv(S:AS) (i:Nat) (a:MS) (m:List Nat->MS) (path:List Nat):Lf i a m path S=(qB S i).bind λavs=>(a (S.set i none)).bind (abg i avs m path):=by
 unfold Lf;congr 1
def Wp(i:Nat) (avs:List AV) (m:List Nat->MS) (path:List Nat) (S1:AS):abg i avs m path (.nx S1)=we (S1[i]?=some none) (m path (S1.set i (some (.ow avs)))):=rfl
def Mq(avs:List AV):pe (.ow avs) []=some avs:=rfl
def xQ(avs:List AV) (j:Nat) (js:List Nat):pe (.ow avs) (j::js)=(avs[j]?).bind λa=>pe a js:=rfl
def zG{avs:List AV}{j:Nat}{js:List Nat}{as:List AV}{a:AV}(h:avs[j]?=some a):putAt (.ow avs) (j::js) as = .ow (avs.set j (putAt a js as)):=by
 show (match avs[j]? with|some a=>_|none=>_)=_
 rw[h]
def zqd:=aa @aba (aa @adK (aa @Y2 (aa @Yo (aa @acE (aa @abV (aa @YG (aa @Yi (aa @UW (aa @abv (aa @Wp @Mq))))))))))
section
variable {K:W.Frag}
def Im(m:ME):MS:=λS=>(m S).map λx=>.nx x.2
def RS{te:TE}{m:ME}(h:SM K te m):SS K (Aa te) (Im m):=by
 intro H₀ Hf₀ Hf S σ H Fs o R e D hd;obtain⟨x,e1,e⟩:=oMq.mp e;cases e;exact h R (d:=x.1) (S':=x.2) e1 _ λHf1 H1 Fs1 v t1 R1 r1=>hd _ _ _ _ t1 R1
def adX(i:Nat):MS:=λS=>(qB S i).map λavs=>.nx (S.set i (some (.ow avs.reverse)))
end
def VF(S:AS) (m:ME):Im m S=(m S).map λx=>.nx x.2:=rfl
def zqe:=@VF
section
variable {K:W.Frag}
def qY.fd_inv{H:Hp}{ds:List (pN×D)}{v:V}(h:qY K H (.fd ds) v):∃p o nV,v = .ref p/\H p=some (.frz o (.dK nV))/\vB K H ds nV:=by
 cases h with
 |fd h l e=>exact⟨_,_,_,rfl,h,l,e⟩
def Wv:D->Option (List (pN×D))
 | .fd nV=>some nV
 |_=>none
def WV{d:D}{nV:List (pN×D)}(h:Wv d=some nV):d = .fd nV:=by
 cases d <;> first|(cases h;rfl)|cases h
def Iy(a b:ME):ME:=λS=>(a S).bind λx=>(b x.2).bind λy=>(Wv x.1).bind λnV=>(wW y.1).bind λkey=>(getD nV key).map λd=>(d,y.2)
def Kx{ta tb:TE}{a b:ME}(ha:SR K ta a) (hb:SR K tb b):SR K (RT ta tb) (Iy a b):=by
 intro H₀ Hf₀ Hf S σ H Fs d S' R e Q q;obtain⟨x,e1,e⟩:=oBq.mp e;obtain⟨y,e2,e⟩:=oBq.mp e;obtain⟨nV,e3,e⟩:=oBq.mp e;obtain⟨key,e4,e⟩:=oBq.mp e;obtain⟨d',e5,e⟩:=oMq.mp e;cases e;refine ha R (d:=x.1) (S':=x.2) e1 _ λHf1 H1 Fs1 v1 t1 R1 r1=>hb R1 (d:=y.1) (S':=y.2) e2 _ λHf2 H2 Fs2 v2 t2 R2 r2=>?_
 rw[WV e3]at r1;obtain⟨p,o,vs,rfl,h1,h2⟩:=(r1.mono t2.sh).fd_inv;have g:=Dn (key:=key) h2;rw[e5]at g;obtain⟨v,g1,g2⟩:=g;exact⟨p,v,rfl,by rw[Bc e4 r2,←g1];exact .inl ⟨vs,key,.inr ⟨o,h1⟩,rfl,rfl⟩,q _ _ _ _ (t1.trans t2) R2 g2⟩
def QX{ob:Obj}{d:Addr}{nV:List (pN×V)}{i1:Nat}{tb:TS}{D:wL}{σ:St}{H:Hp}(Pv:Nat->St->Hp->Prop) (h0:Pv 0 σ H) (hl:∀i σ H,Pv i σ H->H d=some (.frz ob (.dK nV)))
  (hs:∀i p σ H,nV[i]?=some p->Pv i σ H->tb { D with nx:=Pv (i+1),ct:=Pv (i+1),bk:=D.nx } (σ.set i1 (some (kV p.1))) H) (hd:∀σ H,Pv nV.length σ H->D.nx σ H) :
  ∃W:Nat->Nat->St->Hp->Prop,(∃m,W 0 m σ H)/\∀i m σ H,W i m σ H ->
   ((Itk ob d nV).stop i H/\D.nx σ H)∨((Itk ob d nV).go i H/\∃N:St->Hp->Prop,(∀σ' H',N σ' H'->∃m',m'<m/\W (i+1) m' σ' H')/\∀x H',(Itk ob d nV).yld i H x H'->uA i1 x σ H' λσ2 H2=>tb { D with nx:=N,ct:=N,bk:=D.nx } σ2 H2):=by
 refine⟨λi m σ H=>m=nV.length-i/\i<=nV.length/\Pv i σ H,⟨nV.length,by simp,aV _,h0⟩,?_⟩
 rintro i m σ H ⟨rfl,hi,p⟩;have q:=hl i σ H p
 by_cases hlt:i<nV.length
 .refine .inr ⟨⟨q,nV[i],by simp[hlt]⟩,Pv (i+1),λσ' H' p'=>⟨nV.length-(i+1),by lia,rfl,hlt,p'⟩,λv H' y=>?_⟩
  obtain⟨rfl,x,hx,rfl⟩:=y;exact hs i x σ H' hx p
 .have e:i=nV.length:=by lia
  subst e;exact .inl ⟨⟨q,af _⟩,hd σ H p⟩
def Nb(x i:Nat) (body:MS):MS:=λS=>(xY S i).bind λnV=>we (x≠i) (tN x body (nV.map λp=>kD p.1) (S.set i (some (.sh (.fd nV)))))
def Nk{x i:Nat}{tb:TS}{body:MS}(hb:SS K tb body):SS K (P2 (Xz (uS i)) (uA x) tb) (Nb x i body):=by
 intro H₀ Hf₀ Hf S σ H Fs o R e D h;obtain⟨ds,e1,e⟩:=oBq.mp e;rcases oZ e with ⟨hne,e⟩|e
 .have e1':=BH e1;obtain⟨p,nV,s1,s2,h1,h2,h3,h4,h5⟩:=R.owd e1';refine⟨_,s1,p,nV,rfl,h1,λob=>?_⟩
  obtain⟨v,F,t1,t2,r,nd,oo,R1⟩:=R.move e1';rw[s2]at t2;cases t2;have R2:=pH.fix R1 (p:=p) (o:=.frz ob (.dK nV)) h5 h2 h4;have s3:oX Hf (pY Hf p (.frz ob (.dK nV))):=rh h2;have h3':vB K (pY Hf p (.frz ob (.dK nV))) ds nV:=⟨h3.1,λi d v a b=>(h3.2 i d v a b).mono s3⟩
  have R3:pH K H₀ Hf₀ (pY Hf p (.frz ob (.dK nV))) (S.set i (some (.sh (.fd ds)))) σ (pY H p (.frz ob (.dK nV))) (Fs.set i []) :=
   R2.again (F:=[]) s1 (.sh (.fd og h3'.1 h3'.2)) aT λq hq=>by cases hq
  have hlen:ds.length=nV.length:=by have:=congrArg cu h3.1;simpa using this
  refine QX (λn σ' H'=>∃Hf' S' Fs',pH K H₀ Hf₀ Hf' S' σ' H' Fs'/\oX (pY Hf p (.frz ob (.dK nV))) Hf'/\tN x body ((ds.map λp=>kD p.1).drop n) S'=some o) ⟨_,_,_,R3,.refl _,e⟩
   (λn σ' H' ⟨Hf',S',Fs',R',s',_⟩=>R'.sub _ _ (s' _ _ og)) ?_ ?_
  .rintro n w σ' H' hw ⟨Hf',S',Fs',R',s',e'⟩;have hn:n<ds.length:=by rw[hlen];exact(gSq.mp hw).1
   have hk:(ds.map λp=>kD p.1)[n]?=some (kD w.1):=by
    have:=congrArg (λl=>l[n]?) h3.1
    simp only[gMq,hw,cT]at this;rw[gMq];cases hd:ds[n]? with
    |none=>rw[hd]at this;cases this
    |some dd =>
     rw[hd]at this;rw[cT,show dd.1=w.1 from aS.inj this]
   have hlt:n<(ds.map λp=>kD p.1).length:=by rw[lMq];exact hn
   rw[aL hlt,(gSq.mp hk).2]at e';obtain⟨o2,e3,e4⟩:=oBq.mp e';refine hb (R'.setD x (VU w.1)) e3 _ ?_;cases o2 with
   |nx S2=>exact λHf2 σ2 H2 Fs2 s4 R4=>⟨Hf2,S2,Fs2,R4,s'.trans s4,e4⟩
   |ct S2=>exact λHf2 σ2 H2 Fs2 s4 R4=>⟨Hf2,S2,Fs2,R4,s'.trans s4,e4⟩
   |bk S2=>cases e4;exact λHf2 σ2 H2 Fs2 s4 R4=>h _ _ _ _ ((s3.trans s').trans s4) R4
   |rt a=>cases e4;exact h
  .rintro σ' H' ⟨Hf',S',Fs',R',s',e'⟩;rw[←hlen,show ds.length=(ds.map λp=>kD p.1).length from (lMq _).symm,cF]at e'
   cases e';exact h _ _ _ _ (s3.trans s') R'
 .cases e
end
def VD(nV:List (pN×D)):Wv (.fd nV)=some nV:=rfl
def VI(S:AS) (a b:ME):Iy a b S=(a S).bind λx=>(b x.2).bind λy=>(Wv x.1).bind λnV=>(wW y.1).bind λkey=>(getD nV key).map λd=>(d,y.2):=rfl
def Zd(S:AS) (x i:Nat) (body:MS):Nb x i body S=(xY S i).bind λnV=>we (x≠i) (tN x body (nV.map λp=>kD p.1) (S.set i (some (.sh (.fd nV))))):=rfl
def zqf:=aa @VD (aa @VI @Zd)
end Z
namespace Mr
open PySem PySem.Spec PyProof.Rows L2
end Mr
namespace Z
open PySem L2 Mr
mutual
def xx:AV->Bool
 | .sh d=>d.scal
 | .ow l=>B2 l
 | .owd nV=>nV.all λp=>p.2.scal
def B2:List AV->Bool
 | []=>true
 |a::l=>xx a && B2 l
end
theorem ER:∀{l:List AV},B2 l=true->∀a∈l,xx a=true
 | [],_,a,h=>by cases h
 |b::l,hc,a,h=>by
  rw[B2,cE]at hc;rcases ak.mp h with e|e
  .rw [e];exact hc.1
  .exact ER hc.2 a e
theorem Hd:∀{l:List AV},(∀a∈l,xx a=true)->B2 l=true
 | [],_=>by rw[B2]
 |b::l,h=>by rw[B2,h b (bo ..),Hd λa ha=>h a (mCo _ ha)];rfl
section
variable {K:W.Frag}{Hf Hf' H:Hp}
def pE.bare{a:AV}{v:V}{F:List Addr}(r:pE K Hf' H a v F):xx a=true->(∀q∈F,Hf q=none)->pE K Hf H a v F:=by
 induction r with
 |sh r =>
  intro hc _;rw[xx]at hc;exact .sh (r.scal hc)
 |ow h n e1 e2 e ih =>
  intro hc hn;rw[xx]at hc;exact .ow h (hn _ (bo ..)) e1 e2 λi a v F x1 x2 x3=>ih i a v F x1 x2 x3 (ER hc a (mGq x1)) λq hq=>hn q (mCo _ (mFq.mpr ⟨F,mGq x3,hq⟩))
 |owd h n r =>
  intro hc hn;rw[xx,gZ]at hc;refine .owd h (hn _ (bo ..)) ?_;exact⟨r.1,λi d v a b=>(r.2 i d v a b).scal (hc d (mGq a))⟩
end
end Z
namespace Xe
open PySem PySem.Spec PySem.W PyProof.Rows L2 Mr
section
variable {X:Cx}{k:Nat}{x:Str}{st:Stmt}{ps:List Str}{sp:Sp}{f:Addr}{fd:jb}{p pos pos2 pos3:Pos}{e:Expr}{es:List Expr}{t u:TA}{h₀:ExceptHandler}{hs:List ExceptHandler}{th:XH}
def PTb(X:Cx) (sts:List Stmt) (h₀:ExceptHandler) (hs:List ExceptHandler) (t:TS):Prop :=
 ∀(mZ:List (Addr×Obj)) (s:iM) (σ:St) (H:Hp) (D:wL),Inv X mZ σ H s->t D σ H->iS (iQ X.prog X.w) X.A (execs sts X.env) (SP X mZ D)
  (λe s₁=>iS (iQ X.prog X.w) X.A (kW e X.env) (λ_ s₂=>iS (iQ X.prog X.w) X.A (kB e none) (λ_ s₃=>iS (iQ X.prog X.w) X.A (kQ e X.env (h₀::hs)) (SP X mZ D) X.xe s₃) X.xe s₂) X.xe s₁) s
def EB{sts:List Stmt}{t:TS}(h:PTb X sts h₀ hs t):PS X (.Try sts (h₀::hs) [] [] pos3) t:=by
 intro mZ s σ H D I q;refine wpAny_Try_except (rL (h mZ s σ H D I q) λf s1 z=>?_)
 cases f with
 |next=>exact jF z
 |brk=>exact z
 |cont=>exact z
 |ret u=>exact z
end
end Xe
namespace Z
open PySem L2 Mr Xe
end Z
namespace HT
open PySem PyProof.Rows
open PySem.SeqAt
open PySem.AutoSeq1 (wpAny_loadPart')
open PySem.MeetsSeq PySem.MeetsSeq2 PySem.MeetsSeq3
end HT
namespace Mr
open PySem PySem.Spec PyProof.Rows L2
end Mr
namespace Z
open PySem L2 Mr
end Z
namespace L2
open PySem PySem.Spec PyProof.Rows
structure vo (k:Nat) (A:Around):Prop where
 dp:A.depth+3*k+5<ku
 un:A.units+16*k+200<jB
def si.h{k:Nat}{A:Around}(r:si k A) (v:Option Value):vo k (A.mark v):=⟨r.dp,r.un⟩
def vo.mono{j k:Nat}{A:Around}(r:vo k A) (h:j<=k):vo j A:=⟨by have:=r.dp;lia,by have:=r.un;lia⟩
theorem vo.deeper{k:Nat}{A:Around}(r:vo (k+1) A) (env:Env):vo k (A.deeper env) :=
 ⟨by have:=r.dp;show A.depth+1+3*k+5<_;lia,by have:=r.un;show A.units+3+16*k+200<_;lia⟩
theorem vo.depth{k:Nat}{A:Around}(r:vo k A):A.depth<ku:=by have:=r.dp;lia
theorem vo.units{k:Nat}{A:Around}(r:vo k A):A.units+64<jB:=by have:=r.un;lia
def vo.units65{k:Nat}{A:Around}(r:vo k A):A.units+65<jB:=by have:=r.un;lia
structure Kd (P:iW) (w:iZ) (K:W.Frag) (mg:Str->Option Value) (base:Heap) (CX:KR) (k:Nat) (f:Addr) (fd:jb) (ps:List Str) (sp:Sp):Prop where
 len:∀vs H Q E,sp vs H Q E->vs.length=ps.length
 run:∀(A:Around) (outer:List Env) (s:iM) (H:Hp) (args:Args) (us:List Value) (vs:List V) (Q:VK) (E:XK),vo k A->Ir P w K mg base A outer s H->kN s fd args (ps.zip us)->oV vs us->sp vs H Q E ->
  jT (iQ P w) A (.call (.ref f) args) (CR CX outer P w H s Q E) s
noncomputable def G1(CX:KR) (P:iW) (w:iZ) (K:W.Frag) (mg:Str->Option Value) (base:Heap) (N:List Str) (qual:Str) (scope:jJ) (f:Addr) (cd:Value) (A:Around) (outer:List Env) (s:iM) (H:Hp) (E:XK):Cx where
 prog:=P
 w:=w
 K:=K
 mg:=mg
 base:=base
 A:=A.deeper (jk qual scope s.heap.objs.size f cd)
 N:=N
 s₀:=s
 H₀:=H
 env:=jk qual scope s.heap.objs.size f cd
 outer:=outer
 stack:=jk qual scope s.heap.objs.size f cd::outer
 ex:=[]
 calm:=false
 fn:=λ_=>true
 pn:=[]
 xe:=λe s'=>iS (iQ P w) (A.deeper (jk qual scope s.heap.objs.size f cd)) (lY (jk qual scope s.heap.objs.size f cd) e) (λ_ s''=>CX outer H s E e s'') (λe' s''=>CX outer H s E e' s'') s'
def K9{CX:KR}{P:iW}{w:iZ}{K:W.Frag}{mg:Str->Option Value}{base:Heap}{N ps:List Str}{qual:Str}{scope:jJ}{f:Addr}{cd:Value}{A:Around}{outer:List Env}{s s1:iM}{H:Hp}{E:XK}{us:List Value}{vs:List V}
  (S:oa N ps scope) (e0:Ir P w K mg base A outer s H) (hl:vs.length=ps.length) (r:oV vs us)
  (x:InCallC s s.heap.objs.size (kY (jk qual scope s.heap.objs.size f cd).kindOf (ps.zip us) λ_=>none) (kX (s.heap.objs.size+1) scope.names []) (kZ (jk qual scope s.heap.objs.size f cd).kindOf (ps.zip us) λ_=>none) s1) :
  Inv (G1 CX P w K mg base N qual scope f cd A outer s H E) [] (sZ N vs) H s1:=by
 have hpl:ps.length<=N.length:=by have:=congrArg cu S.pre;rw[lTq]at this;lia
 obtain⟨h1,tk,rfl,hk⟩:=x.done;have noA:∀b:Addr,b∉(G1 CX P w K mg base N qual scope f cd A outer s H E).ex:=λb z=>absurd (show b∈([]:List Addr) from z) (by simp)
 refine⟨⟨e0.mod,S.kind,rfl,rfl,af _,λy z c h1 h2=>?_,λy hy=>?_,λy c _ h=>?_,λz=>gY z,Around.frames_deeper e0.frames,.inr ⟨rfl,rfl⟩,λb z=>absurd z (noA b),e0.bs,e0.bsz,λb _ _=>noA b,λb z=>absurd z (noA b),e0.funs,e0.frf⟩,
  rfl,e0.bare,Un.kept hk,⟨_,x.toInCall.ns,λi y v h1 h2 h3=>?_⟩,λy c h=>⟨_,x.cell y c h⟩,e0.hok.fresh (af _),λy c h=>?_,λp hp=>absurd (show p∈([]:List (Addr×Obj)) from hp) (by simp),e0.hok.kept hk,?_⟩
 .exact name_of_addr x.apart (PySem.mem_of_lookup h1) (PySem.mem_of_lookup h2)
 .have hy:scope.names.lookup y=some .cell∨scope.names.lookup y=some .free:=hy;rcases hy with hy|hy
  .exact CQ hy
  .exact absurd rfl (S.nofree _ (PySem.mem_of_lookup hy))
 .exact bC (x.above y c (PySem.mem_of_lookup h))
 .have hi:i<vs.length:=by
   unfold sZ at h2
   by_cases hi:i<vs.length
   .exact hi
   .rw [gYq (by simpa using hi)]at h2
    rw[bD]at h2;split at h2 <;> cases h2
  have ha:vs[i]?=some v:=by
   unfold sZ at h2;rw[gZq (by simpa using hi),gMq]at h2
   cases e:vs[i]? with
   |none=>rw[e]at h2;cases h2
   |some a=>rw[e]at h2;cases h2;rfl
  obtain⟨u,hu,rv⟩:=r.get ha;have hp:ps[i]?=some y:=by
   rw[←S.pre,bw (by lia)];exact h1
  have ndP:ps.Nodup:=by rw[←S.pre];exact S.nd.sublist (aW _ _)
  refine⟨u,rv,?_⟩;rcases S.par y (mGq hp) with k|k
  .exact .inl ⟨k,DA ndP hp hu k⟩
  .obtain ⟨c,e⟩:=CQ (n:=s.heap.objs.size+1) k;refine .inr ⟨.inl k,c,e,?_⟩;have q:=x.cell y c e;rw[DR ndP hp hu (by show scope.names.lookup y≠_;rw[k];decide)]at q
   exact q
 .exact e0.hok.fresh (bC (x.above y c (PySem.mem_of_lookup h)))
 .unfold sZ;show _=N.length;rw[lAq,lMq,cL];lia
def aaC{CX:KR}{P:iW}{w:iZ}{K:W.Frag}{mg:Str->Option Value}{base:Heap}{k:Nat}{f:Addr}{name qual:Str}{params:Arguments}{body:List Stmt}{scope:jJ}{dV kV doc pm qK ct oc:Value}{an od:Option Addr}
  {osl:Array (Option Value)}{N ps:List Str}{sp:Sp}(lk:K.lookup f=some ⟨oc,od,.func (W.fnOf name qual params body scope dV kV doc pm an qK ct),osl⟩) (hcd:W.codeIn K qK qual=true) (S:oa N ps scope)
  (len:∀vs H Q E,sp vs H Q E->vs.length=ps.length)
  (hbody:∀(A:Around) (outer:List Env) (s:iM) (H:Hp) (vs:List V) (Q:VK) (E:XK),vo k (A.deeper (jk qual scope s.heap.objs.size f qK))->sp vs H Q E ->
   ∃t,JI (G1 CX P w K mg base N qual scope f qK A outer s H E) body t/\t { nx:=λ_ H'=>Q .non H',rt:=Q } (sZ N vs) H) :
  Kd P w K mg base CX (k+1) f (W.fnOf name qual params body scope dV kV doc pm an qK ct) ps sp:=by
 refine⟨len,λA outer s H args us vs Q E hr e0 hb r hsp=>?_⟩
 have hl:=len _ _ _ _ hsp;have KX:K.In s.heap:=e0.mod.kin.keeps λb o e=>(e0.bs b o e).1
 have lim:s.heap.NoLimit:=e0.mod.nolimit.keeps λb o e=>(e0.bs b o e).1
 have hkind:∀y∈ps.zip us,scope.names.lookup y.1=some .local∨(scope.names.lookup y.1=some .cell/\((kX (s.heap.objs.size+1) scope.names []).lookup y.1).isSome=true):=λ⟨n,v⟩ hy=>by
  rcases S.par n (eT hy).1 with q|q
  .exact .inl q
  .exact .inr ⟨q,W.cellsFrom_some _ _ _ (.inl q)⟩
 refine lE hr.depth (KX _ _ lk) rfl S.co S.gen rfl (W.codeRec_of KX hcd) (hb _ _ _ _ ?_);refine kC S.kind hkind λenv he s1 x=>?_
 subst he;refine⟨lim.keeps x.toInCall.keep,codeAny_func ?_⟩;obtain⟨t,ht,hq⟩:=hbody A outer s H vs Q E (hr.deeper _) hsp;have I:Inv (G1 CX P w K mg base N qual scope f qK A outer s H E) [] (sZ N vs) H s1:=K9 S e0 hl r x;refine jg (ht [] s1 (sZ N vs) H _ I hq) (λfl s' hs=>?_) λe s' hs=>hs
 have fin:∀{σ':St}{H':Hp}{v:V}{u:Value},Inv (G1 CX P w K mg base N qual scope f qK A outer s H E) [] σ' H' s'->qb v u->Q v H'->CE outer P w H s Q u s' :=
  λ{σ' H' v u} J rv q=>⟨v,H',J.os,J.bare,J.base,J.hok,rv,q⟩
 cases fl with
 |ret u =>
  obtain⟨v,σ',H',J,rv,q⟩:=hs;exact fin J rv q
 |next =>
  obtain⟨σ',H',J,q⟩:=hs;exact fin (v:=V.non) (u:=cP) J rfl q
 |brk =>
  obtain⟨_,_,_,q⟩:=hs;exact False.elim q
 |cont =>
  obtain⟨_,_,_,q⟩:=hs;exact False.elim q
section
variable {X:Cx}{CX:KR}{k:Nat}{f C:Addr}{fd:jb}{ps:List Str}{sp:Sp}{dvs:List V}{ds:List Value}{E:XK}{x m:Str}{p pos apos:Pos}{e o:Expr}{es:List Expr}{ta:TE}{t:TA}
def Vy{mZ:List (Addr×Obj)}{σ:St}{H:Hp}{s:iM}{Q:VK}{us:List Value}{vs:List V}(F:Kd X.prog X.w X.K X.mg X.base CX k f fd ps sp) (hr:vo k X.A) (hb:qI X.K fd ps ds) (hd:oV dvs ds) (hx:wA CX X E)
  (I:Inv X mZ σ H s) (r:oV vs us) (h:sp (vs++dvs) H Q E):iS (iQ X.prog X.w) X.A (call (.ref f) us) (EP X mZ σ Q) X.xe s:=by
 have r2:oV (vs++dvs) (us++ds):=r.append hd;have hl:(us++ds).length=ps.length:=by rw[←r2.length];exact F.len _ _ _ _ h
 refine jG (jL (F.run X.A X.stack s H ⟨us,[]⟩ (us++ds) (vs++dvs) Q E hr I.env0 (hb s us I.kIn hl) r2 h) λr s' hq=>?_)
 cases r with
 |error e=>exact hx mZ σ H s e s' I hq
 |ok fl =>
  cases fl with
  |ret u=>exact I.after hq
  |next=>exact False.elim hq
  |brk=>exact False.elim hq
  |cont=>exact False.elim hq
def Ul(F:Kd X.prog X.w X.K X.mg X.base CX k f fd ps sp) (hr:vo k X.A) (hg:Gl X x) (hm:X.mg x=some (.ref f)) (hk:W.keepIn X.K (.ref f)=true) (hb:qI X.K fd ps ds) (hd:oV dvs ds) (hx:wA CX X E)
  (ha:PA X (e::es) t) (hdb:(x == ("__debug__" : Str))=false:=by decide) (he:iY (e::es) X.env=(false,eval e X.env)::iY es X.env:=by rfl) (hpl:(jl pos (iY es X.env)).any (·.1)=false:=by rfl) :
  PE X (.Call (.Name x p) (e::es) [] pos) (wk sp dvs E t):=by
 intro mZ s σ H Q I h;refine jo (xV I hg hm ?_ hdb);refine W.callWith_K (h₀:=X.base) I.ok.mod.kin hk (rL (ha pos mZ s σ H _ I h) λus s1 hz1=>?_) he hpl
 obtain⟨vs,H1,I1,r,q⟩:=hz1;refine⟨I1.kIn,?_⟩;exact Vy F hr hb hd hx I1 r q
end
section
variable {P:iW}{w:iZ}{K:W.Frag}{mg:Str->Option Value}{base:Heap}
def FA.okH{x qual:Str}{st:Stmt}{f:Addr}{fd:jb}{N ps:List Str}{k:Nat}{sp:Sp}(F:FA K x qual st f fd) (S:oa N ps (nH st)) (len:∀vs H Q E,sp vs H Q E->vs.length=ps.length)
  (hbody:∀(qK:Value) (A:Around) (outer:List Env) (s:iM) (H:Hp) (vs:List V) (Q:VK) (E:XK),vo k (A.deeper (jk qual (nH st) s.heap.objs.size f qK))->sp vs H Q E ->
   ∃t,JI (G1 O0 P w K mg base N qual (nH st) f qK A outer s H E).nox (qL st) t/\t { nx:=λ_ H'=>Q .non H',rt:=Q } (sZ N vs) H):Kd P w K mg base O0 (k+1) f fd ps sp:=by
 obtain⟨oc,od,kV,doc,pm,an,qK,ct,osl,rfl,lk,hcd⟩:=F.ex;refine aaC lk hcd S len λA outer s H vs Q E hr hsp=>?_
 obtain⟨t,h,q⟩:=hbody qK A outer s H vs Q E hr hsp;exact⟨t,h.nox,q⟩
end
end L2
namespace Mr
open PySem PySem.Spec PyProof.Rows L2
structure FnH (P:iW) (w:iZ) (K:W.Frag) (mg:Str->Option Value) (base:Heap) (k:Nat) (x:Str) (st:Stmt) (ps:List Str) (sp:Sp) (f:Addr) (fd:jb):Prop where
 D:xP K mg x st ps f fd
 ok:Kd P w K mg base O0 k f fd ps sp
section
variable {X:Cx}{k:Nat}{f:Addr}{fd:jb}{ps:List Str}{sp:Sp}{x:Str}{p pos:Pos}{e:Expr}{es:List Expr}{t:TA}{st:Stmt}
def HX(G:FnH X.prog X.w X.K X.mg X.base k x st ps sp f fd) (hr:vo k X.A) (ha:PA X (e::es) t) (hg:Gl X x:=by rfl) (hdb:(x == ("__debug__" : Str))=false:=by decide)
  (he:iY (e::es) X.env=(false,eval e X.env)::iY es X.env:=by rfl) (hpl:(jl pos (iY es X.env)).any (·.1)=false:=by rfl) :
  PE X (.Call (.Name x p) (e::es) [] pos) (wk sp [] E0 t):=Ul G.ok hr hg G.D.m G.D.F.kp G.D.b .nil M1 ha hdb he hpl
end
end Mr
namespace Z
open PySem L2 Mr Xe
structure wj (K:W.Frag) (c:Str) (C:Addr):Prop where
 ns:W.nsIn K iV c=some (some (.ref C))
 cl:Km K C
def yr(c f:Str):D->Option D
 | .ins c' fs=>if c'=c then fs.lookup f else none
 |_=>none
def GG(c m:Str):AV->Option D
 | .sh (.ins c' fs)=>if c'=c/\fs.lookup m=none then some (.ins c' fs) else none
 |_=>none
def Xy(ds:List D):Bool:=ds.all D.scal
def Eh(c:Str) (fl:List Str) (a:ML):MK:=λS=>(a S).bind λx=>if x.1.length=fl.length/\Xy x.1=true then some (.sh (.ins c (fl.zip x.1)),x.2) else none
section
variable {K:W.Frag}{H:Hp}
def qY.ins_inv{c:Str}{fs:List (Str×D)}{v:V}(h:qY K H (.ins c fs) v):∃a C dx gs,v = .ref a/\W.nsIn K iV c=some (some (.ref C))/\H a=some (.ins C dx gs)/\fs.map (·.1)=gs.map (·.1)/\∀(i:Nat) (d:Str×D) (v:Str×V),fs[i]?=some d->gs[i]?=some v->qY K H d.2 v.2:=by
 cases h with
 |ins rf h l e=>exact⟨_,_,_,_,rfl,rf,h,l,e⟩
theorem Cg{f:Str}:∀{fs:List (Str×D)}{gs:List (Str×V)},fs.map (·.1)=gs.map (·.1)->(∀(i:Nat) (d:Str×D) (v:Str×V),fs[i]?=some d->gs[i]?=some v->qY K H d.2 v.2)->(fs.lookup f=none->gs.lookup f=none)/\∀d,fs.lookup f=some d->∃v,gs.lookup f=some v/\qY K H d v
 | [],[],_,_=>⟨λ_=>rfl,λd h=>by cases h⟩
 | [],_::_,h,_=>by cases h
 |_::_,[],h,_=>by cases h
 | (k,d)::fs,(k',v)::gs,h,e=>by
  rw[aw,aw]at h;injection h with h1 h2
  have h1:k=k':=h1;subst h1;obtain⟨i1,i2⟩:=Cg (f:=f) h2 λi d v a b=>e (i+1) d v (by simpa using a) (by simpa using b)
  rw[hR,hR];cases hk:(f == k) with
  |true =>
   refine⟨λq=>?_,λd' q=>?_⟩
   .cases q
   .cases q;exact⟨v,rfl,e 0 _ _ rfl rfl⟩
  |false=>exact⟨i1,i2⟩
variable {c f m:Str}{C:Addr}{ta:TE}{t:TA}
def xW{a:ME}(I:wj K c C) (na:nZ K C f) (ha:SR K ta a):SR K (ab0 K ta f) (wx (yr c f) a):=by
 intro H₀ Hf₀ Hf S σ H Fs d S' R e Q q;obtain⟨x,e1,e⟩:=oBq.mp e;obtain⟨z,e3,e⟩:=oMq.mp e;cases e;refine ha R (d:=x.1) (S':=x.2) e1 _ λHf1 H1 Fs1 v t1 R1 r1=>?_
 cases hx:x.1 with
 |ins c' fs =>
  rw[hx]at r1 e3;have e5:(if c'=c then fs.lookup f else none)=some d:=e3
  clear e3
  split at e5
  .rename_i hc;subst hc;obtain⟨a',C',dx,gs,rfl,hns,ha',hk,he⟩:=r1.ins_inv;rw[I.ns]at hns;cases hns;obtain⟨w,hw,rw'⟩:=(Cg (f:=f) hk he).2 d e5;exact⟨a',C,dx,gs,w,rfl,ha',I.cl,na,hw,q _ _ _ w t1 R1 rw'⟩
  .cases e5
 |_=>rw[hx]at e3;cases e3
def Dx(C:Addr) (fl:List Str):Sp:=λvs H Q _=>∃(x dx:Addr) (ws:List V),vs = .ref x::ws/\ws.length=fl.length/\H x=some (.ins C dx [])/\Q .non (pY H x (.ins C dx (fl.zip ws)))
def RP{H:Hp}:∀{fl:List Str}{ds:List D}{vs:List V},ds.length=fl.length->qe K H ds vs->(fl.zip ds).map (·.1)=(fl.zip vs).map (·.1)/\∀(i:Nat) (d:Str×D) (v:Str×V),(fl.zip ds)[i]?=some d->(fl.zip vs)[i]?=some v->qY K H d.2 v.2:=by
 intro fl ds vs hl hr;refine⟨?_,λi d v e1 e2=>?_⟩
 .rw [fE (by lia),fE (by rw[←hr.1];lia)]
 .obtain ⟨_,h2⟩:=cX.mp e1;obtain⟨_,g2⟩:=cX.mp e2;exact hr.2 i _ _ h2 g2
def HP{fl:List Str}{a:ML}{E:XK}(I:wj K c C) (ha:UQ K t a):SK K (Sb C (Dx C fl) [] E t) (Eh c fl a):=by
 intro H₀ Hf₀ Hf S σ H Fs av S' R e Q q;obtain⟨x,e1,e⟩:=oBq.mp e;split at e
 .rename_i hc;cases e;refine ha R (ds:=x.1) (S':=x.2) e1 _ λHf1 H1 Fs1 vs t1 R1 r1 p dx hp hdx hne=>?_
  rw[aNq];have hx':pY H1 dx (.own p) p=none:=by rw[nT (Ne.symm hne)];exact hp
  refine⟨p,dx,vs,rfl,by rw[←r1.1,hc.1],og,rfl,?_⟩
  rw[CT];obtain⟨t2,R2⟩:=R1.layF (o:=.own p) hdx;obtain⟨t3,R3⟩:=R2.layF (o:=.ins C dx (fl.zip vs)) hx';have sc:∀(i:Nat) (d:D) (v:V),x.1[i]?=some d->vs[i]?=some v->qY K (pY (pY Hf1 dx (.own p)) p (.ins C dx (fl.zip vs))) d v:=λi d v h1 h2=>(r1.2 i d v h1 h2).scal (gZ.mp hc.2 d (mGq h1))
  obtain⟨z1,z2⟩:=RP (K:=K) (fl:=fl) hc.1 ⟨r1.1,sc⟩;exact q _ _ _ (.ref p) [] ((t1.trans t2).trans t3) R3 (.sh (.ins I.ns og z1 z2)) .nil
 .cases e
end
def Tc(S:AS) (c:Str) (fl:List Str) (a:ML):Eh c fl a S=(a S).bind λx=>if x.1.length=fl.length/\Xy x.1=true then some (.sh (.ins c (fl.zip x.1)),x.2) else none:=rfl
end Z
namespace Xe
open PySem PySem.Spec PySem.W PyProof.Rows L2 Mr
def Wi(C:Addr) (m:Str) (ta:TE) (t:TA):TA:=λσ H Q=>ta σ H λx H1=>∃a dx fs,x = .ref a/\H1 a=some (.ins C dx fs)/\fs.lookup m=none/\t σ H1 λvs H2=>Q (x::vs) H2
structure O9 (P:iW) (w:iZ) (K:Frag) (mg:Str->Option Value) (base:Heap) (k:Nat) (C:Addr) (m:Str) (ps:List Str) (sp:Sp) (f:Addr) (fd:jb):Prop where
 cl:Km K C
 mt:EO K C m f
 b:qI K fd ps []
 ok:wX P w K mg base (UP P w) k f fd ps sp
structure MtN (P:iW) (w:iZ) (K:Frag) (mg:Str->Option Value) (base:Heap) (k:Nat) (C:Addr) (m:Str) (ps:List Str) (sp:Sp) (f:Addr) (fd:jb):Prop where
 cl:Km K C
 mt:EO K C m f
 b:qI K fd ps []
 ok:wX P w K mg base O0 k f fd ps sp
section
variable {X:Cx}{k:Nat}{C:Addr}{m:Str}{ps:List Str}{sp:Sp}{f:Addr}{fd:jb}{p pos pos2 pos3 apos:Pos}{o e:Expr}{es:List Expr}{ta:TE}{t:TA}{h₀:ExceptHandler}{hs:List ExceptHandler}{th:XH}
def Lw{pl:Sem Bool}(G:MtN X.prog X.w X.K X.mg X.base k C m ps sp f fd) (hr:si k X.A) (he:PE X o ta)
  (ht:eval (.Call (.Attribute o m apos) [] [] pos) X.env=(do
   let ov ←eval o X.env
   ki apos.atName
   let (f,first) ←kj [ov] (jN ov m pl)
   kx pos f first (jl pos (iY [] X.env)) (kf pos (jK [] X.env))):=by rfl):PE X (.Call (.Attribute o m apos) [] [] pos) (wk sp [] E0 (Wi C m ta vL)) :=
 Ro he G.cl G.mt G.ok hr G.b .nil M1 ht
def EA{i:Nat}{y:Str}{py:Pos}{pl:Sem Bool}(G:O9 X.prog X.w X.K X.mg X.base k C m ps sp f fd) (hr:si k X.A) (he:PE X.nox o ta) (ha:PA X.nox (e::es) t) (hh:PH X (h₀::hs) th) (hN:X.N.Nodup) (hi:X.N[i]?=some y) (hx:Loc X.env.scope y)
  (hf:X.fn y=true∨X.env.scope.names.lookup y=some .local:=by trivial) (hstk:X.stack=X.env::X.outer:=by rfl) (hfr:X.env.frame=some X.env.locals:=by rfl)
  (hst:iY (e::es) X.env=(false,eval e X.env)::iY es X.env:=by rfl) (hpl:(jl pos (iY es X.env)).any (·.1)=false:=by rfl)
  (ht:eval (.Call (.Attribute o m apos) (e::es) [] pos) X.env=(do
   let ov ←eval o X.env
   ki apos.atName
   let (f,first) ←kj [ov] (jN ov m pl)
   kx pos f first (jl pos (iY (e::es) X.env)) (kf pos (jK [] X.env))):=by rfl)
  (hsw:kg (.Call (.Attribute o m apos) (e::es) [] pos) (some (.Name y py)) pos2.line X.env=pure false:=by rfl) :
  PTb X [.Assign [.Name y py] (.Call (.Attribute o m apos) (e::es) [] pos) pos2] h₀ hs (Xj i sp (Wi C m ta t) th):=by
 intro mZ s σ H D I h;refine kP (wpAny_Assign_Name (W.methodCall_KW (pl:=pl) (jg (he mZ s σ H _ (I.wish _) h) (λu s1 z=>?_) λ_ _ z=>z.elim) ht) hsw)
 obtain⟨x,H1,I1,rx,a,dx,fs,ex,ea,l,q⟩:=z;subst ex;obtain rfl:u=ai a:=rx;refine BG (X:=X.nox) I1 ea G.cl G.mt l ?_;refine W.callWith_K (first:=[.ref a]) (h₀:=X.base) I.ok.mod.kin G.mt.kp (jg (ha pos mZ s1 σ H1 _ I1 q) (λus s2 z=>?_) λ_ _ z=>z.elim) hst hpl
 obtain⟨vs,H2,I2,r,q2⟩:=z;refine⟨I2.kIn,?_⟩;refine Up (us:=.ref a::us) (vs:=.ref a::vs) G.ok G.b hr hstk hfr hh I2.unwish (.cons rfl r) q2 λu s' hz1=>?_
 obtain⟨v,H2,I2,rv,q2⟩:=hz1;exact Dh I2 hN hi hx rv (λs3 I3=>jF ⟨_,H2,I3,q2⟩) hf
end
end Xe
namespace Z
open PySem L2 Mr Xe
def DH(c m:Str) (k:MK) (a:MA):MA:=λS=>(k S).bind λo=>(GG c m o.1).bind λd=>(a o.2).map λx=>(.sh d::x.1,x.2)
section
variable {K:W.Frag}{c m:Str}{C:Addr}{ta:TE}{t:TA}
def U7{o:AV}{d:D}(h:GG c m o=some d):∃fs,o = .sh (.ins c fs)/\d = .ins c fs/\fs.lookup m=none:=by
 unfold GG at h;split at h
 .rename_i c' fs;split at h
  .rename_i hc;cases h;obtain⟨rfl,hc⟩:=hc;exact⟨fs,rfl,rfl,hc⟩
  .cases h
 .cases h
def oQ.cons'{Hf H:Hp}{a:AV}{as:List AV}{v:V}{vs:List V}{F:List Addr}{Gs:List (List Addr)}(h:pE K Hf H a v F) (r:oQ K Hf H as vs Gs):oQ K Hf H (a::as) (v::vs) (F::Gs):=by
 obtain⟨l1,l2,e⟩:=r;refine⟨by simp[l1],by simp[l2],λi b w G e1 e2 e3=>?_⟩
 cases i with
 |zero=>cases e1;cases e2;cases e3;exact h
 |succ i=>exact e i b w G (by simpa using e1) (by simpa using e2) (by simpa using e3)
def yn{k:MK}{a:MA}(I:wj K c C) (hk:SK K ta k) (ha:SA K t a):SA K (Wi C m ta t) (DH c m k a):=by
 intro H₀ Hf₀ Hf S σ H Fs as S' R e Q q;obtain⟨o,e1,e⟩:=oBq.mp e;obtain⟨d,e2,e⟩:=oBq.mp e;obtain⟨x,e3,e⟩:=oMq.mp e;cases e;refine hk R (a:=o.1) (S':=o.2) e1 _ λHf0 H0 Fs0 v0 F0 t0 R0 r0 o0=>?_
 obtain⟨fs,ho,hd,hl⟩:=U7 e2;rw[ho]at r0;obtain⟨hF,rd⟩:=r0.sh_inv;obtain⟨a',C',dx,gs,rfl,hns,ha',hkk,he⟩:=(rd.mono R0.sub).ins_inv;rw[I.ns]at hns;cases hns;refine⟨a',dx,gs,rfl,ha',(Cg (f:=m) hkk he).1 hl,ha R0 (as:=x.1) (S':=x.2) e3 _ λHf1 H1 Fs1 vs Gs t1 R1 r1 o1=>?_⟩
 subst hd;refine q _ _ _ (.ref a'::vs) ([]::Gs) (t0.trans t1) R1 (oQ.cons' (.sh (rd.mono t1.sf)) r1) ?_;rw[fCq,cm];exact o1.back t0
end
def Mu{X:Cx}{E:XK}{k:Nat}{C:Addr}{m:Str}{ps:List Str}{g:xU}{f:Addr}{fd:jb}{pos apos:Pos}{o e:Expr}{es:List Expr}{ta:TE}{t:TA}{pl:Sem Bool}(G:O9 X.prog X.w X.K X.mg X.base k C m ps (yi X.K g) f fd) (hr:si k X.A) (hx:wA (UP X.prog X.w) X E) (he:PE X o ta) (ha:PA X (e::es) t)
  (hst:iY (e::es) X.env=(false,eval e X.env)::iY es X.env:=by rfl) (hpl:(jl pos (iY es X.env)).any (·.1)=false:=by rfl)
  (ht:eval (.Call (.Attribute o m apos) (e::es) [] pos) X.env=(do
   let ov ←eval o X.env
   ki apos.atName
   let (f,first) ←kj [ov] (jN ov m pl)
   kx pos f first (jl pos (iY (e::es) X.env)) (kf pos (jK [] X.env))):=by rfl):PE X (.Call (.Attribute o m apos) (e::es) [] pos) (wk (yi X.K g) [] E (Wi C m ta t)) :=
 Wo he G.cl G.mt G.ok hr G.b .nil hx ha hst hpl ht
def Au(S:AS) (c m:Str) (k:MK) (a:MA):DH c m k a S=(k S).bind λo=>(GG c m o.1).bind λd=>(a o.2).map λx=>(.sh d::x.1,x.2):=rfl
structure Kr (P:iW) (w:iZ) (K:W.Frag) (mg:Str->Option Value) (base:Heap) (c:Str) (C f:Addr) (fd:jb) (ps fl:List Str):Prop where
 mki:Mk K C f
 ok:wX P w K mg base O0 1 f fd ps (Dx C fl)
 b:qI K fd ps []
 m:mg c=some (.ref C)
def Il{X:Cx}{c:Str}{C f:Addr}{fd:jb}{ps fl:List Str}{p pos:Pos}{e:Expr}{es:List Expr}{t:TA}(G:Kr X.prog X.w X.K X.mg X.base c C f fd ps fl) (hr:si 2 X.A) (ha:PA X (e::es) t) (hg:Gl X c:=by rfl) (hdb:(c == ("__debug__" : Str))=false:=by decide)
  (he:iY (e::es) X.env=(false,eval e X.env)::iY es X.env:=by rfl) (hpl:(jl pos (iY es X.env)).any (·.1)=false:=by rfl):PE X (.Call (.Name c p) (e::es) [] pos) (Sb C (Dx C fl) [] E0 t) :=
 V9 G.mki G.ok hr hg G.m G.b .nil M1 ha hdb he hpl
section
variable {K:W.Frag}{C:Addr}{vs:List V}{H:Hp}{Q:VK}{E:XK}{f1 f2 f3 p1 p2 p3:Str}
def BJ{fl:List Str}(h:Dx C fl vs H Q E):vs.length=fl.length+1:=by
 obtain⟨x,dx,ws,rfl,hl,_⟩:=h;rw[lCq,hl]
def ab9(cl:Km K C) (n1:nZ K C f1) (h:Dx C [f1] vs H Q E):QR K (uS 0) (uS 1) f1 { nx:=λ_ H'=>Q .non H',rt:=Q } (sZ ["self", p1] vs) H:=by
 obtain⟨x,dx,ws,rfl,hl,hH,q⟩:=h
 match ws,hl with
 | [w],_=>exact⟨w,rfl,.ref x,rfl,x,C,dx,[],rfl,hH,cl,n1,by decide,q⟩
def Xi(cl:Km K C) (n1:nZ K C f1) (n2:nZ K C f2) (n3:nZ K C f3) (d12:¬ f1=f2) (d13:¬ f1=f3) (d23:¬ f2=f3) (h:Dx C [f1,f2,f3] vs H Q E) :
  Ik (QR K (uS 0) (uS 1) f1) (Ik (QR K (uS 0) (uS 2) f2) (QR K (uS 0) (uS 3) f3)) { nx:=λ_ H'=>Q .non H',rt:=Q } (sZ ["self", p1,p2,p3] vs) H:=by
 obtain⟨x,dx,ws,rfl,hl,hH,q⟩:=h
 match ws,hl with
 | [w1,w2,w3],_ =>
  have e2:xu f2 w2 [(f1,w1)]=[(f1,w1),(f2,w2)]:=by simp[xu,d12]
  have e3:xu f3 w3 [(f1,w1),(f2,w2)]=[(f1,w1),(f2,w2),(f3,w3)]:=by simp[xu,d13,d23]
  refine⟨w1,rfl,.ref x,rfl,x,C,dx,[],rfl,hH,cl,n1,by decide,w2,rfl,.ref x,rfl,x,C,dx,_,rfl,og,cl,n2,fZ rfl,w3,rfl,.ref x,rfl,x,C,dx,_,rfl,og,cl,n3,?_,?_⟩
  .show (xu f2 w2 [(f1,w1)]).length<1000;rw[e2];exact fZ rfl
  .show Q .non (pY (pY (pY H x _) x _) x (.ins C dx (xu f3 w3 (xu f2 w2 [(f1,w1)]))));rw[CT,CT,e2,e3];exact q
end
end Z
namespace Mr
open PySem PySem.Spec PySem.W PyProof.Rows L2 HT
section
variable {X:Cx}
def JS{mZ:List (Addr×Obj)}{s:iM}{σ:St}{H:Hp}{ps:List Addr}{rs:List (List Int)}{r:List Int}{p b:Addr}(I:Inv X mZ σ H s) (hu:X.A.units+65<jB) (e1:qW H ps rs) (hp:p∈ps) (h2:H b=some (.lst (r.map V.int))):SeqAt.EqAt X.A.in1 s (.ref p) (.ref b) (decide (uq H p=r)):=by
 by_cases e:p=b
 .subst e;have h3:=e1.fn_row hp;rw[h2]at h3;have h4:r.map V.int=(uq H p).map V.int:=by injection h3 with h3;injection h3
  have h5:r=uq H p:=(List.map_inj_right (λ_ _ z=>by injection z)).mp h4
  rw[decide_eq_true h5.symm];exact SeqAt.EqAt.same _
 .refine SeqAt.EqAt.of_refs e λprog w E Q hq=>?_
  obtain⟨vs,hl,hi,_⟩:=xp I (rR.of (e1.fn_row hp));obtain⟨ws,hl2,hi2,_⟩:=xp I (rR.of h2);exact W.eq_intsK (prog:=prog) (w:=w) (A:=X.A.in1) hl hi hl2 hi2 (by show X.A.units+1+64<jB;lia) hq
noncomputable def ab4(neg:Bool):R2:=λx y H Q=>∃(b a:Addr) (ps:List Addr) (rs:List (List Int)) (r:List Int),x = .ref b/\y = .ref a/\H a=some (.lst (ps.map V.ref))/\qW H ps rs/\H b=some (.lst (r.map V.int))/\Q (.bl (if neg then !decide (r∈rs) else decide (r∈rs))) H
def R9{H:Hp}{ps:List Addr}{rs:List (List Int)}{r:List Int}(e1:qW H ps rs):(ps.map ai).toArray.any (λy=>decide (uq H (xy y)=r))=decide (r∈rs):=by
 rw[List.any_toArray,gL,cg,bO,decide_eq_true_iff,e1.fn,mMq];refine⟨λhz1=>?_,λ⟨p,hp,z⟩=>⟨p,hp,decide_eq_true z⟩⟩
 obtain⟨p,hp,z⟩:=hz1;exact⟨p,hp,of_decide_eq_true z⟩
def OF(hu:X.A.units+65<jB):Gr X (jv .NotIn) (ab4 true):=by
 intro mZ s σ H x y v u Q I rx ry h;obtain⟨b,a,ps,rs,r,rfl,rfl,h1,e1,h2,q⟩:=h;cases rx;cases ry;obtain⟨its,rv,pl,hz⟩:=I.list (rR.of h1);have ei:=yR rv;subst ei;refine SeqAt.notIn_listAt (λy=>decide (uq H (xy y)=r)) pl.isList (λy hy=>?_) ?_
 .rw [List.mem_toArray]at hy;obtain⟨p,hp,rfl⟩:=mMq.mp hy;exact JS I hu e1 hp h2
 .rw [R9 e1];exact⟨.bl _,H,I,rfl,q⟩
def NX:V->List V->Hp->VK->Prop:=λx vs H Q=>∃(a b:Addr) (ps:List Addr) (rs:List (List Int)) (r:List Int),x = .ref a/\vs=[.ref b]/\H a=some (.lst (ps.map V.ref))/\qW H ps rs/\H b=some (.lst (r.map V.int))/\r∈rs/\Q (.int (rs.idxOf r:Nat)) H
def Os(hu:X.A.units+65<jB):MtR X "list.index" NX:=by
 intro mZ s σ H x xs v us Q I rx r h;obtain⟨a,b,ps,rs,row,rfl,rfl,h1,e1,h2,hm,q⟩:=h;cases rx;obtain⟨u,rfl,ru⟩:=Cp r;cases ru;obtain⟨its,rv,⟨o,n,ho,hc,hd0,hd⟩,hz⟩:=I.list (rR.of h1);have ei:=yR rv;subst ei;obtain⟨cls,dd,data,sl⟩:=o;simp only at hc hd0 hd;subst hc hd0 hd;have hj:rs.idxOf row<rs.length:=bM.mpr hm;have hs:iX=16777216:=jj;have hl:ps.length=rs.length:=by rw[e1.fn,lMq]
 rw[lMq]at hz;have hg:∀i (hi:i<ps.length),uq H ps[i]=rs[i]'(hl ▸ hi):=λi hi=>by
  have:=e1.fn;have h3:rs[i]?=(ps.map (uq H))[i]?:=by rw[←this]
  rw[gMq,gEg hi,gEg (hl ▸ hi)]at h3;exact(aS.inj h3).symm
 refine jH bE ⟨_,ho,rfl⟩ fB (ft _ _)
  (SeqAt.list_indexAt a (ps.map ai).toArray n none sl (.ref b) (λy=>decide (uq H (xy y)=row)) (rs.idxOf row) (by simp[hl];exact hj) (by lia) ?_ ?_) ⟨ho,λy hy=>?_,?_⟩
 .rw [gq,hU];refine decide_eq_true ?_;show uq H ps[rs.idxOf row]=row;rw[hg _ (hl ▸ hj),dU]
 .intro j hjs hlt;rw[gq,hU];refine decide_eq_false ?_;have hj2:j<ps.length:=by simpa using hjs
  show ¬ uq H ps[j]=row;rw[hg j hj2];intro z;have h9:=fS (p:=(· == row)) hlt;rw[beq_eq_false_iff_ne]at h9;exact h9 z
 .obtain ⟨p,hp,rfl⟩:=mMq.mp (show y∈ps.map ai by simpa using hy)
  exact JS I hu e1 hp h2
 .exact ⟨.int _,H,I.tok _,⟨_,rfl⟩,q⟩
end
end Mr
namespace Z
open PySem L2 Mr Xe
def Zz(neg:Bool) (a:ME):ME:=λS=>(a S).bind λx=>match x.1 with
 | .list ds=>(wy ds).map λrs=>(.bl (if neg then !decide (([]:List Int)∈rs) else decide (([]:List Int)∈rs)),x.2)
 |_=>none
def Rt(a:ME):ME:=λS=>(a S).bind λx=>match x.1 with
 | .list ds=>(wy ds).bind λrs=>if ([]:List Int)∈rs then some (.int (rs.idxOf []:Nat),x.2) else none
 |_=>none
section
variable {K:W.Frag}{te:TE}{a:ME}
def aaA(neg:Bool) (ha:SR K te a):SR K (WW (ab4 neg) (Qz vL) te) (Zz neg a):=by
 intro H₀ Hf₀ Hf S σ H Fs d S' R e Q q;obtain⟨x,e1,e⟩:=oBq.mp e;refine⟨aV _,λb hb=>?_⟩
 obtain⟨t4,R4,n1,n2,n3⟩:=R.new (o:=.lst []) hb;refine ha R4 (d:=x.1) (S':=x.2) e1 _ λHf1 H1 Fs1 v t1 R1 r1=>?_
 split at e
 .rename_i ds hx;obtain⟨rs,e2,e⟩:=oMq.mp e;cases e;rw[hx,Bi e2]at r1;obtain⟨p,us,rfl,h3,h4⟩:=r1.list_inv;obtain⟨ps,rfl,hE⟩:=vT h4;exact⟨b,p,ps,rs,[],rfl,rfl,h3,hE,t1.sh _ _ og,q _ _ _ _ (t4.trans t1) R1 .bl⟩
 .cases e
def WQ(ha:SR K te a):SR K (Nn K "list" NX te (tM (Qz vL) vL)) (Rt a):=by
 intro H₀ Hf₀ Hf S σ H Fs d S' R e Q q;obtain⟨x,e1,e⟩:=oBq.mp e;refine ha R (d:=x.1) (S':=x.2) e1 _ λHf1 H1 Fs1 v t1 R1 r1=>?_
 split at e
 .rename_i ds hx;obtain⟨rs,e2,e⟩:=oBq.mp e;split at e
  .rename_i hm;cases e;rw[hx,Bi e2]at r1;obtain⟨p,us,rfl,h3,h4⟩:=r1.list_inv;obtain⟨ps,rfl,hE⟩:=vT h4;refine⟨.inl ⟨rfl,_,rR.of h3⟩,aV _,λb hb=>?_⟩
   obtain⟨t4,R4,n1,n2,n3⟩:=R1.new (o:=.lst []) hb;exact⟨p,b,ps,rs,[],rfl,rfl,(by rw[nT (qq h3 hb)];exact h3),hE.same t4.sh,og,hm,q _ _ _ _ (t1.trans t4) R4 .int⟩
  .cases e
 .cases e
end
def XS(S:AS) (neg:Bool) (a:ME):Zz neg a S=(a S).bind λx=>match x.1 with
 | .list ds=>(wy ds).map λrs=>(.bl (if neg then !decide (([]:List Int)∈rs) else decide (([]:List Int)∈rs)),x.2)
 |_=>none:=rfl
def YN(S:AS) (a:ME):Rt a S=(a S).bind λx=>match x.1 with
 | .list ds=>(wy ds).bind λrs=>if ([]:List Int)∈rs then some (.int (rs.idxOf []:Nat),x.2) else none
 |_=>none:=rfl
end Z
namespace Z
open PySem PySem.Spec PySem.W PyProof.Rows L2 Mr Xe
end Z
namespace Mr
open PySem L2
open PySem.Spec PyProof.Rows
end Mr
namespace Z
open PySem L2 Mr Xe
def afc(f:D->D->Option D) (m b:ME):ME:=λS=>(m S).bind λx=>(b x.2).bind λy=>(f x.1 y.1).bind λd=>if d.scal then some (d,y.2) else none
def ae3(i:Nat) (g:Int->Int->Int) (b:ME):MS:=λS=>(nA i S).bind λx=>(intOf x.1).bind λa=>(b x.2).bind λy=>(intOf y.1).map λc=>.nx (y.2.set i (some (.sh (.int (g a c)))))
def adJ(i:Nat) (pf:MP) (mm:ME):MS:=λS=>(pf S).bind λx=>(qB x.2 i).bind λavs=>(pe (.ow avs) x.1).bind λas=>(mm (x.2.set i none)).bind λy=>we (y.2[i]?=some none/\as.length<qP) (some (.nx (y.2.set i (some (putAt (.ow avs) x.1 (as++[.sh y.1]))))))
def RG(g:MF) (f:xU) (a:MA):MX:=λS=>(a S).bind λx=>(f (x.1.map nR)).bind (wm λr=>(g [nR r]).map λz=>.ok (.rt z))
section
variable {K:W.Frag}
def Rb{E:XK}{ta:TA}{a:MA}{f:xU}{g:MF}(ha:SA K ta a):K6 K E (Qu (wk (oY K g) [] E0 (tM (wk (yi K f) [] E ta) vL))) (RG g f a):=by
 intro H₀ Hf₀ Hf S σ H Fs o R e D q;obtain⟨x,e1,e⟩:=oBq.mp e;obtain⟨r,e2,e⟩:=oBq.mp e;refine ha R (as:=x.1) (S':=x.2) e1 _ λHf1 H1 Fs1 vs Gs t1 R1 r1 o1=>?_
 obtain⟨R2,r2,t2⟩:=R1.gives t1 r1 o1;rw[aNq];refine⟨_,_,r,R2.sub,r2,e2,zu R2 e t2.sf q λav z Hf' H' v F s1 R' ra nd fr=>?_⟩
 obtain⟨z1,ez,z⟩:=oMq.mp z;cases z;have rs:oQ K Hf' H' [av] [v] [F]:=oQ.nil.snoc ra;have n:∀q∈[F].flatten,Hf' q=none:=λq hq=>(rs.owned q hq).2
 have hF:∀q∈[F].flatten,q∈F:=λq hq=>by rwa [aO]at hq
 have R3:=R'.frz (λq hq=>⟨R2.fr.free (fr q (hF q hq)),λm=>(R2.mem m).1 (fr q (hF q hq))⟩) n
 have r3:=rs.frozen (rq n) λq hq=>AA hq
 refine⟨_,[nR av],z1,R3.sub,r3,ez,λHf4 H4 v4 F4 u1 u2 u3 l' ra' nd' fr'=>?_⟩
 have R4:=yN R3 u1 u2 u3 l';exact q _ _ _ _ R4.sf R4.fr R4.sub R4.lim ra' nd' λp hp=>R3.fr.free (fr' p hp)
end
def Zf(S:AS) (g:MF) (f:xU) (a:MA):RG g f a S=(a S).bind λx=>(f (x.1.map nR)).bind (wm λr=>(g [nR r]).map λz=>.ok (.rt z)):=rfl
def zqg:=@Zf
def zqa:=aa zq (aa zq3 (aa zq4 (aa zq5 (aa zq6 (aa zq7 (aa zq8 (aa zqb (aa zqd (aa zqe (aa zqf (zqg)))))))))))
end Z
local macro_rules | `(tactic| simp_arith [$ls,*]) => `(tactic| simp -implicitDefEqProofs only [Z.zqa,Nat.reduceAdd,Nat.reduceSub,Nat.reduceEqDiff,Nat.reduceLeDiff,List.reduceReplicate,↓reduceIte,reduceCtorEq,$ls,*])
namespace Z
open PySem PySem.Spec PySem.W PyProof.Rows L2 Mr Xe
def abK(ta:TE):TE:=λσ H _=>ta σ H λ_ _=>False
def Z9{X:Cx}{m:Str}{pos apos:Pos}{o:Expr}{ta:TE}{pl:Sem Bool}(he:PE X o ta)
  (ht:eval (.Call (.Attribute o m apos) [] [] pos) X.env=(do
   let ov ←eval o X.env
   ki apos.atName
   let (f,first) ←kj [ov] (jN ov m pl)
   kx pos f first (jl pos (iY [] X.env)) (kf pos (jK [] X.env))):=by rfl):PE X (.Call (.Attribute o m apos) [] [] pos) (abK ta):=by
 intro mZ s σ H Q I h;refine W.methodCall_KW (pl:=pl) (rL (he mZ s σ H _ I h) λu s1 hz1=>?_) ht
 obtain⟨x,H1,I1,rx,z⟩:=hz1;exact z.elim
def YO(f:xU) (a:MA):MX:=λS=>(a S).bind λx=>(f (x.1.map nR)).bind (wm λ_=>none)
def WS{K:Frag}{E:XK}{ta:TA}{a:MA}{f:xU}(ha:SA K ta a):K6 K E (Qu (abK (wk (yi K f) [] E ta))) (YO f a):=by
 intro H₀ Hf₀ Hf S σ H Fs o R e D q;obtain⟨x,e1,e⟩:=oBq.mp e;obtain⟨r,e2,e⟩:=oBq.mp e;refine ha R (as:=x.1) (S':=x.2) e1 _ λHf1 H1 Fs1 vs Gs t1 R1 r1 o1=>?_
 obtain⟨R2,r2,t2⟩:=R1.gives t1 r1 o1;rw[aNq];exact⟨_,_,r,R2.sub,r2,e2,zu R2 e t2.sf q λav z Hf' H' v F s1 R' ra nd fr=>by cases z⟩
def acp(S:AS) (f:xU) (a:MA):YO f a S=(a S).bind λx=>(f (x.1.map nR)).bind (wm λ_=>none):=rfl
end Z
namespace Mr
open PySem L2
variable {K:W.Frag}{h:Heap}{mg:Str->Option Value}{x z:Str}{st:Stmt}{f O:Addr}{fd:jb}
structure At (K:W.Frag) (x:Str) (st:Stmt) (f:Addr) (fd:jb):Prop where
 a:W.nsIn K iV x=some (some (.ref f))
 F:FA K x x st f fd
structure Yb (K:W.Frag) (O:Addr) (z x:Str) (st:Stmt) (f:Addr) (fd:jb):Prop where
 a:W.findIn K (.ref O) z=some (some (.ref f))
 F:FA K z x st f fd
 i:W.isFn K (.ref f)=true
section
variable {oc kV doc pm qK ct:Value}{od an:Option Addr}{osl:Array (Option Value)}
def abM(a:W.nsIn K iV x=some (some (.ref f))) (l:K.lookup f=some ⟨oc,od,.func (W.fnOf x x (rS st) (qL st) (nH st) .none kV doc pm an qK ct),osl⟩)
  (c:W.codeIn K qK x=true) (k:W.keepIn K (.ref f)=true):At K x st f (W.fnOf x x (rS st) (qL st) (nH st) .none kV doc pm an qK ct):=⟨a,va l c k⟩
def Y9(a:W.findIn K (.ref O) z=some (some (.ref f))) (l:K.lookup f=some ⟨oc,od,.func (W.fnOf z x (rS st) (qL st) (nH st) .none kV doc pm an qK ct),osl⟩)
  (c:W.codeIn K qK x=true) (k:W.keepIn K (.ref f)=true) (i:W.isFn K (.ref f)=true):Yb K O z x st f (W.fnOf z x (rS st) (qL st) (nH st) .none kV doc pm an qK ct):=⟨a,va l c k,i⟩
end
abbrev BA(x q:Str) (st:Stmt) (ps:List Str) (us:List Value):Prop:=∀(kV doc pm:Value) (an:Option Addr) (qK ct:Value),bindArgs (W.fnOf x q (rS st) (qL st) (nH st) .none kV doc pm an qK ct) ⟨us,[]⟩=pure (ps.zip us)
section
variable {q a b c d:Str}(F:FA K x q st f fd)
include F
def b1(h:∀u,BA x q st [a] [u]):qI K fd [a] []:=F.binds λ_ _ _ _ _ _ us hl=>by
 obtain - | ⟨u, - | ⟨v,l⟩⟩:=us <;> cases hl
 apply h
def b2(h:∀u v,BA x q st [a,b] [u,v]):qI K fd [a,b] []:=F.binds λ_ _ _ _ _ _ us hl=>by
 obtain - | ⟨u, - | ⟨v, - | ⟨w,l⟩⟩⟩:=us <;> cases hl
 apply h
def b3(h:∀u v w,BA x q st [a,b,c] [u,v,w]):qI K fd [a,b,c] []:=F.binds λ_ _ _ _ _ _ us hl=>by
 obtain - | ⟨u, - | ⟨v, - | ⟨w, - | ⟨y,l⟩⟩⟩⟩:=us <;> cases hl
 apply h
def b4(h:∀u v w y,BA x q st [a,b,c,d] [u,v,w,y]):qI K fd [a,b,c,d] []:=F.binds λ_ _ _ _ _ _ us hl=>by
 obtain - | ⟨u, - | ⟨v, - | ⟨w, - | ⟨y, - | ⟨z,l⟩⟩⟩⟩⟩:=us <;> cases hl
 apply h
end
def Ak{ps:List Str}(X:K.In h) (G:h.Ns iV mg) (a:At K x st f fd) (b:qI K fd ps []):xP K mg x st ps f fd:=⟨a.F,W.mg_of X G a.a,b⟩
end Mr
namespace Z
open PySem L2 Mr Xe
end Z
namespace HT
open PySem PyProof.Rows
open PySem.SeqAt
open PySem.AutoSeq1 (wpAny_loadPart')
open PySem.MeetsSeq PySem.MeetsSeq2 PySem.MeetsSeq3
end HT
namespace Mr
open PySem L2
open PySem.Spec PyProof.Rows
end Mr
namespace Z
open PySem L2 Mr Xe
def BN(S:AS):AS:=S.map λx=>x.map λa=>.sh (nR a)
def N4(k:MK):MK:=λS=>(k (BN S)).bind λy=>if xx y.1=true then some (y.1,S) else none
def yd(x y:Nat) (body:MS):List D->AS->Option Gq
 | [],S=>some (.nx S)
 | .tup [a,b]::ds,S=>(body ((S.set x (some (.sh a))).set y (some (.sh b)))).bind λo=>match o with
  | .nx S'=>yd x y body ds S'
  | .ct S'=>yd x y body ds S'
  | .bk S'=>some (.nx S')
  | .rt a=>some (.rt a)
 |_,_=>none
def QB(x y:Nat) (k:MK) (body:MS):MS:=λS=>(vx k S).bind λz=>(rW (nR z.1)).bind λds=>yd x y body ds z.2
def Uj(g f:xU) (a:MA):MX:=λS=>(a S).bind λx=>(f (x.1.map nR)).bind (wm λr=>(g [nR r]).bind (wm λz=>some (.ok (.rt z))))
def U9(as:List AV):D->D->Option (List AV)
 | .int j,d=>if d.scal=true/\0<=j/\j.toNat<=as.length then some (as.take j.toNat ++ .sh d::as.drop j.toNat) else none
 |_,_=>none
def Uk(x i:Nat) (idx nn:ME):List Nat->MS:=λpath S=>(qB S i).bind λavs=>(pe (.ow avs) path).bind λas=>(idx ((BN S).set x (some (.sh (nR (.ow as)))))).bind λy=>(nn (BN S)).bind λz=>(U9 as y.1 z.1).bind λbs=>we (as.length<qP) (some (.nx (S.set i (some (putAt (.ow avs) path bs)))))
section
variable {K:W.Frag}{H₀ Hf₀ Hf H:Hp}{S:AS}{σ:St}{Fs:List (List Addr)}
def pH.pin(R:pH K H₀ Hf₀ Hf S σ H Fs):pH K H H H (BN S) σ H (aD S.length []):=by
 have lt:∀{i:Nat}{x:Option AV},(BN S)[i]?=some x->(aD S.length ([]:List Addr))[i]?=some []:=λ{i x} e=>by
  have:=(gSq.mp e).1;unfold BN at this;rw[lMq]at this;rw[bD,oJ this]
 refine⟨by unfold BN;rw[lMq];exact R.len,by unfold BN;rw[cL,lMq],λi av e=>?_,λi e=>lt e,by rw[rm];exact aT,λp hp=>(by rw[rm]at hp;cases hp),.refl _,.refl _,λb h g=>absurd h g,.refl _⟩
 have hF:=lt e;unfold BN at e;rw[gMq]at e;obtain⟨x,hx,e⟩:=oMq.mp e;obtain⟨a,ha,e2⟩:=oMq.mp e;subst ha;subst e2;obtain⟨v,F,s1,s2,r⟩:=R.rep i a hx;exact⟨v,[],s1,hF,.sh (r.rep R.sub)⟩
def Ol{te:TE}{k:MK}(hk:SK K te k):SK K te (N4 k):=by
 intro H₀ Hf₀ Hf S σ H Fs av S' R e Q q;obtain⟨y,e1,e⟩:=oBq.mp e;split at e
 .rename_i hc;cases e;refine hk R.pin (a:=y.1) (S':=y.2) e1 _ λHf1 H1 Fs1 v F t1 R1 r1 o1=>?_
  have hn:∀q∈F,H q=none:=o1.fr;exact q Hf H1 Fs v F ⟨.refl _,t1.sh,λ_ h=>h,λb h g=>absurd h g⟩ (R.laid t1.sh) (r1.bare hc λq hq=>R.sub.free (hn q hq)) ⟨o1.nd,λq hq=>R.fr.free (hn q hq),λq hq m=>(R.mem m).1 (hn q hq),λq hq=>.inl (hn q hq)⟩
 .cases e
def Vv{te:TE}{k:MK}{tb:TS}{body:MS}{x y:Nat}(hk:SK K te k) (hb:SS K tb body):SS K (P2 (M6 K te) (So K 2 (Cn (uA x) (Cn (uA y) Rx))) tb) (QB x y k body):=by
 intro H₀ Hf₀ Hf S σ H Fs o R e D h;obtain⟨z,e1,e⟩:=oBq.mp e;obtain⟨ds,e2,e⟩:=oBq.mp e;have hk':SK K te (vx k):=SK.frz hk;refine hk' R (a:=z.1) (S':=z.2) e1 _ λHf1 H1 Fs1 v F t1 R1 r1 o1=>?_
 obtain⟨d,hd⟩:=Ar (te:=te) e1;rw[hd]at r1;rw[hd,uc]at e2;obtain⟨a,vs,rfl,g1,g2⟩:=yV e2 r1.sh_inv.2;refine⟨a,rfl,⟨vs,R1.sub.seq g1⟩,Ky (xs:=vs) (λi σ' H'=>∃Hf' S' Fs',pH K H₀ Hf₀ Hf' S' σ' H' Fs'/\oX Hf1 Hf'/\yd x y body (ds.drop i) S'=some o) ⟨Hf1,z.2,Fs1,R1,.refl _,e⟩
  (λi σ' H' _ ⟨Hf',S',Fs',R',s',_⟩=>R'.sub.seq (s'.seq g1)) ?_ ?_⟩
 .rintro i w σ' H' hw ⟨Hf',S',Fs',R',s',e'⟩;obtain⟨di,hdi,rw'⟩:=g2.get' hw;have hlt:i<ds.length:=(gSq.mp hdi).1;rw[aL hlt]at e';have hdi':ds[i]=di:=(gSq.mp hdi).2;rw[hdi']at e';unfold yd at e';split at e'
  .rename_i q;cases q
  .rename_i a1 b1 ds' S1 q;obtain⟨q1,q2⟩:=iu.inj q;subst q1;subst q2;obtain⟨ob,e3,e4⟩:=oBq.mp e';obtain⟨p,us,rfl,h1,h2⟩:=(rw'.mono s').tup_inv;obtain⟨v1,ws,rfl,h3,h4⟩:=h2.cons_inv;obtain⟨v2,ws2,rfl,h5,h6⟩:=h4.cons_inv;cases h6.nil_inv;refine⟨p,_,rfl,Gm.of (R'.sub _ _ h1),rfl,_,_,rfl,_,_,rfl,rfl,hb ((R'.setD x h3).setD y h5) e3 _ ?_⟩;cases ob with
   |nx S2=>exact λHf2 σ2 H2 Fs2 s2 R2=>⟨Hf2,S2,Fs2,R2,s'.trans s2,e4⟩
   |ct S2=>exact λHf2 σ2 H2 Fs2 s2 R2=>⟨Hf2,S2,Fs2,R2,s'.trans s2,e4⟩
   |bk S2=>cases e4;exact λHf2 σ2 H2 Fs2 s2 R2=>h _ _ _ _ ((t1.sf.trans s').trans s2) R2
   |rt a=>cases e4;exact h
  .cases e'
 .rintro σ' H' ⟨Hf',S',Fs',R',s',e'⟩;rw[←g2.1,cF]at e';cases e';exact h _ _ _ _ (t1.sf.trans s') R'
def Tq{E:XK}{ta:TA}{a:MA}{f g:xU}(ha:SA K ta a):K6 K E (Qu (wk (yi K g) [] E (tM (wk (yi K f) [] E ta) vL))) (Uj g f a):=by
 intro H₀ Hf₀ Hf S σ H Fs o R e D q;obtain⟨x,e1,e⟩:=oBq.mp e;obtain⟨r,e2,e⟩:=oBq.mp e;refine ha R (as:=x.1) (S':=x.2) e1 _ λHf1 H1 Fs1 vs Gs t1 R1 r1 o1=>?_
 obtain⟨R2,r2,t2⟩:=R1.gives t1 r1 o1;rw[aNq];refine⟨_,_,r,R2.sub,r2,e2,zu R2 e t2.sf q λav z Hf' H' v F s1 R' ra nd fr=>?_⟩
 obtain⟨z1,ez,z⟩:=oBq.mp z;have rs:oQ K Hf' H' [av] [v] [F]:=oQ.nil.snoc ra;have n:∀q∈[F].flatten,Hf' q=none:=λq hq=>(rs.owned q hq).2
 have hF:∀q∈[F].flatten,q∈F:=λq hq=>by rwa [aO]at hq
 have R3:=R'.frz (λq hq=>⟨R2.fr.free (fr q (hF q hq)),λm=>(R2.mem m).1 (fr q (hF q hq))⟩) n
 have r3:=rs.frozen (rq n) λq hq=>AA hq
 refine⟨_,[nR av],z1,R3.sub,r3,ez,zu R3 z ((t2.sf.trans s1).trans (rq n)) q λav4 z4 Hf4 H4 v4 F4 s4 R4 ra4 nd4 fr4=>?_⟩
 cases z4;exact q _ _ _ _ R4.sf R4.fr R4.sub R4.lim ra4 nd4 λp hp=>R3.fr.free (fr4 p hp)
def Rj{α:Type}{l:List α}{i:Nat}{a:α}(h:l[i]?=some a):l.set i a=l:=by
 refine eC λj=>?_
 by_cases e:i=j
 .subst e;rw[aN (gSq.mp h).1,h]
 .rw [ao e]
def pH.insP{i:Nat}{avs as:List AV}{path:List Nat}{v:V}{p:Addr}(R:pH K H₀ Hf₀ Hf S σ H Fs) (e:S[i]?=some (some (.ow avs))) (s1:σ[i]?=some (some v)) (en:pe (.ow avs) path=some as) (h:G9 H v path (.ref p)) :
  ∃vs,H p=some (.lst vs)/\as.length=vs.length/\qY K H (nR (.ow as)) (.ref p)/\∀(d:D) (w:V) (n:Nat),n<=as.length->qY K Hf d w ->
   ∃Fs',pH K H₀ Hf₀ Hf (S.set i (some (putAt (.ow avs) path (as.take n ++ .sh d::as.drop n)))) σ (pY H p (.lst (vs.take n++w::vs.drop n))) Fs':=by
 obtain⟨v',F,t1,t2,r,nd,oo,_⟩:=R.move e;rw[s1]at t1;cases t1;obtain⟨p',vs,Es,g1,g2,g3,g4,g5,g6,g6',g7,g8⟩:=r.path nd en;have hpp:V.ref p=V.ref p':=h.one g1;cases hpp;refine⟨vs,g2,g4.1,(pE.news g2 g3 g4).rep R.sub,λd w n hn rd=>?_⟩
 have hfl:(Es.take n++[]::Es.drop n).flatten=Es.flatten:=by
  rw[fAq,fCq,cm,←fAq,aR]
 obtain⟨F',k1,k2,k3⟩:=g8 (as.take n ++ .sh d::as.drop n) (vs.take n++w::vs.drop n) (Es.take n++[]::Es.drop n) ((g4.ins rd n hn).keepUpd (by rw[hfl];exact g6)) (by
  rw[hfl];exact aK.mpr ⟨g6,g6'⟩) (λq hq=>by
  rw[hfl]at hq;exact .inl hq)
 refine⟨_,R.turnAny s1 t2 g5 k1 k2 λq hq=>?_⟩
 rcases k3 q hq with z|z
 .exact oo q z
 .rw [hfl]at z;exact oo q (g7 q z)
def Y5{x i:Nat}{ti tn:TE}{idx nn:ME}(hi:SR K ti idx) (hn:SR K tn nn):Qn K x i (Aa (Nn K "list" Nu (uS x) (tM ti (tM tn vL)))) (Uk x i idx nn):=by
 intro path H₀ Hf₀ Hf S σ H Fs o R A e D h;obtain⟨avs,e5,e⟩:=oBq.mp e;obtain⟨as,e6,e⟩:=oBq.mp e;obtain⟨y,e7,e⟩:=oBq.mp e;obtain⟨z,e8,e⟩:=oBq.mp e;obtain⟨bs,e9,e⟩:=oBq.mp e;rcases oZ e with ⟨hl,e⟩|e
 .cases e;obtain⟨v,p,a0,n0,e2,e3,s2,s1,at0⟩:=A;have e5':=pA e5;obtain⟨vs,h1,h2,h3,_⟩:=R.insP e5' s1 e6 at0;refine⟨.ref p,s2,.inl ⟨rfl,vs,rR.of h1⟩,?_⟩;have Rp:=R.pin.setD x h3;rw[Rj s2]at Rp;refine hi Rp (d:=y.1) (S':=y.2) e7 _ λHf1 H1 Fs1 v1 t1 R1 r1=>?_
  have RL:=R.laid t1.sh;refine hn RL.pin (d:=z.1) (S':=z.2) e8 _ λHf2 H2 Fs2 v2 t2 R2 r2=>?_
  have RM:=RL.laid t2.sh;obtain⟨vs',k1,k2,k3,k4⟩:=RM.insP e5' s1 e6 (at0.same (t1.sh.trans t2.sh));generalize y.1=dy at e9 r1;cases dy with
  |int j =>
   have e9':(if z.1.scal=true/\0<=j/\j.toNat<=as.length then some (as.take j.toNat ++ .sh z.1::as.drop j.toNat) else none)=some bs:=e9
   by_cases hc:z.1.scal=true/\0<=j/\j.toNat<=as.length
   .rw [oJ hc]at e9';cases e9';cases r1;obtain⟨Fs',R3⟩:=k4 z.1 v2 j.toNat hc.2.2 (r2.scal hc.1);exact⟨p,vs',j.toNat,v2,rfl,by rw[Int.toNat_of_nonneg hc.2.1],k1,by lia,by rw[uY,←k2];exact hl,h _ _ _ _ (.refl _) R3⟩
   .rw [oO hc]at e9';cases e9'
  |_=>cases e9
 .cases e
end
def IB(k:MK) (S:AS):N4 k S=(k (BN S)).bind λy=>if xx y.1=true then some (y.1,S) else none:=rfl
def CS:BN []=[]:=rfl
def A8(x:Option AV) (S:AS):BN (x::S)=(x.map λa=>.sh (nR a))::BN S:=rfl
def Hx(x y:Nat) (k:MK) (body:MS) (S:AS):QB x y k body S=(vx k S).bind λz=>(rW (nR z.1)).bind λds=>yd x y body ds z.2:=rfl
def Jc(S:AS) (g f:xU) (a:MA):Uj g f a S=(a S).bind λx=>(f (x.1.map nR)).bind (wm λr=>(g [nR r]).bind (wm λz=>some (.ok (.rt z)))):=rfl
def Rc(x i:Nat) (idx nn:ME) (path:List Nat) (S:AS):Uk x i idx nn path S=(qB S i).bind λavs=>(pe (.ow avs) path).bind λas=>(idx ((BN S).set x (some (.sh (nR (.ow as)))))).bind λy=>(nn (BN S)).bind λz=>(U9 as y.1 z.1).bind λbs=>we (as.length<qP) (some (.nx (S.set i (some (putAt (.ow avs) path bs))))):=rfl
end Z
namespace Zl
open PySem L2 Mr Z
def Pn:MS:=(pJ (kSc (JL (oR G2 (nA 0) (rC (.int 0))) (oR UK (xF OP (nu (nA 0) nQ)) (oR IV (rC (.int 10)) (rC (.int 60)))))))
def S5:MF:=sX 1 1 Pn
def DX:MS:=(nS (uT (qH (oR Gi (xF uU (nu (nA 0) nQ)) (rC (.int 0)))) (pJ (qc nP)) oH)
 (nS (oj 1 (kSc (rBM "list" zi (nA 0) (nu (xF Qq (nu (nA 0) nQ)) nQ))))
 (pJ (CP (lOf (Jk (uG 0) (uO (nA 1)) wF)) (lOf (Jk (uG 0) wF (uO (nA 1))))))))
def xh:MF:=sX 1 2 DX
def vm:MS:=(Qa 1 (Cc 2))
def zw:MS:=(nS (oj 1 (qc nP))
 (nS (C6 2 (nI 0) vm)
 (pJ (yf 1))))
def ou:MF:=sX 1 3 zw
def zP:MS:=(nS (uT (qH (oR UK (nA 1) (xF uU (nu (nA 0) nQ)))) (pJ (kSc (oR Bu (nA 0) (nA 1)))) oH)
 (pJ (kSc (rC (.int 0)))))
def nU:MF:=sX 2 2 zP
def yw:MS:=(pJ (Ey (rQ (xJ (nI 0)) [] rY (oi Zl.xh (nv (nI 0) nP)))))
def qk:MF:=sX 1 1 yw
def Bw:MX:=(RC (rE (qH (pK Zl.S5 (nu (nA 1) nQ)))) (B9 "NoEnd" "end" (nu (nA 1) nQ)) (Ex oH))
def CK:MX:=(Zi 1 (nI 0) Bw)
def Ds:xU:=xw 1 2 CK
def Cb:MX:=(xI (RC (qH (adO (nA 2) (nA 1))) (B9 "Twice" "end" (nu (nA 2) nQ)) (Ex oH)) (Ex (Ad 1 (nA 2) (kSc (rC (.bl true))))))
def DF:MX:=(xI (Ex (oj 1 AK))
 (Zi 2 (nI 0) Cb))
def Ej:xU:=xw 1 3 DF
def Cz:MS:=(Ad 1 (nA 2) (kSc (rC (.bl true))))
def Cu:MX:=(RC (qH (vS (wx uj (nA 2)) (nA 1))) (B9 "Lone" "end" (nu (nA 2) nQ)) (Ex oH))
def Ef:MX:=(xI (Ex (oj 1 AK))
 (xI (Ex (C6 2 (nI 0) Cz))
 (Zi 2 (nI 0) Cu)))
def Gd:xU:=xw 1 3 Ef
def rX:MX:=(xI (RC (qH (oR Qx (xF uU (nu (rOf (oi Zl.ou (nv (nI 0) nP))) nQ)) (rC (.int 128)))) (CL "TooMany") (Ex oH))
 (RC (qH (oR Qx (Q1 (nA 0)) (rC (.int 128)))) (CL "TooMany") (Ex oH)))
def pT:xU:=xw 1 1 rX
def KA:MX:=(xI (Ex (oj 1 (oi Zl.ou (nv (nI 0) nP))))
 (xI (CV Zl.Ds (nv (nI 1) nP))
 (xI (CV Zl.Ej (nv (nI 1) nP))
 (xI (CV Zl.Gd (nv (nI 1) nP))
 (xI (CV Zl.pT (nv (nI 0) nP))
 (Ex (pJ (oi Zl.qk (nv (nI 0) nP)))))))))
def LZ:xU:=xw 1 2 KA
def E4:MS:=(pJ (LO (lOf (oi Zl.ou (nv (nI 0) nP)))))
def yZ:MF:=sX 1 1 E4
def E6:MS:=(Ad 1 (nA 4) (nI 2))
def FI:MS:=(C6 4 (nI 3) E6)
def ID:MS:=(nS (oj 1 AK)
 (nS (abY 2 3 (nI 0) FI)
 (pJ (yf 1))))
def KH:MF:=sX 1 5 ID
def wJ(ns:List Int) {k:Int}(h:0<=k):nU [.scr ns,.int k]=some (.sh (.int (cell ns k.toNat))):=by
 by_cases c:k<(ns.length:Int)
 .have hk:k.toNat<ns.length:=by lia
  have e:ns.getD k.toNat 0=ns[k.toNat]:=xR hk
  simp_arith [nU,zP,c,Ew h,gEg hk,cell,e]
 .have hk:ns.length<=k.toNat:=by lia
  have e:ns.getD k.toNat 0=0:=by rw[gDq,bK hk];rfl
  simp_arith [nU,zP,c,cell,e]
def Xh(ns:List Int):nU [.scr ns,.int 0]=some (.sh (.int (cell ns 0))):=wJ ns (by decide)
def abo(ns:List Int):nU [.scr ns,.int 1]=some (.sh (.int (cell ns 1))):=wJ ns (by decide)
def acG(ns:List Int):nU [.scr ns,.int 2]=some (.sh (.int (cell ns 2))):=wJ ns (by decide)
def Ht{n:Int}{ns:List Int}:ns.foldl min n∈n::ns/\∀x∈n::ns,ns.foldl min n<=x:=⟨yp ns n,λx hx=>(ak.mp hx).elim (λe=>e ▸ (wK ns n).1) ((wK ns n).2 x)⟩
def PU{ns:List Int}(hl:ns.length<=500000):xh [dI ns]=some (aI (good ns)):=by
 cases ns with
 |nil =>
  have h1:((0:Nat):Int)=0:=rfl
  simp_arith [xh,DX,h1]
  rfl
 |cons n ns =>
  obtain⟨h1,h2⟩:=Ht (n:=n) (ns:=ns);have e:=Av h1 h2;have hle:=EI (n::ns);have hne:¬ ((n::ns).length:Int)=0:=by simp only[lCq];lia
  have hm:Qq [dI (n::ns)]=some (.int (ns.foldl min n)):=by
   show (sV ((n::ns).map D.int)).bind (λns=>(HW ns).map D.int)=_
   rw[tW];rfl
  have hx:zi (dI (n::ns)) [.int (ns.foldl min n)]=some (.int (pO (n::ns) (n::ns).length:Nat)):=by
   show (sV ((n::ns).map D.int)).bind _=_;rw[tW];show (if _ then _ else _)=_
   rw[oJ h1,e]
  generalize hN:n::ns=N at *;have hlen:(N.drop (pO N N.length)).length+(N.take (pO N N.length)).length<=qP:=by rw[au,lTq];show _<=16777216;lia
  simp_arith [xh,DX,hne,hm,hx,tq,Ez N _ hle,DW N _ hle,hlen,←mBq,CU]
  rfl
def tP{rs:List (List Int)}{i:Nat}{r:List Int}(h:rs[i]?=some r):(rs.take (i+1)).flatten=(rs.take i).flatten++r:=by
 rw[cW,h,fAq];simp
def wB(rs:List (List Int)) (i:Nat):(rs.take i).flatten.length<=rs.flatten.length:=by
 have:=congrArg cu (congrArg iB (aR i rs));rw[fAq,lAq]at this;lia
def Ia{rs:List (List Int)}{i:Nat}{d:D}(h:(rs.map dI)[i]?=some d):∃r,rs[i]?=some r/\d=dI r:=by
 rw[gMq]at h;obtain⟨r,h1,h2⟩:=oMq.mp h;exact⟨r,h1,h2.symm⟩
def NU{ns:List Int}{i:Nat}{d:D}(h:(ns.map D.int)[i]?=some d):∃z,ns[i]?=some z/\d = .int z:=by
 rw[gMq]at h;obtain⟨r,h1,h2⟩:=oMq.mp h;exact⟨r,h1,h2.symm⟩
def zo{rs:List (List Int)}(hl:rs.flatten.length<=500000):ou [dM rs]=some (aI rs.flatten):=by
 have key:=Ae (x:=2) (body:=vm) (λi S=>∃v,S=[some (.sh (dM rs)),some (aI (rs.take i).flatten),v]) (ds:=rs.map dI) (S:=[some (.sh (dM rs)),some (.ow []),none]) ⟨none,by simp⟩ (by
  rintro i d S hd ⟨v,rfl⟩;obtain⟨r,hr,rfl⟩:=Ia hd;have h1:=tP hr;have h2:=wB rs (i+1);rw[h1,lAq]at h2;have h3:(rs.take i).flatten.length+r.length<=qP:=by show _<=16777216;lia
  refine⟨_,?_,some (.sh (dI r)),rfl⟩;rw[h1]
  simp_arith [vm,h3,CU,←mBq])
 obtain⟨S',e,v,rfl⟩:=key;rw[lMq,br]at e
 simp_arith [ou,zw,e]
def zK{rs:List (List Int)}{d:D}(h:d∈rs.map dI):∃r∈rs,d=dI r:=by
 obtain⟨r,h1,h2⟩:=mMq.mp h;exact⟨r,h1,h2.symm⟩
def Am:D->List Int
 | .list ds=>(sV ds).getD []
 |_=>[]
def uC(r:List Int):Am (dI r)=r:=by
 show (sV (r.map D.int)).getD []=r;rw[tW];rfl
def An{β:Type}(g:List Int->β) (rs:List (List Int)):(rs.map dI).map (λd=>g (Am d))=rs.map g:=by
 rw[mPq];exact mCq λr _=>by show g (Am (dI r))=g r;rw[uC]
def Jm{rs:List (List Int)}(hl:∀r∈rs,r.length<=500000):qO rY (oi xh (nv (nI 0) nP)) [] (rs.map dI)=some ((rs.map good).map aI):=by
 rw[uZ (λd=>aI (good (Am d)))]
 .rw [An (λr=>aI (good r)),mPq]
  rfl
 .intro d hd;obtain⟨r,hr,rfl⟩:=zK hd;refine⟨[some (.sh (dI r))],?_⟩
  simp_arith [PU (hl r hr),uC]
def yY{rs:List (List Int)}(hl:∀r∈rs,r.length<=500000) (h7:rs.length<=qP):qk [dM rs]=some (.ow ((yl (rs.map good)).map aI)):=by
 have h6:=Jm (rs:=rs) hl
 simp_arith [qk,yw,h6,h7]
end Zl
--ZQ3 --ZQ4
namespace Zl
open PySem L2 Mr Z Xe
def bare(rs:List (List Int)):Nat:=rs.countP (·=([]:List Int))
def XX{rs:List (List Int)}(hl:rs.flatten.length<=500000):pT [dM rs]=some (if rs.flatten.length<=128/\bare rs<=128 then .ok (.sh .non) else .ex "TooMany" []):=by
 have ht:=zo hl;unfold bare
 by_cases c1:rs.flatten.length<=128
 .have h4:¬ (128:Int)<(rs.flatten.length:Int):=by lia
  by_cases c2:rs.countP (·=([]:List Int))<=128
  .have h5:¬ (128:Int)<(rs.countP (·=([]:List Int)):Nat):=by lia
   rw[oJ ⟨c1,c2⟩]
   simp_arith [pT,rX,ht,h4,h5]
  .have h5:(128:Int)<(rs.countP (·=([]:List Int)):Nat):=by lia
   rw[oO λz=>c2 z.2]
   simp_arith [pT,rX,ht,h4,h5]
 .have h4:(128:Int)<(rs.flatten.length:Int):=by lia
  rw[oO λz=>c1 z.1]
  simp_arith [pT,rX,ht,h4]
section
variable {rs:List (List Int)}(hl:rs.flatten.length<=500000)
include hl
end
def DM(rs:List (List Int)):(yl (rs.map good)).flatten.Perm rs.flatten:=(zH (vb _)).trans (ug yx rs)
def PB(r:List Int) (h:r.Nodup):good (good r)=good r:=JY h _
def Gb{T:List (List Int)}(h:T.flatten.Nodup):yl ((yl (T.map good)).map good)=yl (T.map good):=by
 have q:(yl (T.map good)).map good=yl (T.map good):=by
  have:∀r∈yl (T.map good),good r=r:=λr hr=>by
   obtain⟨s,hs,rfl⟩:=mMq.mp ((vb _).mem_iff.mp hr);exact PB s (PR h hs)
  exact(mCq this).trans (fh _)
 rw[q];exact(L3 (.refl _) (BU _)).symm
end Zl
namespace Zl
open PySem L2 Mr Z
def VY{rs:List (List Int)}(hl:rs.flatten.length<=500000):yZ [dM rs]=some (aI (By rs.flatten)):=by
 simp_arith [yZ,E4,zo hl]
def JP{nV:List (pN×D)}{k:pN}{d:D}(h:k∉nV.map (·.1)):EG nV k d=nV++[(k,d)]:=by
 unfold EG;rw[oO];intro e;obtain⟨kv,hk,e⟩:=bO.mp e;exact h (mMq.mpr ⟨kv,hk,of_decide_eq_true e⟩)
theorem EJ{c:MT}{body:MS}(P:AS->Prop) (μ:AS->Nat) (Qf:AS->Prop) (h:∀S,P S->∃b S1,c S=some (b,S1)/\(b=true->∃S2,body S1=some (.nx S2)/\P S2/\μ S2<μ S)/\(b=false->Qf S1)) :
  ∀(fuel:Nat) (S:AS),P S->μ S<fuel->∃S',vE c body fuel S=some (.nx S')/\Qf S'
 |0,S,_,hm=>absurd hm (cS _)
 |n+1,S,hp,hm=>by
  obtain⟨b,S1,e1,h1,h2⟩:=h S hp;rw[WY,e1,dF];cases b with
  |true =>
   obtain⟨S2,e2,p2,m2⟩:=h1 rfl;rw[oJ rfl,e2];exact EJ P μ Qf h n S2 p2 (by lia)
  |false =>
   rw[oO (by simp)]
   exact⟨S1,rfl,h2 rfl⟩
end Zl
--ZQ3 --ZQ4 --ZQ5 --ZQ6 --ZQ8 --ZQ9 --ZQB
namespace Zl
open PySem L2 Mr Z Xe
noncomputable def kd(ks:List Nat):List (pN×D):=ks.map λk:Nat=>((bx (k:Int):pN),D.bl true)
noncomputable def ads(kn:List Nat) (t:Nat):List Nat:=if t∈kn then kn else kn++[t]
noncomputable def plc(rs:List (List Int)) (e:Int):Nat:=rs.findIdx λr=>decide (e∈r)
structure Mp (rs:List (List Int)):Prop where
 hn:rs.flatten.Nodup
 hl:rs.flatten.length<=1000
 hr:rs.length<=1000
 hneg:∀e∈rs.flatten, -e∈rs.flatten
def Mp.row{rs:List (List Int)}(h:Mp rs) {k:Nat}{r:List Int}(hk:rs[k]?=some r):r.length<=1000:=by
 have:=eW.length_le (bj (mGq hk));have:=h.hl;lia
def nbS(rs:List (List Int)) (k:Nat) (ks:List Nat) (e:Int):List Nat:=if plc rs (-e)=k then ks else ads ks (plc rs (-e))
def nb(rs:List (List Int)) (k:Nat) (r:List Int):List Nat:=r.foldl (nbS rs k) []
def Qj{α β:Type}{f:α->β->α}{a:α}{r:List β}{i:Nat}{e:β}(he:r[i]?=some e):(r.take (i+1)).foldl f a=f ((r.take i).foldl f a) e:=by
 obtain⟨hi,h2⟩:=gSq.mp he;rw[List.take_succ_eq_append_getElem hi,List.foldl_append,h2];rfl
noncomputable def itr(f:Int->Int):Nat->Int->Int
 |0,e=>e
 |n+1,e=>f (itr f n e)
theorem zW(f:Int->Int) (m:Nat) (e:Int):∀n:Nat,itr f (n+m) e=itr f n (itr f m e)
 |0=>by rw[cR];rfl
 |n+1=>by rw[Nat.add_right_comm];show f (itr f (n+m) e)=f (itr f n (itr f m e));rw[zW f m e n]
theorem VV:∀(l E:List Int),l.Nodup->(∀x∈l,x∈E)->l.length<=E.length
 | [],E,_,_=>aV _
 |x::l,E,hn,h=>by
  have hn':=aK.mp hn;have hx:=h x (bo ..);have h2:=VV l (E.erase x) hn'.2 (λy hy=>by
   refine(List.mem_erase_of_ne ?_).mpr (h y (mCo _ hy));intro e;exact hn'.1 (e ▸ hy))
  rw[List.length_erase_of_mem hx]at h2;have:=fQ hx;rw[lCq];lia
def Ri{p:Nat->Prop}:∀n,p n->∃m,m<=n/\p m/\∀j,j<m->¬ p j:=by
 intro n
 induction n using Nat.strongRecOn with
 |_ n ih =>
  intro h
  by_cases c:∃j,j<n/\p j
  .obtain ⟨j,hj,pj⟩:=c;obtain⟨m,h1,h2,h3⟩:=ih j hj pj;exact⟨m,by lia,h2,h3⟩
  .exact ⟨n,af _,h,λj hj pj=>c ⟨j,hj,pj⟩⟩
structure K4 (f:Int->Int) (E:List Int):Prop where
 nd:E.Nodup
 to:∀e∈E,f e∈E
 inj:∀a∈E,∀b∈E,f a=f b->a=b
section
variable {f:Int->Int}{E:List Int}
theorem K4.itr_mem(h:K4 f E) {e:Int}(he:e∈E):∀n,itr f n e∈E
 |0=>he
 |n+1=>h.to _ (h.itr_mem he n)
theorem K4.itr_inj(h:K4 f E) {a b:Int}(ha:a∈E) (hb:b∈E):∀n,itr f n a=itr f n b->a=b
 |0,e=>e
 |n+1,e=>h.itr_inj ha hb n (h.inj _ (h.itr_mem ha n) _ (h.itr_mem hb n) e)
def K4.cut(h:K4 f E) {e:Int}(he:e∈E) {i j:Nat}(hij:i<=j) (q:itr f i e=itr f j e):itr f (j-i) e=e:=by
 have e1:itr f j e=itr f i (itr f (j-i) e):=by rw[←zW];congr 1;lia
 rw[e1]at q;exact(h.itr_inj he (h.itr_mem he _) i q).symm
structure Cy (f:Int->Int) (e:Int) (l:List Int):Prop where
 len:1<=l.length
 get:l=(bu l.length).map λn=>itr f n e
 back:itr f l.length e=e
 nd:l.Nodup
def K4.cy(h:K4 f E) {e:Int}(he:e∈E):∃l,Cy f e l/\l.length<=E.length/\∀j,0<j->j<l.length->itr f j e≠e:=by
 have hex:∃k,1<=k/\k<=E.length/\itr f k e=e:=by
  by_cases c:((bu (E.length+1)).map λn=>itr f n e).Nodup
  .have:=VV _ E c (λx hx=>by obtain⟨n,_,rfl⟩:=mMq.mp hx;exact h.itr_mem he n)
   rw[lMq,ba]at this;lia
  .rw [aY,bI]at c;have:∃i j,i<j/\j<E.length+1/\itr f i e=itr f j e:=by
    by_cases d:∃i j,i<j/\j<E.length+1/\itr f i e=itr f j e
    .exact d
    .exfalso;refine c ?_;refine bf.imp_of_mem (R:=λa b=>a<b) (λ{a b} ha hb hab q=>d ⟨a,b,hab,bW.mp hb,q⟩) fU
   obtain⟨i,j,hij,hj,q⟩:=this;exact⟨j-i,by lia,by lia,h.cut he (bC hij) q⟩
 obtain⟨k,h1,h2,h3⟩:=hex;obtain⟨m,m1,⟨m2,m3⟩,m4⟩:=Ri (p:=λk=>1<=k/\itr f k e=e) k ⟨h1,h3⟩
 refine⟨(bu m).map λn=>itr f n e,⟨by rw[lMq,ba];exact m2,by rw[lMq,ba],by rw[lMq,ba];exact m3,?_⟩,by rw[lMq,ba];lia,λj hj hjm q=>?_⟩
 .rw [aY,bI];refine bf.imp_of_mem (R:=λa b=>a<b) (λ{a b} ha hb hab q=>?_) fU
  have hb':=bW.mp hb;exact m4 (b-a) (by lia) ⟨by lia,h.cut he (bC hab) q⟩
 .rw [lMq,ba]at hjm;exact m4 j hjm ⟨hj,q⟩
def Cy.at{e:Int}{l:List Int}(h:Cy f e l) {i:Nat}(hi:i<l.length):l[i]?=some (itr f i e):=by
 have e1:l[i]?=((bu l.length).map λn=>itr f n e)[i]?:=congrArg (λx:List Int=>x[i]?) h.get
 rw[e1,gMq,dO hi];rfl
def Cy.one{e:Int}{l l':List Int}(h:Cy f e l) (h':Cy f e l'):l=l':=by
 have key:∀{l l':List Int},Cy f e l->Cy f e l'->¬ l.length<l'.length:=λ{l l'} h h' hlt=>by
  have a0:=h'.at (i:=0) (by lia)
  have a1:=h'.at (i:=l.length) hlt;rw[h.back]at a1;have:=h'.nd;have e2:=(List.getElem?_inj (i:=0) (j:=l.length) (by lia) this).mp (by rw[a0,a1];rfl)
  have:=h.len;lia
 have h1:=key h h';have h2:=key h' h;have hl:l.length=l'.length:=by lia
 rw[h.get,h'.get,hl]
def Cy.self{e:Int}{l:List Int}(h:Cy f e l):e∈l:=mGq (h.at (i:=0) (by have:=h.len;lia))
def Cy.rot{e:Int}{l:List Int}(h:Cy f e l) {j:Nat}(hj:j<l.length):Cy f (itr f j e) (l.drop j++l.take j):=by
 have hlen:(l.drop j++l.take j).length=l.length:=by rw[lAq,au,lTq];lia
 refine⟨by rw[hlen];exact h.len,?_,?_,?_⟩
 .refine eC λi=>?_
  rw[hlen,gMq]
  by_cases hi:i<l.length
  .rw [dO hi,cT,←zW]
   by_cases hi2:i<l.length-j
   .rw [gZq (by rw[au];exact hi2),cI,h.at (by lia),fO j i]
   .rw [gYq (by rw[au];lia),au,bw (by lia),h.at (by lia)]
    congr 1;have e1:i+j=(i-(l.length-j))+l.length:=by lia
    rw[e1,zW,h.back]
  .rw [bK (by rw[hlen];lia),bK (by rw[ba];lia)]
   rfl
 .rw [hlen,←zW,fO,zW,h.back]
 .exact bJ.nodup_iff.mpr (by rw[aR];exact h.nd)
theorem Cy.good{e x:Int}{l l':List Int}(h:Cy f e l) (hx:x∈l) (h':Cy f x l'):Mr.good l'=Mr.good l:=by
 obtain⟨j,hj⟩:=bL.mp hx;have hlt:=(gSq.mp hj).1;rw[h.at hlt]at hj;have r:=h.rot hlt;rw[aS.inj hj]at r;rw[h'.one r];exact JY h.nd j
structure JD (f:Int->Int) (E:List Int) (L:List (List Int)):Prop where
 cy:∀l∈L,∃e,Cy f e l
 dj:L.flatten.Nodup
 all:∀x,x∈L.flatten↔x∈E
theorem NQ:∀{L:List (List Int)},L.flatten.Nodup->L.Pairwise λa b=>∀x∈a,∀y∈b,x≠y
 | [],_=>bf.nil
 |a::L,h=>by
  rw[fCq,nAq]at h;exact dW.mpr ⟨λb hb x hx y hy=>h.2.2 x hx y (mFq.mpr ⟨b,hb,hy⟩),NQ h.2.1⟩
def JD.nd{L:List (List Int)}(h:JD f E L):(L.map Mr.good).Nodup:=by
 rw[aY,bI];have hd:=NQ h.dj;refine bf.imp_of_mem (λ{a b} ha hb hab q=>?_) hd
 obtain⟨e,c⟩:=h.cy a ha;have h1:e∈Mr.good a:=(yx a).mem_iff.mpr c.self;rw[q]at h1;exact hab e c.self e ((yx b).mem_iff.mp h1) rfl
def JD.sub(hf:K4 f E) {L M:List (List Int)}(h:JD f E L) (h':JD f E M) {y:List Int}(hy:y∈L.map Mr.good):y∈M.map Mr.good:=by
 obtain⟨l,hl,rfl⟩:=mMq.mp hy;obtain⟨e,c⟩:=h.cy l hl;have hE:e∈E:=(h.all e).mp (mFq.mpr ⟨l,hl,c.self⟩);obtain⟨m,hm,hem⟩:=mFq.mp ((h'.all e).mpr hE);obtain⟨e',c'⟩:=h'.cy m hm;exact mMq.mpr ⟨m,hm,(c'.good hem c).symm⟩
def JD.perm(hf:K4 f E) {L M:List (List Int)}(h:JD f E L) (h':JD f E M):(L.map Mr.good).Perm (M.map Mr.good) :=
 (cO h.nd h'.nd).mpr λy=>⟨h.sub hf h',h'.sub hf h⟩
end
end Zl
namespace K13
open PySem L2 Mr Z Xe
def KY:MS:=(Qa 1 (Cc 2))
def Pr:MX:=(xI (Ex (oj 1 (qc nP)))
 (xI (Ex (C6 2 (nI 0) KY))
 (JJ Zl.LZ (nv (nI 1) nP))))
def Fk:xU:=xw 1 3 Pr
def DS:MS:=(nS (uT (rE (Bq (nA 0))) (pJ (qc nP)) oH)
 (nS (oj 1 (kSc (rBM "list" zi (nA 0) (nu (xF Qq (nu (nA 0) nQ)) nQ))))
 (pJ (CP (lOf (Jk (uG 0) (uO (nA 1)) wF)) (lOf (Jk (uG 0) wF (uO (nA 1))))))))
def xt:MF:=sX 1 2 DS
def Ke:MS:=(pJ (Ey (rQ (xJ (nI 0)) [] rY (oi K13.xt (nv (nI 0) nP)))))
def tO:MF:=sX 1 1 Ke
def vf(fm:MF):MS:=(uT (rE (qH (pK fm (nu (oR PQ (nA 0) (nA 2)) (nu (oR PQ (nA 1) (nA 2)) nQ))))) (pJ (kSc (rC (.bl false)))) oH)
def xn(fm:MF):MS:=(nS (uT (Eg (qH (xF tQ (nu (nA 1) (nu (rC (.ty "list")) nQ)))) (qH (xF tQ (nu (nA 1) (nu (rC (.ty "tuple")) nQ))))) (nS (uT (Eg (qH (oR G2 (xF tQ (nu (nA 0) (nu (rC (.ty "list")) nQ))) (xF tQ (nu (nA 1) (nu (rC (.ty "list")) nQ))))) (qH (oR G2 (xF tQ (nu (nA 0) (nu (rC (.ty "tuple")) nQ))) (xF tQ (nu (nA 1) (nu (rC (.ty "tuple")) nQ)))))) (pJ (kSc (rC (.bl false)))) oH) (nS (uT (qH (oR G2 (xF uU (nu (nA 0) nQ)) (xF uU (nu (nA 1) nQ)))) (pJ (kSc (rC (.bl false)))) oH) (nS (Ge 2 (nu (xF uU (nu (nA 1) nQ)) nQ) (vf fm)) (pJ (kSc (rC (.bl true))))))) oH)
 (nS (uT (qH (oR xH (nA 1) (rC .non))) (pJ (kSc (oR xH (nA 0) (rC .non)))) oH)
 (nS (uT (qH (xF tQ (nu (nA 1) (nu (rC (.ty "str")) nQ)))) (pJ (kSc (JL (xF tQ (nu (nA 0) (nu (rC (.ty "str")) nQ))) (oR Gi (nA 0) (nA 1))))) oH)
 (pJ (kSc (JL (xF tQ (nu (nA 0) (nu (rC (.ty "int")) nQ))) (JL (aav (xF tQ (nu (nA 0) (nu (rC (.ty "bool")) nQ)))) (oR Gi (nA 0) (nA 1)))))))))
def qZ(fm:MF):MF:=sX 2 3 (xn fm)
def oE:MF:=(qZ (qZ (qZ (qZ Z.Rg))))
end K13
namespace K51
open PySem L2 Mr Z Xe
def B6:MS:=(Ad 1 (nA 3) (nI 4))
def BQ:MS:=(TC 3 4 (nI 2) (CP (lOf (Jk (uG 2) (uO (rC (.int 1))) wF)) (lOf (Jk (uG 2) wF (uO (rC (.int 1)))))) B6)
def Kk:MS:=(nS (oj 1 AK)
 (nS (C6 2 (nI 0) BQ)
 (pJ (yf 1))))
def Da:MF:=sX 1 5 Kk
def Io:MS:=(nS (oj 7 (kSc (Jx (nA 2) (wx uj (nA 6))))) (uT (qH (vS (nA 7) (nA 3))) (nS (Ad 3 (nA 7) (kSc (rC (.bl true)))) (yP 4 (nI 7))) oH))
def Iw:MS:=(nS (abT 5 (GW 4)) (C6 6 (Y4 (uG 0) (nA 5)) Io))
def LP:MS:=(nS (oj 2 (oi Zl.KH (nv (nI 0) nP)))
 (nS (oj 3 (YI (nA 1) (kSc (rC (.bl true)))))
 (nS (oj 4 (qc (nv (nI 1) nP)))
 (nS (vE (qH (oR Qx (xF uU (nu (nA 4) nQ)) (rC (.int 0)))) Iw 100000)
 (pJ (Yk (nA 3)))))))
def P3:MF:=sX 2 8 LP
def Jy:MS:=(Ad 1 (nA 5) (kSc (rC (.bl true))))
def JM:MS:=(uT (qH (vS (nA 3) (nA 1))) (nS (oj 4 (oi K51.P3 (nv (nI 0) (nv (nI 3) nP)))) (nS (C6 5 (nI 4) Jy) (yP 2 (rQ (xJ (nI 4)) [0] rY (De (lOf (Y4 (uG 1) (nA 0)))))))) oH)
def Pg:MS:=(nS (oj 1 AK)
 (nS (oj 2 (qc nP))
 (nS (Ge 3 (nu (xF uU (nu (nA 0) nQ)) nQ) JM)
 (pJ (yf 2)))))
def Rn:MF:=sX 1 6 Pg
def DY:MS:=(pJ (rQ (xJ (nI 0)) [] rY (De (uG 0))))
def ux:MF:=sX 1 1 DY
end K51
namespace K12
open PySem L2 Mr Z Xe
def Ci:MS:=(nS (oj 1 (kSc (rC (.int 1))))
 (nS (oj 2 (kSc (rC (.int 0))))
 (nS (uT (qH (oR Qx (oR um (pK Zl.nU (nu (nA 0) (nu (rC (.int 0)) nQ))) (rC (.int 3))) (rC (.int 0)))) (nS (oj 1 (kSc (oR zb (rC (.int 1)) (oR um (pK Zl.nU (nu (nA 0) (nu (rC (.int 1)) nQ))) (oR IV (rC (.int 10)) (rC (.int 58))))))) (oj 2 (kSc (oR um (pK Zl.nU (nu (nA 0) (nu (rC (.int 2)) nQ))) (oR IV (rC (.int 10)) (rC (.int 58))))))) oH)
 (nS (oj 3 (kSc (oR zb (rC (.int 1)) (oR um (oR zf (pK Zl.nU (nu (nA 0) (nu (rC (.int 0)) nQ))) (rC (.int 3))) (rC (.int 66))))))
 (nS (oj 4 (kSc (oR um (oR zf (pK Zl.nU (nu (nA 0) (nu (rC (.int 0)) nQ))) (rC (.int 198))) (rC (.int 67)))))
 (pJ (rQ (Yp (nu (rC (.int 66)) nQ)) [2,1,4,3] rY (kSc (oR zb (oR HR (nA 2) (oR zb (oR um (oR zb (oR HR (nA 4) (nA 0)) (nA 3)) (rC (.int 67))) (rC (.int 1)))) (nA 1))))))))))
def vO:MF:=sX 1 5 Ci
def sO:MS:=(nS (oj 7 (kSc (oR um (nA 6) (rC (.int 8))))) (RA 8 2 (Pl 2 (Pl 2 (GN 2) (wx uj (rC (.int 1)))) (oR Bu (nA 3) (wx uj (rC (.int 1))))) (Lf 2 (oj 9 (kSc (oR Bu (nA 1) (nA 5)))) (Lf 2 (uT (qH (oR Gi (oR um (oR zf (nA 6) (rC (.int 8))) (rC (.int 2))) (rC (.int 1)))) (oj 9 (kSc (wx uj (nA 9)))) oH) (Gn 2 (qH (oR UK (nA 7) (rC (.int 4)))) (λpath=>nS ((Nh 2 (nI 9)) path) (nS (oj 5 (kSc (oR zb (nA 5) (rC (.int 1))))) (uT (qH (oR UK (nA 7) (rC (.int 2)))) (yP 4 (kSc (wx uj (nA 9)))) (nS (yP 3 (kSc (xF uU (nu (oR Bu (nA 2) (wx uj (rC (.int 1)))) nQ)))) (Hw 2 (Pl 2 (GN 2) (wx uj (rC (.int 1)))) (qc (nv (kSc (wx uj (nA 9))) nP))))))) (Gn 2 (qH (oR UK (nA 7) (rC (.int 6)))) (Gn 2 (Bq (nA 4)) (HV 2 (Em 4 (oR um (oR zf (nA 6) (rC (.int 16))) (xF uU (nu (nA 4) nQ))))) (λ_=>oH)) (Gn 2 (qH (oR Gi (nA 7) (rC (.int 6)))) (λ_=>(uT (qH (oR Qx (xF uU (nu (nA 3) nQ)) (rC (.int 1)))) (Im (GW 3)) oH)) (λpath=>nS ((NB 2 (Cc 4)) path) (nS (oj 4 (qc nP)) (nS (yP 2 (qc (nv (qc nP) nP))) (oj 3 (qc (nv (kSc (rC (.int 0))) nP)))))))))))))
def FO:MS:=(nS (oj 2 (qc (nv (qc (nv (qc nP) nP)) nP)))
 (nS (oj 3 (qc (nv (kSc (rC (.int 0))) nP)))
 (nS (oj 4 (qc nP))
 (nS (oj 5 (kSc (rC (.int 0))))
 (nS (C6 6 (nI 0) sO)
 (nS (RY 2 (Pl 2 (Pl 2 (GN 2) (wx uj (rC (.int 1)))) (oR Bu (nA 3) (wx uj (rC (.int 1))))) (Cc 4))
 (pJ (yf 2))))))))
def wR:MF:=sX 2 10 FO
end K12
namespace K15
open PySem L2 Mr Z
def zF:MS:=(Ad 2 (nA 3) (kSc (Iy (nA 1) (wx uj (nA 3)))))
def FM:MS:=(nS (oj 1 (oi K51.Da (nv (nI 0) nP)))
 (nS (oj 2 AK)
 (nS (Nb 3 1 zF)
 (pJ (yf 2)))))
def yH:MF:=sX 1 4 FM
def wD:MS:=(nS (yP 2 (nI 3)) (oj 3 (kSc (Jx (nA 0) (nA 3)))))
def BD:MS:=(nS (oj 2 (qc (nv (nI 1) nP)))
 (nS (oj 3 (kSc (Jx (nA 0) (nA 1))))
 (nS (vE (qH (oR G2 (nA 3) (nA 1))) wD 100000)
 (pJ (yf 2)))))
def uW:MF:=sX 2 4 BD
def zj:MS:=(Ad 2 (nA 6) (kSc (rC (.bl true))))
def xa:MS:=(uT (qH (vS (nA 4) (nA 2))) (nS (oj 5 (oi K15.uW (nv (nI 1) (nv (nI 4) nP)))) (nS (C6 6 (nI 5) zj) (yP 3 (nI 5)))) oH)
def K0:MS:=(nS (oj 1 (oi K15.yH (nv (nI 0) nP)))
 (nS (oj 2 AK)
 (nS (oj 3 (rQ (xJ (nI 0)) [] (qH (oR Gi (xF uU (nu (nA 0) nQ)) (rC (.int 0)))) (qc nP)))
 (nS (C6 4 (oi Zl.yZ (nv (nI 0) nP)) xa)
 (pJ (oi Zl.qk (nv (nI 3) nP)))))))
def uE:MF:=sX 1 7 K0
def zV:MS:=(Ad 1 (oR Bu (nA 2) (nA 3)) (kSc (oR Bu (nA 2) (oR um (oR zb (nA 3) (rC (.int 1))) (xF uU (nu (nA 2) nQ))))))
def zS:MS:=(Ge 3 (nu (xF uU (nu (nA 2) nQ)) nQ) zV)
def Fz:MS:=(nS (oj 1 AK)
 (nS (C6 2 (nI 0) zS)
 (pJ (yf 1))))
def yA:MF:=sX 1 4 Fz
def wM:MS:=(nS (Ad 2 (nA 6) (kSc (rC (.bl true)))) (nS (yP 5 (nI 6)) (oj 6 (kSc (Iy (nA 1) (wx uj (nA 6)))))))
def ve:MS:=(uT (qH (vS (nA 4) (nA 2))) (nS (oj 5 (qc nP)) (nS (oj 6 (nI 4)) (nS (vE (qH (vS (nA 6) (nA 2))) wM 100000) (yP 3 (nI 5))))) oH)
def Fc:MS:=(nS (oj 1 (oi K15.yA (nv (nI 0) nP)))
 (nS (oj 2 AK)
 (nS (oj 3 (rQ (xJ (nI 0)) [] (rE (Bq (nA 0))) (qc nP)))
 (nS (Nb 4 1 ve)
 (pJ (oi K13.tO (nv (nI 3) nP)))))))
def uR:MF:=sX 1 7 Fc
end K15
namespace K23
open PySem L2 Mr Z Xe
def BX:MX:=(xI (CV Zl.pT (nv (nI 0) nP))
 (Ex (pJ (oi Zl.qk (nv (nI 0) nP)))))
def wO:xU:=xw 1 1 BX
def yQ:MS:=(nS (oj 1 (qc nP))
 (nS (uT (rE (qH (xF Gp (nu (nA 0) (nu (rC (.ty "ValueError")) nQ))))) (yP 1 (Bx (nv (kSc (rC (.str "plain"))) (nv (kSc (rC (.int 0))) nP)))) oH)
 (nS (uT (qH (xF Gp (nu (nA 0) (nu (PD "Taken") nQ)))) (yP 1 (Bx (nv (kSc (rC (.str "taken"))) (nv (kSc (wx (GR "road") (nA 0))) nP)))) oH)
 (nS (uT (qH (xF Gp (nu (nA 0) (nu (PD "NotThere") nQ)))) (yP 1 (Bx (nv (kSc (rC (.str "there"))) (nv (kSc (wx (GR "end") (nA 0))) nP)))) oH)
 (nS (uT (qH (xF Gp (nu (nA 0) (nu (PD "NoPlace") nQ)))) (yP 1 (Bx (nv (kSc (rC (.str "place"))) (nv (kSc (rC (.int 0))) nP)))) oH)
 (nS (uT (qH (xF Gp (nu (nA 0) (nu (PD "TooMany") nQ)))) (yP 1 (Bx (nv (kSc (rC (.str "many"))) (nv (kSc (rC (.int 0))) nP)))) oH)
 (pJ (yf 1))))))))
def qp:MF:=sX 1 2 yQ
end K23
namespace K21
open PySem L2 Mr Z Xe
def DO:MS:=(nS (uT (qH (oR (JF true) (nA 2) (nA 0))) (pJ (yf 0)) oH)
 (nS (oj 3 (kSc (oR zb (rBM "list" zi (nA 0) (nu (nA 2) nQ)) (rC (.int 1)))))
 (pJ (CP (lOf (CP (lOf (Jk (uG 0) wF (uO (nA 3)))) (lOf (qc (nv (nI 1) nP))))) (lOf (Jk (uG 0) (uO (nA 3)) wF))))))
def xB:MF:=sX 3 4 DO
def ym:MX:=(xI (RC (qH (oR (JF true) (nA 2) (rOf (oi Zl.ou (nv (nI 0) nP))))) (B9 "NotThere" "end" (nu (nA 2) nQ)) (Ex oH))
 (Ex (pJ (rQ (xJ (nI 0)) [1,2] rY (oi K21.xB (nv (nI 0) (nv (nI 1) (nv (nI 2) nP))))))))
def uh:xU:=xw 3 3 ym
def zg:MX:=(xI (RC (qH (Zz true (nA 0))) (CL "NoPlace") (Ex oH))
 (xI (Ex (oj 2 (kSc (Rt (nA 0)))))
 (Ex (pJ (CP (lOf (CP (lOf (Jk (uG 0) wF (uO (nA 2)))) (lOf (qc (nv (qc (nv (nI 1) nP)) nP))))) (lOf (Jk (uG 0) (uO (oR zb (nA 2) (rC (.int 1)))) wF)))))))
def uQ:xU:=xw 2 3 zg
def xf:MX:=(xI (RC (qH (oR xH (nA 2) (rC .non))) (JJ K21.uQ (nv (nI 0) (nv (nI 1) nP))) (Ex oH))
 (JJ K21.uh (nv (nI 0) (nv (nI 1) (nv (nI 2) nP)))))
def tE:xU:=xw 3 3 xf
def rH:MX:=(xI (RC (qH (oR (JF false) (nA 1) (rOf (oi Zl.ou (nv (nI 0) nP))))) (B9 "Taken" "road" (nu (nA 1) nQ)) (Ex oH))
 (xI (aaf 4 K21.tE (nv (nI 0) (nv (nI 1) (nv (nI 2) nP))))
 (Uj K23.wO K21.tE (nv (nI 4) (nv (kSc (wx uj (nA 1))) (nv (nI 3) nP))))))
def pD:xU:=xw 4 5 rH
def uI:MS:=(nS (uT (qH (oR xH (nA 6) (rC .non))) (oj 7 (N4 (rQ (Yp (nu (xF uU (nu (nA 4) nQ)) nQ)) [4] (rE (Bq (oR Bu (nA 1) (nA 0)))) (nI 0)))) (oj 7 (N4 (rQ (Yp (nu (xF uU (nu (nA 4) nQ)) nQ)) [6,4] (qH (oR (JF false) (nA 1) (oR Bu (nA 2) (nA 0)))) (nI 0))))) (nS (uT (rE (Bq (nA 7))) (pJ (kIf (qH (oR xH (nA 6) (rC .non))) (qc (nv (kSc (rC (.str "refused"))) (nv (qc (nv (Bx (nv (kSc (rC (.str "place"))) (nv (kSc (rC (.int 0))) nP))) nP)) nP))) (qc (nv (kSc (rC (.str "refused"))) (nv (qc (nv (Bx (nv (kSc (rC (.str "there"))) (nv (nI 6) nP))) nP)) nP))))) oH) (RA 8 4 (Pl 4 (GN 4) (oR Bu (nA 7) (rC (.int 0)))) (Uk 8 4 (rIf (qH (oR xH (nA 6) (rC .non))) (rC (.int 0)) (oR zb (rBM "list" zi (nA 8) (nu (nA 6) nQ)) (rC (.int 1)))) (nA 5)))))
def yS:MS:=(nS (oj 4 (rQ (xJ (nI 0)) [] rY (De (uG 0))))
 (nS (uT (qH (oR (JF false) (nA 1) (rOf (oi Zl.ou (nv (nI 0) nP))))) (pJ (qc (nv (kSc (rC (.str "refused"))) (nv (qc (nv (Bx (nv (kSc (rC (.str "taken"))) (nv (nI 1) nP))) nP)) nP)))) oH)
 (nS (QB 5 6 (qc (nv (Bx (nv (nI 1) (nv (nI 2) nP))) (nv (Bx (nv (kSc (wx uj (nA 1))) (nv (nI 3) nP))) nP))) uI)
 (nS (uT (qH (oR Qx (xF uU (nu (rOf (oi Zl.ou (nv (nI 4) nP))) nQ)) (rC (.int 128)))) (pJ (qc (nv (kSc (rC (.str "refused"))) (nv (qc (nv (Bx (nv (kSc (rC (.str "many"))) (nv (kSc (rC (.int 0))) nP))) nP)) nP)))) oH)
 (pJ (qc (nv (kSc (rC (.str "map"))) (nv (oi K13.tO (nv (nI 4) nP)) nP))))))))
def uf:MF:=sX 4 9 yS
def rA:MX:=(JJ K21.pD (nv (nI 1) (nv (kSc (wx (yr "Put" "road") (nA 0))) (nv (kSc (wx (yr "Put" "first") (nA 0))) (nv (kSc (wx (yr "Put" "second") (nA 0))) nP)))))
def pd:xU:=xw 2 2 rA
end K21
namespace K22
open PySem L2 Mr Z Xe
def tK:MX:=(CV K21.pd (DH "Put" "done" (nI 0) (nv (nI 1) nP)))
def pR:xU:=xw 2 2 tK
def BE:MS:=(pJ (Eh "Put" ["road", "first", "second"] (nu (wx (yr "Part" "road") (nA 0)) (nu (wx (yr "Part" "first") (nA 0)) (nu (wx (yr "Part" "second") (nA 0)) nQ)))))
def sT:MF:=sX 1 1 BE
def xZ:MX:=(RG K15.uE K21.pd (DH "Put" "done" (oi K22.sT (DH "Part" "other" (nI 0) nP)) (nv (oi K15.uE (nv (nI 1) nP)) nP)))
def sj:xU:=xw 2 2 xZ
def AU:MX:=(xI (CV K22.pR (nv (nI 0) (nv (nI 1) nP)))
 (Ex (pJ (Eh "Cut" ["road"] (nu (wx (yr "Put" "road") (nA 0)) nQ)))))
def rO:xU:=xw 2 2 AU
def yc:MX:=(YO K22.rO (DH "Put" "back" (oi K22.sT (DH "Part" "other" (nI 0) nP)) (nv (oi K15.uE (nv (nI 1) nP)) nP)))
def sq:xU:=xw 2 2 yc
def yo:MS:=(nS (oj 2 (kSc (rC .non)))
 (nS (oj 3 (kSc (rC .non)))
 (nS (GT 3 K21.pd (DH "Put" "done" (nI 0) (nv (nI 1) nP)) (xAs "MapError" 4 (oj 2 (oi K23.qp (nv (nI 4) nP))) RU))
 (nS (uT (qH (oR xH (nA 2) (rC .non))) (pJ (qc (nv (kSc (rC (.str "map"))) (nv (yf 3) nP)))) oH)
 (pJ (qc (nv (kSc (rC (.str "refused"))) (nv (yf 2) nP))))))))
def pX:MF:=sX 2 5 yo
def C0:MX:=(JJ K22.sj (nv (nI 0) (nv (nI 1) nP)))
def wd:xU:=xw 2 2 C0
def AI:MS:=(nS (oj 2 (kSc (rC .non)))
 (nS (oj 3 (kSc (rC .non)))
 (nS (GT 3 K22.wd (DH "Part" "done" (nI 0) (nv (nI 1) nP)) (xAs "MapError" 4 (oj 2 (oi K23.qp (nv (nI 4) nP))) RU))
 (nS (uT (qH (oR xH (nA 2) (rC .non))) (pJ (qc (nv (kSc (rC (.str "map"))) (nv (yf 3) nP)))) oH)
 (pJ (qc (nv (kSc (rC (.str "refused"))) (nv (yf 2) nP))))))))
def tF:MF:=sX 2 5 AI
def wH:MS:=(nS (Hw 2 (Pl 2 (GN 2) (rC (.int 0))) (nI 3)) (Hw 2 (Pl 2 (GN 2) (rC (.int 0))) (kSc (wx uj (nA 3)))))
def BL:MS:=(nS (uT (qH (oR Gi (nA 1) (rC (.int 1)))) (nS (oj 2 (qc (nv (qc nP) nP))) (nS (C6 3 (nI 0) wH) (pJ (yf 2)))) oH)
 (pJ (qc (nv (De (uG 0)) (nv (rQ (xJ (nI 0)) [] rY (kSc (wx uj (nA 0)))) nP)))))
def uL:MF:=sX 2 4 BL
def Bh:MS:=(nS (oj 4 (qc (nv (kSc (rC .non)) (nv (kSc (rC (.int 0))) (nv (nI 2) (nv (kSc (wx uj (nA 2))) (nv (nI 3) (nv (kSc (oR zb (oR IV (rC (.int 10)) (rC (.int 61))) (oR um (nA 0) (oR IV (rC (.int 10)) (rC (.int 60)))))) nP))))))))
 (nS (uT (Cq (qH (oR Qx (oR um (nA 0) (rC (.int 3))) (rC (.int 0)))) (Bq (nA 1))) (pJ (kSc (oR Bu (nA 1) (oR um (oR zf (nA 0) (rC (.int 3))) (xF uU (nu (nA 1) nQ)))))) oH)
 (pJ (Y4 (uG 4) (oR um (oR zf (nA 0) (rC (.int 3))) (rC (.int 6)))))))
def uB:MF:=sX 4 5 Bh
def ye:MS:=(nS (oj 2 (kSc (rC .non)))
 (nS (oj 3 (kSc (rC .non)))
 (nS (GT 3 K22.rO (DH "Put" "back" (nI 0) (nv (nI 1) nP)) (xAs "MapError" 4 (oj 2 (oi K23.qp (nv (nI 4) nP))) RU))
 (nS (uT (qH (oR xH (nA 2) (rC .non))) (pJ (qc (nv (kSc (rC (.str "back"))) (nv (yf 3) nP)))) oH)
 (pJ (qc (nv (kSc (rC (.str "refused"))) (nv (yf 2) nP))))))))
def rD:MF:=sX 2 5 ye
def Ct:MX:=(JJ K22.sq (nv (nI 0) (nv (nI 1) nP)))
def wt:xU:=xw 2 2 Ct
def AL:MS:=(nS (oj 2 (kSc (rC .non)))
 (nS (oj 3 (kSc (rC .non)))
 (nS (GT 3 K22.wt (DH "Part" "back" (nI 0) (nv (nI 1) nP)) (xAs "MapError" 4 (oj 2 (oi K23.qp (nv (nI 4) nP))) RU))
 (nS (uT (qH (oR xH (nA 2) (rC .non))) (pJ (qc (nv (kSc (rC (.str "back"))) (nv (yf 3) nP)))) oH)
 (pJ (qc (nv (kSc (rC (.str "refused"))) (nv (yf 2) nP))))))))
def tH:MF:=sX 2 5 AL
def Eb:MS:=(pJ (Bx (nv (kSc (rC (.str "cut"))) (nv (kSc (wx (yr "Cut" "road") (nA 0))) nP))))
def vM:MF:=sX 1 1 Eb
def Uy:MS:=(nS (oj 1 (oi K12.vO (nv (nI 0) nP)))
 (nS (oj 2 (oi Zl.ou (nv (oi K12.wR (nv (Jk (uG 0) (uO (rC (.int 6))) (uO (rC (.int 66)))) (nv (nI 1) nP))) nP)))
 (nS (uT (qH (oR Gi (oR um (oR zf (pK Zl.nU (nu (nA 0) (nu (rC (.int 0)) nQ))) (rC (.int 13266))) (rC (.int 3))) (rC (.int 1)))) (oj 2 (rQ (xJ (nI 2)) [] (Bq (nA 0)) (nI 0))) oH)
 (nS (oj 3 (kSc (oR um (pK Zl.nU (nu (nA 0) (nu (rC (.int 5)) nQ))) (rC (.int 4)))))
 (nS (uT (qH (oR Qx (nA 3) (rC (.int 1)))) (oj 2 (oi K22.uL (nv (Jk (uG 1) wF (uO (rC (.int 64)))) (nv (kSc (oR VG (nA 3) (rC (.int 1)))) nP)))) oH)
 (nS (oj 2 (CP (Cc 2) (lOf (rQ (Yp (nu (oR um (oR zf (pK Zl.nU (nu (nA 0) (nu (rC (.int 5)) nQ))) (rC (.int 4))) (rC (.int 3))) nQ)) [] rY (qc nP)))))
 (nS (oj 4 (oi K13.tO (nv (nI 2) nP)))
 (nS (oj 5 (oi Zl.ou (nv (nI 4) nP)))
 (nS (oj 6 (kSc (oR Bu (nA 1) (rC (.int 64)))))
 (nS (uT (Cq (qH (oR Gi (oR um (pK Zl.nU (nu (nA 0) (nu (rC (.int 4)) nQ))) (rC (.int 4))) (rC (.int 1)))) (Bq (nA 5))) (oj 6 (kSc (xF OP (nu (oR Bu (nA 5) (oR um (oR zf (pK Zl.nU (nu (nA 0) (nu (rC (.int 4)) nQ))) (rC (.int 4))) (xF uU (nu (nA 5) nQ)))) nQ)))) oH)
 (nS (oj 7 (oi K22.uB (nv (kSc (pK Zl.nU (nu (nA 0) (nu (rC (.int 3)) nQ)))) (nv (nI 5) (nv (nI 6) (nv (kSc (oR Bu (nA 1) (rC (.int 65)))) nP))))))
 (nS (oj 8 (oi K22.uB (nv (kSc (oR zf (pK Zl.nU (nu (nA 0) (nu (rC (.int 4)) nQ))) (rC (.int 4)))) (nv (nI 5) (nv (nI 6) (nv (kSc (wx uj (oR Bu (nA 1) (rC (.int 65))))) nP))))))
 (nS (oj 9 (Eh "Put" ["road", "first", "second"] (nu (nA 6) (nu (nA 7) (nu (nA 8) nQ)))))
 (nS (oj 10 (oi K51.ux (nv (nI 4) nP)))
 (nS (oj 11 (oi K21.uf (nv (nI 4) (nv (nI 6) (nv (nI 7) (nv (nI 8) nP))))))
 (nS (uT (Eg (rE (qH (pK K13.oE (nu (rOf (oi K22.pX (nv (nI 9) (nv (nI 10) nP)))) (nu (nA 11) nQ))))) (rE (qH (pK K13.oE (nu (nA 10) (nu (nA 4) nQ)))))) (pJ (kSc (rC (.bl false)))) oH)
 (nS (oj 12 (oi K22.rD (nv (nI 9) (nv (nI 10) nP))))
 (nS (uT (qH (oR Gi (oR Bu (nA 11) (rC (.int 0))) (rC (.str "refused")))) (nS (uT (rE (qH (pK K13.oE (nu (nA 12) (nu (nA 11) nQ))))) (pJ (kSc (rC (.bl false)))) oH) (nS (oj 13 (Eh "Part" ["road", "first", "second"] (nu (nA 6) (nu (nA 7) (nu (nA 8) nQ))))) (nS (oj 14 (oi K15.uR (nv (nI 4) nP))) (uT (Eg (rE (qH (pK K13.oE (nu (rOf (oi K22.tF (nv (nI 13) (nv (nI 14) nP)))) (nu (nA 11) nQ))))) (rE (qH (pK K13.oE (nu (rOf (oi K22.tH (nv (nI 13) (nv (nI 14) nP)))) (nu (nA 11) nQ)))))) (pJ (kSc (rC (.bl false)))) oH)))) (uT (Eg (qH (oR G2 (oR Bu (nA 12) (rC (.int 0))) (rC (.str "back")))) (rE (qH (pK K13.oE (nu (rOf (oi K22.vM (DH "Cut" "told" (Y4 (uG 12) (rC (.int 1))) nP))) (nu (rOf (Bx (nv (kSc (rC (.str "cut"))) (nv (nI 6) nP)))) nQ)))))) (pJ (kSc (rC (.bl false)))) oH))
 (nS (oj 15 (oi K13.tO (nv (CP (lOf (rQ (xJ (nI 4)) [6] rY (rQ (xJ (nI 0)) [1] (Cq (qH (oR G2 (nA 0) (nA 1))) (qH (oR G2 (nA 0) (wx uj (nA 1))))) (nI 0)))) (lOf (qc (nv (qc nP) (nv (qc nP) nP))))) nP)))
 (nS (uT (rE (qH (pK K13.oE (nu (rOf (oi K22.pX (nv (nI 9) (nv (oi K51.ux (nv (nI 15) nP)) nP)))) (nu (rOf (oi K21.uf (nv (nI 15) (nv (nI 6) (nv (nI 7) (nv (nI 8) nP)))))) nQ))))) (pJ (kSc (rC (.bl false)))) oH)
 (pJ (kSc (JL (pK K13.oE (nu (rOf (oi K22.pX (nv (nI 9) (nv (nI 10) nP)))) (nu (nA 11) nQ))) (pK K13.oE (nu (nA 10) (nu (nA 4) nQ))))))))))))))))))))))))))
def D6:MF:=sX 1 16 Uy
def zh(i:Nat):Stmt:=PySem.Challenge.pw_mapround_k22_puts_refused.main.body.getD i (.Pass ⟨0,0,0,0⟩)
def abq(i:Nat):Stmt:=match zh i with|.ClassDef _ _ _ (m::_) _ _ _ _ _ _ _=>m|s=>s
section
variable {P:iW}{w:iZ}{K:W.Frag}{mg:Str->Option Value}{base:Heap}
def HD(i j:Nat):Stmt:=match zh i with|.ClassDef _ _ _ b _ _ _ _ _ _ _=>b.getD j (.Pass ⟨0,0,0,0⟩)|s=>s
abbrev EK:Stmt:=HD 34 0
def UZ:oa ["self", "road", "first", "second"] ["self", "road", "first", "second"] (nH EK):=by trivial
def Wx{C f:Addr}{fd:jb}(F:FA K "__init__" "Put.__init__" EK f fd) (b:qI K fd ["self", "road", "first", "second"] []) (mk:Mk K C f) (cl:Km K C) (n0:nZ K C "road") (n1:nZ K C "first") (n2:nZ K C "second") (m:mg "Put" = some (.ref C)):Kr P w K mg base "Put" C f fd ["self", "road", "first", "second"] ["road", "first", "second"] :=
 ⟨mk,F.ok UZ (λvs H Q E h=>BJ h) λqK A outer s H vs Q E hr h=>⟨_,nj (BM (pv 0) (pv 1) rfl) (nj (BM (pv 0) (pv 2) rfl) (nB (BM (pv 0) (pv 3) rfl))),Xi cl n0 n1 n2 (by decide) (by decide) (by decide) h⟩,b,m⟩
abbrev CW:Stmt:=HD 36 0
def Q9:oa ["self", "road", "first", "second"] ["self", "road", "first", "second"] (nH CW):=by trivial
def Tg{C f:Addr}{fd:jb}(F:FA K "__init__" "Part.__init__" CW f fd) (b:qI K fd ["self", "road", "first", "second"] []) (mk:Mk K C f) (cl:Km K C) (n0:nZ K C "road") (n1:nZ K C "first") (n2:nZ K C "second") (m:mg "Part" = some (.ref C)):Kr P w K mg base "Part" C f fd ["self", "road", "first", "second"] ["road", "first", "second"] :=
 ⟨mk,F.ok Q9 (λvs H Q E h=>BJ h) λqK A outer s H vs Q E hr h=>⟨_,nj (BM (pv 0) (pv 1) rfl) (nj (BM (pv 0) (pv 2) rfl) (nB (BM (pv 0) (pv 3) rfl))),Xi cl n0 n1 n2 (by decide) (by decide) (by decide) h⟩,b,m⟩
abbrev FR:Stmt:=HD 35 0
def WC:oa ["self", "road"] ["self", "road"] (nH FR):=by trivial
def UX{C f:Addr}{fd:jb}(F:FA K "__init__" "Cut.__init__" FR f fd) (b:qI K fd ["self", "road"] []) (mk:Mk K C f) (cl:Km K C) (n0:nZ K C "road") (m:mg "Cut" = some (.ref C)):Kr P w K mg base "Cut" C f fd ["self", "road"] ["road"] :=
 ⟨mk,F.ok WC (λvs H Q E h=>BJ h) λqK A outer s H vs Q E hr h=>⟨_,nB (BM (pv 0) (pv 1) rfl),ab9 cl n0 h⟩,b,m⟩
abbrev wg:Stmt:=abq 2
def IU:oa ["self", "end"] ["self", "end"] (nH wg):=by trivial
def IE{C M f:Addr}{fd:jb}(F:FA K "__init__" "NotThere.__init__" wg f fd) (b:qI K fd ["self", "end"] []) (rf:Ref K "NotThere" C M) (mM:mg "MapError" = some (.ref M)) (hr0:W.readsIn K M (.type "type")=true) (hs0:W.specialIn K (.ref M) "__getattribute__" = some (some (.builtin "type.__getattribute__"))) (hf0:W.findCls K (.ref M) (.type "type") "__init__" = some (.val (.builtin "ValueError.__init__"))) (ini:W.findIn K (.ref C) "__init__" = some (some (.ref f))) (fn:W.isFn K (.ref f)=true) (kp:W.keepIn K (.ref C)=true) (nf:W.findIn K (.ref C) "end" = some none) (m:mg "NotThere" = some (.ref C)):P7 P w K mg base "NotThere" "end" "end" C M f fd :=
 ⟨⟨rf.nm,.inl ⟨M,rf⟩⟩,rf.xc,Lm M,m,⟨rf,ini,fn,kp,nf,m,b,F.ok IU (λvs H Q E h=>by obtain⟨e,v,C,M,rfl,_⟩:=h;rfl) λqK A outer s H vs Q E hr h=>⟨_,nj (pQ (W5 (by rfl) mM hr0 hs0 hf0 (mY (pv 0) (mY qm nh)))) (nB (Xd (pv 0) (pv 1) rfl)),JN h⟩⟩⟩
abbrev Az:Stmt:=abq 3
def Py:oa ["self", "road"] ["self", "road"] (nH Az):=by trivial
def OG{C M f:Addr}{fd:jb}(F:FA K "__init__" "Taken.__init__" Az f fd) (b:qI K fd ["self", "road"] []) (rf:Ref K "Taken" C M) (mM:mg "MapError" = some (.ref M)) (hr0:W.readsIn K M (.type "type")=true) (hs0:W.specialIn K (.ref M) "__getattribute__" = some (some (.builtin "type.__getattribute__"))) (hf0:W.findCls K (.ref M) (.type "type") "__init__" = some (.val (.builtin "ValueError.__init__"))) (ini:W.findIn K (.ref C) "__init__" = some (some (.ref f))) (fn:W.isFn K (.ref f)=true) (kp:W.keepIn K (.ref C)=true) (nf:W.findIn K (.ref C) "road" = some none) (m:mg "Taken" = some (.ref C)):P7 P w K mg base "Taken" "road" "road" C M f fd :=
 ⟨⟨rf.nm,.inl ⟨M,rf⟩⟩,rf.xc,Lm M,m,⟨rf,ini,fn,kp,nf,m,b,F.ok Py (λvs H Q E h=>by obtain⟨e,v,C,M,rfl,_⟩:=h;rfl) λqK A outer s H vs Q E hr h=>⟨_,nj (pQ (W5 (by rfl) mM hr0 hs0 hf0 (mY (pv 0) (mY qm nh)))) (nB (Xd (pv 0) (pv 1) rfl)),JN h⟩⟩⟩
abbrev Aw:Stmt:=zh 9
def Hs:oa ["ends", "start"] ["ends"] (nH Aw):=by trivial
def ON     (D:xP K mg "turned" Aw ["ends"] f fd) (B:Bt mg)     : Fn P w K mg base 1 "turned" Aw ["ends"] (oY K Zl.xh) f fd :=
 ⟨D,D.F.ok Hs (λ_ _ _ _=>qg) λqK A outer s H vs Q E hr h=>⟨_,(nj (pB (oz BF (ot qA (by rfl) B.len PySem.boot_len (mY (pv 0) nh)) nK (ph _)) (nB (oh (oB nh))) ox) (nj (nX (i:=1) Hs.nd rfl (by trivial) (rp ah bE cB CG (pv 0) (mY (ot (Hb rfl) (by rfl) B.min gb (mY (pv 0) nh)) nh))) (nB (oh (oU zc (sY uD (pv 0) (uo (pv 1)) vn) (sY uD (pv 0) vn (uo (pv 1)))))))),oP _ (K:=K) (nF (qj (oA (nW A4 (qC tS (ny (nq 0) nO)) nJ)) (oq (oK nD)) oy) (nF (nY (i:=1) (SR.kSc (NO (T := "list") Cw (nq 0) (ny (qC QN (ny (nq 0) nO)) nO)))) (oq (zD (SK.lOf (zY (tV 0) (ud (nq 1)) vv)) (SK.lOf (zY (tV 0) vv (ud (nq 1)))))))) h⟩⟩
abbrev sI:Stmt:=zh 10
def zE:oa ["turns", "told", "turn"] ["turns"] (nH sI):=by trivial
def HK     (D:xP K mg "told_ends" sI ["turns"] f fd) (B:Bt mg)     : Fn P w K mg base 1 "told_ends" sI ["turns"] (oY K Zl.ou) f fd :=
 ⟨D,D.F.ok zE (λ_ _ _ _=>qg) λqK A outer s H vs Q E hr h=>⟨_,(nj (nX (i:=1) zE.nd rfl (by trivial) (oB nh)) (nj (vh PassesOwn.never rfl (qG (pv 0)) (rl (i:=2) zE.nd rfl (by trivial)) (nB (pQ (rp ah cZ dc A9 (pv 1) (mY (pv 2) nh))))) (nB (oh (pv 1))))),oP _ (K:=K) (nF (nY (i:=1) (oK nD)) (nF (AX (nC 0) (Td (i:=1) (B4 2))) (oq (tJ 1)))) h⟩⟩
abbrev rz:Stmt:=zh 11
def B1:oa ["turns"] ["turns"] (nH rz):=by trivial
def BK{Bo DE:Addr}  (D:xP K mg "refuse_too_many" rz ["turns"] f fd) (B:Bt mg) (AW:mg "MOST_ENDS" = some (.int 128 D4)) (uJ:mg "MOST_BARE_PLACES" = some (.int 128 wV)) (rn:K2 K mg "TooMany" Bo DE) (G_told_ends:Fn P w K mg base 1 "told_ends" sI ["turns"] (oY K Zl.ou) ftold_ends fdtold_ends)  : IZ P w K mg base 2 "refuse_too_many" rz ["turns"] (yi K Zl.pT) f fd :=
 ⟨D,okX D.F B1 (λvs H Q E h=>uk h) λqK A outer s H vs Q E hr h=>have hu65:=si.units65 hr;⟨_,(nj (pB (oz Fe (ot qA (by rfl) B.len PySem.boot_len (mY (oN G_told_ends (hr.mono (by decide)) (mY (pv 0) nh)) nh)) (Bj (v:=.int 128) (by rfl) AW ⟨_,rfl⟩) (ph _)) (nB (AO rn.i.rf wN rfl (MU rn.i))) ox) (nB (pB (oz Fe (rp ah fL PySem.F.type_list_count (Uv hu65) (pv 0) (mY (oB nh) nh)) (Bj (v:=.int 128) (by rfl) uJ ⟨_,rfl⟩) (ph _)) (nB (AO rn.i.rf wN rfl (MU rn.i))) ox))),qV _ (K:=K) (wG (Dy (oA (nW Ga (qC tS (ny (SK.rOf (om (ni (nC 0) nD))) nO)) nJ)) (BO rn.i.rf) (xD oy)) (Dy (oA (nW Ga (WX (nq 0)) nJ)) (BO rn.i.rf) (xD oy))) h⟩⟩
abbrev ro:Stmt:=zh 12
def DI:oa ["turns"] ["turns"] (nH ro):=by trivial
def DC  (D:xP K mg "in_good_order" ro ["turns"] f fd) (B:Bt mg)   (G_turned:Fn P w K mg base 1 "turned" Aw ["ends"] (oY K Zl.xh) fturned fdturned)  : Fn P w K mg base 2 "in_good_order" ro ["turns"] (oY K Zl.qk) f fd :=
 ⟨D,D.F.ok DI (λ_ _ _ _=>qg) λqK A outer s H vs Q E hr h=>have hu:=hr.units;⟨_,(nB (oh (ot (Dq hu) (by rfl) B.sorted dR (mY (vU (cl:=[]) (N:=["turn"]) (fr:=[]) rfl rfl (by decide +kernel) rfl (by decide +kernel) rfl (ur.none (by decide +kernel)) (qG (pv 0)) (λ_ _ _ _=>zp) (λ_ _ _ _=>(oN G_turned (hr.mono (by decide)) (mY (pv 0) nh)))) nh)))),oP _ (K:=K) (oq (GP (tU (nC 0) zk (om (ni (nC 0) nD))))) h⟩⟩
abbrev yW:Stmt:=zh 13
def LB:oa ["m"] ["m"] (nH yW):=by trivial
def My  (D:xP K mg "ends_of" yW ["m"] f fd) (B:Bt mg)   (G_told_ends:Fn P w K mg base 1 "told_ends" sI ["turns"] (oY K Zl.ou) ftold_ends fdtold_ends)  : Fn P w K mg base 2 "ends_of" yW ["m"] (oY K Zl.yZ) f fd :=
 ⟨D,D.F.ok LB (λ_ _ _ _=>qg) λqK A outer s H vs Q E hr h=>⟨_,(nB (oh (ot Jf (by rfl) B.sorted dR (mY (oN G_told_ends (hr.mono (by decide)) (mY (pv 0) nh)) nh)))),oP _ (K:=K) (oq (QF (SL.q (SK.lOf (om (ni (nC 0) nD)))))) h⟩⟩
abbrev CY:Stmt:=zh 14
def AY:oa ["m", "following", "turn", "end", "behind"] ["m"] (nH CY):=by trivial
def Sr     (D:xP K mg "nexts" CY ["m"] f fd) (B:Bt mg)     : Fn P w K mg base 1 "nexts" CY ["m"] (oY K K51.Da) f fd :=
 ⟨D,D.F.ok AY (λ_ _ _ _=>qg) λqK A outer s H vs Q E hr h=>⟨_,(nj (nX (i:=1) AY.nd rfl (by trivial) AM) (nj (vh PassesOwn.never rfl (qG (pv 0)) (rl (i:=2) AY.nd rfl (by trivial)) (nB (vh PassesOwn.never rfl (X4 (by rfl) B.zip (mY (pv 2) (mY (oU zc (sY uD (pv 2) (uo nK) vn) (sY uD (pv 2) vn (uo nK))) nh))) (Rw rfl (C3 (rl (i:=3) AY.nd rfl (by trivial)) (C3 (rl (i:=4) AY.nd rfl (by trivial)) NH))) (nB (CN (Ab hr) (pv 1) (pv 3) (pv 4) rfl))))) (nB (oh (pv 1))))),oP _ (K:=K) (nF (nY (i:=1) Dd) (nF (AX (nC 0) (Wl (nC 2) (zD (SK.lOf (zY (tV 2) (ud nJ) vv)) (SK.lOf (zY (tV 2) vv (ud nJ)))) (Co (i:=1) (nC 4) (nq 3)))) (oq (tJ 1)))) h⟩⟩
abbrev yB:Stmt:=zh 16
def zO:oa ["m", "following", "steps", "end"] ["m"] (nH yB):=by trivial
def LR  (D:xP K mg "onwards" yB ["m"] f fd) (B:Bt mg)   (G_nexts:Fn P w K mg base 1 "nexts" CY ["m"] (oY K K51.Da) fnexts fdnexts)  : Fn P w K mg base 2 "onwards" yB ["m"] (oY K K15.yH) f fd :=
 ⟨D,D.F.ok zO (λ_ _ _ _=>qg) λqK A outer s H vs Q E hr h=>⟨_,(nj (nX (i:=1) zO.nd rfl (by trivial) (oN G_nexts (hr.mono (by decide)) (mY (pv 0) nh))) (nj (nX (i:=2) zO.nd rfl (by trivial) AM) (nj (vh PassesOwn.never rfl (Xe.NP (pv 1)) (rl (i:=3) zO.nd rfl (by trivial)) (nB (CN (Ab hr) (pv 2) (pv 3) (ED (Ab hr) (pv 1) (vy tL (pv 3)) (by first|rfl|exact trivial|(intro _ _;rfl))) rfl))) (nB (oh (pv 2)))))),oP _ (K:=K) (nF (nY (i:=1) (om (ni (nC 0) nD))) (nF (nY (i:=2) Dd) (nF (Nk (x:=3) (i:=1) (Co (i:=2) (SR.kSc (Kx (nq 1) (vA tI (nq 3)))) (nq 3))) (oq (tJ 2))))) h⟩⟩
abbrev vq:Stmt:=zh 17
def vQ:oa ["steps", "end", "ends", "step"] ["steps", "end"] (nH vq):=by trivial
def GM     (D:xP K mg "gone_round" vq ["steps", "end"] f fd) (B:Bt mg)     : Fn P w K mg base 1 "gone_round" vq ["steps", "end"] (oY K K15.uW) f fd :=
 ⟨D,D.F.ok vQ (λ_ _ _ _=>qg) λqK A outer s H vs Q E hr h=>⟨_,(nj (nX (i:=2) vQ.nd rfl (by trivial) (oB (mY (pv 1) nh))) (nj (nX (i:=3) vQ.nd rfl (by trivial) (ED (Ab hr) (pv 0) (pv 1) (by first|rfl|exact trivial|(intro _ _;rfl)))) (nj (Jo PassesOwn.never (oz Fo (pv 3) (pv 1) (ph _)) (nj (pQ (rp ah aA aB qa (pv 2) (mY (pv 3) nh))) (nB (nX (i:=3) vQ.nd rfl (by trivial) (ED (Ab hr) (pv 0) (pv 3) (by first|rfl|exact trivial|(intro _ _;rfl))))))) (nB (oh (pv 2)))))),oP _ (K:=K) (nF (nY (i:=2) (oK (ni (nC 1) nD))) (nF (nY (i:=3) (SR.kSc (N6 (nq 0) (nq 1)))) (nF (JK 100000 (oA (nW Ff (nq 3) (nq 1))) (nF (wC (i:=2) (nC 3)) (nY (i:=3) (SR.kSc (N6 (nq 0) (nq 3)))))) (oq (tJ 2))))) h⟩⟩
abbrev Bk:Stmt:=zh 18
def xk:oa ["m", "steps", "known", "found", "start", "land", "end"] ["m"] (nH Bk):=by trivial
def R5  (D:xP K mg "lands" Bk ["m"] f fd) (B:Bt mg)   (G_onwards:Fn P w K mg base 2 "onwards" yB ["m"] (oY K K15.yH) fonwards fdonwards) (G_ends_of:Fn P w K mg base 2 "ends_of" yW ["m"] (oY K Zl.yZ) fends_of fdends_of) (G_in_good_order:Fn P w K mg base 2 "in_good_order" ro ["turns"] (oY K Zl.qk) fin_good_order fdin_good_order) (G_gone_round:Fn P w K mg base 1 "gone_round" vq ["steps", "end"] (oY K K15.uW) fgone_round fdgone_round)  : Fn P w K mg base 3 "lands" Bk ["m"] (oY K K15.uE) f fd :=
 ⟨D,D.F.ok xk (λ_ _ _ _=>qg) λqK A outer s H vs Q E hr h=>⟨_,(nj (nX (i:=1) xk.nd rfl (by trivial) (oN G_onwards (hr.mono (by decide)) (mY (pv 0) nh))) (nj (nX (i:=2) xk.nd rfl (by trivial) AM) (nj (Dk (i:=3) (cl:=[]) (N:=["turn"]) (fr:=[]) rfl xk.nd rfl (by trivial) rfl (by decide +kernel) rfl (by decide +kernel) rfl (ur.none (by decide +kernel)) (qG (pv 0)) (λ_ _ _ _=>Dr (oz BF (ot qA (by rfl) B.len PySem.boot_len (mY (pv 0) nh)) nK (ph _))) (λ_ _ _ _=>(oB nh))) (nj (vh PassesOwn.never rfl (qG (oN G_ends_of (hr.mono (by decide)) (mY (pv 0) nh))) (rl (i:=4) xk.nd rfl (by trivial)) (nB (pB (Mh (DJ (Ab hr) (pv 4) (pv 2))) (nj (nX (i:=5) xk.nd rfl (by trivial) (oN G_gone_round (hr.mono (by decide)) (mY (pv 1) (mY (pv 4) nh)))) (nj (vh PassesOwn.never rfl (qG (pv 5)) (rl (i:=6) xk.nd rfl (by trivial)) (nB (CN (Ab hr) (pv 2) (pv 6) As rfl))) (nB (pQ (rp ah aA aB qa (pv 3) (mY (pv 5) nh)))))) ox))) (nB (oh (oN G_in_good_order (hr.mono (by decide)) (mY (pv 3) nh)))))))),oP _ (K:=K) (nF (nY (i:=1) (om (ni (nC 0) nD))) (nF (nY (i:=2) Dd) (nF (nY (i:=3) (tU (nC 0) (oA (nW A4 (qC tS (ny (nq 0) nO)) nJ)) (oK nD))) (nF (AX (om (ni (nC 0) nD)) (qj (uN (DT (nq 4) (nq 2))) (nF (nY (i:=5) (om (ni (nC 1) (ni (nC 4) nD)))) (nF (AX (nC 5) (Co (i:=2) (SR.kSc A2) (nq 6))) (wC (i:=3) (nC 5)))) oy)) (oq (om (ni (nC 3) nD))))))) h⟩⟩
abbrev yD:Stmt:=zh 20
def Lg:oa ["turns"] ["turns"] (nH yD):=by trivial
def Mf  (D:xP K mg "settled" yD ["turns"] f fd) (B:Bt mg)   (G_refuse_too_many:IZ P w K mg base 2 "refuse_too_many" rz ["turns"] (yi K Zl.pT) frefuse_too_many fdrefuse_too_many) (G_in_good_order:Fn P w K mg base 2 "in_good_order" ro ["turns"] (oY K Zl.qk) fin_good_order fdin_good_order)  : IZ P w K mg base 3 "settled" yD ["turns"] (yi K K23.wO) f fd :=
 ⟨D,okX D.F Lg (λvs H Q E h=>uk h) λqK A outer s H vs Q E hr h=>⟨_,(nj (pQ (yu G_refuse_too_many (hr.mono (by decide)) qU (mY (pv 0) nh))) (nB (oh (oN G_in_good_order (hr.mono (by decide)) (mY (pv 0) nh))))),qV _ (K:=K) (wG (FJ (ni (nC 0) nD)) (xD (oq (om (ni (nC 0) nD))))) h⟩⟩
abbrev Ao:Stmt:=zh 21
def Hg:oa ["turn", "end", "spot", "behind"] ["turn", "end", "spot"] (nH Ao):=by trivial
def Qr     (D:xP K mg "spread" Ao ["turn", "end", "spot"] f fd) (B:Bt mg)     : Fn P w K mg base 1 "spread" Ao ["turn", "end", "spot"] (oY K K21.xB) f fd :=
 ⟨D,D.F.ok Hg (λ_ _ _ _=>qg) λqK A outer s H vs Q E hr h=>⟨_,(nj (pB (oz CB (pv 2) (pv 0) rfl) (nB (oh (pv 0))) ox) (nj (nX (i:=3) Hg.nd rfl (by trivial) (oU xA (rp ah bE cB CG (pv 0) (mY (pv 2) nh)) nK)) (nB (oh (oU zc (oU zc (sY uD (pv 0) vn (uo (pv 3))) (oB (mY (pv 1) nh))) (sY uD (pv 0) (uo (pv 3)) vn)))))),oP _ (K:=K) (nF (qj (oA (nW (Fp true) (nq 2) (nq 0))) (oq (tJ 0)) oy) (nF (nY (i:=3) (SR.kSc (nW xq (NO (T := "list") Cw (nq 0) (ny (nq 2) nO)) nJ))) (oq (zD (SK.lOf (zD (SK.lOf (zY (tV 0) vv (ud (nq 3)))) (SK.lOf (oK (ni (nC 1) nD))))) (SK.lOf (zY (tV 0) (ud (nq 3)) vv)))))) h⟩⟩
abbrev vi:Stmt:=zh 22
def Gy:oa ["turns", "end", "spot"] ["turns", "end", "spot"] (nH vi):=by trivial
def GF  (D:xP K mg "put_behind" vi ["turns", "end", "spot"] f fd) (B:Bt mg)  (rK:P7 P w K mg base "NotThere" "end" "end" EV Lc Kg Jg) (G_told_ends:Fn P w K mg base 1 "told_ends" sI ["turns"] (oY K Zl.ou) ftold_ends fdtold_ends) (G_spread:Fn P w K mg base 1 "spread" Ao ["turn", "end", "spot"] (oY K K21.xB) fspread fdspread)  : IZ P w K mg base 3 "put_behind" vi ["turns", "end", "spot"] (yi K K21.uh) f fd :=
 ⟨D,okX D.F Gy (λvs H Q E h=>uk h) λqK A outer s H vs Q E hr h=>⟨_,(nj (pB (oz CB (pv 2) (oN G_told_ends (hr.mono (by decide)) (mY (pv 0) nh)) rfl) (nB (AO rK.i.rf wN rfl (TF rK.i (hr.mono (by decide)) (mY (pv 2) nh)))) ox) (nB (oh (vU (N:=["turn", "end", "spot"]) (fr:=[1,2]) rfl rfl (by decide +kernel) rfl (by decide +kernel) rfl (ur.of (by decide +kernel) rfl rfl (by exact⟨rfl,rfl,trivial⟩) (by repeat (first|exact trivial|refine⟨(by first|exact λ_=>⟨_,rfl⟩|exact λh=>(by rcases h with h|h <;> cases h)),?_⟩)) (by exact⟨⟨rfl,rfl,rfl⟩,⟨rfl,rfl,rfl⟩,trivial⟩)) (qG (pv 0)) (λ_ _ _ _=>zp) (λ_ _ _ _=>(oN G_spread (hr.mono (by decide)) (mY (pv 0) (mY (pv 1) (mY (pv 2) nh))))))))),qV _ (K:=K) (wG (Dy (oA (nW (Fp true) (nq 2) (SK.rOf (om (ni (nC 0) nD))))) (GV rK.i.rf rK.i.nf (ny (nq 2) nO)) (xD oy)) (xD (oq (tU (nC 0) zk (om (ni (nC 0) (ni (nC 1) (ni (nC 2) nD)))))))) h⟩⟩
abbrev wu:Stmt:=zh 23
def CM:oa ["turns", "end", "bare"] ["turns", "end"] (nH wu):=by trivial
def HJ   {Bp DK:Addr}  (D:xP K mg "put_alone" wu ["turns", "end"] f fd) (B:Bt mg)  (ue:K2 K mg "NoPlace" Bp DK)   : IZ P w K mg base 1 "put_alone" wu ["turns", "end"] (yi K K21.uQ) f fd :=
 ⟨D,okX D.F CM (λvs H Q E h=>uk h) λqK A outer s H vs Q E hr h=>have hu65:=si.units65 hr;⟨_,(nj (pB (oz (OF hu65) (oB nh) (pv 0) rfl) (nB (AO ue.i.rf wN rfl (MU ue.i))) ox) (nj (nX (i:=2) CM.nd rfl (by trivial) (rp ah bE cB (Os hu65) (pv 0) (mY (oB nh) nh))) (nB (oh (oU zc (oU zc (sY uD (pv 0) vn (uo (pv 2))) (oB (mY (oB (mY (pv 1) nh)) nh))) (sY uD (pv 0) (uo (oU xA (pv 2) nK)) vn)))))),qV _ (K:=K) (wG (Dy (oA (aaA true (nq 0))) (BO ue.i.rf) (xD oy)) (wG (xD (nY (i:=2) (SR.kSc (WQ (nq 0))))) (xD (oq (zD (SK.lOf (zD (SK.lOf (zY (tV 0) vv (ud (nq 2)))) (SK.lOf (oK (ni (oK (ni (nC 1) nD)) nD))))) (SK.lOf (zY (tV 0) (ud (nW xq (nq 2) nJ)) vv))))))) h⟩⟩
abbrev za:Stmt:=zh 24
def LG:oa ["turns", "end", "spot"] ["turns", "end", "spot"] (nH za):=by trivial
def Ll  (D:xP K mg "put_end" za ["turns", "end", "spot"] f fd) (B:Bt mg)   (G_put_behind:IZ P w K mg base 3 "put_behind" vi ["turns", "end", "spot"] (yi K K21.uh) fput_behind fdput_behind) (G_put_alone:IZ P w K mg base 1 "put_alone" wu ["turns", "end"] (yi K K21.uQ) fput_alone fdput_alone)  : IZ P w K mg base 4 "put_end" za ["turns", "end", "spot"] (yi K K21.tE) f fd :=
 ⟨D,okX D.F LG (λvs H Q E h=>uk h) λqK A outer s H vs Q E hr h=>⟨_,(nj (pB (oz yg (pv 2) sU (ph _)) (nB (oh (yu G_put_alone (hr.mono (by decide)) qU (mY (pv 0) (mY (pv 1) nh))))) ox) (nB (oh (yu G_put_behind (hr.mono (by decide)) qU (mY (pv 0) (mY (pv 1) (mY (pv 2) nh))))))),qV _ (K:=K) (wG (Dy (oA (nW yq (nq 2) sS)) (C7 (ni (nC 0) (ni (nC 1) nD))) (xD oy)) (C7 (ni (nC 0) (ni (nC 1) (ni (nC 2) nD))))) h⟩⟩
abbrev wa:Stmt:=zh 25
def CJ:oa ["m", "road", "first", "second", "started"] ["m", "road", "first", "second"] (nH wa):=by trivial
def Ih  (D:xP K mg "with_road" wa ["m", "road", "first", "second"] f fd) (B:Bt mg)  (vR:P7 P w K mg base "Taken" "road" "road" Ob Wj Sh OH) (G_put_end:IZ P w K mg base 4 "put_end" za ["turns", "end", "spot"] (yi K K21.tE) fput_end fdput_end) (G_settled:IZ P w K mg base 3 "settled" yD ["turns"] (yi K K23.wO) fsettled fdsettled) (G_told_ends:Fn P w K mg base 1 "told_ends" sI ["turns"] (oY K Zl.ou) ftold_ends fdtold_ends)  : IZ P w K mg base 5 "with_road" wa ["m", "road", "first", "second"] (yi K K21.pD) f fd :=
 ⟨D,okX D.F CJ (λvs H Q E h=>uk h) λqK A outer s H vs Q E hr h=>⟨_,(nj (pB (oz Du (pv 1) (oN G_told_ends (hr.mono (by decide)) (mY (pv 0) nh)) rfl) (nB (AO vR.i.rf wN rfl (TF vR.i (hr.mono (by decide)) (mY (pv 1) nh)))) ox) (nj (nX (i:=4) CJ.nd rfl (by trivial) (yu G_put_end (hr.mono (by decide)) qU (mY (pv 0) (mY (pv 1) (mY (pv 2) nh))))) (nB (oh (yu G_settled (hr.mono (by decide)) qU (mY (yu G_put_end (hr.mono (by decide)) qU (mY (pv 4) (mY (vy tL (pv 1)) (mY (pv 3) nh)))) nh)))))),qV _ (K:=K) (wG (Dy (oA (nW (Fp false) (nq 1) (SK.rOf (om (ni (nC 0) nD))))) (GV vR.i.rf vR.i.nf (ny (nq 1) nO)) (xD oy)) (wG (VS (i:=4) (ni (nC 0) (ni (nC 1) (ni (nC 2) nD)))) (Tq (ni (nC 4) (ni (SR.kSc (vA tI (nq 1))) (ni (nC 3) nD)))))) h⟩⟩
abbrev Cf:Stmt:=HD 34 1
def Kf:oa ["self", "m"] ["self", "m"] (nH Cf):=by trivial
def Kb  {oW:Addr}(F:FA K "done" "Put.done" Cf f fd) (mt:EO K oW "done" f) (b:qI K fd ["self", "m"] []) (B:Bt mg)   (G_with_road:IZ P w K mg base 5 "with_road" wa ["m", "road", "first", "second"] (yi K K21.pD) fwith_road fdwith_road) (qd:wj K "Put" oW) (qR:nZ K oW "road") (qM:nZ K oW "first") (qt:nZ K oW "second"):O9 P w K mg base 6 oW "done" ["self", "m"] (yi K K21.pd) f fd :=
 ⟨qd.cl,mt,b,okX F Kf (λvs H Q E h=>uk h) λqK A outer s H vs Q E hr h=>⟨_,
   (nB (oh (yu G_with_road (hr.mono (by decide)) qU (mY (pv 1) (mY (Ap (pv 0) (by rfl)) (mY (Ap (pv 0) (by rfl)) (mY (Ap (pv 0) (by rfl)) nh))))))),
   qV _ (K:=K) (C7 (ni (nC 1) (ni (SR.kSc (xW qd qR (nq 0))) (ni (SR.kSc (xW qd qM (nq 0))) (ni (SR.kSc (xW qd qt (nq 0))) nD))))) h⟩⟩
abbrev qE:Stmt:=zh 38
def Ai:oa ["change", "m"] ["change", "m"] (nH qE):=by trivial
def Ah    {oW:Addr}(D:xP K mg "refuse_as_done" qE ["change", "m"] f fd) (B:Bt mg)    (qd:wj K "Put" oW) (qR:nZ K oW "road") (qM:nZ K oW "first") (qt:nZ K oW "second") (xr:O9 P w K mg base 6 oW "done" ["self", "m"] (yi K K21.pd) fPut_done fdPut_done):IZ P w K mg base 7 "refuse_as_done" qE ["change", "m"] (yi K K22.pR) f fd :=
 ⟨D,okX D.F Ai (λvs H Q E h=>uk h) λqK A outer s H vs Q E hr h=>⟨_,(nB (pQ (Mu xr (hr.mono (by decide)) qU (pv 0) (mY (pv 1) nh)))),qV _ (K:=K) (FJ (yn qd (nC 0) (ni (nC 1) nD))) h⟩⟩
abbrev zL:Stmt:=HD 36 3
def GC:oa ["self"] ["self"] (nH zL):=by trivial
def GD    {oW:Addr}{oC:Addr}{MR:Addr}{IG:jb}(F:FA K "other" "Part.other" zL f fd) (mt:EO K oC "other" f) (b:qI K fd ["self"] []) (B:Bt mg)    (qd:wj K "Put" oW) (qR:nZ K oW "road") (qM:nZ K oW "first") (qt:nZ K oW "second") (pP:wj K "Part" oC) (rJ:nZ K oC "road") (qS:nZ K oC "first") (qD:nZ K oC "second") (Hr:Kr P w K mg base "Put" oW MR IG ["self", "road", "first", "second"] ["road", "first", "second"]):MtN P w K mg base 3 oC "other" ["self"] (oY K K22.sT) f fd :=
 ⟨pP.cl,mt,b,F.ok GC (λ_ _ _ _=>qg) λqK A outer s H vs Q E hr h=>⟨_,
   (nB (oh (Il Hr (hr.mono (by decide)) (mY (Ap (pv 0) (by rfl)) (mY (Ap (pv 0) (by rfl)) (mY (Ap (pv 0) (by rfl)) nh)))))),
   oP _ (K:=K) (oq (HP qd (ny (xW pP rJ (nq 0)) (ny (xW pP qS (nq 0)) (ny (xW pP qD (nq 0)) nO))))) h⟩⟩
abbrev sA:Stmt:=zh 39
def Dj:oa ["change", "m"] ["change", "m"] (nH sA):=by trivial
def Cr  {oW:Addr}{oC:Addr}(D:xP K mg "done_over" sA ["change", "m"] f fd) (B:Bt mg)   (G_lands:Fn P w K mg base 3 "lands" Bk ["m"] (oY K K15.uE) flands fdlands) (qd:wj K "Put" oW) (qR:nZ K oW "road") (qM:nZ K oW "first") (qt:nZ K oW "second") (pP:wj K "Part" oC) (rJ:nZ K oC "road") (qS:nZ K oC "first") (qD:nZ K oC "second") (zl:MtN P w K mg base 3 oC "other" ["self"] (oY K K22.sT) fPart_other fdPart_other) (xr:O9 P w K mg base 6 oW "done" ["self", "m"] (yi K K21.pd) fPut_done fdPut_done):IZ P w K mg base 7 "done_over" sA ["change", "m"] (yi K K22.sj) f fd :=
 ⟨D,okX D.F Dj (λvs H Q E h=>uk h) λqK A outer s H vs Q E hr h=>⟨_,(nB (oh (oN G_lands (hr.mono (by decide)) (mY (Mu xr (hr.mono (by decide)) qU (Lw zl (hr.mono (by decide)) (pv 0)) (mY (oN G_lands (hr.mono (by decide)) (mY (pv 1) nh)) nh)) nh)))),qV _ (K:=K) (Rb (yn qd (om (yn pP (nC 0) nD)) (ni (om (ni (nC 1) nD)) nD))) h⟩⟩
abbrev Cd:Stmt:=HD 34 2
def Jw:oa ["self", "m"] ["self", "m"] (nH Cd):=by trivial
def Jp  {oW:Addr}{zZ:Addr}{Yu:Addr}{Vu:jb}(F:FA K "back" "Put.back" Cd f fd) (mt:EO K oW "back" f) (b:qI K fd ["self", "m"] []) (B:Bt mg)   (G_refuse_as_done_Put:IZ P w K mg base 7 "refuse_as_done" qE ["change", "m"] (yi K K22.pR) frefuse_as_done_Put fdrefuse_as_done_Put) (qd:wj K "Put" oW) (qR:nZ K oW "road") (qM:nZ K oW "first") (qt:nZ K oW "second") (xo:wj K "Cut" zZ) (Al:nZ K zZ "road") (Ua:Kr P w K mg base "Cut" zZ Yu Vu ["self", "road"] ["road"]):O9 P w K mg base 8 oW "back" ["self", "m"] (yi K K22.rO) f fd :=
 ⟨qd.cl,mt,b,okX F Jw (λvs H Q E h=>uk h) λqK A outer s H vs Q E hr h=>⟨_,
   (nj (pQ (yu G_refuse_as_done_Put (hr.mono (by decide)) qU (mY (pv 0) (mY (pv 1) nh))))
   (nB (oh (Il Ua (hr.mono (by decide)) (mY (Ap (pv 0) (by rfl)) nh))))),
   qV _ (K:=K) (wG (FJ (ni (nC 0) (ni (nC 1) nD)))
   (xD (oq (HP xo (ny (xW qd qR (nq 0)) nO))))) h⟩⟩
abbrev sm:Stmt:=zh 40
def Dm:oa ["change", "m"] ["change", "m"] (nH sm):=by trivial
def CI  {oW:Addr}{oC:Addr}(D:xP K mg "back_over" sm ["change", "m"] f fd) (B:Bt mg)   (G_lands:Fn P w K mg base 3 "lands" Bk ["m"] (oY K K15.uE) flands fdlands) (qd:wj K "Put" oW) (qR:nZ K oW "road") (qM:nZ K oW "first") (qt:nZ K oW "second") (pP:wj K "Part" oC) (rJ:nZ K oC "road") (qS:nZ K oC "first") (qD:nZ K oC "second") (zl:MtN P w K mg base 3 oC "other" ["self"] (oY K K22.sT) fPart_other fdPart_other) (Ca:O9 P w K mg base 8 oW "back" ["self", "m"] (yi K K22.rO) fPut_back fdPut_back):IZ P w K mg base 9 "back_over" sm ["change", "m"] (yi K K22.sq) f fd :=
 ⟨D,okX D.F Dm (λvs H Q E h=>uk h) λqK A outer s H vs Q E hr h=>⟨_,(nB (oh (Z9 (Mu Ca (hr.mono (by decide)) qU (Lw zl (hr.mono (by decide)) (pv 0)) (mY (oN G_lands (hr.mono (by decide)) (mY (pv 1) nh)) nh))))),qV _ (K:=K) (WS (yn qd (om (yn pP (nC 0) nD)) (ni (om (ni (nC 1) nD)) nD))) h⟩⟩
abbrev yM:Stmt:=zh 42
def Qe:oa ["_law_script", "_law_k"] ["_law_script", "_law_k"] (nH yM):=by trivial
def OS     (D:xP K mg "_law_cell" yM ["_law_script", "_law_k"] f fd) (B:Bt mg)     : Fn P w K mg base 1 "_law_cell" yM ["_law_script", "_law_k"] (oY K Zl.nU) f fd :=
 ⟨D,D.F.ok Qe (λ_ _ _ _=>qg) λqK A outer s H vs Q E hr h=>⟨_,(nj (pB (oz MZ (pv 1) (ot qA (by rfl) B.len PySem.boot_len (mY (pv 0) nh)) (ph _)) (nB (oh (rF pI (pv 0) (pv 1) (λ_ _=>rfl)))) ox) (nB (oh nK))),oP _ (K:=K) (nF (qj (oA (nW M8 (nq 1) (qC tS (ny (nq 0) nO)))) (oq (SR.kSc (nW vz (nq 0) (nq 1)))) oy) (oq (SR.kSc nJ))) h⟩⟩
abbrev yL:Stmt:=zh 43
def uF:oa ["_law_script", "_law_step", "_law_shift", "_law_stride", "_law_off"] ["_law_script"] (nH yL):=by trivial
def LH  (D:xP K mg "_law_names" yL ["_law_script"] f fd) (B:Bt mg)   (sH:Fn P w K mg base 1 "_law_cell" yM ["_law_script", "_law_k"] (oY K Zl.nU) fL_cell fdL_cell)  : Fn P w K mg base 2 "_law_names" yL ["_law_script"] (oY K K12.vO) f fd :=
 ⟨D,D.F.ok uF (λ_ _ _ _=>qg) λqK A outer s H vs Q E hr h=>⟨_,(nj (nX (i:=1) uF.nd rfl (by trivial) nK) (nj (nX (i:=2) uF.nd rfl (by trivial) nK) (nj (pB (oz Fe (oU sL (oN sH (hr.mono (by decide)) (mY (pv 0) (mY nK nh))) nK) nK (ph _)) (nj (nX (i:=1) uF.nd rfl (by trivial) (oU xA nK (oU sL (oN sH (hr.mono (by decide)) (mY (pv 0) (mY nK nh))) (oU IQ nK nK)))) (nB (nX (i:=2) uF.nd rfl (by trivial) (oU sL (oN sH (hr.mono (by decide)) (mY (pv 0) (mY nK nh))) (oU IQ nK nK))))) ox) (nj (nX (i:=3) uF.nd rfl (by trivial) (oU xA nK (oU sL (oU vW (oN sH (hr.mono (by decide)) (mY (pv 0) (mY nK nh))) nK) nK))) (nj (nX (i:=4) uF.nd rfl (by trivial) (oU sL (oU vW (oN sH (hr.mono (by decide)) (mY (pv 0) (mY nK nh))) nK) nK)) (nB (oh (vU (N:=["_law_k", "_law_shift", "_law_step", "_law_off", "_law_stride"]) (fr:=[2,1,4,3]) rfl rfl (by decide +kernel) rfl (by decide +kernel) rfl (ur.of (by decide +kernel) rfl rfl (by exact⟨rfl,rfl,rfl,rfl,trivial⟩) (by repeat (first|exact trivial|refine⟨(by first|exact λ_=>⟨_,rfl⟩|exact λh=>(by rcases h with h|h <;> cases h)),?_⟩)) (by exact⟨⟨rfl,rfl,rfl⟩,⟨rfl,rfl,rfl⟩,⟨rfl,rfl,rfl⟩,⟨rfl,rfl,rfl⟩,trivial⟩)) (wU (by rfl) B.range (mY nK nh)) (λ_ _ _ _=>zp) (λ_ _ _ _=>(oU xA (oU SE (pv 2) (oU xA (oU sL (oU xA (oU SE (pv 4) (pv 0)) (pv 3)) nK) nK)) (pv 1))))))))))),oP _ (K:=K) (nF (nY (i:=1) (SR.kSc nJ)) (nF (nY (i:=2) (SR.kSc nJ)) (nF (qj (oA (nW Ga (nW sJ (qo (ny (nq 0) (ny nJ nO))) nJ) nJ)) (nF (nY (i:=1) (SR.kSc (nW xq nJ (nW sJ (qo (ny (nq 0) (ny nJ nO))) (nW HQ nJ nJ))))) (nY (i:=2) (SR.kSc (nW sJ (qo (ny (nq 0) (ny nJ nO))) (nW HQ nJ nJ))))) oy) (nF (nY (i:=3) (SR.kSc (nW xq nJ (nW sJ (nW yk (qo (ny (nq 0) (ny nJ nO))) nJ) nJ)))) (nF (nY (i:=4) (SR.kSc (nW sJ (nW yk (qo (ny (nq 0) (ny nJ nO))) nJ) nJ))) (oq (Bl (ny nJ nO) zk (SR.kSc (nW xq (nW RO (nq 2) (nW xq (nW sJ (nW xq (nW RO (nq 4) (nq 0)) (nq 3)) nJ) nJ)) (nq 1)))))))))) h⟩⟩
abbrev yz:Stmt:=zh 44
def qr:oa ["_law_cells", "_law_names_here", "_law_parts_here", "_law_trail", "_law_left", "_law_used", "_law_cell_here", "_law_way", "_law_here", "_law_end"] ["_law_cells", "_law_names_here"] (nH yz):=by trivial
def Le     (D:xP K mg "_law_parts" yz ["_law_cells", "_law_names_here"] f fd) (B:Bt mg)     : Fn P w K mg base 1 "_law_parts" yz ["_law_cells", "_law_names_here"] (oY K K12.wR) f fd :=
 ⟨D,D.F.ok qr (λ_ _ _ _=>qg) λqK A outer s H vs Q E hr h=>⟨_,(nj (nX (i:=2) qr.nd rfl (by trivial) (oB (mY (oB (mY (oB nh) nh)) nh))) (nj (nX (i:=3) qr.nd rfl (by trivial) (oB (mY nK nh))) (nj (nX (i:=4) qr.nd rfl (by trivial) (oB nh)) (nj (nX (i:=5) qr.nd rfl (by trivial) nK) (nj (vh PassesOwn.never rfl (qG (pv 0)) (rl (i:=6) qr.nd rfl (by trivial)) (nj (nX (i:=7) qr.nd rfl (by trivial) (oU sL (pv 6) nK)) (nj (nX (i:=8) qr.nd rfl (by trivial) (rF pI (rF pI (pv 2) (vy tL nK) (λ_ _=>rfl)) (rF pI (pv 3) (vy tL nK) (λ_ _=>rfl)) (λ_ _=>rfl))) (nj (nX (i:=9) qr.nd rfl (by trivial) (rF pI (pv 1) (pv 5) (λ_ _=>rfl))) (nj (pB (oz BF (oU sL (oU vW (pv 6) nK) nK) nK (ph _)) (nB (nX (i:=9) qr.nd rfl (by trivial) (vy tL (pv 9)))) ox) (nB (pB (oz MZ (pv 7) nK (ph _)) (nj (pQ (rp ah aA aB qa (pv 8) (mY (pv 9) nh))) (nj (nX (i:=5) qr.nd rfl (by trivial) (oU xA (pv 5) nK)) (nB (pB (oz MZ (pv 7) nK (ph _)) (nB (pQ (rp ah aA aB qa (pv 4) (mY (vy tL (pv 9)) nh)))) (nj (pQ (rp ah aA aB qa (pv 3) (mY (ot qA (by rfl) B.len PySem.boot_len (mY (rF pI (pv 2) (vy tL nK) (λ_ _=>rfl)) nh)) nh))) (nB (pQ (rp ah aA aB qa (rF pI (pv 2) (vy tL nK) (λ_ _=>rfl)) (mY (oB (mY (vy tL (pv 9)) nh)) nh))))))))) (nB (pB (oz MZ (pv 7) nK (ph _)) (nB (pB (wc (pv 4) (λ_=>rfl)) (nB (pQ (rp ah aA aB qa (pv 8) (mY (rp ah gc gg Tr (pv 4) (mY (oU sL (oU vW (pv 6) nK) (ot qA (by rfl) B.len PySem.boot_len (mY (pv 4) nh))) nh)) nh)))) ox)) (nB (pB (oz BF (pv 7) nK (ph _)) (nB (pB (oz Fe (ot qA (by rfl) B.len PySem.boot_len (mY (pv 3) nh)) nK (ph _)) (nB (pQ (aaD ah gc gg Zv (pv 3)))) ox)) (nj (pQ (rp ah cZ dc A9 (pv 8) (mY (pv 4) nh))) (nj (nX (i:=4) qr.nd rfl (by trivial) (oB nh)) (nj (pQ (rp ah aA aB qa (pv 2) (mY (oB (mY (oB nh) nh)) nh))) (nB (nX (i:=3) qr.nd rfl (by trivial) (oB (mY nK nh)))))))))))))))))) (nj (pQ (rp ah cZ dc A9 (rF pI (rF pI (pv 2) (vy tL nK) (λ_ _=>rfl)) (rF pI (pv 3) (vy tL nK) (λ_ _=>rfl)) (λ_ _=>rfl)) (mY (pv 4) nh))) (nB (oh (pv 2))))))))),oP _ (K:=K) (nF (nY (i:=2) (oK (ni (oK (ni (oK nD) nD)) nD))) (nF (nY (i:=3) (oK (ni (SR.kSc nJ) nD))) (nF (nY (i:=4) (oK nD)) (nF (nY (i:=5) (SR.kSc nJ)) (nF (AX (nC 0) (nF (nY (i:=7) (SR.kSc (nW sJ (nq 6) nJ))) (Ti (AH (AH (Bm 2) (vA tI nJ)) (nW vz (nq 3) (vA tI nJ))) (Q3 (N5 (SR.kSc (nW vz (nq 1) (nq 5))) (by decide)) (Q3 (aan (oA (nW A4 (nW sJ (nW yk (nq 6) nJ) nJ) nJ)) (N5 (SR.kSc (vA tI (nq 9))) (by decide)) (Sw (λ_ _ _ h=>h))) (NR (oA (nW M8 (nq 7) nJ)) (RW (ZQ (nC 9)) (nF (nY (i:=5) (SR.kSc (nW xq (nq 5) nJ))) (qj (oA (nW M8 (nq 7) nJ)) (wC (i:=4) (SR.kSc (vA tI (nq 9)))) (nF (wC (i:=3) (SR.kSc (qC tS (ny (nW vz (nq 2) (vA tI nJ)) nO)))) (IL (AH (Bm 2) (vA tI nJ)) (oK (ni (SR.kSc (vA tI (nq 9))) nD))))))) (NR (oA (nW M8 (nq 7) nJ)) (NR (AB (nq 4)) (Vi (UE (i:=4) (nW sJ (nW yk (nq 6) nJ) (qC tS (ny (nq 4) nO))))) (XM oy)) (NR (oA (nW A4 (nq 7) nJ)) (XM (qj (oA (nW Ga (qC tS (ny (nq 3) nO)) nJ)) (RS (Ww (i:=3))) oy)) (RW (YL (B4 4)) (nF (nY (i:=4) (oK nD)) (nF (wC (i:=2) (oK (ni (oK nD) nD))) (nY (i:=3) (oK (ni (SR.kSc nJ) nD)))))))))))))) (nF (VR (AH (AH (Bm 2) (vA tI nJ)) (nW vz (nq 3) (vA tI nJ))) (B4 4)) (oq (tJ 2)))))))) h⟩⟩
abbrev AN:Stmt:=zh 45
def G6:oa ["_law_turn_here", "_law_k"] ["_law_turn_here"] (nH AN):=by trivial
def Qi     (D:xP K mg "_law_turn" AN ["_law_turn_here"] f fd) (B:Bt mg)     : Fn P w K mg base 1 "_law_turn" AN ["_law_turn_here"] (oY K K13.xt) f fd :=
 ⟨D,D.F.ok G6 (λ_ _ _ _=>qg) λqK A outer s H vs Q E hr h=>⟨_,(nj (pB (vI (wc (pv 0) (λ_=>rfl))) (nB (oh (oB nh))) ox) (nj (nX (i:=1) G6.nd rfl (by trivial) (rp ah bE cB CG (pv 0) (mY (ot (Hb rfl) (by rfl) B.min gb (mY (pv 0) nh)) nh))) (nB (oh (oU zc (sY uD (pv 0) (uo (pv 1)) vn) (sY uD (pv 0) vn (uo (pv 1)))))))),oP _ (K:=K) (nF (qj (vN (AB (nq 0))) (oq (oK nD)) oy) (nF (nY (i:=1) (SR.kSc (NO (T := "list") Cw (nq 0) (ny (qC QN (ny (nq 0) nO)) nO)))) (oq (zD (SK.lOf (zY (tV 0) (ud (nq 1)) vv)) (SK.lOf (zY (tV 0) vv (ud (nq 1)))))))) h⟩⟩
abbrev zT:Stmt:=zh 46
def Q0:oa ["_law_turns"] ["_law_turns"] (nH zT):=by trivial
def QO  (D:xP K mg "_law_map" zT ["_law_turns"] f fd) (B:Bt mg)   (SD:Fn P w K mg base 1 "_law_turn" AN ["_law_turn_here"] (oY K K13.xt) fL_turn fdL_turn)  : Fn P w K mg base 2 "_law_map" zT ["_law_turns"] (oY K K13.tO) f fd :=
 ⟨D,D.F.ok Q0 (λ_ _ _ _=>qg) λqK A outer s H vs Q E hr h=>have hu:=hr.units;⟨_,(nB (oh (ot (Dq hu) (by rfl) B.sorted dR (mY (vU (cl:=[]) (N:=["_law_turn_here"]) (fr:=[]) rfl rfl (by decide +kernel) rfl (by decide +kernel) rfl (ur.none (by decide +kernel)) (qG (pv 0)) (λ_ _ _ _=>zp) (λ_ _ _ _=>(oN SD (hr.mono (by decide)) (mY (pv 0) nh)))) nh)))),oP _ (K:=K) (oq (GP (tU (nC 0) zk (om (ni (nC 0) nD))))) h⟩⟩
abbrev Be:Stmt:=zh 47
def E1:oa ["_law_parts_here", "_law_turns", "_law_part"] ["_law_parts_here"] (nH Be):=by trivial
def Ss     (D:xP K mg "_law_all" Be ["_law_parts_here"] f fd) (B:Bt mg)     : Fn P w K mg base 1 "_law_all" Be ["_law_parts_here"] (oY K Zl.ou) f fd :=
 ⟨D,D.F.ok E1 (λ_ _ _ _=>qg) λqK A outer s H vs Q E hr h=>⟨_,(nj (nX (i:=1) E1.nd rfl (by trivial) (oB nh)) (nj (vh PassesOwn.never rfl (qG (pv 0)) (rl (i:=2) E1.nd rfl (by trivial)) (nB (pQ (rp ah cZ dc A9 (pv 1) (mY (pv 2) nh))))) (nB (oh (pv 1))))),oP _ (K:=K) (nF (nY (i:=1) (oK nD)) (nF (AX (nC 0) (Td (i:=1) (B4 2))) (oq (tJ 1)))) h⟩⟩
abbrev uP:Stmt:=zh 48
def FY:oa ["_law_found", "_law_due", "_law_k"] ["_law_found", "_law_due"] (nH uP):=by trivial
def xO{fm:MF}{lv:Nat}     {f:Addr}{fd:jb}(D:xP K mg "_law_alike" uP ["_law_found", "_law_due"] f fd) (B:Bt mg)    (b_tuple:mg "tuple" = none)   (G_self:Fn P w K mg base lv "_law_alike" uP ["_law_found", "_law_due"] (oY K fm) f fd):Fn P w K mg base (lv+1) "_law_alike" uP ["_law_found", "_law_due"] (oY K (K13.qZ fm)) f fd :=
 ⟨D,D.F.ok FY (λ_ _ _ _=>qg) λqK A outer s H vs Q E hr h=>⟨_,(nj (pB (PW.pt (Kv (uu (ot (tj.or uw uy) (by rfl) B.isi az (mY (pv 1) (mY (vg (v:=.ty "list") (by rfl) B.list bU rfl) nh)))) (FL (uu (ot (tj.or uw uy) (by rfl) B.isi az (mY (pv 1) (mY (vg (v:=.ty "tuple") (by rfl) b_tuple eh rfl) nh))))))) (nj (pB (PW.pt (Kv (oz Fo (ot (tj.or uw uy) (by rfl) B.isi az (mY (pv 0) (mY (vg (v:=.ty "list") (by rfl) B.list bU rfl) nh))) (ot (tj.or uw uy) (by rfl) B.isi az (mY (pv 1) (mY (vg (v:=.ty "list") (by rfl) B.list bU rfl) nh))) (ph _)) (FL (oz Fo (ot (tj.or uw uy) (by rfl) B.isi az (mY (pv 0) (mY (vg (v:=.ty "tuple") (by rfl) b_tuple eh rfl) nh))) (ot (tj.or uw uy) (by rfl) B.isi az (mY (pv 1) (mY (vg (v:=.ty "tuple") (by rfl) b_tuple eh rfl) nh))) (ph _))))) (nB (oh As)) ox) (nj (pB (oz Fo (ot qA (by rfl) B.len PySem.boot_len (mY (pv 0) nh)) (ot qA (by rfl) B.len PySem.boot_len (mY (pv 1) nh)) (ph _)) (nB (oh As)) ox) (nj (vh PassesOwn.never rfl (wU (by rfl) B.range (mY (ot qA (by rfl) B.len PySem.boot_len (mY (pv 1) nh)) nh)) (rl (i:=2) FY.nd rfl (by trivial)) (nB (pB (vI (uu (oN G_self hr (mY (rF (Vn.or pI RZ) (pv 0) (pv 2) (λ_ _=>rfl)) (mY (rF (Vn.or pI RZ) (pv 1) (pv 2) (λ_ _=>rfl)) nh))))) (nB (oh As)) ox))) (nB (oh As))))) ox) (nj (pB (oz yg (pv 1) sU (ph _)) (nB (oh (IH yg (pv 0) sU (ph _)))) ox) (nj (pB (uu (ot (tj.or uw uy) (by rfl) B.isi az (mY (pv 1) (mY (vg (v:=.ty "str") (by rfl) B.str gh rfl) nh)))) (nB (oh (Ja (ot (tj.or uw uy) (by rfl) B.isi az (mY (pv 0) (mY (vg (v:=.ty "str") (by rfl) B.str gh rfl) nh))) (MV (IH BF (pv 0) (pv 1) (ph _)))))) ox) (nB (oh (Ja (ot (tj.or uw uy) (by rfl) B.isi az (mY (pv 0) (mY (vg (v:=.ty "int") (by rfl) B.int iI rfl) nh))) (Ja (aak (ot (tj.or uw uy) (by rfl) B.isi az (mY (pv 0) (mY (vg (v:=.ty "bool") (by rfl) B.bool iD rfl) nh)))) (MV (IH BF (pv 0) (pv 1) (ph _)))))))))),oP _ (K:=K) (nF (qj (JQ (uN (qC yt (ny (nq 1) (ny A5 nO)))) (uN (qC yt (ny (nq 1) (ny A5 nO))))) (nF (qj (JQ (oA (nW Ff (qC yt (ny (nq 0) (ny A5 nO))) (qC yt (ny (nq 1) (ny A5 nO))))) (oA (nW Ff (qC yt (ny (nq 0) (ny A5 nO))) (qC yt (ny (nq 1) (ny A5 nO)))))) (oq (SR.kSc A2)) oy) (nF (qj (oA (nW Ff (qC tS (ny (nq 0) nO)) (qC tS (ny (nq 1) nO)))) (oq (SR.kSc A2)) oy) (nF (J3 (ny (qC tS (ny (nq 1) nO)) nO) (qj (vN (uN (qo (ny (nW Se (nq 0) (nq 2)) (ny (nW Se (nq 1) (nq 2)) nO))))) (oq (SR.kSc A2)) oy)) (oq (SR.kSc A2))))) oy) (nF (qj (oA (nW yq (nq 1) sS)) (oq (SR.kSc (nW yq (nq 0) sS))) oy) (nF (qj (uN (qC yt (ny (nq 1) (ny A5 nO)))) (oq (SR.kSc (Je (qC yt (ny (nq 0) (ny A5 nO))) (nW A4 (nq 0) (nq 1))))) oy) (oq (SR.kSc (Je (qC yt (ny (nq 0) (ny A5 nO))) (Je (Z7 (qC yt (ny (nq 0) (ny A5 nO)))) (nW A4 (nq 0) (nq 1))))))))) h⟩⟩
def MQ     (D:xP K mg "_law_alike" uP ["_law_found", "_law_due"] f fd) (B:Bt mg)    (b_tuple:mg "tuple" = none)   : Fn P w K mg base 5 "_law_alike" uP ["_law_found", "_law_due"] (oY K K13.oE) f fd:=(xO D B b_tuple (xO D B b_tuple (xO D B b_tuple (xO D B b_tuple (Vz (k:=1) D)))))
abbrev AC:Stmt:=zh 49
def PL:oa ["_law_m"] ["_law_m"] (nH AC):=by trivial
def PM     (D:xP K mg "_law_copy" AC ["_law_m"] f fd) (B:Bt mg)     : Fn P w K mg base 1 "_law_copy" AC ["_law_m"] (oY K K51.ux) f fd :=
 ⟨D,D.F.ok PL (λ_ _ _ _=>qg) λqK A outer s H vs Q E hr h=>⟨_,(nB (oh (vU (cl:=[]) (N:=["_law_turn_here"]) (fr:=[]) rfl rfl (by decide +kernel) rfl (by decide +kernel) rfl (ur.none (by decide +kernel)) (qG (pv 0)) (λ_ _ _ _=>zp) (λ_ _ _ _=>(DG zX (by rfl) B.list bU (mY (pv 0) nh)))))),oP _ (K:=K) (oq (tU (nC 0) zk (IS (tV 0)))) h⟩⟩
abbrev Di:Stmt:=zh 50
def xj:oa ["_law_m", "_law_road", "_law_first", "_law_second", "_law_turns", "_law_new", "_law_spot_here", "_law_places", "_law_turn_here"] ["_law_m", "_law_road", "_law_first", "_law_second"] (nH Di):=by trivial
def Q4  (D:xP K mg "_law_put" Di ["_law_m", "_law_road", "_law_first", "_law_second"] f fd) (B:Bt mg)   (Dp:Fn P w K mg base 1 "_law_all" Be ["_law_parts_here"] (oY K Zl.ou) fL_all fdL_all) (Bg:Fn P w K mg base 2 "_law_map" zT ["_law_turns"] (oY K K13.tO) fL_map fdL_map)  : Fn P w K mg base 3 "_law_put" Di ["_law_m", "_law_road", "_law_first", "_law_second"] (oY K K21.uf) f fd :=
 ⟨D,D.F.ok xj (λ_ _ _ _=>qg) λqK A outer s H vs Q E hr h=>⟨_,(nj (nX (i:=4) xj.nd rfl (by trivial) (vU (cl:=[]) (N:=["_law_turn_here"]) (fr:=[]) rfl rfl (by decide +kernel) rfl (by decide +kernel) rfl (ur.none (by decide +kernel)) (qG (pv 0)) (λ_ _ _ _=>zp) (λ_ _ _ _=>(DG zX (by rfl) B.list bU (mY (pv 0) nh))))) (nj (pB (oz Du (pv 1) (oN Dp (hr.mono (by decide)) (mY (pv 0) nh)) rfl) (nB (oh (oB (mY qm (mY (oB (mY (vD (mY qm (mY (pv 1) nh))) nh)) nh))))) ox) (nj (vh PassesOwn.never rfl (qG (oB (mY (vD (mY (pv 1) (mY (pv 2) nh))) (mY (vD (mY (vy tL (pv 1)) (mY (pv 3) nh))) nh)))) (Rw rfl (C3 (rl (i:=5) xj.nd rfl (by trivial)) (C3 (rl (i:=6) xj.nd rfl (by trivial)) NH))) (nj (pB (oz yg (pv 6) sU (ph _)) (nB (Dk (i:=7) (N:=["_law_k", "_law_turns"]) (fr:=[4]) rfl xj.nd rfl (by trivial) rfl (by decide +kernel) rfl (by decide +kernel) rfl (ur.of (by decide +kernel) rfl rfl (by exact⟨rfl,trivial⟩) (by repeat (first|exact trivial|refine⟨(by first|exact λ_=>⟨_,rfl⟩|exact λh=>(by rcases h with h|h <;> cases h)),?_⟩)) (by exact⟨⟨rfl,rfl,rfl⟩,trivial⟩)) (wU (by rfl) B.range (mY (ot qA (by rfl) B.len PySem.boot_len (mY (pv 4) nh)) nh)) (λ_ _ _ _=>Dr (vI (wc (rF pI (pv 1) (pv 0) (λ_ _=>rfl)) (λ_=>rfl)))) (λ_ _ _ _=>(pv 0)))) (nB (Dk (i:=7) (N:=["_law_k", "_law_spot_here", "_law_turns"]) (fr:=[6,4]) rfl xj.nd rfl (by trivial) rfl (by decide +kernel) rfl (by decide +kernel) rfl (ur.of (by decide +kernel) rfl rfl (by exact⟨rfl,rfl,trivial⟩) (by repeat (first|exact trivial|refine⟨(by first|exact λ_=>⟨_,rfl⟩|exact λh=>(by rcases h with h|h <;> cases h)),?_⟩)) (by exact⟨⟨rfl,rfl,rfl⟩,⟨rfl,rfl,rfl⟩,trivial⟩)) (wU (by rfl) B.range (mY (ot qA (by rfl) B.len PySem.boot_len (mY (pv 4) nh)) nh)) (λ_ _ _ _=>Dr (oz Du (pv 1) (rF pI (pv 2) (pv 0) (λ_ _=>rfl)) rfl)) (λ_ _ _ _=>(pv 0))))) (nj (pB (vI (wc (pv 7) (λ_=>rfl))) (nB (oh (J6 (oz yg (pv 6) sU (ph _)) (oB (mY qm (mY (oB (mY (vD (mY qm (mY nK nh))) nh)) nh))) (oB (mY qm (mY (oB (mY (vD (mY qm (mY (pv 6) nh))) nh)) nh)))))) ox) (nj (nX (i:=8) xj.nd rfl (by trivial) (rF pI (pv 4) (rF pI (pv 7) nK (λ_ _=>rfl)) (λ_ _=>rfl))) (nB (pQ (rp ah PySem.F.slot_list_insert PySem.F.type_list_insert Px (pv 8) (mY (J6 (oz yg (pv 6) sU (ph _)) nK (oU xA (rp ah bE cB CG (pv 8) (mY (pv 6) nh)) nK)) (mY (pv 5) nh))))))))) (nj (pB (oz Fe (ot qA (by rfl) B.len PySem.boot_len (mY (oN Dp (hr.mono (by decide)) (mY (pv 4) nh)) nh)) nK (ph _)) (nB (oh (oB (mY qm (mY (oB (mY (vD (mY qm (mY nK nh))) nh)) nh))))) ox) (nB (oh (oB (mY qm (mY (oN Bg (hr.mono (by decide)) (mY (pv 4) nh)) nh))))))))),oP _ (K:=K) (nF (nY (i:=4) (tU (nC 0) zk (IS (tV 0)))) (nF (qj (oA (nW (Fp false) (nq 1) (SK.rOf (om (ni (nC 0) nD))))) (oq (oK (ni (SR.kSc qF) (ni (oK (ni (vG (ni (SR.kSc qF) (ni (nC 1) nD))) nD)) nD)))) oy) (nF (Vv (oK (ni (vG (ni (nC 1) (ni (nC 2) nD))) (ni (vG (ni (SR.kSc (vA tI (nq 1))) (ni (nC 3) nD))) nD))) (nF (qj (oA (nW yq (nq 6) sS)) (nY (i:=7) (Ol (Bl (ny (qC tS (ny (nq 4) nO)) nO) (vN (AB (nW vz (nq 1) (nq 0)))) (nC 0)))) (nY (i:=7) (Ol (Bl (ny (qC tS (ny (nq 4) nO)) nO) (oA (nW (Fp false) (nq 1) (nW vz (nq 2) (nq 0)))) (nC 0))))) (nF (qj (vN (AB (nq 7))) (oq (abE (oA (nW yq (nq 6) sS)) (oK (ni (SR.kSc qF) (ni (oK (ni (vG (ni (SR.kSc qF) (ni (SR.kSc nJ) nD))) nD)) nD))) (oK (ni (SR.kSc qF) (ni (oK (ni (vG (ni (SR.kSc qF) (ni (nC 6) nD))) nD)) nD))))) oy) (Ti (AH (Bm 4) (nW vz (nq 7) nJ)) (Y5 (abj (oA (nW yq (nq 6) sS)) nJ (nW xq (NO (T := "list") Cw (nq 8) (ny (nq 6) nO)) nJ)) (nq 5)))))) (nF (qj (oA (nW Ga (qC tS (ny (SK.rOf (om (ni (nC 4) nD))) nO)) nJ)) (oq (oK (ni (SR.kSc qF) (ni (oK (ni (vG (ni (SR.kSc qF) (ni (SR.kSc nJ) nD))) nD)) nD)))) oy) (oq (oK (ni (SR.kSc qF) (ni (om (ni (nC 4) nD)) nD)))))))) h⟩⟩
abbrev wo:Stmt:=zh 51
def Hh:oa ["_law_e", "_law_kinds"] ["_law_e"] (nH wo):=by trivial
def Qt   {Bo DE:Addr}{Bp DK:Addr}  (D:xP K mg "_law_kind" wo ["_law_e"] f fd) (B:Bt mg)  (rK:P7 P w K mg base "NotThere" "end" "end" EV Lc Kg Jg) (vR:P7 P w K mg base "Taken" "road" "road" Ob Wj Sh OH) (rn:K2 K mg "TooMany" Bo DE) (ue:K2 K mg "NoPlace" Bp DK) (b_VE:mg "ValueError" = none)   : FnH P w K mg base 3 "_law_kind" wo ["_law_e"] (oY K K23.qp) f fd :=
 ⟨D,D.F.okH Hh (λ_ _ _ _=>qg) λqK A outer s H vs Q E hr h=>⟨_,(nj (nX (i:=1) Hh.nd rfl (by trivial) (oB nh)) (nj (pB (vI (uu (ot A6 (by rfl) B.isi az (mY (pv 0) (mY (vg (v:=.ty "ValueError") (by rfl) b_VE U3 rfl) nh))))) (nB (pQ (rp ah aA aB qa (pv 1) (mY (vD (mY qm (mY nK nh))) nh)))) ox) (nj (pB (uu (ot A6 (by rfl) B.isi az (mY (pv 0) (mY (Bj (v:=.ref Ob) (by rfl) (vR.mgc) rfl) nh)))) (nB (pQ (rp ah aA aB qa (pv 1) (mY (vD (mY qm (mY (Oj (pv 0) rfl) nh))) nh)))) ox) (nj (pB (uu (ot A6 (by rfl) B.isi az (mY (pv 0) (mY (Bj (v:=.ref EV) (by rfl) (rK.mgc) rfl) nh)))) (nB (pQ (rp ah aA aB qa (pv 1) (mY (vD (mY qm (mY (Oj (pv 0) rfl) nh))) nh)))) ox) (nj (pB (uu (ot A6 (by rfl) B.isi az (mY (pv 0) (mY (Bj (v:=.ref Bp) (by rfl) (ue.mgc) rfl) nh)))) (nB (pQ (rp ah aA aB qa (pv 1) (mY (vD (mY qm (mY nK nh))) nh)))) ox) (nj (pB (uu (ot A6 (by rfl) B.isi az (mY (pv 0) (mY (Bj (v:=.ref Bo) (by rfl) (rn.mgc) rfl) nh)))) (nB (pQ (rp ah aA aB qa (pv 1) (mY (vD (mY qm (mY nK nh))) nh)))) ox) (nB (oh (pv 1))))))))),oP _ (K:=K) (nF (nY (i:=1) (oK nD)) (nF (qj (vN (uN (qC E7 (ny (nq 0) (ny A5 nO))))) (wC (i:=1) (vG (ni (SR.kSc qF) (ni (SR.kSc nJ) nD)))) oy) (nF (qj (uN (qC E7 (ny (nq 0) (ny (Ic vR.c) nO)))) (wC (i:=1) (vG (ni (SR.kSc qF) (ni (SR.kSc (N9 (nq 0))) nD)))) oy) (nF (qj (uN (qC E7 (ny (nq 0) (ny (Ic rK.c) nO)))) (wC (i:=1) (vG (ni (SR.kSc qF) (ni (SR.kSc (N9 (nq 0))) nD)))) oy) (nF (qj (uN (qC E7 (ny (nq 0) (ny (Ic ue.c) nO)))) (wC (i:=1) (vG (ni (SR.kSc qF) (ni (SR.kSc nJ) nD)))) oy) (nF (qj (uN (qC E7 (ny (nq 0) (ny (Ic rn.c) nO)))) (wC (i:=1) (vG (ni (SR.kSc qF) (ni (SR.kSc nJ) nD)))) oy) (oq (tJ 1)))))))) h⟩⟩
abbrev vp:Stmt:=zh 52
def tu:oa ["_law_change", "_law_m", "_law_told", "_law_found", "_law_e"] ["_law_change", "_law_m"] (nH vp):=by trivial
def GE  {uH:Addr}{tX:List Value}{oW:Addr}(D:xP K mg "_law_done" vp ["_law_change", "_law_m"] f fd) (B:Bt mg)  (oI:RF K mg "MapError" uH tX) (xv:FnH P w K mg base 3 "_law_kind" wo ["_law_e"] (oY K K23.qp) fL_kind fdL_kind) (qd:wj K "Put" oW) (qR:nZ K oW "road") (qM:nZ K oW "first") (qt:nZ K oW "second") (xr:O9 P w K mg base 6 oW "done" ["self", "m"] (yi K K21.pd) fPut_done fdPut_done):Fn P w K mg base 7 "_law_done" vp ["_law_change", "_law_m"] (oY K K22.pX) f fd :=
 ⟨D,D.F.ok tu (λ_ _ _ _=>qg) λqK A outer s H vs Q E hr h=>⟨_,(nj (nX (i:=2) tu.nd rfl (by trivial) sU) (nj (nX (i:=3) tu.nd rfl (by trivial) sU) (nj (EB (EA (i:=3) xr (hr.mono (by decide)) (pv 0) (mY (pv 1) nh) (Nj (i:=4) oI.xc oI.base oI.mgc tu.nd rfl rfl (λ_=>(nB (nX (i:=2) tu.nd rfl (by trivial) (HX xv ((hr.h _).mono (by decide)) (mY (pv 4) nh))))) IJ) tu.nd rfl (by trivial))) (nj (pB (oz yg (pv 2) sU (ph _)) (nB (oh (oB (mY qm (mY (pv 3) nh))))) ox) (nB (oh (oB (mY qm (mY (pv 2) nh))))))))),oP _ (K:=K) (nF (nY (i:=2) (SR.kSc sS)) (nF (nY (i:=3) (SR.kSc sS)) (nF (EC (yn qd (nC 0) (ni (nC 1) nD)) (M5 oI.c (nY (i:=2) (om (ni (nC 4) nD))) HB)) (nF (qj (oA (nW yq (nq 2) sS)) (oq (oK (ni (SR.kSc qF) (ni (tJ 3) nD)))) oy) (oq (oK (ni (SR.kSc qF) (ni (tJ 2) nD)))))))) h⟩⟩
abbrev A3:Stmt:=HD 36 1
def Iu:oa ["self", "m"] ["self", "m"] (nH A3):=by trivial
def II  {oC:Addr}(F:FA K "done" "Part.done" A3 f fd) (mt:EO K oC "done" f) (b:qI K fd ["self", "m"] []) (B:Bt mg)   (G_done_over_Part:IZ P w K mg base 7 "done_over" sA ["change", "m"] (yi K K22.sj) fdone_over_Part fddone_over_Part) (pP:wj K "Part" oC) (rJ:nZ K oC "road") (qS:nZ K oC "first") (qD:nZ K oC "second"):O9 P w K mg base 8 oC "done" ["self", "m"] (yi K K22.wd) f fd :=
 ⟨pP.cl,mt,b,okX F Iu (λvs H Q E h=>uk h) λqK A outer s H vs Q E hr h=>⟨_,
   (nB (oh (yu G_done_over_Part (hr.mono (by decide)) qU (mY (pv 0) (mY (pv 1) nh))))),
   qV _ (K:=K) (C7 (ni (nC 0) (ni (nC 1) nD))) h⟩⟩
abbrev vY:Stmt:=zh 52
def sD:oa ["_law_change", "_law_m", "_law_told", "_law_found", "_law_e"] ["_law_change", "_law_m"] (nH vY):=by trivial
def Fm  {uH:Addr}{tX:List Value}{oC:Addr}(D:xP K mg "_law_done" vY ["_law_change", "_law_m"] f fd) (B:Bt mg)  (oI:RF K mg "MapError" uH tX) (xv:FnH P w K mg base 3 "_law_kind" wo ["_law_e"] (oY K K23.qp) fL_kind fdL_kind) (pP:wj K "Part" oC) (rJ:nZ K oC "road") (qS:nZ K oC "first") (qD:nZ K oC "second") (J9:O9 P w K mg base 8 oC "done" ["self", "m"] (yi K K22.wd) fPart_done fdPart_done):Fn P w K mg base 9 "_law_done" vY ["_law_change", "_law_m"] (oY K K22.tF) f fd :=
 ⟨D,D.F.ok sD (λ_ _ _ _=>qg) λqK A outer s H vs Q E hr h=>⟨_,(nj (nX (i:=2) sD.nd rfl (by trivial) sU) (nj (nX (i:=3) sD.nd rfl (by trivial) sU) (nj (EB (EA (i:=3) J9 (hr.mono (by decide)) (pv 0) (mY (pv 1) nh) (Nj (i:=4) oI.xc oI.base oI.mgc sD.nd rfl rfl (λ_=>(nB (nX (i:=2) sD.nd rfl (by trivial) (HX xv ((hr.h _).mono (by decide)) (mY (pv 4) nh))))) IJ) sD.nd rfl (by trivial))) (nj (pB (oz yg (pv 2) sU (ph _)) (nB (oh (oB (mY qm (mY (pv 3) nh))))) ox) (nB (oh (oB (mY qm (mY (pv 2) nh))))))))),oP _ (K:=K) (nF (nY (i:=2) (SR.kSc sS)) (nF (nY (i:=3) (SR.kSc sS)) (nF (EC (yn pP (nC 0) (ni (nC 1) nD)) (M5 oI.c (nY (i:=2) (om (ni (nC 4) nD))) HB)) (nF (qj (oA (nW yq (nq 2) sS)) (oq (oK (ni (SR.kSc qF) (ni (tJ 3) nD)))) oy) (oq (oK (ni (SR.kSc qF) (ni (tJ 2) nD)))))))) h⟩⟩
abbrev yF:Stmt:=zh 53
def BY:oa ["_law_names_here", "_law_way", "_law_turns", "_law_end"] ["_law_names_here", "_law_way"] (nH yF):=by trivial
def Lx     (D:xP K mg "_law_large" yF ["_law_names_here", "_law_way"] f fd) (B:Bt mg)     : Fn P w K mg base 1 "_law_large" yF ["_law_names_here", "_law_way"] (oY K K22.uL) f fd :=
 ⟨D,D.F.ok BY (λ_ _ _ _=>qg) λqK A outer s H vs Q E hr h=>⟨_,(nj (pB (oz BF (pv 1) nK (ph _)) (nj (nX (i:=2) BY.nd rfl (by trivial) (oB (mY (oB nh) nh))) (nj (vh PassesOwn.never rfl (qG (pv 0)) (rl (i:=3) BY.nd rfl (by trivial)) (nj (pQ (rp ah aA aB qa (rF pI (pv 2) nK (λ_ _=>rfl)) (mY (pv 3) nh))) (nB (pQ (rp ah aA aB qa (rF pI (pv 2) nK (λ_ _=>rfl)) (mY (vy tL (pv 3)) nh)))))) (nB (oh (pv 2))))) ox) (nB (oh (oB (mY (DG zX (by rfl) B.list bU (mY (pv 0) nh)) (mY (vU (cl:=[]) (N:=["_law_end"]) (fr:=[]) rfl rfl (by decide +kernel) rfl (by decide +kernel) rfl (ur.none (by decide +kernel)) (qG (pv 0)) (λ_ _ _ _=>zp) (λ_ _ _ _=>(vy tL (pv 0)))) nh)))))),oP _ (K:=K) (nF (qj (oA (nW A4 (nq 1) nJ)) (nF (nY (i:=2) (oK (ni (oK nD) nD))) (nF (AX (nC 0) (nF (IL (AH (Bm 2) nJ) (nC 3)) (IL (AH (Bm 2) nJ) (SR.kSc (vA tI (nq 3)))))) (oq (tJ 2)))) oy) (oq (oK (ni (IS (tV 0)) (ni (tU (nC 0) zk (SR.kSc (vA tI (nq 0)))) nD))))) h⟩⟩
abbrev AQ:Stmt:=zh 54
def GS:oa ["_law_cell_here", "_law_ends", "_law_road", "_law_strange", "_law_some"] ["_law_cell_here", "_law_ends", "_law_road", "_law_strange"] (nH AQ):=by trivial
def OR     (D:xP K mg "_law_spot" AQ ["_law_cell_here", "_law_ends", "_law_road", "_law_strange"] f fd) (B:Bt mg)     : Fn P w K mg base 1 "_law_spot" AQ ["_law_cell_here", "_law_ends", "_law_road", "_law_strange"] (oY K K22.uB) f fd :=
 ⟨D,D.F.ok GS (λ_ _ _ _=>qg) λqK A outer s H vs Q E hr h=>⟨_,(nj (nX (i:=4) GS.nd rfl (by trivial) (oB (mY sU (mY nK (mY (pv 2) (mY (vy tL (pv 2)) (mY (pv 3) (mY (oU xA (oU IQ nK nK) (oU sL (pv 0) (oU IQ nK nK))) nh)))))))) (nj (pB (PW.pt (LS (oz Fe (oU sL (pv 0) nK) nK (ph _)) (HE (wc (pv 1) (λ_=>rfl))))) (nB (oh (rF pI (pv 1) (oU sL (oU vW (pv 0) nK) (ot qA (by rfl) B.len PySem.boot_len (mY (pv 1) nh))) (λ_ _=>rfl)))) ox) (nB (oh (rF pI (pv 4) (oU sL (oU vW (pv 0) nK) nK) (λ_ _=>rfl)))))),oP _ (K:=K) (nF (nY (i:=4) (oK (ni (SR.kSc sS) (ni (SR.kSc nJ) (ni (nC 2) (ni (SR.kSc (vA tI (nq 2))) (ni (nC 3) (ni (SR.kSc (nW xq (nW HQ nJ nJ) (nW sJ (nq 0) (nW HQ nJ nJ)))) nD)))))))) (nF (qj (Ml (oA (nW Ga (nW sJ (nq 0) nJ) nJ)) (AB (nq 1))) (oq (SR.kSc (nW vz (nq 1) (nW sJ (nW yk (nq 0) nJ) (qC tS (ny (nq 1) nO)))))) oy) (oq (Xn (tV 4) (nW sJ (nW yk (nq 0) nJ) nJ))))) h⟩⟩
abbrev yT:Stmt:=zh 55
def zd:oa ["_law_m", "_law_then", "_law_turn_here", "_law_k"] ["_law_m"] (nH yT):=by trivial
def LL     (D:xP K mg "_law_nexts" yT ["_law_m"] f fd) (B:Bt mg)     : Fn P w K mg base 1 "_law_nexts" yT ["_law_m"] (oY K K15.yA) f fd :=
 ⟨D,D.F.ok zd (λ_ _ _ _=>qg) λqK A outer s H vs Q E hr h=>⟨_,(nj (nX (i:=1) zd.nd rfl (by trivial) AM) (nj (vh PassesOwn.never rfl (qG (pv 0)) (rl (i:=2) zd.nd rfl (by trivial)) (nB (vh PassesOwn.never rfl (wU (by rfl) B.range (mY (ot qA (by rfl) B.len PySem.boot_len (mY (pv 2) nh)) nh)) (rl (i:=3) zd.nd rfl (by trivial)) (nB (CN (Ab hr) (pv 1) (rF pI (pv 2) (pv 3) (λ_ _=>rfl)) (rF pI (pv 2) (oU sL (oU xA (pv 3) nK) (ot qA (by rfl) B.len PySem.boot_len (mY (pv 2) nh))) (λ_ _=>rfl)) rfl))))) (nB (oh (pv 1))))),oP _ (K:=K) (nF (nY (i:=1) Dd) (nF (AX (nC 0) (J3 (ny (qC tS (ny (nq 2) nO)) nO) (Co (i:=1) (SR.kSc (nW vz (nq 2) (nW sJ (nW xq (nq 3) nJ) (qC tS (ny (nq 2) nO))))) (nW vz (nq 2) (nq 3))))) (oq (tJ 1)))) h⟩⟩
abbrev yy:Stmt:=zh 56
def tZ:oa ["_law_m", "_law_then", "_law_have", "_law_found", "_law_end", "_law_gone", "_law_now"] ["_law_m"] (nH yy):=by trivial
def MJ  (D:xP K mg "_law_lands" yy ["_law_m"] f fd) (B:Bt mg)   (Qc:Fn P w K mg base 1 "_law_nexts" yT ["_law_m"] (oY K K15.yA) fL_nexts fdL_nexts) (Bg:Fn P w K mg base 2 "_law_map" zT ["_law_turns"] (oY K K13.tO) fL_map fdL_map)  : Fn P w K mg base 3 "_law_lands" yy ["_law_m"] (oY K K15.uR) f fd :=
 ⟨D,D.F.ok tZ (λ_ _ _ _=>qg) λqK A outer s H vs Q E hr h=>⟨_,(nj (nX (i:=1) tZ.nd rfl (by trivial) (oN Qc (hr.mono (by decide)) (mY (pv 0) nh))) (nj (nX (i:=2) tZ.nd rfl (by trivial) AM) (nj (Dk (i:=3) (cl:=[]) (N:=["_law_turn_here"]) (fr:=[]) rfl tZ.nd rfl (by trivial) rfl (by decide +kernel) rfl (by decide +kernel) rfl (ur.none (by decide +kernel)) (qG (pv 0)) (λ_ _ _ _=>Dr (vI (wc (pv 0) (λ_=>rfl)))) (λ_ _ _ _=>(oB nh))) (nj (vh PassesOwn.never rfl (Xe.NP (pv 1)) (rl (i:=4) tZ.nd rfl (by trivial)) (nB (pB (Mh (DJ (Ab hr) (pv 4) (pv 2))) (nj (nX (i:=5) tZ.nd rfl (by trivial) (oB nh)) (nj (nX (i:=6) tZ.nd rfl (by trivial) (pv 4)) (nj (Jo PassesOwn.never (Mh (DJ (Ab hr) (pv 6) (pv 2))) (nj (CN (Ab hr) (pv 2) (pv 6) As rfl) (nj (pQ (rp ah aA aB qa (pv 5) (mY (pv 6) nh))) (nB (nX (i:=6) tZ.nd rfl (by trivial) (ED (Ab hr) (pv 1) (vy tL (pv 6)) (by first|rfl|exact trivial|(intro _ _;rfl)))))))) (nB (pQ (rp ah aA aB qa (pv 3) (mY (pv 5) nh))))))) ox))) (nB (oh (oN Bg (hr.mono (by decide)) (mY (pv 3) nh)))))))),oP _ (K:=K) (nF (nY (i:=1) (om (ni (nC 0) nD))) (nF (nY (i:=2) Dd) (nF (nY (i:=3) (tU (nC 0) (vN (AB (nq 0))) (oK nD))) (nF (Nk (x:=4) (i:=1) (qj (uN (DT (nq 4) (nq 2))) (nF (nY (i:=5) (oK nD)) (nF (nY (i:=6) (nC 4)) (nF (JK 100000 (uN (DT (nq 6) (nq 2))) (nF (Co (i:=2) (SR.kSc A2) (nq 6)) (nF (wC (i:=5) (nC 6)) (nY (i:=6) (SR.kSc (Kx (nq 1) (vA tI (nq 6)))))))) (wC (i:=3) (nC 5))))) oy)) (oq (om (ni (nC 3) nD))))))) h⟩⟩
abbrev vt:Stmt:=zh 57
def tG:oa ["_law_change", "_law_m", "_law_told", "_law_found", "_law_e"] ["_law_change", "_law_m"] (nH vt):=by trivial
def GJ  {uH:Addr}{tX:List Value}{oW:Addr}(D:xP K mg "_law_back" vt ["_law_change", "_law_m"] f fd) (B:Bt mg)  (oI:RF K mg "MapError" uH tX) (xv:FnH P w K mg base 3 "_law_kind" wo ["_law_e"] (oY K K23.qp) fL_kind fdL_kind) (qd:wj K "Put" oW) (qR:nZ K oW "road") (qM:nZ K oW "first") (qt:nZ K oW "second") (Ca:O9 P w K mg base 8 oW "back" ["self", "m"] (yi K K22.rO) fPut_back fdPut_back):Fn P w K mg base 9 "_law_back" vt ["_law_change", "_law_m"] (oY K K22.rD) f fd :=
 ⟨D,D.F.ok tG (λ_ _ _ _=>qg) λqK A outer s H vs Q E hr h=>⟨_,(nj (nX (i:=2) tG.nd rfl (by trivial) sU) (nj (nX (i:=3) tG.nd rfl (by trivial) sU) (nj (EB (EA (i:=3) Ca (hr.mono (by decide)) (pv 0) (mY (pv 1) nh) (Nj (i:=4) oI.xc oI.base oI.mgc tG.nd rfl rfl (λ_=>(nB (nX (i:=2) tG.nd rfl (by trivial) (HX xv ((hr.h _).mono (by decide)) (mY (pv 4) nh))))) IJ) tG.nd rfl (by trivial))) (nj (pB (oz yg (pv 2) sU (ph _)) (nB (oh (oB (mY qm (mY (pv 3) nh))))) ox) (nB (oh (oB (mY qm (mY (pv 2) nh))))))))),oP _ (K:=K) (nF (nY (i:=2) (SR.kSc sS)) (nF (nY (i:=3) (SR.kSc sS)) (nF (EC (yn qd (nC 0) (ni (nC 1) nD)) (M5 oI.c (nY (i:=2) (om (ni (nC 4) nD))) HB)) (nF (qj (oA (nW yq (nq 2) sS)) (oq (oK (ni (SR.kSc qF) (ni (tJ 3) nD)))) oy) (oq (oK (ni (SR.kSc qF) (ni (tJ 2) nD)))))))) h⟩⟩
abbrev AR:Stmt:=HD 36 2
def Hy:oa ["self", "m"] ["self", "m"] (nH AR):=by trivial
def HZ  {oC:Addr}(F:FA K "back" "Part.back" AR f fd) (mt:EO K oC "back" f) (b:qI K fd ["self", "m"] []) (B:Bt mg)   (G_back_over_Part:IZ P w K mg base 9 "back_over" sm ["change", "m"] (yi K K22.sq) fback_over_Part fdback_over_Part) (pP:wj K "Part" oC) (rJ:nZ K oC "road") (qS:nZ K oC "first") (qD:nZ K oC "second"):O9 P w K mg base 10 oC "back" ["self", "m"] (yi K K22.wt) f fd :=
 ⟨pP.cl,mt,b,okX F Hy (λvs H Q E h=>uk h) λqK A outer s H vs Q E hr h=>⟨_,
   (nB (oh (yu G_back_over_Part (hr.mono (by decide)) qU (mY (pv 0) (mY (pv 1) nh))))),
   qV _ (K:=K) (C7 (ni (nC 0) (ni (nC 1) nD))) h⟩⟩
abbrev vX:Stmt:=zh 57
def su:oa ["_law_change", "_law_m", "_law_told", "_law_found", "_law_e"] ["_law_change", "_law_m"] (nH vX):=by trivial
def FG  {uH:Addr}{tX:List Value}{oC:Addr}(D:xP K mg "_law_back" vX ["_law_change", "_law_m"] f fd) (B:Bt mg)  (oI:RF K mg "MapError" uH tX) (xv:FnH P w K mg base 3 "_law_kind" wo ["_law_e"] (oY K K23.qp) fL_kind fdL_kind) (pP:wj K "Part" oC) (rJ:nZ K oC "road") (qS:nZ K oC "first") (qD:nZ K oC "second") (JA:O9 P w K mg base 10 oC "back" ["self", "m"] (yi K K22.wt) fPart_back fdPart_back):Fn P w K mg base 11 "_law_back" vX ["_law_change", "_law_m"] (oY K K22.tH) f fd :=
 ⟨D,D.F.ok su (λ_ _ _ _=>qg) λqK A outer s H vs Q E hr h=>⟨_,(nj (nX (i:=2) su.nd rfl (by trivial) sU) (nj (nX (i:=3) su.nd rfl (by trivial) sU) (nj (EB (EA (i:=3) JA (hr.mono (by decide)) (pv 0) (mY (pv 1) nh) (Nj (i:=4) oI.xc oI.base oI.mgc su.nd rfl rfl (λ_=>(nB (nX (i:=2) su.nd rfl (by trivial) (HX xv ((hr.h _).mono (by decide)) (mY (pv 4) nh))))) IJ) su.nd rfl (by trivial))) (nj (pB (oz yg (pv 2) sU (ph _)) (nB (oh (oB (mY qm (mY (pv 3) nh))))) ox) (nB (oh (oB (mY qm (mY (pv 2) nh))))))))),oP _ (K:=K) (nF (nY (i:=2) (SR.kSc sS)) (nF (nY (i:=3) (SR.kSc sS)) (nF (EC (yn pP (nC 0) (ni (nC 1) nD)) (M5 oI.c (nY (i:=2) (om (ni (nC 4) nD))) HB)) (nF (qj (oA (nW yq (nq 2) sS)) (oq (oK (ni (SR.kSc qF) (ni (tJ 3) nD)))) oy) (oq (oK (ni (SR.kSc qF) (ni (tJ 2) nD)))))))) h⟩⟩
abbrev Cj:Stmt:=HD 35 4
def Kl:oa ["self"] ["self"] (nH Cj):=by trivial
def J0    {zZ:Addr}(F:FA K "told" "Cut.told" Cj f fd) (mt:EO K zZ "told" f) (b:qI K fd ["self"] []) (B:Bt mg)    (xo:wj K "Cut" zZ) (Al:nZ K zZ "road"):MtN P w K mg base 1 zZ "told" ["self"] (oY K K22.vM) f fd :=
 ⟨xo.cl,mt,b,F.ok Kl (λ_ _ _ _=>qg) λqK A outer s H vs Q E hr h=>⟨_,
   (nB (oh (vD (mY qm (mY (Ap (pv 0) (by rfl)) nh))))),
   oP _ (K:=K) (oq (vG (ni (SR.kSc qF) (ni (SR.kSc (xW xo Al (nq 0))) nD)))) h⟩⟩
abbrev BB:Stmt:=zh 58
def rZ:oa ["_law_script", "_law_names_here", "_law_turns", "_law_way", "_law_m", "_law_ends", "_law_road", "_law_first", "_law_second", "_law_change", "_law_handed", "_law_due", "_law_back_here", "_law_part", "_law_fields", "_law_good"] ["_law_script"] (nH BB):=by trivial
def Za  {oW:Addr}{oC:Addr}{zZ:Addr}{MR:Addr}{IG:jb}{VH:Addr}{Ta:jb}(D:xP K mg "law" BB ["_law_script"] f fd) (B:Bt mg)   (P9:Fn P w K mg base 2 "_law_names" yL ["_law_script"] (oY K K12.vO) fL_names fdL_names) (Dp:Fn P w K mg base 1 "_law_all" Be ["_law_parts_here"] (oY K Zl.ou) fL_all fdL_all) (Bg:Fn P w K mg base 2 "_law_map" zT ["_law_turns"] (oY K K13.tO) fL_map fdL_map) (Jv:Fn P w K mg base 1 "_law_spot" AQ ["_law_cell_here", "_law_ends", "_law_road", "_law_strange"] (oY K K22.uB) fL_spot fdL_spot) (Kn:Fn P w K mg base 1 "_law_copy" AC ["_law_m"] (oY K K51.ux) fL_copy fdL_copy) (NL:Fn P w K mg base 3 "_law_put" Di ["_law_m", "_law_road", "_law_first", "_law_second"] (oY K K21.uf) fL_put fdL_put) (Ig:Fn P w K mg base 9 "_law_back" vt ["_law_change", "_law_m"] (oY K K22.rD) fL_back_Put fdL_back_Put) (OA:Fn P w K mg base 1 "_law_parts" yz ["_law_cells", "_law_names_here"] (oY K K12.wR) fL_parts fdL_parts) (sH:Fn P w K mg base 1 "_law_cell" yM ["_law_script", "_law_k"] (oY K Zl.nU) fL_cell fdL_cell) (OO:Fn P w K mg base 1 "_law_large" yF ["_law_names_here", "_law_way"] (oY K K22.uL) fL_large fdL_large) (Ph:Fn P w K mg base 3 "_law_lands" yy ["_law_m"] (oY K K15.uR) fL_lands fdL_lands) (ui:Fn P w K mg base 5 "_law_alike" uP ["_law_found", "_law_due"] (oY K K13.oE) fL_alike fdL_alike) (zU:Fn P w K mg base 7 "_law_done" vp ["_law_change", "_law_m"] (oY K K22.pX) fL_done_Put fdL_done_Put) (GO:Fn P w K mg base 9 "_law_done" vY ["_law_change", "_law_m"] (oY K K22.tF) fL_done_Part fdL_done_Part) (Gx:Fn P w K mg base 11 "_law_back" vX ["_law_change", "_law_m"] (oY K K22.tH) fL_back_Part fdL_back_Part) (qd:wj K "Put" oW) (qR:nZ K oW "road") (qM:nZ K oW "first") (qt:nZ K oW "second") (pP:wj K "Part" oC) (rJ:nZ K oC "road") (qS:nZ K oC "first") (qD:nZ K oC "second") (xo:wj K "Cut" zZ) (Al:nZ K zZ "road") (Hr:Kr P w K mg base "Put" oW MR IG ["self", "road", "first", "second"] ["road", "first", "second"]) (LC:Kr P w K mg base "Part" oC VH Ta ["self", "road", "first", "second"] ["road", "first", "second"]) (LD:MtN P w K mg base 1 zZ "told" ["self"] (oY K K22.vM) fCut_told fdCut_told):Fn P w K mg base 12 "law" BB ["_law_script"] (oY K K22.D6) f fd :=
 ⟨D,D.F.ok rZ (λ_ _ _ _=>qg) λqK A outer s H vs Q E hr h=>⟨_,(nj (nX (i:=1) rZ.nd rfl (by trivial) (oN P9 (hr.mono (by decide)) (mY (pv 0) nh))) (nj (nX (i:=2) rZ.nd rfl (by trivial) (oN Dp (hr.mono (by decide)) (mY (oN OA (hr.mono (by decide)) (mY (sY uD (pv 0) (uo nK) (uo nK)) (mY (pv 1) nh))) nh))) (nj (pB (oz BF (oU sL (oU vW (oN sH (hr.mono (by decide)) (mY (pv 0) (mY nK nh))) nK) nK) nK (ph _)) (nB (Dk (i:=2) (cl:=[]) (N:=["_law_turn_here"]) (fr:=[]) rfl rZ.nd rfl (by trivial) rfl (by decide +kernel) rfl (by decide +kernel) rfl (ur.none (by decide +kernel)) (qG (pv 2)) (λ_ _ _ _=>Dr (wc (pv 0) (λ_=>rfl))) (λ_ _ _ _=>(pv 0)))) ox) (nj (nX (i:=3) rZ.nd rfl (by trivial) (oU sL (oN sH (hr.mono (by decide)) (mY (pv 0) (mY nK nh))) nK)) (nj (pB (oz Fe (pv 3) nK (ph _)) (nB (nX (i:=2) rZ.nd rfl (by trivial) (oN OO (hr.mono (by decide)) (mY (sY uD (pv 1) vn (uo nK)) (mY (oU YZ (pv 3) nK) nh))))) ox) (nj (nX (i:=2) rZ.nd rfl (by trivial) (oU zc (pv 2) (vU (cl:=[]) (N:=["_law_k"]) (fr:=[]) rfl rfl (by decide +kernel) rfl (by decide +kernel) rfl (ur.none (by decide +kernel)) (wU (by rfl) B.range (mY (oU sL (oU vW (oN sH (hr.mono (by decide)) (mY (pv 0) (mY nK nh))) nK) nK) nh)) (λ_ _ _ _=>zp) (λ_ _ _ _=>(oB nh))))) (nj (nX (i:=4) rZ.nd rfl (by trivial) (oN Bg (hr.mono (by decide)) (mY (pv 2) nh))) (nj (nX (i:=5) rZ.nd rfl (by trivial) (oN Dp (hr.mono (by decide)) (mY (pv 4) nh))) (nj (nX (i:=6) rZ.nd rfl (by trivial) (rF pI (pv 1) nK (λ_ _=>rfl))) (nj (pB (PW.pt (LS (oz BF (oU sL (oN sH (hr.mono (by decide)) (mY (pv 0) (mY nK nh))) nK) nK (ph _)) (HE (wc (pv 5) (λ_=>rfl))))) (nB (nX (i:=6) rZ.nd rfl (by trivial) (ot R8 (by rfl) B.abs iJ (mY (rF pI (pv 5) (oU sL (oU vW (oN sH (hr.mono (by decide)) (mY (pv 0) (mY nK nh))) nK) (ot qA (by rfl) B.len PySem.boot_len (mY (pv 5) nh))) (λ_ _=>rfl)) nh)))) ox) (nj (nX (i:=7) rZ.nd rfl (by trivial) (oN Jv (hr.mono (by decide)) (mY (oN sH (hr.mono (by decide)) (mY (pv 0) (mY nK nh))) (mY (pv 5) (mY (pv 6) (mY (rF pI (pv 1) nK (λ_ _=>rfl)) nh)))))) (nj (nX (i:=8) rZ.nd rfl (by trivial) (oN Jv (hr.mono (by decide)) (mY (oU vW (oN sH (hr.mono (by decide)) (mY (pv 0) (mY nK nh))) nK) (mY (pv 5) (mY (pv 6) (mY (vy tL (rF pI (pv 1) nK (λ_ _=>rfl))) nh)))))) (nj (nX (i:=9) rZ.nd rfl (by trivial) (Il Hr (hr.mono (by decide)) (mY (pv 6) (mY (pv 7) (mY (pv 8) nh))))) (nj (nX (i:=10) rZ.nd rfl (by trivial) (oN Kn (hr.mono (by decide)) (mY (pv 4) nh))) (nj (nX (i:=11) rZ.nd rfl (by trivial) (oN NL (hr.mono (by decide)) (mY (pv 4) (mY (pv 6) (mY (pv 7) (mY (pv 8) nh)))))) (nj (pB (PW.pt (Kv (vI (uu (oN ui (hr.mono (by decide)) (mY (oN zU (hr.mono (by decide)) (mY (pv 9) (mY (pv 10) nh))) (mY (pv 11) nh))))) (FL (vI (uu (oN ui (hr.mono (by decide)) (mY (pv 10) (mY (pv 4) nh)))))))) (nB (oh As)) ox) (nj (nX (i:=12) rZ.nd rfl (by trivial) (oN Ig (hr.mono (by decide)) (mY (pv 9) (mY (pv 10) nh)))) (nj (pB (oz BF (rF pI (pv 11) nK (λ_ _=>rfl)) qm (ph _)) (nj (pB (vI (uu (oN ui (hr.mono (by decide)) (mY (pv 12) (mY (pv 11) nh))))) (nB (oh As)) ox) (nj (nX (i:=13) rZ.nd rfl (by trivial) (Il LC (hr.mono (by decide)) (mY (pv 6) (mY (pv 7) (mY (pv 8) nh))))) (nj (nX (i:=14) rZ.nd rfl (by trivial) (oN Ph (hr.mono (by decide)) (mY (pv 4) nh))) (nB (pB (PW.pt (Kv (vI (uu (oN ui (hr.mono (by decide)) (mY (oN GO (hr.mono (by decide)) (mY (pv 13) (mY (pv 14) nh))) (mY (pv 11) nh))))) (FL (vI (uu (oN ui (hr.mono (by decide)) (mY (oN Gx (hr.mono (by decide)) (mY (pv 13) (mY (pv 14) nh))) (mY (pv 11) nh)))))))) (nB (oh As)) ox))))) (nB (pB (PW.pt (Kv (oz Fo (rF pI (pv 12) nK (λ_ _=>rfl)) qm (ph _)) (FL (vI (uu (oN ui (hr.mono (by decide)) (mY (Lw LD (hr.mono (by decide)) (rF pI (pv 12) nK (λ_ _=>rfl))) (mY (vD (mY qm (mY (pv 6) nh))) nh)))))))) (nB (oh As)) ox))) (nj (nX (i:=15) rZ.nd rfl (by trivial) (oN Bg (hr.mono (by decide)) (mY (oU zc (vU (N:=["_law_turn_here", "_law_road"]) (fr:=[6]) rfl rfl (by decide +kernel) rfl (by decide +kernel) rfl (ur.of (by decide +kernel) rfl rfl (by exact⟨rfl,trivial⟩) (by repeat (first|exact trivial|refine⟨(by first|exact λ_=>⟨_,rfl⟩|exact λh=>(by rcases h with h|h <;> cases h)),?_⟩)) (by exact⟨⟨rfl,rfl,rfl⟩,trivial⟩)) (qG (pv 4)) (λ_ _ _ _=>zp) (λ_ _ _ _=>(vU (N:=["_law_end", "_law_road"]) (fr:=[1]) rfl rfl (by decide +kernel) rfl (by decide +kernel) rfl (ur.of (by decide +kernel) rfl rfl (by exact⟨rfl,trivial⟩) (by repeat (first|exact trivial|refine⟨(by first|exact λ_=>⟨_,rfl⟩|exact λh=>(by rcases h with h|h <;> cases h)),?_⟩)) (by exact⟨⟨rfl,rfl,rfl⟩,trivial⟩)) (qG (pv 0)) (λ_ _ _ _=>Dr (PW.pt (LS (oz Fo (pv 0) (pv 1) (ph _)) (HE (oz Fo (pv 0) (vy tL (pv 1)) (ph _)))))) (λ_ _ _ _=>(pv 0))))) (oB (mY (oB nh) (mY (oB nh) nh)))) nh))) (nj (pB (vI (uu (oN ui (hr.mono (by decide)) (mY (oN zU (hr.mono (by decide)) (mY (pv 9) (mY (oN Kn (hr.mono (by decide)) (mY (pv 15) nh)) nh))) (mY (oN NL (hr.mono (by decide)) (mY (pv 15) (mY (pv 6) (mY (pv 7) (mY (pv 8) nh))))) nh))))) (nB (oh As)) ox) (nB (oh (Ja (oN ui (hr.mono (by decide)) (mY (oN zU (hr.mono (by decide)) (mY (pv 9) (mY (pv 10) nh))) (mY (pv 11) nh))) (MV (oN ui (hr.mono (by decide)) (mY (pv 10) (mY (pv 4) nh))))))))))))))))))))))))))),oP _ (K:=K) (nF (nY (i:=1) (om (ni (nC 0) nD))) (nF (nY (i:=2) (om (ni (om (ni (zY (tV 0) (ud nJ) (ud nJ)) (ni (nC 1) nD))) nD))) (nF (qj (oA (nW A4 (nW sJ (nW yk (qo (ny (nq 0) (ny nJ nO))) nJ) nJ) nJ)) (nY (i:=2) (tU (nC 2) (AB (nq 0)) (nC 0))) oy) (nF (nY (i:=3) (SR.kSc (nW sJ (qo (ny (nq 0) (ny nJ nO))) nJ))) (nF (qj (oA (nW Ga (nq 3) nJ)) (nY (i:=2) (om (ni (zY (tV 1) vv (ud nJ)) (ni (SR.kSc (nW X8 (nq 3) nJ)) nD)))) oy) (nF (nY (i:=2) (zD (B4 2) (SK.lOf (Bl (ny (nW sJ (nW yk (qo (ny (nq 0) (ny nJ nO))) nJ) nJ) nO) zk (oK nD))))) (nF (nY (i:=4) (om (ni (nC 2) nD))) (nF (nY (i:=5) (om (ni (nC 4) nD))) (nF (nY (i:=6) (SR.kSc (nW vz (nq 1) nJ))) (nF (qj (Ml (oA (nW A4 (nW sJ (qo (ny (nq 0) (ny nJ nO))) nJ) nJ)) (AB (nq 5))) (nY (i:=6) (SR.kSc (qC aau (ny (nW vz (nq 5) (nW sJ (nW yk (qo (ny (nq 0) (ny nJ nO))) nJ) (qC tS (ny (nq 5) nO)))) nO)))) oy) (nF (nY (i:=7) (om (ni (SR.kSc (qo (ny (nq 0) (ny nJ nO)))) (ni (nC 5) (ni (nC 6) (ni (SR.kSc (nW vz (nq 1) nJ)) nD)))))) (nF (nY (i:=8) (om (ni (SR.kSc (nW yk (qo (ny (nq 0) (ny nJ nO))) nJ)) (ni (nC 5) (ni (nC 6) (ni (SR.kSc (vA tI (nW vz (nq 1) nJ))) nD)))))) (nF (nY (i:=9) (HP qd (ny (nq 6) (ny (nq 7) (ny (nq 8) nO))))) (nF (nY (i:=10) (om (ni (nC 4) nD))) (nF (nY (i:=11) (om (ni (nC 4) (ni (nC 6) (ni (nC 7) (ni (nC 8) nD)))))) (nF (qj (JQ (vN (uN (qo (ny (SK.rOf (om (ni (nC 9) (ni (nC 10) nD)))) (ny (nq 11) nO))))) (vN (uN (qo (ny (nq 10) (ny (nq 4) nO)))))) (oq (SR.kSc A2)) oy) (nF (nY (i:=12) (om (ni (nC 9) (ni (nC 10) nD)))) (nF (qj (oA (nW A4 (nW vz (nq 11) nJ) qF)) (nF (qj (vN (uN (qo (ny (nq 12) (ny (nq 11) nO))))) (oq (SR.kSc A2)) oy) (nF (nY (i:=13) (HP pP (ny (nq 6) (ny (nq 7) (ny (nq 8) nO))))) (nF (nY (i:=14) (om (ni (nC 4) nD))) (qj (JQ (vN (uN (qo (ny (SK.rOf (om (ni (nC 13) (ni (nC 14) nD)))) (ny (nq 11) nO))))) (vN (uN (qo (ny (SK.rOf (om (ni (nC 13) (ni (nC 14) nD)))) (ny (nq 11) nO)))))) (oq (SR.kSc A2)) oy)))) (qj (JQ (oA (nW Ff (nW vz (nq 12) nJ) qF)) (vN (uN (qo (ny (SK.rOf (om (yn xo (Xn (tV 12) nJ) nD))) (ny (SK.rOf (vG (ni (SR.kSc qF) (ni (nC 6) nD)))) nO)))))) (oq (SR.kSc A2)) oy)) (nF (nY (i:=15) (om (ni (zD (SK.lOf (tU (nC 4) zk (tU (nC 0) (Ml (oA (nW Ff (nq 0) (nq 1))) (oA (nW Ff (nq 0) (vA tI (nq 1))))) (nC 0)))) (SK.lOf (oK (ni (oK nD) (ni (oK nD) nD))))) nD))) (nF (qj (vN (uN (qo (ny (SK.rOf (om (ni (nC 9) (ni (om (ni (nC 15) nD)) nD)))) (ny (SK.rOf (om (ni (nC 15) (ni (nC 6) (ni (nC 7) (ni (nC 8) nD)))))) nO))))) (oq (SR.kSc A2)) oy) (oq (SR.kSc (Je (qo (ny (SK.rOf (om (ni (nC 9) (ni (nC 10) nD)))) (ny (nq 11) nO))) (qo (ny (nq 10) (ny (nq 4) nO)))))))))))))))))))))))))) h⟩⟩
end
end K22
--ZQ3 --ZQ4 --ZQ5 --ZQ8
namespace K13
open PySem L2 Mr Z Xe Zl
def plain:Nat->D->Prop
 |0,_=>False
 |_+1,.int _=>True
 |_+1,.str _=>True
 |n+1,.list ds=>ds.length<1000000/\∀d∈ds,plain n d
 |n+1,.tup ds=>ds.length<1000000/\∀d∈ds,plain n d
 |_+1,_=>False
def wq:Nat->MF
 |0=>Rg
 |n+1=>qZ (wq n)
def ES{fm:MF}{x:D}{ds:List D}(hx:x = .list ds∨x = .tup ds) (hd:∀d∈ds,fm [d,d]=some (.sh (.bl true))):∃v,tN 2 (vf fm) (pZ 0 ds.length) [some (.sh x),some (.sh x),none]=some (.nx [some (.sh x),some (.sh x),v]):=by
 have key:=Ae (x:=2) (body:=vf fm) (λ_ S=>∃v,S=[some (.sh x),some (.sh x),v]) (ds:=pZ 0 ds.length) (S:=[some (.sh x),some (.sh x),none]) ⟨none,rfl⟩ (by
  rintro i d S hd' ⟨v,rfl⟩;have hi:i<ds.length:=by
   have:=(gSq.mp hd').1
   rwa [rN]at this
  rw[Ck hi]at hd';cases hd';have hat:atI ds (0+(i:Int))=some ds[i]:=by
   rw[Ew (by lia)]
   have:(0+(i:Int)).toNat=i:=by lia
   rw[this];exact gEg hi
  have hq:=hd ds[i] (gRq hi);refine⟨[some (.sh x),some (.sh x),some (.sh (.int (0+(i:Int))))],?_,_,rfl⟩;rcases hx with rfl|rfl
  .simp_arith [vf,hat,hq]
  .simp_arith [vf,hat,hq])
 obtain⟨S',e,v,rfl⟩:=key;exact⟨v,e⟩
def Xo(b:Bool):G2 (.bl b) (.bl b)=some (.bl false):=by cases b <;> rfl
theorem vJ:∀(n:Nat) (d:D),plain n d->wq n [d,d]=some (.sh (.bl true))
 |0,_,h=>h.elim
 |n+1,d,h=>by
  show qZ (wq n) [d,d]=_;cases d with
  |int i=>simp_arith [qZ,xn,eq_self,KN]
  |str x=>simp_arith [qZ,xn,eq_self,Jn]
  |list ds =>
   obtain⟨v,e⟩:=ES (fm:=wq n) (x:=.list ds) (.inl rfl) λd hd=>vJ n d (h.2 d hd)
   have hrg:=Bd (n:=ds.length) h.1
   simp_arith [qZ,xn,eq_self,Xo,decide_true,iy,hrg,e]
  |tup ds =>
   obtain⟨v,e⟩:=ES (fm:=wq n) (x:=.tup ds) (.inr rfl) λd hd=>vJ n d (h.2 d hd)
   have hrg:=Bd (n:=ds.length) h.1
   simp_arith [qZ,xn,eq_self,Xo,decide_true,iy,hrg,e]
  |_=>exact h.elim
def V7{ns:List Int}(hl:ns.length<=500000):xt [dI ns]=some (aI (good ns)):=by
 cases ns with
 |nil =>
  simp_arith [xt,DS,yO]
  rfl
 |cons n ns =>
  obtain⟨h1,h2⟩:=Ht (n:=n) (ns:=ns);have e:=Av h1 h2;have hle:=EI (n::ns);have hm:Qq [dI (n::ns)]=some (.int (ns.foldl min n)):=by
   show (sV ((n::ns).map D.int)).bind (λns=>(HW ns).map D.int)=_
   rw[tW];rfl
  have hx:zi (dI (n::ns)) [.int (ns.foldl min n)]=some (.int (pO (n::ns) (n::ns).length:Nat)):=by
   show (sV ((n::ns).map D.int)).bind _=_;rw[tW];show (if _ then _ else _)=_
   rw[oJ h1,e]
  have ht:yO (dI (n::ns))=some true:=rfl;generalize hN:n::ns=N at *;have hlen:(N.drop (pO N N.length)).length+(N.take (pO N N.length)).length<=qP:=by rw[au,lTq];show _<=16777216;lia
  simp_arith [xt,DS,ht,hm,hx,tq,Ez N _ hle,DW N _ hle,hlen,←mBq,CU]
  rfl
def OQ{rs:List (List Int)}(hl:∀r∈rs,r.length<=500000):qO rY (oi xt (nv (nI 0) nP)) [] (rs.map dI)=some ((rs.map good).map aI):=by
 rw[Z.uZ λd=>aI (good (Am d))]
 .rw [An λr=>aI (good r),mPq]
  rfl
 .intro d hd;obtain⟨r,hr,rfl⟩:=zK hd;refine⟨[some (.sh (dI r))],?_⟩
  simp_arith [V7 (hl r hr),uC]
def IF{rs:List (List Int)}(hl:∀r∈rs,r.length<=500000) (h7:rs.length<=qP):tO [dM rs]=some (.ow ((yl (rs.map good)).map aI)):=by
 simp_arith [tO,Ke,OQ hl,h7]
def dL(ms:List (List (List Int))):D:=.list (ms.map dM)
def Mv{ms:List (List (List Int))}{i:Nat}{m:List (List Int)}(h:ms[i]?=some m):(ms.take (i+1)).flatten=(ms.take i).flatten++m:=by
 rw[cW,h,fAq];simp
def TH(ms:List (List (List Int))) (i:Nat):(ms.take i).flatten.length<=ms.flatten.length:=by
 have:=congrArg cu (congrArg iB (aR i ms));rw[fAq,lAq]at this;lia
def Wb{ms:List (List (List Int))}{i:Nat}{d:D}(h:(ms.map dM)[i]?=some d):∃m,ms[i]?=some m/\d=dM m:=by
 rw[gMq]at h;obtain⟨r,h1,h2⟩:=oMq.mp h;exact⟨r,h1,h2.symm⟩
def oM(rs:List (List Int)):AV:=.ow (rs.map λr=>.sh (dI r))
def Pu{ms:List (List (List Int))}{body:MS}(hb:body=Qa 1 (Cc 2)) (hl:ms.flatten.length<=500000):∃v,tN 2 body (ms.map dM) [some (.sh (dL ms)),some (.ow []),none]=some (.nx [some (.sh (dL ms)),some (oM ms.flatten),v]):=by
 subst hb;have key:=Ae (x:=2) (body:=Qa 1 (Cc 2)) (λi S=>∃v,S=[some (.sh (dL ms)),some (oM (ms.take i).flatten),v]) (ds:=ms.map dM) (S:=[some (.sh (dL ms)),some (.ow []),none]) ⟨none,by simp[oM]⟩ (by
  rintro i d S hd ⟨v,rfl⟩;obtain⟨m,hm,rfl⟩:=Wb hd;have h1:=Mv hm;have h2:=TH ms (i+1);rw[h1,lAq]at h2;have h3:(ms.take i).flatten.length+m.length<=qP:=rP (by lia)
  refine⟨[some (.sh (dL ms)),some (oM ((ms.take i).flatten++m)),some (.sh (dM m))],?_,some (.sh (dM m)),by rw[h1]⟩
  simp_arith [oM,h3,M0,←mBq])
 obtain⟨S',e,v,rfl⟩:=key;rw[lMq,br]at e;exact⟨v,e⟩
def ZD{ms:List (List (List Int))}(hl:ms.flatten.length<=500000):ou [dL ms]=some (oM ms.flatten):=by
 obtain⟨v,e⟩:=Pu (ms:=ms) (body:=vm) rfl hl;unfold dL at e ⊢
 simp_arith [ou,zw,e]
def adl(G:List (List Int)):D:=.list [.str "map", dM G]
def Vp(n:Nat) (r:List Int) (h:r.length<1000000):plain (n+2) (dI r):=⟨by rw[lMq];exact h,λd hd=>by obtain⟨z,_,rfl⟩:=mMq.mp hd;trivial⟩
def Oc(n:Nat) (rs:List (List Int)) (h:rs.length<=1000) (h2:rs.flatten.length<=1000):plain (n+3) (dM rs):=⟨by rw[lMq];lia,λd hd=>by
 obtain⟨r,hr,rfl⟩:=zK hd;exact Vp n r (by have:=AG hr;lia)⟩
def Oz(G:List (List Int)) (h:G.length<=1000) (h2:G.flatten.length<=1000):plain 4 (adl G):=⟨by show 2<1000000;decide,λd hd=>by
 rcases ak.mp hd with rfl|hd
 .trivial
 .rw [mSq.mp hd];exact Oc 0 G h h2⟩
def L9(w:Str) (z:Int):plain 4 (.list [.str "refused", .list [.tup [.str w,.int z]]]):=⟨by show 2<1000000;decide,λd hd=>by
 rcases ak.mp hd with rfl|hd
 .trivial
 .rw [mSq.mp hd];exact⟨by show 1<1000000;decide,λd hd=>by
   rw[mSq.mp hd];exact⟨by show 2<1000000;decide,λd hd=>by
    rcases ak.mp hd with rfl|hd
    .trivial
    .rw [mSq.mp hd];trivial⟩⟩⟩
end K13
--ZQ3 --ZQ4 --ZQ5 --ZQ6 --ZQ8 --ZQ9 --ZQB --ZQC --ZQD --ZQE
namespace K12
open PySem L2 Mr Z Xe Zl
abbrev aP(part:List (List Int)):AV:=.ow (part.map aI)
def Fb(n:Nat):Hk (n+1) (-1)=some n:=by
 unfold Hk;rw[oO (by decide),oJ (by lia)]
 congr 1;lia
def TZ{P0:List (List (List Int))}{last:List (List Int)}:pe (.ow ((P0++[last]).map aP)) [P0.length]=some (last.map aI):=by
 rw[xQ,gMq,gYq (af _),bP];rfl
def Dc{P0:List (List (List Int))}{last:List (List Int)}{h:Nat}{r:List Int}(hr:last[h]?=some r):pe (.ow ((P0++[last]).map aP)) [P0.length,h]=some (r.map λn=>.sh (.int n)):=by
 rw[xQ,gMq,gYq (af _),bP];show pe (.ow (last.map aI)) [h]=_;rw[xQ,gMq,hr];rfl
def Cm{α β:Type}(f:α->β) (l:List α) (i:Nat) (a:α):(l.map f).set i (f a)=(l.set i a).map f:=by rw[List.map_set]
def Nd{α:Type}(l:List α) (a b:α):(l++[a]).set l.length b=l++[b]:=by
 rw[fX _ _ (af _),bP];rfl
def adi{P0:List (List (List Int))}{last last':List (List Int)}:putAt (.ow ((P0++[last]).map aP)) [P0.length] (last'.map aI) = .ow ((P0++[last']).map aP):=by
 rw[zG (a:=aP last) (by rw[gMq,gYq (af _),bP];rfl)]
 show AV.ow (((P0++[last]).map aP).set P0.length (aP last'))=_;rw[Cm,Nd]
def TU{P0:List (List (List Int))}{last:List (List Int)}{h:Nat}{r r':List Int}(hr:last[h]?=some r):putAt (.ow ((P0++[last]).map aP)) [P0.length,h] (r'.map λn=>.sh (.int n)) = .ow ((P0++[last.set h r']).map aP):=by
 rw[zG (a:=aP last) (by rw[gMq,gYq (af _),bP];rfl)]
 have e:putAt (aP last) [h] (r'.map λn=>.sh (.int n))=aP (last.set h r'):=by
  rw[zG (a:=aI r) (by rw[gMq,hr];rfl)]
  show AV.ow ((last.map aI).set h (aI r'))=_;rw[Cm]
 rw[e,Cm,Nd]
structure Wd where
 P0:List (List (List Int))
 last:List (List Int)
 t0:List Nat
 h:Nat
 left:List Int
 used:Nat
def Xk(c e:Int):Int:=if c / 8 % 2=1 then -e else e
def D1(nm:List Int) (w:Wd) (c:Int):Wd :=
 let e:=Xk c (nm.getD w.used 0)
 let r:=w.last.getD w.h []
 if c % 8<4 then
  if c % 8<2 then { w with last:=w.last.set w.h (r++[e]),left:=w.left++[-e],used:=w.used+1 }
  else { w with last:=w.last.set w.h (r++[e])++[[-e]],t0:=w.t0++[w.h],h:=w.last.length,used:=w.used+1 }
 else if c % 8<6 then
  if w.left=[] then w else { w with last:=w.last.set w.h (r++[w.left.getD (c / 16 % w.left.length).toNat 0]),left:=w.left.eraseIdx (c / 16 % w.left.length).toNat }
 else if c % 8=6 then
  match w.t0.getLast? with
  |none=>w
  |some h'=>{ w with t0:=w.t0.dropLast,h:=h' }
 else { P0:=w.P0++[w.last.set w.h (r++w.left)],last:=[[]],t0:=[],h:=0,left:=[],used:=w.used }
abbrev cN(ks:List Nat):List Int:=ks.map λn:Nat=>(n:Int)
def st(v0 v1:Option AV) (w:Wd) (v6 v7 v8 v9:Option AV):AS:=[v0,v1,some (.ow ((w.P0++[w.last]).map aP)),some (aI (cN (w.t0++[w.h]))),some (aI w.left),some (.sh (.int (w.used:Int))),v6,v7,v8,v9]
def brA:List Nat->MS:=(λpath=>nS ((Nh 2 (nI 9)) path) (nS (oj 5 (kSc (oR zb (nA 5) (rC (.int 1))))) (uT (qH (oR UK (nA 7) (rC (.int 2)))) (yP 4 (kSc (wx uj (nA 9)))) (nS (yP 3 (kSc (xF uU (nu (oR Bu (nA 2) (wx uj (rC (.int 1)))) nQ)))) (Hw 2 (Pl 2 (GN 2) (wx uj (rC (.int 1)))) (qc (nv (kSc (wx uj (nA 9))) nP)))))))
def brB:List Nat->MS:=(Gn 2 (Bq (nA 4)) (HV 2 (Em 4 (oR um (oR zf (nA 6) (rC (.int 16))) (xF uU (nu (nA 4) nQ))))) (λ_=>oH))
def brC:List Nat->MS:=(λ_=>(uT (qH (oR Qx (xF uU (nu (nA 3) nQ)) (rC (.int 1)))) (Im (GW 3)) oH))
def brE:List Nat->MS:=(λpath=>nS ((NB 2 (Cc 4)) path) (nS (oj 4 (qc nP)) (nS (yP 2 (qc (nv (qc nP) nP))) (oj 3 (qc (nv (kSc (rC (.int 0))) nP))))))
def K5:List Nat->MS:=(Gn 2 (qH (oR UK (nA 7) (rC (.int 4)))) brA (Gn 2 (qH (oR UK (nA 7) (rC (.int 6)))) brB (Gn 2 (qH (oR Gi (nA 7) (rC (.int 6)))) brC brE)))
def W0:sO=(nS (oj 7 (kSc (oR um (nA 6) (rC (.int 8))))) (RA 8 2 (Pl 2 (Pl 2 (GN 2) (wx uj (rC (.int 1)))) (oR Bu (nA 3) (wx uj (rC (.int 1))))) (Lf 2 (oj 9 (kSc (oR Bu (nA 1) (nA 5)))) (Lf 2 (uT (qH (oR Gi (oR um (oR zf (nA 6) (rC (.int 8))) (rC (.int 2))) (rC (.int 1)))) (oj 9 (kSc (wx uj (nA 9)))) oH) K5)))):=rfl
def Tv{nm:List Int}{P0:List (List (List Int))}{last:List (List Int)}{t0:List Nat}{hd:Nat}{left r:List Int}{used:Nat}{c:Int}{v0 v7 v8 v9:Option AV}(hh:hd<last.length) (hr:last[hd]?=some r) (hu:used<nm.length) :
  sO (st v0 (some (.sh (dI nm))) ⟨P0,last,t0,hd,left,used⟩ (some (.sh (.int c))) v7 v8 v9)=K5 [P0.length,hd] (st v0 (some (.sh (dI nm))) ⟨P0,last,t0,hd,left,used⟩ (some (.sh (.int c))) (some (.sh (.int (c % 8)))) none (some (.sh (.int (Xk c (nm.getD used 0)))))):=by
 have m8:=zR (i:=c) (j:=8) (by decide)
 have d8:=zA (i:=c) (j:=8) (by decide) (by decide)
 have m2:=zR (i:=c / 8) (j:=2) (by decide)
 have n2:=Dc (P0:=P0) hr;have n1:=TZ (P0:=P0) (last:=last);have lenP:(P0++[last]).length=P0.length+1:=by simp
 have iP:=Fb P0.length;have iL:Hk last.length (hd:Int)=some hd:=HC hh;have at3:atI ((cN (t0++[hd])).map D.int) (-1)=some (.int (hd:Int)):=by
  unfold cN;rw[mBq,mBq];exact Gh _ _
 have UV:=oS (cN (t0++[hd]));have atn:atI (nm.map D.int) (used:Int)=some (.int (nm.getD used 0)):=zN (by rw[gMq,gDq,gEg hu];rfl)
 have q82:((8:Nat)≠2/\8<10)=True:=by simp
 rw[W0]
 by_cases hs:c / 8 % 2=1
 .have es:Xk c (nm.getD used 0) = -(nm.getD used 0):=oJ hs
  simp_arith [st,m8,lenP,iP,n1,n2,iL,UV,dI,at3,q82,atn,d8,m2,hs,es,eq_self]
 .have es:Xk c (nm.getD used 0)=nm.getD used 0:=oO hs
  simp_arith [st,m8,lenP,iP,n1,n2,iL,UV,dI,at3,q82,atn,d8,m2,hs,es,eq_self]
end K12
--ZQ3 --ZQ4 --ZQ5 --ZQ6 --ZQ8 --ZQ9 --ZQB --ZQC --ZQD --ZQE
namespace K12
open PySem L2 Mr Z Xe Zl
section
variable {nm:List Int}{P0:List (List (List Int))}{last:List (List Int)}{t0:List Nat}{hd:Nat}{left r:List Int}{used:Nat}{c e:Int}{v0 v1 v8:Option AV}
def HH(r:List Int) (e:Int):(r.map λn=>AV.sh (.int n))++[.sh (.int e)]=(r++[e]).map λn=>.sh (.int n):=by rw[mBq];rfl
def Om(r s:List Int):(r.map λn=>AV.sh (.int n))++(s.map D.int).map AV.sh=(r++s).map λn=>.sh (.int n):=by rw[mBq,mPq];rfl
def VW(l:List (List Int)) (e:Int):l.map aI++[.ow [.sh (.int e)]]=(l++[[e]]).map aI:=by rw[mBq];rfl
def Wn(P:List (List (List Int))):P.map aP++[.ow [.ow []]]=(P++[[[]]]).map aP:=by rw[mBq];rfl
def Xp(ks:List Nat) (n:Nat):(cN ks).map (λn=>AV.sh (.int n))++[.sh (.int (n:Int))]=(cN (ks++[n])).map λn=>.sh (.int n):=by unfold cN;rw[mBq,mBq];rfl
def N2(P:List (List (List Int))):(P.map aP).map nR=P.map dM:=by
 rw[mPq];refine mCq λp _=>?_
 show nR (.ow (p.map aI))=dM p;rw[uX,mPq];show D.list _=D.list _;congr 1;exact mCq λr _=>oS r
def adD(P0:List (List (List Int))) (last:List (List Int)):atI ((P0++[last]).map dM) (-1)=some (dM last):=by rw[mBq];exact Gh _ _
theorem Sg{α β:Type}(f:α->β):∀(l:List α) (i:Nat),(l.map f).eraseIdx i=(l.eraseIdx i).map f
 | [],i=>rfl
 |x::l,0=>rfl
 |x::l,i+1=>by rw[aw,cx,cx,Sg f l i,aw]
def Xv{l:List Int}(h:l≠[]):yO (.list (l.map D.int))=some true:=by
 cases l with
 |nil=>exact absurd rfl h
 |cons x l=>rfl
def abO(hh:hd<last.length) (hr:last[hd]?=some r) (hrl:r.length<500000) (hll:left.length<500000) (h4:c % 8<4) (h2:c % 8<2) :
  K5 [P0.length,hd] (st v0 v1 ⟨P0,last,t0,hd,left,used⟩ (some (.sh (.int c))) (some (.sh (.int (c % 8)))) v8 (some (.sh (.int e))))=some (.nx (st v0 v1 ⟨P0,last.set hd (r++[e]),t0,hd,left++[-e],used+1⟩ (some (.sh (.int c))) (some (.sh (.int (c % 8)))) v8 (some (.sh (.int e))))):=by
 have n2:=Dc (P0:=P0) hr;have l1:r.length<qP:=by show _<16777216;lia
 have l2:left.length<qP:=by show _<16777216;lia
 have p2:=TU (P0:=P0) (r':=r++[e]) hr;have a1:=HH r e;have a2:=HH left (-e);have eu:((used+1:Nat):Int)=(used:Int)+1:=by lia
 simp_arith [K5,brA,st,h4,n2,l1,a1,p2,h2,l2,a2,eu]
def abN(hh:hd<last.length) (hr:last[hd]?=some r) (hrl:r.length<500000) (hll:last.length<500000) (htl:t0.length<500000) (h4:c % 8<4) (h2:¬ c % 8<2) :
  K5 [P0.length,hd] (st v0 v1 ⟨P0,last,t0,hd,left,used⟩ (some (.sh (.int c))) (some (.sh (.int (c % 8)))) v8 (some (.sh (.int e))))=some (.nx (st v0 v1 ⟨P0,last.set hd (r++[e])++[[-e]],t0++[hd],last.length,left,used+1⟩ (some (.sh (.int c))) (some (.sh (.int (c % 8)))) v8 (some (.sh (.int e))))):=by
 have n2:=Dc (P0:=P0) hr;have l1:r.length<qP:=by show _<16777216;lia
 have p2:=TU (P0:=P0) (r':=r++[e]) hr;have a1:=HH r e;have eu:((used+1:Nat):Int)=(used:Int)+1:=by lia
 have sP:=N2 (P0++[last.set hd (r++[e])]);have aP':=adD P0 (last.set hd (r++[e]));have n1:=TZ (P0:=P0) (last:=last.set hd (r++[e]));have lenP:(P0++[last.set hd (r++[e])]).length=P0.length+1:=by simp
 have lenL:(last.set hd (r++[e])).length=last.length:=lZq;have iP:=Fb P0.length;have l2:last.length<qP:=by show _<16777216;lia
 have lt':(t0++[hd]).length<qP:=by rw[lAq];show t0.length+1<16777216;lia
 have a2:=Xp (t0++[hd]) last.length;have a3:=VW (last.set hd (r++[e])) (-e);have p1:=adi (P0:=P0) (last:=last.set hd (r++[e])) (last':=last.set hd (r++[e])++[[-e]])
 simp_arith [K5,brA,st,h4,n2,l1,a1,p2,h2,sP,aP',n1,lenP,lenL,iP,l2,lt',a2,a3,p1,eu]
def acB(hr:last[hd]?=some r) (h4:¬ c % 8<4) (h6:c % 8<6) :
  K5 [P0.length,hd] (st v0 v1 ⟨P0,last,t0,hd,[],used⟩ (some (.sh (.int c))) (some (.sh (.int (c % 8)))) v8 (some (.sh (.int e))))=some (.nx (st v0 v1 ⟨P0,last,t0,hd,[],used⟩ (some (.sh (.int c))) (some (.sh (.int (c % 8)))) v8 (some (.sh (.int e))))):=by
 have n2:=Dc (P0:=P0) hr;have tr:yO (.list [])=some false:=rfl
 simp_arith [K5,brB,st,h4,n2,h6,tr]
def abL(hr:last[hd]?=some r) (hrl:r.length<500000) (hll:left.length<500000) (hne:left≠[]) (h4:¬ c % 8<4) (h6:c % 8<6) :
  K5 [P0.length,hd] (st v0 v1 ⟨P0,last,t0,hd,left,used⟩ (some (.sh (.int c))) (some (.sh (.int (c % 8)))) v8 (some (.sh (.int e))))=some (.nx (st v0 v1 ⟨P0,last.set hd (r++[left.getD (c / 16 % left.length).toNat 0]),t0,hd,left.eraseIdx (c / 16 % left.length).toNat,used⟩ (some (.sh (.int c))) (some (.sh (.int (c % 8)))) v8 (some (.sh (.int e))))):=by
 have n2:=Dc (P0:=P0) hr;have l1:r.length<qP:=by show _<16777216;lia
 have hpos:0<left.length:=dG.mpr hne;have d16:=zA (i:=c) (j:=16) (by decide) (by decide)
 have ml:=zR (i:=c / 16) (j:=(left.length:Int)) (by lia)
 have b0:0<=c / 16 % (left.length:Int):=bA _ (by lia)
 have b1:c / 16 % (left.length:Int)<(left.length:Int):=bq _ (by lia)
 have hlt:(c / 16 % (left.length:Int)).toNat<left.length:=by lia
 have ll:left.length<=qP:=by show _<=16777216;lia
 have g1:(left.map λn=>AV.sh (.int n))[(c / 16 % (left.length:Int)).toNat]?=some (.sh (.int (left.getD (c / 16 % (left.length:Int)).toNat 0))):=by
  rw[gMq,gEg hlt,gDq,gEg hlt];rfl
 have g2:(left.map λn=>AV.sh (.int n)).eraseIdx (c / 16 % (left.length:Int)).toNat=(left.eraseIdx (c / 16 % (left.length:Int)).toNat).map λn=>.sh (.int n):=Sg _ _ _
 have p2:=TU (P0:=P0) (r':=r++[left.getD (c / 16 % (left.length:Int)).toNat 0]) hr;have a1:=HH r (left.getD (c / 16 % (left.length:Int)).toNat 0);have sl:=oS left;have q:(0<=c / 16 % (left.length:Int)/\c / 16 % (left.length:Int)<(left.length:Int)/\left.length<=qP)=True:=by simp[b0,b1,ll]
 have tr:=Xv hne
 simp_arith [K5,brB,st,h4,n2,h6,l1,d16,ml,q,g1,g2,a1,p2,sl,dI,tr,eq_self,true_and]
def abi(hr:last[hd]?=some r) (h6:c % 8=6) :
  K5 [P0.length,hd] (st v0 v1 ⟨P0,last,[],hd,left,used⟩ (some (.sh (.int c))) (some (.sh (.int (c % 8)))) v8 (some (.sh (.int e))))=some (.nx (st v0 v1 ⟨P0,last,[],hd,left,used⟩ (some (.sh (.int c))) (some (.sh (.int (c % 8)))) v8 (some (.sh (.int e))))):=by
 have n2:=Dc (P0:=P0) hr;have h4:¬ (6:Int)<4:=by decide
 have h5:¬ (6:Int)<6:=by decide
 have sl:=oS (cN [hd]);have k1:decide ((1:Int)<((1:Nat):Int))=false:=by decide
 simp_arith [K5,brC,st,h6,n2,h4,h5,sl,dI,cN,k1]
def aa7{t:List Nat}{h':Nat}(hr:last[hd]?=some r) (h6:c % 8=6) :
  K5 [P0.length,hd] (st v0 v1 ⟨P0,last,t++[h'],hd,left,used⟩ (some (.sh (.int c))) (some (.sh (.int (c % 8)))) v8 (some (.sh (.int e))))=some (.nx (st v0 v1 ⟨P0,last,t,h',left,used⟩ (some (.sh (.int c))) (some (.sh (.int (c % 8)))) v8 (some (.sh (.int e))))):=by
 have n2:=Dc (P0:=P0) hr;have h4:¬ (6:Int)<4:=by decide
 have h5:¬ (6:Int)<6:=by decide
 have sl:=oS (cN (t++[h']++[hd]));have k1:(1:Int)<((t++[h']++[hd]).length:Int):=by simp;lia
 have ec:(cN (t++[h']++[hd])).map (λn=>AV.sh (.int n))=(cN (t++[h'])).map (λn=>AV.sh (.int n))++[.sh (.int (hd:Int))]:=(Xp (t++[h']) hd).symm
 have p1:((cN (t++[h'])).map (λn=>AV.sh (.int n))++[AV.sh (.int (hd:Int))])[((cN (t++[h'])).map (λn=>AV.sh (.int n))++[AV.sh (.int (hd:Int))]).length-1]?=some (.sh (.int (hd:Int))):=by
  rw[lAq,lSq,gYq (by lia)]
  simp
 have p2:((cN (t++[h'])).map (λn=>AV.sh (.int n))++[AV.sh (.int (hd:Int))]).dropLast=(cN (t++[h'])).map (λn=>AV.sh (.int n)):=gu
 simp_arith [K5,brC,st,h6,n2,h4,h5,sl,dI,k1,ec,p1,p2]
def adI(hr:last[hd]?=some r) (hrl:r.length+left.length<500000) (hPl:P0.length<500000) (h4:¬ c % 8<4) (h5:¬ c % 8<6) (h6:¬ c % 8=6) :
  K5 [P0.length,hd] (st v0 v1 ⟨P0,last,t0,hd,left,used⟩ (some (.sh (.int c))) (some (.sh (.int (c % 8)))) v8 (some (.sh (.int e))))=some (.nx (st v0 v1 ⟨P0++[last.set hd (r++left)],[[]],[],0,[],used⟩ (some (.sh (.int c))) (some (.sh (.int (c % 8)))) v8 (some (.sh (.int e))))):=by
 have n2:=Dc (P0:=P0) hr;have l1:r.length+left.length<=qP:=by show _<=16777216;lia
 have p2:=TU (P0:=P0) (r':=r++left) hr;have a1:=Om r left;have a1':(r.map λn=>AV.sh (.int n))++(left.map λn=>AV.sh (.int n))=(r++left).map λn=>.sh (.int n):=mBq.symm
 have lenP:(P0++[last.set hd (r++left)]).length<qP:=by rw[lAq];show P0.length+1<16777216;lia
 have a2:=Wn (P0++[last.set hd (r++left)]);have sl:=oS left
 simp_arith [K5,brE,st,h4,n2,h5,h6,l1,a1,a1',p2,lenP,a2,sl,dI]
 first|rfl|(simp[cN];done)
end
end K12
--ZQ3 --ZQ4 --ZQ5 --ZQ6 --ZQ8 --ZQ9 --ZQB --ZQC --ZQD --ZQE
namespace K12
open PySem L2 Mr Z Xe Zl
noncomputable def BW(nm:List Int) (k:Nat):List Int:=(nm.take k).flatMap λx=>[x, -x]
def DU{nm:List Int}{k:Nat}{x:Int}(h:nm[k]?=some x):BW nm (k+1)=BW nm k++[x, -x]:=by
 unfold BW;rw[qX h,gE];rfl
theorem FU{nm:List Int}:∀{k:Nat},k<=nm.length->(BW nm k).length=2*k
 |0,_=>rfl
 |k+1,h=>by
  rw[DU (gEg (show k<nm.length by lia)),lAq,FU (by lia)]
  show 2*k+2=_;lia
theorem Bn{x r:List Int}(a:Int):∀{l:List (List Int)}{h:Nat},l[h]?=some r->(l.set h (r++x)).flatten.count a=l.flatten.count a+x.count a
 | [],_,h=>by simp at h
 |s::l,0,h=>by
  cases h;rw[cJ,fCq,fCq,cAq,cAq,cAq];lia
 |s::l,h+1,e=>by
  rw[dY,fCq,fCq,cAq,cAq,Bn a (by simpa using e)]
  lia
theorem G5(a:Int):∀{l:List Int}{j:Nat},j<l.length->(l.eraseIdx j).count a+[l.getD j 0].count a=l.count a
 | [],_,h=>by simp at h
 |x::l,0,_=>by
  rw[List.eraseIdx_cons_zero,show x::l=[x]++l from rfl,cAq]
  show l.count a+[x].count a=_;lia
 |x::l,j+1,h=>by
  have ih:=G5 a (l:=l) (j:=j) (by simpa using h)
  rw[cx,show x::l.eraseIdx j=[x]++l.eraseIdx j from rfl,show (x::l).getD (j+1) 0=l.getD j 0 from rfl,show x::l=[x]++l from rfl,cAq,cAq]
  lia
def NZ(a c x:Int):[Xk c x].count a+[-(Xk c x)].count a=[x, -x].count a:=by
 rw[show [x, -x]=[x]++[-x] from rfl,cAq]
 unfold Xk;split
 .rw [hV];lia
 .rfl
structure UB (nm:List Int) (w:Wd) (n:Nat):Prop where
 hh:w.h<w.last.length
 ht:∀k∈w.t0,k<w.last.length
 us:w.used<=n
 lP:w.P0.length<=n
 lt:w.t0.length<=n
 tl:w.P0.flatten.length+w.last.length<=n+1
 cnt:∀a,w.P0.flatten.flatten.count a+w.last.flatten.count a+w.left.count a=(BW nm w.used).count a
def UB.perm{nm:List Int}{w:Wd}{n:Nat}(h:UB nm w n):(w.P0.flatten.flatten++w.last.flatten++w.left).Perm (BW nm w.used):=by
 rw[gF];intro a;rw[cAq,cAq];exact h.cnt a
def UB.len{nm:List Int}{w:Wd}{n:Nat}(h:UB nm w n) (hu:w.used<=nm.length):w.last.flatten.length+w.left.length<=2*n:=by
 have:=h.perm.length_eq;rw[FU hu,lAq,lAq]at this;have:=h.us;lia
def N8{l:List (List Int)}{h:Nat}{r:List Int}(e:l[h]?=some r):r.length<=l.flatten.length:=eW.length_le (bj (mGq e))
def UB.step{nm:List Int}{w:Wd}{n:Nat}(h:UB nm w n) (hu:w.used<nm.length) (c:Int):UB nm (D1 nm w c) (n+1):=by
 obtain⟨P0,last,t0,hd,left,used⟩:=w;obtain⟨hh,ht,us,lP,lt,tl,cnt⟩:=h;simp only at hh ht us lP lt tl cnt hu;have hr:last[hd]?=some (last.getD hd []):=by rw[gDq,gEg hh];rfl
 have hx:nm[used]?=some (nm.getD used 0):=by rw[gDq,gEg hu];rfl
 unfold D1;simp only;split
 .split
  .refine ⟨?_,?_,?_,?_,?_,?_,λa=>?_⟩
   .simp only [lZq];exact hh
   .simp only [lZq];exact ht
   .simp only;lia
   .simp only;lia
   .simp only;lia
   .simp only [lZq];lia
   .simp only;rw[Bn a hr,DU hx,cAq,cAq,←cnt a,←NZ a c (nm.getD used 0)];lia
  .refine ⟨?_,?_,?_,?_,?_,?_,λa=>?_⟩
   .simp only [lAq,lZq,lSq];lia
   .intro k hk;simp only[lAq,lZq,lSq];rcases mAq.mp hk with q|q
    .have:=ht k q;lia
    .rw [mSq.mp q];lia
   .simp only;lia
   .simp only;lia
   .simp only [lAq,lSq];lia
   .simp only [lAq,lZq,lSq];lia
   .simp only;rw[fAq,cAq,aO,Bn a hr,DU hx,cAq,←cnt a,←NZ a c (nm.getD used 0)];lia
 .split
  .split
   .exact ⟨hh,ht,by simp only;lia,by simp only;lia,by simp only;lia,by simp only;lia,cnt⟩
   .rename_i hne;have hpos:0<left.length:=dG.mpr hne;have hlt:(c / 16 % (left.length:Int)).toNat<left.length:=by
     have b0:0<=c / 16 % (left.length:Int):=bA _ (by lia)
     have b1:c / 16 % (left.length:Int)<(left.length:Int):=bq _ (by lia)
     lia
    refine⟨?_,?_,?_,?_,?_,?_,λa=>?_⟩
    .simp only [lZq];exact hh
    .simp only [lZq];exact ht
    .simp only;lia
    .simp only;lia
    .simp only;lia
    .simp only [lZq];lia
    .simp only;have:=G5 a hlt;rw[Bn a hr,←cnt a];lia
  .split
   .split
    .exact ⟨hh,ht,by simp only;lia,by simp only;lia,by simp only;lia,by simp only;lia,cnt⟩
    .rename_i h' hl;refine⟨ht h' (List.mem_of_getLast? hl),λk hk=>ht k (List.dropLast_subset _ hk),by simp only;lia,by simp only;lia,?_,by simp only;lia,cnt⟩
     simp only[gj];lia
   .refine ⟨?_,?_,?_,?_,?_,?_,λa=>?_⟩
    .simp
    .intro k hk;cases hk
    .simp only;lia
    .simp only [lAq,lSq];lia
    .simp
    .simp only [fAq,lAq,aO,lZq,lSq];lia
    .simp only;rw[fAq,fAq,aO,cAq,Bn a hr,←cnt a];simp;lia
def Pc{nm:List Int}{w:Wd}{n:Nat}{c:Int}{v0 v7 v8 v9:Option AV}(h:UB nm w n) (hn:n<1000) (hu:w.used<nm.length):∃v7' v8' v9',sO (st v0 (some (.sh (dI nm))) w (some (.sh (.int c))) v7 v8 v9)=some (.nx (st v0 (some (.sh (dI nm))) (D1 nm w c) (some (.sh (.int c))) v7' v8' v9')):=by
 have hlen:=h.len (bC hu);obtain⟨P0,last,t0,hd,left,used⟩:=w;obtain⟨hh,ht,us,lP,lt,tl,cnt⟩:=h;simp only at hh ht us lP lt tl cnt hu hlen;have hr:last[hd]?=some (last.getD hd []):=by rw[gDq,gEg hh];rfl
 have hrl:=N8 hr;have pre:=Tv (P0:=P0) (t0:=t0) (left:=left) (c:=c) (v0:=v0) (v7:=v7) (v8:=v8) (v9:=v9) hh hr hu;refine⟨some (.sh (.int (c % 8))),none,some (.sh (.int (Xk c (nm.getD used 0)))),?_⟩;rw[pre];unfold D1;simp only
 by_cases h4:c % 8<4
 .rw [oJ h4]
  by_cases h2:c % 8<2
  .rw [oJ h2];exact abO hh hr (by lia) (by lia) h4 h2
  .rw [oO h2];exact abN hh hr (by lia) (by lia) (by lia) h4 h2
 .rw [oO h4]
  by_cases h6:c % 8<6
  .rw [oJ h6]
   by_cases hl:left=[]
   .subst hl;rw[oJ rfl];exact acB hr h4 h6
   .rw [oO hl];exact abL hr (by lia) (by lia) hl h4 h6
  .rw [oO h6]
   by_cases h66:c % 8=6
   .rw [oJ h66];rcases List.eq_nil_or_concat t0 with rfl|⟨t,h',rfl⟩
    .exact abi hr h66
    .rw [List.concat_eq_append,List.getLast?_append];simp only[List.getLast?_singleton,Option.some_or,gu];exact aa7 hr h66
   .rw [oO h66];exact adI hr (by lia) (by lia) h4 h6 h66
end K12
--ZQ3 --ZQ4 --ZQ5 --ZQ6 --ZQ8 --ZQ9 --ZQB --ZQC --ZQD --ZQE
namespace K12
open PySem L2 Mr Z Xe Zl
def w0:Wd:=⟨[],[[]],[],0,[],0⟩
def Xu(nm:List Int):UB nm w0 0:=⟨by decide,(λk h=>by cases h),af _,af _,af _,by decide,λa=>by simp[w0,BW]⟩
theorem Fu{nm:List Int}:∀(cs:List Int) {w:Wd}{n:Nat},UB nm w n->n+cs.length<=nm.length->UB nm (cs.foldl (D1 nm) w) (n+cs.length)
 | [],w,n,h,_=>h
 |c::cs,w,n,h,hl=>by
  rw[lCq]at hl;have h1:=h.step (by have:=h.us;lia) c
  have:=Fu cs h1 (by lia)
  rw[eU,lCq,show n+(cs.length+1)=n+1+cs.length by lia]
  exact this
def LA{nm cs:List Int}{v6 v7 v8 v9:Option AV}(hc:cs.length<=63) (hn:nm.length=66):∃v6' v7' v8' v9',tN 6 sO (cs.map D.int) (st (some (.sh (dI cs))) (some (.sh (dI nm))) w0 v6 v7 v8 v9)=some (.nx (st (some (.sh (dI cs))) (some (.sh (dI nm))) (cs.foldl (D1 nm) w0) v6' v7' v8' v9')):=by
 have key:=Ae (x:=6) (body:=sO) (λi S=>∃v6 v7 v8 v9,S=st (some (.sh (dI cs))) (some (.sh (dI nm))) ((cs.take i).foldl (D1 nm) w0) v6 v7 v8 v9) (ds:=cs.map D.int) (S:=st (some (.sh (dI cs))) (some (.sh (dI nm))) w0 v6 v7 v8 v9) ⟨v6,v7,v8,v9,rfl⟩ (by
  rintro i d S hd ⟨v6,v7,v8,v9,rfl⟩;rw[gMq]at hd;obtain⟨c,hc',rfl⟩:=oMq.mp hd;have hi:i<cs.length:=(gSq.mp hc').1;have ok:=Fu (nm:=nm) (cs.take i) (Xu nm) (by rw[lTq];lia)
  rw[lTq]at ok;obtain⟨v7',v8',v9',e⟩:=Pc (c:=c) (v0:=some (.sh (dI cs))) (v7:=v7) (v8:=v8) (v9:=v9) ok (by lia) (by have:=ok.us;lia)
  refine⟨_,e,some (.sh (.int c)),v7',v8',v9',?_⟩;rw[Qj hc'])
 obtain⟨S',e,v6',v7',v8',v9',rfl⟩:=key;rw[lMq,br]at e;exact⟨v6',v7',v8',v9',e⟩
def Ur{nm cs:List Int}(hc:cs.length<=63) (hn:nm.length=66):∃(P:List (List (List Int))) (used:Nat),wR [dI cs,dI nm]=some (.ow (P.map aP))/\P.flatten.flatten.Perm (BW nm used)/\used<=63/\P.flatten.length<=64/\P.length<=64:=by
 obtain⟨v6,v7,v8,v9,e⟩:=LA (v6:=none) (v7:=none) (v8:=none) (v9:=none) hc hn;have ok:=Fu (nm:=nm) cs (Xu nm) (by lia)
 rw[cR]at ok;generalize cs.foldl (D1 nm) w0=w at e ok;have hlen:=ok.len (by have:=ok.us;lia)
 have hpm:=ok.perm;obtain⟨P0,last,t0,hd,left,used⟩:=w;obtain⟨hh,ht,us,lP,lt,tl,cnt⟩:=ok;simp only at hh ht us lP lt tl cnt hlen hpm;have hr:last[hd]?=some (last.getD hd []):=by rw[gDq,gEg hh];rfl
 have hrl:=N8 hr;generalize last.getD hd []=r at hr hrl;have n2:=Dc (P0:=P0) hr;have n1:=TZ (P0:=P0) (last:=last);have lenP:(P0++[last]).length=P0.length+1:=by simp
 have iP:=Fb P0.length;have iL:Hk last.length (hd:Int)=some hd:=HC hh;have at3:atI ((cN (t0++[hd])).map D.int) (-1)=some (.int (hd:Int)):=by
  unfold cN;rw[mBq,mBq];exact Gh _ _
 have UV:=oS (cN (t0++[hd]));have p2:=TU (P0:=P0) (r':=r++left) hr;have a1:=Om r left;have a1':(r.map λn=>AV.sh (.int n))++(left.map λn=>AV.sh (.int n))=(r++left).map λn=>.sh (.int n):=mBq.symm
 have l1:r.length+left.length<=qP:=by show _<=16777216;lia
 have e':tN 6 sO (cs.map D.int) [some (.sh (dI cs)),some (.sh (dI nm)),some (.ow [.ow [.ow []]]),some (.ow [.sh (.int 0)]),some (.ow []),some (.sh (.int 0)),none,none,none,none]=some (.nx [some (.sh (dI cs)),some (.sh (dI nm)),some (.ow ((P0++[last]).map aP)),some (aI (cN (t0++[hd]))),some (aI left),some (.sh (.int (used:Int))),v6,v7,v8,v9]):=e;refine⟨P0++[last.set hd (r++left)],used,?_,?_,by lia,?_,?_⟩
 .simp_arith [wR,FO,e',lenP,iP,n1,n2,iL,UV,dI,at3,l1,a1,a1',p2]
 .rw [gF];intro a;rw[fAq,fAq,aO,cAq,Bn a hr,←cnt a];lia
 .rw [fAq,aO,lAq,lZq];lia
 .rw [lAq,lSq];lia
end K12
--ZQ3 --ZQ4 --ZQ5 --ZQ6 --ZQ8 --ZQ9 --ZQB --ZQC --ZQD --ZQE
namespace K12
open PySem L2 Mr Z Xe Zl
def nmk(st sh a b k:Int):Int:=st*((a*k+b) % 67+1)+sh
def W7(st sh a b:Int):List Int:=(bu 66).map λk:Nat=>nmk st sh a b k
def Gc{st sh a b:Int}(h1:1<=a) (h2:a<=66):qO rY (kSc (oR zb (oR HR (nA 2) (oR zb (oR um (oR zb (oR HR (nA 4) (nA 0)) (nA 3)) (rC (.int 67))) (rC (.int 1)))) (nA 1))) [some (.sh (.int sh)),some (.sh (.int st)),some (.sh (.int b)),some (.sh (.int a))] (pZ 0 66)=some ((W7 st sh a b).map λz=>.sh (.int z)):=by
 have key:=uZ (te:=kSc (oR zb (oR HR (nA 2) (oR zb (oR um (oR zb (oR HR (nA 4) (nA 0)) (nA 3)) (rC (.int 67))) (rC (.int 1)))) (nA 1))) (cap:=[some (.sh (.int sh)),some (.sh (.int st)),some (.sh (.int b)),some (.sh (.int a))])
  (λd=>match d with|.int k=>.sh (.int (nmk st sh a b k))|_=>.sh .non) (ds:=pZ 0 66) (by
  intro d hd;rw[D3]at hd;obtain⟨k,_,rfl⟩:=mMq.mp hd;have b1:0<=(a*(k:Int)+b) % 67:=bA _ (by decide)
  have b2:(a*(k:Int)+b) % 67<67:=bq _ (by decide)
  have c1:=acu (i:=a) (j:=(k:Int)) (by lia) (by lia)
  have c2:=aa5 (i:=st) (j:=(a*(k:Int)+b) % 67+1) (by lia) (by lia)
  have m67:=λi:Int=>zR (i:=i) (j:=67) (by decide)
  refine⟨[some (.sh (.int (k:Int))),some (.sh (.int sh)),some (.sh (.int st)),some (.sh (.int b)),some (.sh (.int a))],?_⟩
  simp_arith [c1,c2,m67,nmk])
 rw[key,D3,mPq];unfold W7;rw[mPq];rfl
def T5(ns:List Int):∃st sh a b:Int,1<=st/\st<=10 ^ 58/\0<=sh/\sh<10 ^ 58/\1<=a/\a<=66/\vO [.scr ns]=some (aI (W7 st sh a b)):=by
 have a1:0<=cell ns 0 / 3 % 66:=bA _ (by decide)
 have a2:cell ns 0 / 3 % 66<66:=bq _ (by decide)
 have s1:0<=cell ns 1 % 10 ^ 58:=bA _ (by decide)
 have s2:cell ns 1 % 10 ^ 58<10 ^ 58:=bq _ (by decide)
 have s3:0<=cell ns 2 % 10 ^ 58:=bA _ (by decide)
 have s4:cell ns 2 % 10 ^ 58<10 ^ 58:=bq _ (by decide)
 have m3:=λi:Int=>zR (i:=i) (j:=3) (by decide)
 have m66:=λi:Int=>zR (i:=i) (j:=66) (by decide)
 have m67:=λi:Int=>zR (i:=i) (j:=67) (by decide)
 have m58:=λi:Int=>zR (i:=i) (j:=10 ^ 58) (by decide)
 have d3:=λi:Int=>zA (i:=i) (j:=3) (by decide) (by decide)
 have d198:=λi:Int=>zA (i:=i) (j:=198) (by decide) (by decide)
 have r66:GK [.int 66]=some (pZ 0 66):=Bd (n:=66) (by decide)
 have l66:(pZ 0 66).length<=qP:=by rw[rN];show 66<=16777216;decide
 by_cases h0:0<cell ns 0 % 3
 .refine ⟨1+cell ns 1 % 10 ^ 58,cell ns 2 % 10 ^ 58,1+cell ns 0 / 3 % 66,cell ns 0 / 198 % 67,by lia,by lia,s3,s4,by lia,by lia,?_⟩
  have rc:=Gc (st:=1+cell ns 1 % 10 ^ 58) (sh:=cell ns 2 % 10 ^ 58) (a:=1+cell ns 0 / 3 % 66) (b:=cell ns 0 / 198 % 67) (by lia) (by lia)
  simp_arith [vO,Ci,Xh,abo,acG,h0,m3,m66,m67,m58,d3,d198,p58,r66,l66,rc]
 .refine ⟨1,0,1+cell ns 0 / 3 % 66,cell ns 0 / 198 % 67,by decide,by decide,by decide,by decide,by lia,by lia,?_⟩
  have rc:=Gc (st:=1) (sh:=0) (a:=1+cell ns 0 / 3 % 66) (b:=cell ns 0 / 198 % 67) (by lia) (by lia)
  simp_arith [vO,Ci,Xh,h0,m3,m66,m67,d3,d198,r66,l66,rc]
def Wg{st sh a b:Int}(h1:1<=st) (h2:1<=a) (h3:a<=66) {j k:Nat}(hj:j<67) (hk:k<67) (h:nmk st sh a b j=nmk st sh a b k):j=k:=by
 unfold nmk at h;have e1:st*((a*j+b) % 67+1)=st*((a*k+b) % 67+1):=by lia
 have e2:=Int.eq_of_mul_eq_mul_left (by lia) e1
 have e3:((a*j+b)-(a*k+b)) % 67=0:=Int.emod_eq_emod_iff_emod_sub_eq_zero.mp (by lia)
 have e4:(a*((j:Int)-k)) % 67=0:=by
  rw[←e3];congr 1;rw[Int.mul_sub];lia
 obtain⟨tn,rfl⟩:∃tn:Nat,a=(tn:Int)+1:=⟨(a-1).toNat,by lia⟩
 rcases gP j k with q|q|q
 .exfalso;refine Mr.Na ⟨tn,by lia⟩ ⟨k-j,by lia⟩ (by show 0<k-j;lia) ?_
  show (tn+1)*(k-j) % 67=0;have e5:(((tn:Int)+1)*((k:Int)-j)) % 67=0:=by
   have:((tn:Int)+1)*((k:Int)-j) = -(((tn:Int)+1)*((j:Int)-k)):=by
    rw[←Int.mul_neg];congr 1;lia
   rw[this];lia
  have e6:(((tn+1)*(k-j) % 67:Nat):Int)=0:=by
   rw[←e5];push_cast [bC q];rfl
  lia
 .exact q
 .exfalso;refine Mr.Na ⟨tn,by lia⟩ ⟨j-k,by lia⟩ (by show 0<j-k;lia) ?_
  show (tn+1)*(j-k) % 67=0;have e6:(((tn+1)*(j-k) % 67:Nat):Int)=0:=by
   rw[←e4];push_cast [bC q];rfl
  lia
structure Nm (nm:List Int):Prop where
 len:nm.length=66
 nd:nm.Nodup
 lo:∀x∈nm,1<=x
 hi:∀x∈nm,x<10 ^ 60
def X1{st sh a b:Int}(h1:1<=st) (h1':st<=10 ^ 58) (h2:0<=sh) (h2':sh<10 ^ 58) (h3:1<=a) (h4:a<=66):Nm (W7 st sh a b):=by
 have key:∀x∈W7 st sh a b,1<=x/\x<10 ^ 60:=λx h=>by
  obtain⟨k,_,rfl⟩:=mMq.mp h;have b1:0<=(a*(k:Int)+b) % 67:=bA _ (by decide)
  have b2:(a*(k:Int)+b) % 67<67:=bq _ (by decide)
  have l1:1*1<=st*((a*(k:Int)+b) % 67+1):=ip h1 (by lia) (by decide) (by lia)
  have l2:st*((a*(k:Int)+b) % 67+1)<=10 ^ 58*67:=ip h1' (by lia) (by lia) (by decide)
  show 1<=st*((a*(k:Int)+b) % 67+1)+sh/\st*((a*(k:Int)+b) % 67+1)+sh<10 ^ 60;lia
 refine⟨by unfold W7;rw[lMq,ba],?_,λx h=>(key x h).1,λx h=>(key x h).2⟩
 unfold W7;rw[aY,bI];refine bf.imp_of_mem (λ{x y} hx hy hne e=>hne (Wg h1 h3 h4 (by have:=bW.mp hx;lia) (by have:=bW.mp hy;lia) e)) (aY.mp List.nodup_range)
def E9{nm:List Int}{k:Nat}{z:Int}:z∈BW nm k↔∃x∈nm.take k,z=x∨z = -x:=by
 unfold BW;rw[fF];simp
theorem E2:∀{l:List Int},l.Nodup->(∀x∈l,1<=x)->(l.flatMap λx=>[x, -x]).Nodup
 | [],_,_=>aT
 |x::l,hn,hp=>by
  have hn':=aK.mp hn;have px:=hp x (bo ..);rw[fv,nAq];refine⟨?_,E2 hn'.2 λy hy=>hp y (mCo _ hy),λa ha b hb e=>?_⟩
  .rw [aK];refine⟨?_,by simp⟩
   rw[mSq];lia
  .subst e;obtain⟨y,hy,q⟩:=fF.mp hb;have py:=hp y (mCo _ hy);simp at ha q;have:y=x:=by lia
   exact hn'.1 (this ▸ hy)
def LX{nm:List Int}(h:Nm nm) (k:Nat):(BW nm k).Nodup:=E2 (h.nd.sublist (aW ..)) λx hx=>h.lo x (aU hx)
def S8{nm:List Int}{k:Nat}{z:Int}(h:z∈BW nm k):-z∈BW nm k:=by
 obtain⟨x,hx,q⟩:=E9.mp h;refine E9.mpr ⟨x,hx,?_⟩;lia
end K12
--ZQ3 --ZQ4 --ZQ5 --ZQ6 --ZQ8 --ZQ9
namespace K51
open PySem L2 Mr Z Xe Zl
def rd(st sh a b k:Int):Int:=st*(1+(a*k+b) % 67)+sh
end K51
--ZQ3 --ZQ4 --ZQ5 --ZQ6 --ZQ8 --ZQ9
namespace K51
open PySem L2 Mr Z Xe Zl
end K51
--ZQ3 --ZQ4 --ZQ5 --ZQ6 --ZQ8 --ZQ9
namespace K51
open PySem L2 Mr Z Xe Zl
end K51
--ZQ3 --ZQ4 --ZQ5 --ZQ6 --ZQ8 --ZQ9
namespace K51
open PySem L2 Mr Z Xe Zl
noncomputable def kd(ks:List Nat):List (pN×D):=ks.map λk:Nat=>((bx (k:Int):pN),D.bl true)
end K51
--ZQ3 --ZQ4 --ZQ5 --ZQ6 --ZQ8 --ZQ9
namespace K51
open PySem L2 Mr Z Xe Zl
noncomputable def plc(rs:List (List Int)) (e:Int):Nat:=rs.findIdx λr=>decide (e∈r)
structure Mp (rs:List (List Int)):Prop where
 hn:rs.flatten.Nodup
 hl:rs.flatten.length<=1000
 hr:rs.length<=1000
 hneg:∀e∈rs.flatten, -e∈rs.flatten
inductive Rch (rs:List (List Int)) (s:Nat):Nat->Prop
 |base:Rch rs s s
 |step {k:Nat}{r:List Int}{e:Int}:Rch rs s k->rs[k]?=some r->e∈r->Rch rs s (plc rs (-e))
structure Inv (rs:List (List Int)) (s:Nat) (ks ws:List Nat):Prop where
 nd:ks.Nodup
 lt:∀k∈ks,k<rs.length
 st:s∈ks
 rc:∀k∈ks,Rch rs s k
 sub:∀w∈ws,w∈ks
 cl:∀k∈ks,k∉ws->∀r e,rs[k]?=some r->e∈r->plc rs (-e)∈ks
 few:2*(rs.length-ks.length)+ws.length<=2*rs.length+1
noncomputable def mu(N:Nat):AS->Nat
 | [_,_,_,some (.owd kv),some (.ow w),_,_,_]=>2*(N-kv.length)+w.length
 |_=>0
end K51
--ZQ3 --ZQ4 --ZQ5 --ZQ6 --ZQ8 --ZQ9
namespace K51
open PySem L2 Mr Z Xe Zl
end K51
--ZQ3 --ZQ4 --ZQ5 --ZQ6 --ZQ8 --ZQ9 --ZQB --ZQC --ZQD --ZQE
namespace K12
open PySem L2 Mr Z Xe Zl
structure Pt (P:List (List (List Int))):Prop where
 nd:P.flatten.flatten.Nodup
 ng:∀z∈P.flatten.flatten, -z∈P.flatten.flatten
 nz:∀z∈P.flatten.flatten,z≠0/\-(10 ^ 60)<z/\z<10 ^ 60
 le:P.flatten.flatten.length<=126
 lt:P.flatten.length<=64
 lp:P.length<=64
def abu{nm:List Int}(hm:Nm nm) {P:List (List (List Int))}{u:Nat}(hp:P.flatten.flatten.Perm (BW nm u)) (hu:u<=63) (h1:P.flatten.length<=64) (h2:P.length<=64):Pt P:=by
 refine⟨hp.symm.nodup (LX hm u),λz hz=>hp.mem_iff.mpr (S8 (hp.mem_iff.mp hz)),λz hz=>?_,?_,h1,h2⟩
 .obtain ⟨x,hx,q⟩:=E9.mp (hp.mem_iff.mp hz);have l:=hm.lo x (aU hx);have h:=hm.hi x (aU hx);lia
 .rw [hp.length_eq,FU (by rw[hm.len];lia)]
  lia
end K12
--ZQ3 --ZQ4 --ZQ5 --ZQ6 --ZQ8 --ZQ9 --ZQB --ZQC --ZQD --ZQE
namespace K12
open PySem L2 Mr Z Xe Zl
def Dz(rs:List (List Int)):qO rY (De (uG 0)) [] (rs.map dI)=some (rs.map aI):=by
 rw[Z.uZ λd=>aI (Am d)]
 .rw [An aI]
 .intro d hd;obtain⟨r,hr,rfl⟩:=zK hd;refine⟨[some (.sh (dI r))],?_⟩
  simp_arith [uC]
def JU{α:Type}(xs:List α) (i:Nat):wz xs (some (i:Int)) none=xs.drop i:=by
 unfold wz;rw[HT.Bf,HT.CO,bg (by rw[au];exact af _)]
 by_cases h:i<=xs.length
 .rw [dr h]
 .rw [eO (by lia),cH (af _),cH (by lia)]
def Lu{α:Type}(xs:List α) (i:Nat):wz xs none (some (i:Int))=xs.take i:=by
 by_cases h:i<=xs.length
 .exact Ez xs i h
 .unfold wz;rw[HT.Bf,HT.CO,eO (by lia),df,gJ,bg (af _),bg (by lia)]
def tl:MS:=(nS (oj 5 (rQ (xJ (nI 3)) [] rY (rQ (xJ (nI 0)) [] rY (De (uG 0)))))
 (nS (oj 6 (oi (okX K13.Fk) (nv (nI 5) nP)))
 (nS (uT (Eg (rE (qH (pK K13.oE (nu (nA 6) (nu (nA 2) nQ))))) (rE (qH (pK K13.oE (nu (nA 5) (nu (nA 3) nQ)))))) (pJ (kSc (rC (.bl false)))) oH)
 (nS (YJ 6 7 (.int 7))
 (nS (yP 6 (qc (nv (kSc (rC (.int 8))) nP)))
 (nS (uT (Eg (rE (qH (pK K13.oE (nu (nA 5) (nu (nA 3) nQ))))) (rE (qH (pK K13.oE (nu (rOf (oi (okX K13.Fk) (nv (nI 5) nP))) (nu (nA 2) nQ)))))) (pJ (kSc (rC (.bl false)))) oH)
 (pJ (kSc (pK K13.oE (nu (rOf (oi (okX K13.Fk) (nv (oi K51.Rn (nv (rQ (xJ (nI 2)) [] rY (De (uG 0))) nP)) nP))) (nu (nA 2) nQ)))))))))))
end K12
--ZQ3 --ZQ4 --ZQ5 --ZQ6 --ZQ8 --ZQ9 --ZQB --ZQC --ZQD --ZQE --ZQF
namespace K23
open PySem L2 Mr Z Xe Zl
def uns:under "NotThere" "TooMany" = false/\under "NotThere" "Taken" = false/\under "NotThere" "NoPlace" = false/\under "TooMany" "NotThere" = false/\under "TooMany" "Taken" = false/\under "TooMany" "NoPlace" = false:=by decide +kernel
def Ln(z:Int):qp [.exc "NotThere" [("end", z)]]=some (.ow [.sh (.tup [.str "there", .int z])]):=by
 have l0:0<qP:=by decide
 simp_arith [qp,yQ,uns,fA,l0]
def PV:qp [.exc "TooMany" []]=some (.ow [.sh (.tup [.str "many", .int 0])]):=by
 have l0:0<qP:=by decide
 simp_arith [qp,yQ,uns,fA,l0]
abbrev cz(z:Int):D:=.ins "Cut" [("road", .int z)]
def ad1(z:Int):yr "Cut" "road" (cz z)=some (.int z):=by rfl
def in3(z:Int):GG "Cut" "told" (.sh (cz z))=some (cz z):=by rfl
noncomputable def IY(z:Int) (t:List Int):List Int:=t.filter λe=>!decide (e∈[z, -z])
def Vr(t:List Int) (p:Int->Bool):((t.map D.int).filter λd=>match d with|.int e=>p e|_=>false).map (λd=>AV.sh d)=(t.filter p).map λn=>.sh (.int n):=by
 rw[dQ,mPq];rfl
def X3(z:Int) (t:List Int):qO (Cq (qH (oR G2 (nA 0) (nA 1))) (qH (oR G2 (nA 0) (wx uj (nA 1))))) (nI 0) [some (.sh (.int z))] (t.map D.int)=some ((IY z t).map λn=>.sh (.int n)):=by
 rw[Z.tY (λd=>match d with|.int e=>!decide (e∈[z, -z])|_=>false) (λd=>.sh d)]
 .rw [Vr];rfl
 .intro d hd;obtain⟨e,_,rfl⟩:=mMq.mp hd;refine⟨[some (.sh (.int e)),some (.sh (.int z))],?_,λ_=>⟨[some (.sh (.int e)),some (.sh (.int z))],?_⟩⟩
  .by_cases h1:e=z
   .have h3:(!decide (e∈[z, -z]))=false:=by simp[h1]
    simp_arith [h1,ne_eq,not_true,h3] <;> simp
   .have h2:(!decide (e∈[z, -z])) = !decide (e = -z):=by simp[h1]
    simp_arith [h1,ne_eq,not_false_eq_true,h2] <;> simp
  .simp_arith []
def QD(z:Int) {rs:List (List Int)}(hr:∀r∈rs,r.length<=1000):qO rY (rQ (xJ (nI 0)) [1] (Cq (qH (oR G2 (nA 0) (nA 1))) (qH (oR G2 (nA 0) (wx uj (nA 1))))) (nI 0)) [some (.sh (.int z))] (rs.map dI)=some ((rs.map (IY z)).map aI):=by
 rw[Z.uZ λd=>aI (IY z (Am d))]
 .rw [An λr=>aI (IY z r),mPq]
  rfl
 .intro d hd;obtain⟨r,hr',rfl⟩:=zK hd;have h:=X3 z r;have hl:r.length<=qP:=rP (by have:=hr r hr';lia)
  refine⟨[some (.sh (dI r)),some (.sh (.int z))],?_⟩;rw[uC]
  simp_arith [dI,h,hl]
def C(z:Int) (rs:List (List Int)):List (List Int):=rs.map (IY z)
noncomputable def vZ(w:Str) (z:Int):AV:=.ow [.sh (.str "refused"),.ow [.sh (.tup [.str w,.int z])]]
def Dw(G:List (List Int)):AV:=.ow [.sh (.str "map"),.ow (G.map aI)]
section
variable {rs:List (List Int)}{z:Int}
def YW:(C z rs).flatten=IY z rs.flatten:=by
 unfold C IY;rw[List.filter_flatten]
end
end K23
--ZQ3 --ZQ4 --ZQ5 --ZQ6 --ZQ8 --ZQ9 --ZQB --ZQC --ZQD --ZQE --ZQF --ZQG
namespace K21
open PySem L2 Mr Z Xe Zl
open K23 (vZ Dw)
def plain:Nat->D->Prop
 |0,_=>False
 |_+1,.int _=>True
 |_+1,.str _=>True
 |_+1,.non=>True
 |n+1,.list ds=>ds.length<1000000/\∀d∈ds,plain n d
 |n+1,.tup ds=>ds.length<1000000/\∀d∈ds,plain n d
 |_+1,_=>False
noncomputable def sp(n s:Int) (t:List Int):List Int:=if s∈t then t.take (t.idxOf s+1)++n::t.drop (t.idxOf s+1) else t
def UR(n s:Int) (t:List Int):AV:=if s∈t then aI (sp n s t) else .sh (dI t)
def ZG(n s:Int) (t:List Int):nR (UR n s t)=dI (sp n s t):=by
 unfold UR sp;split
 .rw [oS]
 .rw [uc]
def Kc{r:List Int}{e:Int}(he:e∈r):zi (.list (r.map D.int)) [.int e]=some (.int (r.idxOf e:Nat)):=by
 show (sV (r.map D.int)).bind _=_;rw[tW];show (if _ then _ else _)=_
 rw[oJ he]
def Ou{t:List Int}(ht:t.length<=1000) (n s:Int):xB [dI t,.int n,.int s]=some (UR n s t):=by
 by_cases h:s∈t
 .have d0:decide (s∈t)=true:=decide_eq_true h;have ix:=Kc h;have c1:wz t none (some ((t.idxOf s:Int)+1))=t.take (t.idxOf s+1):=K12.Lu t (t.idxOf s+1);have c2:wz t (some ((t.idxOf s:Int)+1)) none=t.drop (t.idxOf s+1):=K12.JU t (t.idxOf s+1);have l1:(t.take (t.idxOf s+1)).length+1<=qP:=rP (by rw[lTq];lia)
  have l2:(t.take (t.idxOf s+1)++[n]).length+(t.drop (t.idxOf s+1)).length<=qP:=rP (by rw[lAq,lTq,au,lSq];lia)
  have q1:(t.take (t.idxOf s+1)).map D.int++[D.int n]=(t.take (t.idxOf s+1)++[n]).map D.int:=by rw[mBq];rfl
  have q2:(t.take (t.idxOf s+1)++[n])++t.drop (t.idxOf s+1)=sp n s t:=by unfold sp;rw[oJ h,ar];rfl
  unfold UR;rw[oJ h]
  simp_arith [xB,DO,dI,d0,ix,tq,c1,c2,l1,q1,l2,←mBq,q2,CU]
 .have d0:decide (s∈t)=false:=decide_eq_false h;unfold UR;rw[oO h]
  simp_arith [xB,DO,dI,d0]
def Kq{rs:List (List Int)}(hr:∀r∈rs,r.length<=1000) (n s:Int):qO rY (oi xB (nv (nI 0) (nv (nI 1) (nv (nI 2) nP)))) [some (.sh (.int n)),some (.sh (.int s))] (rs.map dI)=some (rs.map (UR n s)):=by
 rw[Z.uZ λd=>UR n s (Am d)]
 .rw [An λr=>UR n s r]
 .intro d hd;obtain⟨r,hr',rfl⟩:=zK hd;refine⟨[some (.sh (dI r)),some (.sh (.int n)),some (.sh (.int s))],?_⟩
  simp_arith [Ou (hr r hr'),uC]
section
variable {rs:List (List Int)}{n:Int}
def GH(hf:rs.flatten.length<=1000) (hl:rs.length<=1000) (s:Int):uh [dM rs,.int n,.int s]=some (if s∈rs.flatten then .ok (.ow (rs.map (UR n s))) else .ex "NotThere" [("end", s)]):=by
 have ht:=zo (rs:=rs) (by lia)
 by_cases h:s∈rs.flatten
 .have d0:decide (s∈rs.flatten)=true:=decide_eq_true h;have bc:=Kq (rs:=rs) (λr hr=>by have:=AG hr;lia) n s
  have l1:rs.length<=qP:=rP (by lia)
  rw[oJ h]
  simp_arith [uh,ym,ht,d0,bc,l1]
 .have d0:decide (s∈rs.flatten)=false:=decide_eq_false h;rw[oO h]
  simp_arith [uh,ym,ht,d0]
def IP(hl:rs.length<=1000):uQ [dM rs,.int n]=some (if []∈rs then .ok (.ow ((rs.set (rs.idxOf []) [n]).map λr=>.sh (dI r))) else .ex "NoPlace" []):=by
 by_cases h:([]:List Int)∈rs
 .have d0:decide (([]:List Int)∈rs)=true:=decide_eq_true h;have hk:=bM.mpr h;have c1:wz rs none (some (rs.idxOf []:Int))=rs.take (rs.idxOf []):=K12.Lu rs (rs.idxOf []);have c2:wz rs (some ((rs.idxOf []:Int)+1)) none=rs.drop (rs.idxOf []+1):=K12.JU rs (rs.idxOf []+1);have l1:(rs.take (rs.idxOf [])).length+1<=qP:=rP (by rw[lTq];lia)
  have l2:(rs.take (rs.idxOf [])++[[n]]).length+(rs.drop (rs.idxOf []+1)).length<=qP:=rP (by rw[lAq,lTq,au,lSq];lia)
  have q1:(rs.take (rs.idxOf [])).map dI++[D.list [D.int n]]=(rs.take (rs.idxOf [])++[[n]]).map dI:=by rw[mBq];rfl
  have q2:(rs.take (rs.idxOf [])++[[n]])++rs.drop (rs.idxOf []+1)=rs.set (rs.idxOf []) [n]:=by rw[List.set_eq_take_append_cons_drop,oJ hk,ar];rfl
  rw[oJ h]
  simp_arith [uQ,zg,XS,d0,YN,h,tq,c1,c2,l1,q1,l2,←mBq,q2]
 .have d0:decide (([]:List Int)∈rs)=false:=decide_eq_false h;rw[oO h]
  simp_arith [uQ,zg,XS,d0]
end
noncomputable def pr:D->List Int->Bool
 | .non,r=>decide (r=[])
 | .int s,r=>decide (s∈r)
 |_,_=>false
def inr(n:Int):D->List Int->List Int
 | .int s,r=>sp n s r
 |_,r=>n::r
def IC(rs:List (List Int)) (n:Int) (d:D):Option (List (List Int)):=if rs.any (pr d)=true then some (rs.set (rs.findIdx (pr d)) (inr n d (rs.getD (rs.findIdx (pr d)) []))) else none
noncomputable def UJ:D->QU
 | .int s=>.ex "NotThere" [("end", s)]
 |_=>.ex "NoPlace" []
def vF(d:D):Prop:=d = .non∨∃s,d = .int s
section
variable {rs:List (List Int)}{n:Int}
def VM{p:List Int->Bool}{f:List Int->List Int}(h0:∀r,p r=false->f r=r) (hn:rs.Pairwise λa b=>¬ (p a=true/\p b=true)) (hex:rs.any p=true):rs.map f=rs.set (rs.findIdx p) (f (rs.getD (rs.findIdx p) [])):=by
 induction rs with
 |nil=>cases hex
 |cons r rs ih =>
  obtain⟨h1,h2⟩:=dW.mp hn;cases c:p r with
  |true =>
   rw[gS,c];show f r::rs.map f=f r::rs;congr 1;refine(mCq λs hs=>h0 s ?_).trans (fh _)
   cases d:p s with
   |true=>exact absurd ⟨c,d⟩ (h1 s hs)
   |false=>rfl
  |false =>
   rw[cU,c,ir]at hex;rw[gS,c];show f r::rs.map f=r::_;rw[h0 r c,ih h2 hex];rfl
def Wh(hn:rs.flatten.Nodup) (s:Int):rs.Pairwise λa b=>¬ (decide (s∈a)=true/\decide (s∈b)=true):=by
 induction rs with
 |nil=>exact .nil
 |cons r rs ih =>
  rw[fCq,nAq]at hn;refine dW.mpr ⟨λa ha q=>?_,ih hn.2.1⟩
  exact hn.2.2 s (of_decide_eq_true q.1) s (mFq.mpr ⟨a,ha,of_decide_eq_true q.2⟩) rfl
def IX(s:Int):rs.any (pr (.int s))=decide (s∈rs.flatten):=by
 rw[cg,bO,decide_eq_true_eq,mFq];exact⟨λ⟨r,h,q⟩=>⟨r,h,of_decide_eq_true q⟩,λ⟨r,h,q⟩=>⟨r,h,decide_eq_true q⟩⟩
def NK:rs.any (pr .non)=decide ([]∈rs):=by
 rw[cg,bO,decide_eq_true_eq];exact⟨λ⟨r,h,q⟩=>of_decide_eq_true q ▸ h,λh=>⟨[],h,rfl⟩⟩
def Vg:rs.findIdx (pr .non)=rs.idxOf []:=by
 unfold List.idxOf;congr 1;funext r;cases r <;> rfl
def FV(hn:rs.flatten.Nodup) (hf:rs.flatten.length<=1000) (hl:rs.length<=1000) {d:D}(hd:vF d):(∃rs' av,IC rs n d=some rs'/\nR av=dM rs'/\tE [dM rs,.int n,d]=some (.ok av))∨(IC rs n d=none/\tE [dM rs,.int n,d]=some (UJ d)):=by
 rcases hd with rfl|⟨s,rfl⟩
 .have pa:=IP (rs:=rs) (n:=n) hl;have n1:xH .non .non=some (.bl true):=rfl
  by_cases h:([]:List Int)∈rs
  .rw [oJ h]at pa;refine .inl ⟨rs.set (rs.idxOf []) [n],.ow ((rs.set (rs.idxOf []) [n]).map λr=>.sh (dI r)),?_,by rw[uX,NN],?_⟩
   .unfold IC;rw[NK,Vg,oJ (decide_eq_true h)];have hk:=bM.mpr h;have:rs.getD (rs.idxOf []) []=[]:=by rw[gDq,gEg hk,dU hk];rfl
    rw[this];rfl
   .simp_arith [tE,xf,n1,pa]
  .rw [oO h]at pa;refine .inr ⟨?_,?_⟩
   .unfold IC;rw[NK,oO (by simp[h])]
   .simp_arith [tE,xf,n1,pa,UJ]
 .have pb:=GH (rs:=rs) (n:=n) hf hl s;have n1:xH (.int s) .non=some (.bl false):=rfl
  by_cases h:s∈rs.flatten
  .rw [oJ h]at pb;refine .inl ⟨rs.map (sp n s),.ow (rs.map (UR n s)),?_,?_,?_⟩
   .unfold IC;rw[IX,oJ (decide_eq_true h)];congr 1;exact(VM (p:=pr (.int s)) (f:=sp n s) (λr q=>by unfold sp;rw[oO (of_decide_eq_false q)]) (Wh hn s) (by rw[IX];exact decide_eq_true h)).symm
   .rw [uX,mPq];show D.list _=D.list _;rw[mPq];congr 1;exact mCq λr _=>ZG n s r
   .simp_arith [tE,xf,n1,pb]
  .rw [oO h]at pb;refine .inr ⟨?_,?_⟩
   .unfold IC;rw[IX,oO (by simp[h])]
   .simp_arith [tE,xf,n1,pb,UJ]
def SZ{k:Nat}{r r':List Int}(hk:rs[k]?=some r) (h:r'.Perm (n::r)):(rs.set k r').flatten.Perm (n::rs.flatten):=by
 induction rs generalizing k with
 |nil=>cases hk
 |cons a rs ih =>
  cases k with
  |zero =>
   cases hk;exact(h.append_right _)
  |succ k =>
   have:=ih (k:=k) hk;show (a++(rs.set k r').flatten).Perm (n::(a++rs.flatten));exact(this.append_left a).trans eP
def U4{t:List Int}{s:Int}(h:s∈t):(sp n s t).Perm (n::t):=by
 unfold sp;rw[oJ h];exact eP.trans (by rw[aR])
def yI{rs':List (List Int)}{d:D}(hd:vF d) (h:IC rs n d=some rs'):rs'.flatten.Perm (n::rs.flatten)/\rs'.length=rs.length:=by
 unfold IC at h;split at h
 .rename_i hex;cases h;refine⟨?_,lZq⟩;obtain⟨r0,hr0,hp⟩:=bO.mp hex;have hk:rs.findIdx (pr d)<rs.length:=eI ⟨r0,hr0,hp⟩;have hg:=gv (xs:=rs) (p:=pr d) (w:=hk);have e:rs.getD (rs.findIdx (pr d)) []=rs[rs.findIdx (pr d)]:=by rw[gDq,gEg hk];rfl
  rw[e];refine SZ (gEg hk) ?_;rcases hd with rfl|⟨s,rfl⟩
  .exact .refl _
  .exact U4 (of_decide_eq_true hg)
 .cases h
def Oy(hf:rs.flatten.length<=1000) (hl:rs.length<=1000):K23.wO [dM rs]=some (if rs.flatten.length<=128/\bare rs<=128 then .ok (.ow ((yl (rs.map good)).map aI)) else .ex "TooMany" []):=by
 have h1:=XX (rs:=rs) (by lia)
 have h2:=yY (rs:=rs) (λr hr=>by have:=AG hr;lia) (rP (by lia))
 by_cases c:rs.flatten.length<=128/\bare rs<=128
 .rw [oJ c]at h1 ⊢
  simp_arith [K23.wO,K23.BX,h1,h2]
 .rw [oO c]at h1 ⊢
  simp_arith [K23.wO,K23.BX,h1]
end
end K21
--ZQ3 --ZQ4 --ZQ5 --ZQ6 --ZQ8 --ZQ9 --ZQB --ZQC --ZQD --ZQE --ZQF --ZQG
namespace K21
open PySem L2 Mr Z Xe Zl
open K23 (vZ Dw)
def wr(rs:List (List Int)) (z:Int) (d1 d2:D):QU:=if z∈rs.flatten then .ex "Taken" [("road", z)] else match IC rs z d1 with
 |none=>UJ d1
 |some r1=>match IC r1 (-z) d2 with
  |none=>UJ d2
  |some r2=>if r2.flatten.length<=128/\bare r2<=128 then .ok (.ow ((yl (r2.map good)).map aI)) else .ex "TooMany" []
def lEx:D->AV
 | .int s=>vZ "there" s
 |_=>vZ "place" 0
def lr(rs:List (List Int)) (z:Int) (d1 d2:D):AV:=if z∈rs.flatten then vZ "taken" z else match IC rs z d1 with
 |none=>lEx d1
 |some r1=>match IC r1 (-z) d2 with
  |none=>lEx d2
  |some r2=>if r2.flatten.length<=128 then Dw (yl (r2.map good)) else vZ "many" 0
section
variable {rs:List (List Int)}{n z:Int}{d d1 d2:D}
def Dg(hn:rs.flatten.Nodup) (hf:rs.flatten.length<=900) (hl:rs.length<=900) (h1:vF d1) (h2:vF d2):pD [dM rs,.int z,d1,d2]=some (wr rs z d1 d2):=by
 have ht:=zo (rs:=rs) (by lia)
 unfold wr
 by_cases h:z∈rs.flatten
 .have d0:decide (z∈rs.flatten)=true:=decide_eq_true h;rw[oJ h]
  simp_arith [pD,rH,ht,d0]
 .have d0:decide (z∈rs.flatten)=false:=decide_eq_false h;rw[oO h];rcases FV (n:=z) hn (by lia) (by lia) h1 with ⟨r1,av,p1,sv,e1⟩|⟨p1,e1⟩
  .obtain ⟨pm,ln⟩:=yI h1 p1;have hn1:r1.flatten.Nodup:=pm.nodup_iff.mpr (aK.mpr ⟨h,hn⟩);have hf1:r1.flatten.length=rs.flatten.length+1:=by rw[pm.length_eq];rfl
   simp only[p1];rcases FV (rs:=r1) (n:=-z) hn1 (by lia) (by lia) h2 with ⟨r2,av2,p2,sv2,e2⟩|⟨p2,e2⟩
   .obtain ⟨pm2,ln2⟩:=yI h2 p2;have hf2:r2.flatten.length=r1.flatten.length+1:=by rw[pm2.length_eq];rfl
    simp only[p2];have se:=Oy (rs:=r2) (by lia) (by lia)
    by_cases c:r2.flatten.length<=128/\bare r2<=128
    .rw [oJ c]at se ⊢
     simp_arith [pD,rH,ht,d0,e1,sv,Jc,e2,sv2,se]
    .rw [oO c]at se ⊢
     simp_arith [pD,rH,ht,d0,e1,sv,Jc,e2,sv2,se]
   .simp only [p2];rcases h2 with rfl|⟨s,rfl⟩
    .unfold UJ at e2 ⊢
     simp_arith [pD,rH,ht,d0,e1,sv,Jc,e2]
    .unfold UJ at e2 ⊢
     simp_arith [pD,rH,ht,d0,e1,sv,Jc,e2]
  .simp only [p1];rcases h1 with rfl|⟨s,rfl⟩
   .unfold UJ at e1 ⊢
    simp_arith [pD,rH,ht,d0,e1]
   .unfold UJ at e1 ⊢
    simp_arith [pD,rH,ht,d0,e1]
def Pd(d:D) (rs:List (List Int)):D->Bool
 | .int i=>pr d (rs.getD i.toNat [])
 |_=>false
def Qw(d:D) (rs:List (List Int)):List D:=(pZ 0 rs.length).filter (Pd d rs)
def SV:Qw d rs=((bu rs.length).filter λi=>pr d (rs.getD i [])).map λi:Nat=>D.int (0+(i:Int)):=by
 unfold Qw pZ;rw[dQ];congr 2;funext i;show pr d (rs.getD (0+(i:Int)).toNat [])=_;rw[dA,bS]
def Wy(h:rs.any (pr d)=false):Qw d rs=[]:=by
 rw[SV,fV.mpr,cQ];intro i hi q;have hi':=bW.mp hi;rw[gDq,gEg hi']at q;have:=bO.mpr ⟨rs[i],gRq hi',q⟩;rw[h]at this;cases this
def TB(h:rs.any (pr d)=true):∃L,Qw d rs = .int (rs.findIdx (pr d):Nat)::L:=by
 rw[SV];cases e:(bu rs.length).filter λi=>pr d (rs.getD i []) with
 |nil =>
  obtain⟨r,hr,hp⟩:=bO.mp h;obtain⟨i,hi⟩:=bL.mp hr;have hlt:=(gSq.mp hi).1;have:=fV.mp e i (bW.mpr hlt);rw[gDq,hi]at this;exact absurd hp this
 |cons k l =>
  have h1:(bu rs.length).find? (λi=>pr d (rs.getD i []))=some k:=by rw[←List.head?_filter,e];rfl
  obtain⟨q1,q2,q3⟩:=List.find?_range_eq_some.mp h1;have hk:=bW.mp q2;have hg:∀j,j<rs.length->rs.getD j []=rs[j]!:=λj hj=>by rw[gDq,gEg hj];simp[hj]
  have:rs.findIdx (pr d)=k:=by
   rw[List.findIdx_eq hk];refine⟨by rw[gDq,gEg hk]at q1;exact q1,λj hj=>?_⟩
   have:=q3 j hj;rw[gDq,gEg (iz hj hk)]at this;simpa using this
  rw[this,aw,dA];exact⟨_,rfl⟩
def S0{i:Nat}(hi:i<rs.length):atI (rs.map dI) (0+(i:Int))=some (dI (rs.getD i [])):=by
 rw[dA];exact zN (by rw[gMq,gDq,gEg hi];rfl)
def mem_range{x:D}(h:x∈pZ 0 rs.length):∃i:Nat,i<rs.length/\x = .int (0+(i:Int)):=by
 unfold pZ at h;obtain⟨i,hi,rfl⟩:=mMq.mp h;exact⟨i,bW.mp hi,rfl⟩
def KU:qO (rE (Bq (oR Bu (nA 1) (nA 0)))) (nI 0) [some (.sh (dM rs))] (pZ 0 rs.length)=some ((Qw .non rs).map .sh):=by
 rw[Z.tY (Pd .non rs) (λd=>.sh d)]
 .rfl
 .intro x hx;obtain⟨i,hi,rfl⟩:=mem_range hx;have a:=S0 hi;have p:Pd .non rs (.int (0+(i:Int)))=decide (rs.getD i []=[]):=by show pr .non (rs.getD (0+(i:Int)).toNat [])=_;rw[dA,bS];rfl
  rw[p];refine⟨[some (.sh (.int (0+(i:Int)))),some (.sh (dM rs))],?_,λ_=>⟨[some (.sh (.int (0+(i:Int)))),some (.sh (dM rs))],?_⟩⟩
  .generalize rs.getD i []=r at a;cases r with
   |nil =>
    have t0:yO (dI [])=some false:=rfl
    simp_arith [a,t0]
   |cons x r =>
    have t1:yO (dI (x::r))=some true:=rfl
    simp_arith [a,t1]
  .simp_arith []
def KL(s:Int):qO (qH (oR (JF false) (nA 1) (oR Bu (nA 2) (nA 0)))) (nI 0) [some (.sh (.int s)),some (.sh (dM rs))] (pZ 0 rs.length)=some ((Qw (.int s) rs).map .sh):=by
 rw[Z.tY (Pd (.int s) rs) (λd=>.sh d)]
 .rfl
 .intro x hx;obtain⟨i,hi,rfl⟩:=mem_range hx;have a:=S0 hi;have p:Pd (.int s) rs (.int (0+(i:Int)))=decide (s∈rs.getD i []):=by show pr (.int s) (rs.getD (0+(i:Int)).toNat [])=_;rw[dA,bS];rfl
  rw[p];have h:=QT false s (rs.getD i []);generalize rs.getD i []=r at a h;refine⟨[some (.sh (.int (0+(i:Int)))),some (.sh (.int s)),some (.sh (dM rs))],?_,λ_=>⟨[some (.sh (.int (0+(i:Int)))),some (.sh (.int s)),some (.sh (dM rs))],?_⟩⟩
  .simp_arith [a,dI,h]
  .simp_arith []
def MM(d:D):xx (.ow ((Qw d rs).map .sh))=true:=by
 rw[xx];refine Hd λa ha=>?_
 obtain⟨x,hx,rfl⟩:=mMq.mp ha;obtain⟨i,_,rfl⟩:=mem_range (eS.mp hx).1;rfl
def Qk(L:List D):(L.map AV.sh).map nR=L:=by rw[mPq];exact(mCq λd _=>uc d).trans (fh _)
def FT{k:Nat}{r:List Int}(hr:rs[k]?=some r):pe (.ow (rs.map aI)) [k]=some (r.map λn=>.sh (.int n)):=by
 rw[xQ,gMq,hr];rfl
def Eo{k:Nat}{r r':List Int}(hr:rs[k]?=some r):putAt (.ow (rs.map aI)) [k] (r'.map λn=>.sh (.int n)) = .ow ((rs.set k r').map aI):=by
 rw[zG (a:=aI r) (by rw[gMq,hr];rfl)]
 show AV.ow ((rs.map aI).set k (aI r'))=_;rw[K12.Cm]
def Zq{r:List Int}{j:Nat}(hj:j<=r.length):U9 (r.map λn=>AV.sh (.int n)) (.int (j:Int)) (.int n)=some ((r.take j++n::r.drop j).map λn=>.sh (.int n)):=by
 show (if _ then _ else _)=_
 rw[oJ ⟨rfl,by lia,by rw[bS,lMq];exact hj⟩,bS,mBq,aw,fu,iw]
def Oe(hl:rs.length<=1000) (hf:rs.flatten.length<=1000) (hd:vF d) {v0 v1 v2 v3 v7 v8:Option AV} :
  (∃rs' v7',IC rs n d=some rs'/\uI [v0,v1,v2,v3,some (.ow (rs.map aI)),some (.sh (.int n)),some (.sh d),v7,v8]=some (.nx [v0,v1,v2,v3,some (.ow (rs'.map aI)),some (.sh (.int n)),some (.sh d),v7',none])) ∨
  (IC rs n d=none/\uI [v0,v1,v2,v3,some (.ow (rs.map aI)),some (.sh (.int n)),some (.sh d),v7,v8]=some (.rt (lEx d))):=by
 have sM:(rs.map aI).map nR=rs.map dI:=by rw[mPq];exact mCq λr _=>oS r
 have rg:=Bd (n:=rs.length) (by lia)
 have rd:=rN 0 rs.length;have l1:rs.length<=qP:=rP (by lia)
 have cl:=MM (rs:=rs) d;have ss:=Qk (Qw d rs)
 by_cases hex:rs.any (pr d)=true
 .left;obtain⟨L,hL⟩:=TB hex;obtain⟨r0,hr0,hp⟩:=bO.mp hex;have hk:rs.findIdx (pr d)<rs.length:=eI ⟨r0,hr0,hp⟩;have hg:=gv (xs:=rs) (p:=pr d) (w:=hk);have hr:rs[rs.findIdx (pr d)]?=some rs[rs.findIdx (pr d)]:=gEg hk;have e:rs.getD (rs.findIdx (pr d)) []=rs[rs.findIdx (pr d)]:=by rw[gDq,hr];rfl
  have hrl:=AG (mGq hr);have pk:IC rs n d=some (rs.set (rs.findIdx (pr d)) (inr n d rs[rs.findIdx (pr d)])):=by unfold IC;rw[oJ hex,e]
  refine⟨_,some (.ow ((Qw d rs).map .sh)),pk,?_⟩;have nr:=FT hr;have iN:Hk rs.length ((rs.findIdx (pr d):Nat):Int)=some (rs.findIdx (pr d)):=HC hk;generalize rs[rs.findIdx (pr d)]=r at *;generalize rs.findIdx (pr d)=k at *;have a0:atI (Qw d rs) 0=some (.int (k:Int)):=by rw[hL];exact zN (j:=0) (by rfl)
  have t1:yO (.list (Qw d rs))=some true:=by rw[hL];rfl
  have l2:r.length<qP:=by show _<16777216;lia
  have sr:=Iq r;have c84:((8:Nat)≠4/\8<9)=True:=by simp
  have l0:0<qP:=by decide
  rcases hd with rfl|⟨s,rfl⟩
  .have cn:=KU (rs:=rs);have n1:xH .non .non=some (.bl true):=rfl;have hrn:r=[]:=of_decide_eq_true hg;subst hrn;have ic:U9 [] (.int 0) (.int n)=some ([n].map λn=>.sh (.int n)):=rfl
   have pt:putAt (.ow (rs.map aI)) [k] [AV.sh (.int n)]=_:=Eo (r':=[n]) hr;have hi:inr n .non []=[n]:=rfl;rw[hi]
   simp_arith [uI,n1,IB,A8,CS,sM,rg,rd,l1,cn,cl,ss,t1,a0,iN,nr,Rc,ic,l0,c84,pt]
  .have cn:=KL (rs:=rs) s;have n1:xH (.int s) .non=some (.bl false):=rfl;have hs:s∈r:=of_decide_eq_true hg;have ix:=Kc hs;have hlt:=bM.mpr hs;have ic:=Zq (n:=n) (r:=r) (j:=r.idxOf s+1) hlt;have ec:((r.idxOf s+1:Nat):Int)=(r.idxOf s:Int)+1:=by lia
   rw[ec]at ic;have hi:inr n (.int s) r=r.take (r.idxOf s+1)++n::r.drop (r.idxOf s+1):=by show sp n s r=_;unfold sp;rw[oJ hs]
   rw[hi];have pt:=Eo (r':=r.take (r.idxOf s+1)++n::r.drop (r.idxOf s+1)) hr
   simp_arith [uI,n1,IB,A8,CS,sM,rg,rd,l1,cn,cl,ss,t1,a0,iN,nr,Rc,ix,ic,l2,c84,pt]
 .right;have hex':rs.any (pr d)=false:=by simpa using hex
  have hL:=Wy hex';have t0:yO (.list (Qw d rs))=some false:=by rw[hL];rfl
  refine⟨by unfold IC;rw[oO hex],?_⟩
  rcases hd with rfl|⟨s,rfl⟩
  .have cn:=KU (rs:=rs);have n1:xH .non .non=some (.bl true):=rfl
   simp_arith [uI,n1,IB,A8,CS,sM,rg,rd,l1,cn,cl,ss,t0,lEx,vZ]
  .have cn:=KL (rs:=rs) s;have n1:xH (.int s) .non=some (.bl false):=rfl
   simp_arith [uI,n1,IB,A8,CS,sM,rg,rd,l1,cn,cl,ss,t0,lEx,vZ]
def Rq(hf:rs.flatten.length<=900) (hl:rs.length<=900) (h1:vF d1) (h2:vF d2):uf [dM rs,.int z,d1,d2]=some (lr rs z d1 d2):=by
 have ht:=zo (rs:=rs) (by lia)
 have cp:=K12.Dz rs;have l1:rs.length<=qP:=rP (by lia)
 have sc1:∀d,vF d->d.scal=true:=λd h=>by rcases h with rfl|⟨s,rfl⟩ <;> rfl
 unfold lr
 by_cases h:z∈rs.flatten
 .have d0:decide (z∈rs.flatten)=true:=decide_eq_true h;rw[oJ h]
  simp_arith [uf,yS,cp,l1,ht,d0,vZ]
 .have d0:decide (z∈rs.flatten)=false:=decide_eq_false h;rw[oO h];rcases Oe (n:=z) (rs:=rs) (by lia) (by lia) h1 (v0:=some (.sh (dM rs))) (v1:=some (.sh (.int z))) (v2:=some (.sh d1)) (v3:=some (.sh d2)) (v7:=none) (v8:=none) with ⟨r1,v7,p1,e1⟩|⟨p1,e1⟩
  .obtain ⟨pm,ln⟩:=yI h1 p1;have hf1:r1.flatten.length=rs.flatten.length+1:=by rw[pm.length_eq];rfl
   simp only[p1];rcases Oe (n:=-z) (rs:=r1) (by lia) (by lia) h2 (v0:=some (.sh (dM rs))) (v1:=some (.sh (.int z))) (v2:=some (.sh d1)) (v3:=some (.sh d2)) (v7:=v7) (v8:=none) with ⟨r2,v7',p2,e2⟩|⟨p2,e2⟩
   .obtain ⟨pm2,ln2⟩:=yI h2 p2;have hf2:r2.flatten.length=r1.flatten.length+1:=by rw[pm2.length_eq];rfl
    simp only[p2];have ht2:=zo (rs:=r2) (by lia)
    have s2:(r2.map aI).map nR=r2.map dI:=by rw[mPq];exact mCq λr _=>oS r
    have mo:=K13.IF (rs:=r2) (λr hr=>by have:=AG hr;lia) (rP (by lia))
    by_cases c:r2.flatten.length<=128
    .rw [oJ c];have c1:¬ (128:Int)<((r2.flatten.length:Nat):Int):=by lia
     simp_arith [uf,yS,cp,l1,ht,d0,Hx,yd,e1,e2,s2,ht2,c1,mo,Dw]
    .rw [oO c];have c1:(128:Int)<((r2.flatten.length:Nat):Int):=by lia
     simp_arith [uf,yS,cp,l1,ht,d0,Hx,yd,e1,e2,s2,ht2,c1,vZ]
   .simp only [p2]
    simp_arith [uf,yS,cp,l1,ht,d0,Hx,yd,e1,e2]
  .simp only [p1]
   simp_arith [uf,yS,cp,l1,ht,d0,Hx,yd,e1]
end
end K21
--ZQ3 --ZQ4 --ZQ5 --ZQ6 --ZQ8 --ZQ9 --ZQB --ZQC --ZQD --ZQE
namespace K12
open PySem L2 Mr Z Xe Zl
def md:MS:=(nS (oj 2 (oi K13.tO (nv (oi Zl.ou (nv (nI 1) nP)) nP)))
 (nS (oj 3 (rQ (xJ (nI 1)) [] rY (oi K13.tO (nv (nI 0) nP))))
 (nS (oj 4 (kSc (oR um (oR zf (pK Zl.nU (nu (nA 0) (nu (rC (.int 0)) nQ))) (rC (.int 39798))) (rC (.int 64)))))
 (nS (oj 3 (CP (lOf (Jk (uG 3) (uO (nA 4)) wF)) (lOf (Jk (uG 3) wF (uO (nA 4))))))
 (nS (uT (qH (oR Gi (oR um (pK Zl.nU (nu (nA 0) (nu (rC (.int 1)) nQ))) (rC (.int 2))) (rC (.int 1)))) (adX 3) oH)
 tl)))))
end K12
--ZQ3 --ZQ4 --ZQ5 --ZQ6 --ZQ8 --ZQ9 --ZQB --ZQC --ZQD --ZQE --ZQF --ZQG
namespace K21
open PySem L2 Mr Z Xe Zl
open K23 (vZ Dw)
def WT{i j:Int}(h:0<j):um (.int i) (.int j)=some (.int (i % j)):=by
 show we (0<j) _=_;rw[vV h]
noncomputable abbrev pz(z:Int) (d1 d2:D):D:=.ins "Put" [("road", .int z),("first", d1),("second", d2)]
section
variable {z:Int}{d1 d2:D}{rs:List (List Int)}
def fl1:yr "Put" "road" (pz z d1 d2)=some (.int z):=by rfl
def fl2:yr "Put" "first" (pz z d1 d2)=some d1:=by rfl
def fl3:yr "Put" "second" (pz z d1 d2)=some d2:=by rfl
def ip1:GG "Put" "done" (.sh (pz z d1 d2))=some (pz z d1 d2):=by rfl
def Nl(h1:vF d1) (h2:vF d2) (x:D):pd [pz z d1 d2,x]=pD [x,.int z,d1,d2]:=by
 have a:=fl1 (z:=z) (d1:=d1) (d2:=d2);have b:=fl2 (z:=z) (d1:=d1) (d2:=d2);have c:=fl3 (z:=z) (d1:=d1) (d2:=d2);rcases h1 with rfl|⟨s,rfl⟩ <;> rcases h2 with rfl|⟨t,rfl⟩ <;> first
  | (cases e:pD [x,.int z,.non,.non] with
    |none=>simp_arith [pd,rA,a,b,c,e]
    |some r=>cases r <;> simp_arith [pd,rA,a,b,c,e];done)
  | (cases e:pD [x,.int z,.non,.int t] with
    |none=>simp_arith [pd,rA,a,b,c,e]
    |some r=>cases r <;> simp_arith [pd,rA,a,b,c,e];done)
  | (cases e:pD [x,.int z,.int s,.non] with
    |none=>simp_arith [pd,rA,a,b,c,e]
    |some r=>cases r <;> simp_arith [pd,rA,a,b,c,e];done)
  | (cases e:pD [x,.int z,.int s,.int t] with
    |none=>simp_arith [pd,rA,a,b,c,e]
    |some r=>cases r <;> simp_arith [pd,rA,a,b,c,e];done)
def nb:D->Nat
 | .non=>1
 |_=>0
end
end K21
namespace K16
open PySem L2 Mr Z
end K16
--ZQ3 --ZQ4 --ZQ5 --ZQ6 --ZQ8 --ZQ9
namespace K51
open PySem L2 Mr Z Xe Zl
def rot(r:List Int):List Int:=r.drop 1++r.take 1
def rB(r:List Int):List (pN×Int):=(r.zip (rot r)).map λp=>(.inl p.1,p.2)
def pV(rs:List (List Int)):List (pN×Int):=(rs.map rB).flatten
def yv(ps:List (pN×Int)):List (pN×D):=ps.map λp=>(p.1,D.int p.2)
def CC(r:List Int):(rot r).length=r.length:=by
 unfold rot;rw[lAq,au,lTq];lia
def rot_perm(r:List Int):(rot r).Perm r:=by
 unfold rot;refine bJ.trans ?_;rw[aR]
def xX(r:List Int):(rB r).length=r.length:=by
 unfold rB;rw[lMq,List.length_zip,CC,Nat.min_self]
def C4(r:List Int):(rB r).map (·.1)=r.map bx:=by
 unfold rB;rw[mPq];have:r.map bx=((r.zip (rot r)).map Prod.fst).map (bx:Int->pN):=by rw[fE (by rw[CC];exact af _)]
 rw[this,mPq];rfl
def Iz(r:List Int):(rB r).map (·.2)=rot r:=by
 unfold rB;rw[mPq];have:rot r=(r.zip (rot r)).map Prod.snd:=by rw[List.map_snd_zip (by rw[CC];exact af _)]
 exact this.symm
theorem vK:∀(rs:List (List Int)),(pV rs).map (·.1)=rs.flatten.map bx
 | []=>rfl
 |r::rs=>by
  show (rB r++pV rs).map (·.1)=_;rw[mBq,C4,vK rs,fCq,mBq]
theorem BP:∀(rs:List (List Int)),((pV rs).map (·.2)).Perm rs.flatten
 | []=>.nil
 |r::rs=>by
  show ((rB r++pV rs).map (·.2)).Perm _;rw[mBq,Iz,fCq];exact(rot_perm r).append (BP rs)
def O1(rs:List (List Int)):(pV rs).length=rs.flatten.length:=by
 have:=congrArg cu (vK rs)
 rwa [lMq,lMq]at this
def ET(rs:List (List Int)) (r:List Int):pV (rs++[r])=pV rs++rB r:=by
 unfold pV;rw[mBq,fAq];simp
def Vd(ps:List (pN×Int)):(yv ps).length=ps.length:=lMq _
def Wm(a b:List (pN×Int)):yv (a++b)=yv a++yv b:=mBq
def RI(ps:List (pN×Int)):(yv ps).map (·.1)=ps.map (·.1):=by
 unfold yv;rw[mPq];rfl
def EM{r:List Int}{j:Nat}{z y:Int}(h:r[j]?=some z) (h2:(rot r)[j]?=some y):(rB r)[j]?=some (.inl z,y):=by
 unfold rB;rw[gMq,cX (z:=(z,y)).mpr ⟨h,h2⟩];rfl
def JR{rs:List (List Int)}{i j:Nat}{r:List Int}{z y:Int}(hn:rs.flatten.Nodup) (hr:rs[i]?=some r) (hz:r[j]?=some z) (hy:(rot r)[j]?=some y) :
  EG (yv (pV (rs.take i)++(rB r).take j)) (.inl z) (.int y)=yv (pV (rs.take i)++(rB r).take (j+1)):=by
 have hfl:=tP hr;have hnd:((rs.take i).flatten++r).Nodup:=by
  rw[←hfl];have e0:rs.flatten=(rs.take (i+1)).flatten++(rs.drop (i+1)).flatten:=by rw[←fAq,aR]
  rw[e0]at hn;exact(nAq.mp hn).1
 rw[JP]
 .rw [qX (EM hz hy),←ar,Wm (_++_) [_]];rfl
 .rw [RI,mBq,vK,fu,C4,←fu];intro m;rcases mAq.mp m with m|m
  .obtain ⟨x,hx,e2⟩:=mMq.mp m;cases e2;exact(nAq.mp hnd).2.2 _ hx _ (mGq hz) rfl
  .obtain ⟨x,hx,e2⟩:=mMq.mp m;cases e2;have:=bf.sublist (aW (j+1) r) (nAq.mp hnd).2.1;rw[qX hz]at this;exact(nAq.mp this).2.2 _ hx _ (by simp) rfl
def Hn{rs:List (List Int)}{i j:Nat}{r:List Int}(hl:rs.flatten.length<=1000) (hr:rs[i]?=some r):(yv (pV (rs.take i)++(rB r).take j)).length<qP:=by
 refine aaE ?_;have h1:=wB rs (i+1);rw[tP hr,lAq]at h1;rw[Vd,lAq,O1,lTq,xX];lia
def adW(r:List Int):wz (r.map D.int) (some 1) none=(r.drop 1).map D.int:=by
 rw[tq];cases r with
 |nil=>rfl
 |cons x r=>rw[show (some 1:Option Int)=some ((1:Nat):Int) from rfl,DW _ _ (by simp)]
def adV(r:List Int):wz (r.map D.int) none (some 1)=(r.take 1).map D.int:=by
 rw[tq];cases r with
 |nil=>rfl
 |cons x r=>rw[show (some 1:Option Int)=some ((1:Nat):Int) from rfl,Ez _ _ (by simp)]
def Sm{rs:List (List Int)}(hn:rs.flatten.Nodup) (hl:rs.flatten.length<=1000):Da [dM rs]=some (.owd (yv (pV rs))):=by
 have key:=Ae (x:=2) (body:=BQ) (λi S=>∃v2 v3 v4,S=[some (.sh (dM rs)),some (.owd (yv (pV (rs.take i)))),v2,v3,v4]) (ds:=rs.map dI) (S:=[some (.sh (dM rs)),some (.owd []),none,none,none]) ⟨none,none,none,rfl⟩ (by
  rintro i d S hd ⟨v2,v3,v4,rfl⟩;obtain⟨r,hr,rfl⟩:=Ia hd;have hrl:r.length<=1000:=by
   have h1:=wB rs (i+1);rw[tP hr,lAq]at h1;lia
  have hlen:(r.map D.int).length=((rot r).map D.int).length:=by rw[lMq,lMq,CC]
  have k2:=Xx (x:=3) (y:=4) (k:=0) (body:=B6) (λj S=>∃v3 v4,S=[some (.sh (dM rs)),some (.owd (yv (pV (rs.take i)++(rB r).take j))),some (.sh (dI r)),v3,v4]) (ds:=r.map D.int) (es:=(rot r).map D.int) (S:=[some (.sh (dM rs)),some (.owd (yv (pV (rs.take i)))),some (.sh (dI r)),v3,v4]) hlen ⟨v3,v4,by simp⟩ (by
   rintro j d e S hd he ⟨v3,v4,rfl⟩;obtain⟨z,hz,rfl⟩:=NU hd;obtain⟨y,hy,rfl⟩:=NU he;rw[cR]at *;have h3:=Hn (j:=j) hl hr;have hput:=JR hn hr hz hy;refine⟨_,?_,some (.sh (.int z)),some (.sh (.int y)),rfl⟩
   simp_arith [B6,h3,hput])
  obtain⟨S2,e2,w3,w4,rfl⟩:=k2;rw[cR,lMq,←xX,br]at e2;refine⟨_,?_,some (.sh (dI r)),w3,w4,rfl⟩;rw[qX hr,ET];have hll:(r.drop 1).length+(r.take 1).length<=qP:=rP (by rw[au,lTq];lia)
  have hrot:(r.drop 1).map D.int++(r.take 1).map D.int=(rot r).map D.int:=by unfold rot;rw[mBq]
  have hlen2:r.length=(rot r).length:=(CC r).symm
  simp_arith [BQ,adW,adV,hll,hrot,hlen2,e2])
 obtain⟨S',e,v2,v3,v4,rfl⟩:=key;rw[lMq,br]at e
 simp_arith [Da,Kk,e]
end K51
--ZQ3 --ZQ4 --ZQ5 --ZQ6 --ZQ8 --ZQ9 --ZQB --ZQC --ZQD --ZQE --ZQF
namespace K15
open PySem L2 Mr Z Xe Zl
def Do{ps:List (pN×Int)}{k:pN}{n:Int}(hn:(ps.map (·.1)).Nodup) (h:(k,n)∈ps):Z.getD (K51.yv ps) k=some (.int n):=by
 induction ps with
 |nil=>cases h
 |cons p ps ih =>
  rw[aw,aK]at hn;unfold Z.getD;show (((p.1,D.int p.2)::K51.yv ps).find? _).map _=_;rcases ak.mp h with e|e
  .rw [←e,eF (by simp)]
   rfl
  .rw [eG (by
    intro z;have z':p.1=k:=by simpa using z
    exact hn.1 (by rw[z'];exact mMq.mpr ⟨_,e,rfl⟩))]
   exact ih hn.2 e
def Ug{ps:List (pN×Int)}{k k':pN}{n:Int}(hn:(ps.map (·.2)).Nodup) (h:(k,n)∈ps) (h':(k',n)∈ps):k=k':=by
 induction ps with
 |nil=>cases h
 |cons p ps ih =>
  rw[aw,aK]at hn;rcases ak.mp h with e|e
  .rcases ak.mp h' with e'|e'
   .rw [←e]at e';exact(congrArg Prod.fst e').symm
   .exact absurd (mMq.mpr ⟨_,e',by rw[←e]⟩) hn.1
  .rcases ak.mp h' with e'|e'
   .exact absurd (mMq.mpr ⟨_,e,by rw[←e']⟩) hn.1
   .exact ih hn.2 e e'
def nx(rs:List (List Int)) (e:Int):Int:=match Z.getD (K51.yv (K51.pV rs)) (.inl e) with
 |some (.int n)=>n
 |_=>0
def fw(rs:List (List Int)) (e:Int):Int:=nx rs (-e)
section
variable {rs:List (List Int)}
def HS(hn:rs.flatten.Nodup):((K51.pV rs).map (·.1)).Nodup:=by
 rw[K51.vK,aY,bI];exact bf.imp (λh e=>h (bx.inj e)) (aY.mp hn)
def Et(hn:rs.flatten.Nodup) {e:Int}(he:e∈rs.flatten):(bx e,nx rs e)∈K51.pV rs:=by
 have hk:(bx e:pN)∈(K51.pV rs).map (·.1):=by rw[K51.vK];exact mMq.mpr ⟨e,he,rfl⟩
 obtain⟨⟨k,n⟩,hp,rfl⟩:=mMq.mp hk;have:=Do (HS hn) hp;unfold nx;rw[this];exact hp
def Sz(hn:rs.flatten.Nodup) {e:Int}(he:e∈rs.flatten):Z.getD (K51.yv (K51.pV rs)) (.inl e)=some (.int (nx rs e)):=Do (HS hn) (Et hn he)
def Tn(hn:rs.flatten.Nodup) {e:Int}(he:e∈rs.flatten):nx rs e∈rs.flatten:=(K51.BP rs).mem_iff.mp (mMq.mpr ⟨_,Et hn he,rfl⟩)
def TX(hn:rs.flatten.Nodup) {a b:Int}(ha:a∈rs.flatten) (hb:b∈rs.flatten) (h:nx rs a=nx rs b):a=b:=by
 have h1:=Et hn ha;have h2:=Et hn hb;rw[h]at h1;exact bx.inj (Ug ((K51.BP rs).symm.nodup hn) h1 h2)
def BR(hm:Mp rs):K4 (fw rs) rs.flatten:=⟨hm.hn,λe he=>Tn hm.hn (hm.hneg e he),λa ha b hb h=>by
 have:=TX hm.hn (hm.hneg a ha) (hm.hneg b hb) h;lia⟩
def stp(rs:List (List Int)) (E:List Int):List (pN×D):=E.map λe=>(bx e,.int (fw rs e))
def VO(hn:rs.flatten.Nodup) {e:Int}(he:e∈rs.flatten):Z.getD (stp rs rs.flatten) (.inl e)=some (.int (fw rs e)):=by
 have h:=Do (ps:=rs.flatten.map λe=>(bx e,fw rs e)) (k:=.inl e) (n:=fw rs e) (by
  rw[mPq,aY,bI];exact bf.imp (λh e=>h (bx.inj e)) (aY.mp hn)) (mMq.mpr ⟨e,he,rfl⟩)
 unfold K51.yv at h;rw[mPq]at h;exact h
def XT(rs:List (List Int)):(K51.yv (K51.pV rs)).map (λp=>kD p.1)=rs.flatten.map D.int:=by
 have:(K51.yv (K51.pV rs)).map (λp=>kD p.1)=((K51.pV rs).map (·.1)).map kD:=by
  unfold K51.yv;rw[mPq,mPq];rfl
 rw[this,K51.vK,mPq];rfl
def L7(hm:Mp rs):yH [dM rs]=some (.owd (stp rs rs.flatten)):=by
 have nk:=K51.Sm hm.hn hm.hl;have hl:=hm.hl;have key:=Ae (x:=3) (body:=zF) (λi S=>∃v3,S=[some (.sh (dM rs)),some (.sh (.fd (K51.yv (K51.pV rs)))),some (.owd (stp rs (rs.flatten.take i))),v3]) (ds:=rs.flatten.map D.int) (S:=[some (.sh (dM rs)),some (.sh (.fd (K51.yv (K51.pV rs)))),some (.owd []),none]) ⟨none,rfl⟩ (by
  rintro i d S hd ⟨v3,rfl⟩;rw[gMq]at hd;obtain⟨e,he,rfl⟩:=oMq.mp hd;have hi:=(gSq.mp he).1;have hme:=mGq he;have hg:=Sz hm.hn (hm.hneg e hme);have l1:(stp rs (rs.flatten.take i)).length<qP:=by unfold stp;rw[lMq,lTq];show _<16777216;lia
  have hp:EG (stp rs (rs.flatten.take i)) (.inl e) (.int (nx rs (-e)))=stp rs (rs.flatten.take (i+1)):=by
   rw[JP]
   .unfold stp;rw[qX he,mBq];rfl
   .intro m;obtain⟨p,hp,e1⟩:=mMq.mp m;obtain⟨x,hx,rfl⟩:=mMq.mp hp;have e2:x=e:=bx.inj e1;subst e2;have:=bf.sublist (aW (i+1) rs.flatten) hm.hn;rw[qX he]at this;exact(nAq.mp this).2.2 x hx x (by simp) rfl
  refine⟨_,?_,some (.sh (.int e)),rfl⟩
  simp_arith [zF,hg,l1,hp])
 obtain⟨S',e,v3,rfl⟩:=key;rw[lMq,br]at e;have kk:=XT rs;have q31:((3:Nat)≠1)=True:=by simp
 simp_arith [yH,FM,nk,q31,kk,e]
noncomputable def mu(N:Nat):AS->Nat
 | [_,_,some (.ow l),_]=>N+1-l.length
 |_=>0
def V8(f:Int->Int) (e:Int) (n:Nat):((bu n).map λk=>itr f k e)++[itr f n e]=(bu (n+1)).map λk=>itr f k e:=by rw[List.range_succ,mBq];rfl
def V1(hm:Mp rs) {e:Int}(he:e∈rs.flatten):∃l,Cy (fw rs) e l/\l.length<=rs.flatten.length/\uW [.dict (stp rs rs.flatten),.int e]=some (aI l):=by
 have one:=BR hm;obtain⟨l,cy,hle,hmin⟩:=one.cy he;have hl:=hm.hl;refine⟨l,cy,hle,?_⟩;have hst:∀n,Z.getD (stp rs rs.flatten) (.inl (itr (fw rs) n e))=some (.int (itr (fw rs) (n+1) e)):=λn=>VO hm.hn (one.itr_mem he n)
 have key:=EJ (c:=qH (oR G2 (nA 3) (nA 1))) (body:=wD) (λS=>∃n,1<=n/\n<=l.length/\S=[some (.sh (.dict (stp rs rs.flatten))),some (.sh (.int e)),some (aI ((bu n).map λk=>itr (fw rs) k e)),some (.sh (.int (itr (fw rs) n e)))]) (mu l.length) (λS=>∃v3,S=[some (.sh (.dict (stp rs rs.flatten))),some (.sh (.int e)),some (aI l),v3]) (by
  rintro S ⟨n,h1,h2,rfl⟩
  by_cases hn:n<l.length
  .have hne:¬ itr (fw rs) n e=e:=hmin n (by lia) hn
   have hs:=hst n;have l1:n<qP:=by show _<16777216;lia
   have ap:((bu n).map λk=>itr (fw rs) k e).map (λn=>AV.sh (.int n))++[.sh (.int (itr (fw rs) n e))]=((bu (n+1)).map λk=>itr (fw rs) k e).map λn=>.sh (.int n):=by rw[←V8,mBq];rfl
   refine⟨true,[some (.sh (.dict (stp rs rs.flatten))),some (.sh (.int e)),some (aI ((bu n).map λk=>itr (fw rs) k e)),some (.sh (.int (itr (fw rs) n e)))],?_,λ_=>⟨[some (.sh (.dict (stp rs rs.flatten))),some (.sh (.int e)),some (aI ((bu (n+1)).map λk=>itr (fw rs) k e)),some (.sh (.int (itr (fw rs) (n+1) e)))],?_,⟨n+1,by lia,by lia,rfl⟩,?_⟩,λq=>(nomatch q)⟩
   .simp_arith [hne]
   .simp_arith [wD,ba,l1,ap,hs]
   .show l.length+1-_<l.length+1-_;simp only[lMq,ba];lia
  .have en:n=l.length:=by lia
   subst en;have hb:=cy.back;have hg:=cy.get;refine⟨false,[some (.sh (.dict (stp rs rs.flatten))),some (.sh (.int e)),some (aI ((bu l.length).map λk=>itr (fw rs) k e)),some (.sh (.int (itr (fw rs) l.length e)))],?_,λq=>(nomatch q),λ_=>⟨some (.sh (.int (itr (fw rs) l.length e))),by rw[←hg]⟩⟩
   simp_arith [hb])
 have h0:=hst 0;have e0:[AV.sh (.int e)]=((bu 1).map λk=>itr (fw rs) k e).map λn=>.sh (.int n):=rfl
 obtain⟨S',ew,v3,rfl⟩:=key 100000 [some (.sh (.dict (stp rs rs.flatten))),some (.sh (.int e)),some (.ow [.sh (.int e)]),some (.sh (.int (itr (fw rs) (0+1) e)))] ⟨1,af _,cy.len,rfl⟩ (by
  show l.length+1-1<100000;lia)
 have h0':Z.getD (stp rs rs.flatten) (.inl e)=some (.int (itr (fw rs) (0+1) e)):=h0
 simp_arith [uW,BD,h0',ew]
end
end K15
--ZQ3 --ZQ4 --ZQ5 --ZQ6 --ZQ8 --ZQ9 --ZQB --ZQC --ZQD --ZQE --ZQF
namespace K15
open PySem L2 Mr Z Xe Zl
def kI(ks:List Int):List (pN×D):=ks.map λk=>((bx k:pN),D.bl true)
def RD(ks:List Int) (t:Int):(kI ks).any (λkv=>decide (kv.1=(bx t:pN)))=decide (t∈ks):=by
 induction ks with
 |nil=>simp[kI]
 |cons k ks ih =>
  unfold kI at ih ⊢;rw[aw,cU,ih]
  by_cases h:t=k
  .subst h;simp
  .have h':¬ (bx k:pN)=bx t:=λq=>h (bx.inj q).symm
   simp[h',h]
def Mn(ks:List Int) (t:Int):(Z.getD (kI ks) (bx t)).isSome=decide (t∈ks):=by
 unfold Z.getD;rw[fj,←RD,cg,List.find?_isSome,bO]
def RK{ks:List Int}{t:Int}(h:t∉ks):EG (kI ks) (bx t) (.bl true)=kI (ks++[t]):=by
 unfold EG;rw[RD,decide_eq_false h,oO (by simp)]
 simp[kI]
def Tf(ks:List Int):(kI ks).length=ks.length:=by unfold kI;rw[lMq]
section
variable {rs:List (List Int)}
structure Rd (f:Int->Int) (E:List Int) (kn:List Int) (L:List (List Int)):Prop where
 cy:∀l∈L,∃e,Cy f e l
 fl:L.flatten=kn
 nd:kn.Nodup
 sub:∀x∈kn,x∈E
 cl:∀x∈kn,f x∈kn
theorem Rd.itr{f:Int->Int}{E kn:List Int}{L:List (List Int)}(h:Rd f E kn L) {x:Int}(hx:x∈kn):∀n,itr f n x∈kn
 |0=>hx
 |n+1=>h.cl _ (h.itr hx n)
def Rd.out{f:Int->Int}{E kn:List Int}{L:List (List Int)}(h:Rd f E kn L) {e:Int}{l:List Int}(c:Cy f e l) (he:e∉kn):∀x∈l,x∉kn:=by
 intro x hx hk;obtain⟨j,hj⟩:=bL.mp hx;have hlt:=(gSq.mp hj).1;rw[c.at hlt]at hj;have e1:=aS.inj hj;subst e1;have:=h.itr hk (l.length-j);rw[←zW,show l.length-j+j=l.length by lia,c.back]at this
 exact he this
def Rd.add{f:Int->Int}{E kn:List Int}{L:List (List Int)}(hf:K4 f E) (h:Rd f E kn L) {e:Int}{l:List Int}(c:Cy f e l) (heE:e∈E) (he:e∉kn):Rd f E (kn++l) (L++[l]):=by
 have ho:=h.out c he;refine⟨λm hm=>?_,by rw[fAq,h.fl,aO],?_,λx hx=>?_,λx hx=>?_⟩
 .rcases mAq.mp hm with q|q
  .exact h.cy m q
  .rw [mSq.mp q];exact⟨e,c⟩
 .rw [nAq];exact⟨h.nd,c.nd,λa ha b hb q=>ho b hb (q ▸ ha)⟩
 .rcases mAq.mp hx with q|q
  .exact h.sub x q
  .rw [c.get]at q;obtain⟨n,_,rfl⟩:=mMq.mp q;exact hf.itr_mem heE n
 .rcases mAq.mp hx with q|q
  .exact mAq.mpr (.inl (h.cl x q))
  .refine mAq.mpr (.inr ?_);obtain⟨j,hj⟩:=bL.mp q;have hlt:=(gSq.mp hj).1;rw[c.at hlt]at hj;rw[←aS.inj hj];show Zl.itr f (j+1) e∈l
   by_cases hj2:j+1<l.length
   .exact mGq (c.at hj2)
   .rw [show j+1=l.length by lia,c.back]
    exact c.self
def Rd.orb{f:Int->Int}{E kn:List Int}{L:List (List Int)}(h:Rd f E kn L) (hall:∀x∈E,x∈kn):JD f E L:=⟨h.cy,by rw[h.fl];exact h.nd,λx=>by rw[h.fl];exact⟨h.sub x,hall x⟩⟩
noncomputable def vw(rs:List (List Int)):List (List Int):=(rs.filter λr=>decide (r=[])).map λ_=>[]
def Tw(rs:List (List Int)):qO (qH (oR Gi (xF uU (nu (nA 0) nQ)) (rC (.int 0)))) (qc nP) [] (rs.map dI)=some ((vw rs).map aI):=by
 rw[Z.tY (λd=>decide (Am d=[])) (λ_=>.ow [])]
 .unfold vw;rw[dQ,mPq,mPq];have:(λd=>decide (Am d=[]))∘dI=λr=>decide (r=[]):=by funext r;show decide (Am (dI r)=[])=_;rw[uC]
  rw[this];rfl
 .intro d hd;obtain⟨r,hr,rfl⟩:=zK hd;rw[uC];refine⟨[some (.sh (dI r))],?_,λ_=>⟨[some (.sh (dI r))],?_⟩⟩
  .by_cases h:r=[]
   .subst h;have z:((0:Nat):Int)=0:=rfl
    simp_arith [dI,z]
   .have h':¬ ((r.length:Nat):Int)=0:=λq=>h (cA.mp (by lia))
    simp_arith [dI,h',h]
  .simp_arith []
def OT{kn l:List Int}{v0 v1 v3 v4 v5 v6:Option AV}(hn:(kn++l).Nodup) (hl:kn.length+l.length<500000):∃v6',tN 6 zj (l.map D.int) [v0,v1,some (.owd (kI kn)),v3,v4,v5,v6]=some (.nx [v0,v1,some (.owd (kI (kn++l))),v3,v4,v5,v6']):=by
 have key:=Ae (x:=6) (body:=zj) (λi S=>∃v6',S=[v0,v1,some (.owd (kI (kn++l.take i))),v3,v4,v5,v6']) (ds:=l.map D.int) (S:=[v0,v1,some (.owd (kI kn)),v3,v4,v5,v6]) ⟨v6,by simp⟩ (by
  rintro i d S hd ⟨v6',rfl⟩;rw[gMq]at hd;obtain⟨e,he,rfl⟩:=oMq.mp hd;have hi:=(gSq.mp he).1;have hnew:e∉kn++l.take i:=λm=>by
   have h2:(kn++l.take (i+1)).Nodup:=bf.sublist (eW.append (eW.refl kn) (aW (i+1) l)) hn;rw[qX he,←ar]at h2;exact(nAq.mp h2).2.2 e m e (by simp) rfl
  have hp:=RK hnew;rw[ar,←qX he]at hp;have l1:(kI (kn++l.take i)).length<qP:=by rw[Tf,lAq,lTq];show _<16777216;lia
  refine⟨_,?_,some (.sh (.int e)),rfl⟩
  simp_arith [zj,l1,hp])
 obtain⟨S',e,v6',rfl⟩:=key;rw[lMq,br]at e;exact⟨v6',e⟩
def Gj(B L:List (List Int)):AV:=.ow (B.map aI++L.map λl=>.sh (dI l))
def MN(hm:Mp rs):∃v1 v2 v4 v5 v6 L,tN 4 xa ((By rs.flatten).map D.int) [some (.sh (dM rs)),some (.owd (stp rs rs.flatten)),some (.owd []),some (Gj (vw rs) []),none,none,none]=some (.nx [some (.sh (dM rs)),v1,v2,some (Gj (vw rs) L),v4,v5,v6])/\JD (fw rs) rs.flatten L:=by
 have one:=BR hm;have hl:=hm.hl;have h1000:=hm.hr;have pS:=DV rs.flatten;have key:=Ae (x:=4) (body:=xa) (λi S=>∃kn L v1 v4 v5 v6,S=[some (.sh (dM rs)),some v1,some (.owd (kI kn)),some (Gj (vw rs) L),v4,v5,v6]/\nR v1 = .dict (stp rs rs.flatten)/\(∀x,v1=x->(x = .owd (stp rs rs.flatten)∨x = .sh (.dict (stp rs rs.flatten))))/\Rd (fw rs) rs.flatten kn L/\L.length<=i/\∀j x,j<i->(By rs.flatten)[j]?=some x->x∈kn) (ds:=(By rs.flatten).map D.int) (S:=[some (.sh (dM rs)),some (.owd (stp rs rs.flatten)),some (.owd []),some (Gj (vw rs) []),none,none,none]) ⟨[],[],.owd (stp rs rs.flatten),none,none,none,rfl,rfl,λx h=>.inl h.symm,⟨by simp,rfl,aT,by simp,by simp⟩,af _,λj x h=>absurd h (cS _)⟩ (by
  rintro i d S hd ⟨kn,L,v1,v4,v5,v6,rfl,hv1,hv1',hr,hLl,hall⟩;rw[gMq]at hd;obtain⟨e,he,rfl⟩:=oMq.mp hd;have hiS:=(gSq.mp he).1;rw[pS.length_eq]at hiS;have heE:e∈rs.flatten:=pS.mem_iff.mp (mGq he);have hg:=Mn kn e
  by_cases c:e∈kn
  .rw [decide_eq_true c]at hg;refine⟨[some (.sh (dM rs)),some v1,some (.owd (kI kn)),some (Gj (vw rs) L),some (.sh (.int e)),v5,v6],?_,kn,L,v1,_,_,_,rfl,hv1,hv1',hr,by lia,λj x hj hx=>?_⟩
   .simp_arith [xa,hg]
   .rcases de.mp hj with q|rfl
    .exact hall j x q hx
    .rw [he]at hx;cases hx;exact c
  .rw [decide_eq_false c]at hg;obtain⟨l,cy,hle,eg⟩:=V1 hm heE;have hr2:=hr.add one cy heE c;have knl:=VV _ _ hr.nd hr.sub;obtain⟨v6',em⟩:=OT (kn:=kn) (l:=l) (v0:=some (.sh (dM rs))) (v1:=some (.sh (.dict (stp rs rs.flatten)))) (v3:=some (Gj (vw rs) L)) (v4:=some (.sh (.int e))) (v5:=some (.sh (dI l))) (v6:=v6) hr2.nd (by lia)
   have sl:=oS l;have lb:(vw rs).length<=rs.length:=by unfold vw;rw[lMq];exact du _ _
   have l1:((vw rs).map aI++L.map λl=>AV.sh (dI l)).length<qP:=by rw[lAq,lMq,lMq];show _<16777216;lia
   have ea:((vw rs).map aI++L.map λl=>AV.sh (dI l))++[.sh (dI l)]=(vw rs).map aI++(L++[l]).map λl=>.sh (dI l):=by rw[ar,mBq];rfl
   refine⟨[some (.sh (dM rs)),some (.sh (.dict (stp rs rs.flatten))),some (.owd (kI (kn++l))),some (Gj (vw rs) (L++[l])),some (.sh (.int e)),some (.sh (dI l)),v6'],?_,kn++l,L++[l],.sh (.dict (stp rs rs.flatten)),_,_,_,rfl,rfl,λx h=>.inr h.symm,hr2,by rw[lAq,lSq];lia,λj x hj hx=>?_⟩
   .unfold Gj at em ⊢
    simp_arith [xa,hg,hv1,eg,sl,em,l1,ea]
   .rcases de.mp hj with q|rfl
    .exact mAq.mpr (.inl (hall j x q hx))
    .rw [he]at hx;cases hx;exact mAq.mpr (.inr cy.self))
 obtain⟨S',e,kn,L,v1,v4,v5,v6,rfl,_,_,hr,_,hall⟩:=key;refine⟨_,_,_,_,_,L,e,hr.orb λx hx=>?_⟩
 obtain⟨j,hj⟩:=bL.mp (pS.mem_iff.mpr hx);exact hall j x (by rw[lMq];exact(gSq.mp hj).1) hj
def EL(rs:List (List Int)):(vw rs).length<=rs.length:=by unfold vw;rw[lMq];exact du _ _
def He(B L:List (List Int)):nR (Gj B L)=dM (B++L):=by
 unfold Gj;rw[uX,mBq,mPq,mPq];show D.list _=D.list ((B++L).map dI);rw[mBq];congr 2
 .exact mCq λr _=>oS r
def Ib(hm:Mp rs) {L:List (List Int)}(h:JD (fw rs) rs.flatten L):(∀l∈L,l.length<=1000)/\L.length<=1000:=by
 have p:L.flatten.Perm rs.flatten:=(cO h.dj hm.hn).mpr h.all;have hl:=hm.hl;refine⟨λl hl'=>?_,?_⟩
 .have:=eW.length_le (bj hl');rw[p.length_eq]at this;lia
 .have:∀{L:List (List Int)},(∀l∈L,1<=l.length)->L.length<=L.flatten.length:=λ{L} h=>by
   induction L with
   |nil=>exact af _
   |cons a L ih =>
    have h1:=h a (bo ..);have h2:=ih λl hl=>h l (mCo _ hl)
    rw[lCq,fCq,lAq];lia
  have:=this (L:=L) λl hl=>by obtain⟨e,c⟩:=h.cy l hl;exact c.len
  rw[p.length_eq]at this;lia
def EH(hm:Mp rs):∃L,JD (fw rs) rs.flatten L/\uE [dM rs]=some (.ow ((yl ((vw rs++L).map good)).map aI)):=by
 obtain⟨v1,v2,v4,v5,v6,L,e,ho⟩:=MN hm;have hl:=hm.hl;have h1000:=hm.hr;have ow:=L7 hm;have bc:=Tw rs;have en:=VY (rs:=rs) (by lia)
 have lr:rs.length<=qP:=by show _<=16777216;lia
 have e0:AV.ow ((vw rs).map aI)=Gj (vw rs) []:=by unfold Gj;rw[cQ,aNq]
 have st:=He (vw rs) L;obtain⟨o1,o2⟩:=Ib hm ho;have bl:=EL rs;have ig:=yY (rs:=vw rs++L) (λr hr=>by
  rcases mAq.mp hr with q|q
  .unfold vw at q;obtain⟨x,_,rfl⟩:=mMq.mp q;exact aV _
  .have:=o1 r q;lia) (by rw[lAq];show _<=16777216;lia)
 refine⟨L,ho,?_⟩;have sE:=oS (By rs.flatten)
 simp_arith [uE,K0,ow,dM,bc,lr,e0,en,sE,dI,e,st,ig]
end
end K15
--ZQ3 --ZQ4 --ZQ5 --ZQ6 --ZQ8 --ZQ9 --ZQB --ZQC --ZQD --ZQE --ZQF
namespace K15
open PySem L2 Mr Z Xe Zl
section
variable {rs:List (List Int)}
def RB{r:List Int}{j:Nat}(hj:j<r.length):(K51.rot r)[j]?=r[(j+1) % r.length]?:=by
 unfold K51.rot
 by_cases h:j+1<r.length
 .rw [fG h,gZq (by rw[au];lia),cI,fO]
 .have e:j+1=r.length:=by lia
  rw[e,gM,gYq (by rw[au];lia),au,bw (by lia)]
  congr 1;lia
def O2(hm:Mp rs):yA [dM rs]=some (.owd (K51.yv (K51.pV rs))):=by
 have hn:=hm.hn;have hl:=hm.hl;have key:=Ae (x:=2) (body:=zS) (λi S=>∃v2 v3,S=[some (.sh (dM rs)),some (.owd (K51.yv (K51.pV (rs.take i)))),v2,v3]) (ds:=rs.map dI) (S:=[some (.sh (dM rs)),some (.owd []),none,none]) ⟨none,none,rfl⟩ (by
  rintro i d S hd ⟨v2,v3,rfl⟩;obtain⟨r,hr,rfl⟩:=Ia hd;have hrl:=hm.row hr;have k2:=Ae (x:=3) (body:=zV) (λj S=>∃v3,S=[some (.sh (dM rs)),some (.owd (K51.yv (K51.pV (rs.take i)++(K51.rB r).take j))),some (.sh (dI r)),v3]) (ds:=pZ 0 r.length) (S:=[some (.sh (dM rs)),some (.owd (K51.yv (K51.pV (rs.take i)))),some (.sh (dI r)),v3]) ⟨v3,by simp⟩ (by
   rintro j d S hd ⟨v3,rfl⟩;have hj:j<r.length:=by
    have:=(gSq.mp hd).1
    rwa [rN]at this
   rw[Ck hj,dA]at hd;cases hd;have hz:r[j]?=some r[j]:=gEg hj;have hm2:(j+1) % r.length<r.length:=Nat.mod_lt _ (by lia)
   have hy:(K51.rot r)[j]?=some r[(j+1) % r.length]:=by rw[RB hj];exact gEg hm2
   have h3:=K51.Hn (j:=j) hl hr;have hput:=K51.JR hn hr hz hy;have a1:atI (r.map D.int) (j:Int)=some (.int r[j]):=zN (by rw[gMq,hz];rfl)
   have md:=zR (i:=(j:Int)+1) (j:=(r.length:Int)) (by lia)
   have em:((j:Int)+1) % (r.length:Int)=(((j+1) % r.length:Nat):Int):=by push_cast;rfl
   rw[em]at md;have a2:atI (r.map D.int) (((j+1) % r.length:Nat):Int)=some (.int r[(j+1) % r.length]):=zN (by rw[gMq,gEg hm2];rfl)
   refine⟨_,?_,some (.sh (.int (j:Int))),rfl⟩
   simp_arith [zV,dI,a1,md,a2,h3,hput])
  obtain⟨S2,e2,w3,rfl⟩:=k2;rw[rN,←K51.xX,br]at e2;have rg:GK [.int (r.length:Int)]=some (pZ 0 r.length):=Bd (by lia)
  rw[K51.xX]at e2;refine⟨_,?_,some (.sh (dI r)),w3,rfl⟩;rw[qX hr,K51.ET]
  simp_arith [zS,dI,rg,e2])
 obtain⟨S',e,v2,v3,rfl⟩:=key;rw[lMq,br]at e
 simp_arith [yA,Fz,e]
def Pf(rs:List (List Int)):qO (rE (Bq (nA 0))) (qc nP) [] (rs.map dI)=some ((vw rs).map aI):=by
 rw[Z.tY (λd=>decide (Am d=[])) (λ_=>.ow [])]
 .unfold vw;rw[dQ,mPq,mPq];have:(λd=>decide (Am d=[]))∘dI=λr=>decide (r=[]):=by funext r;show decide (Am (dI r)=[])=_;rw[uC]
  rw[this];rfl
 .intro d hd;obtain⟨r,hr,rfl⟩:=zK hd;rw[uC];refine⟨[some (.sh (dI r))],?_,λ_=>⟨[some (.sh (dI r))],?_⟩⟩
  .cases r with
   |nil =>
    have t0:yO (dI [])=some false:=rfl
    simp_arith [t0]
   |cons x r =>
    have t1:yO (dI (x::r))=some true:=rfl
    simp_arith [t1]
  .simp_arith []
noncomputable def mu2(N:Nat):AS->Nat
 | [_,_,_,_,_,some (.ow l),_]=>N+1-l.length
 |_=>0
def T3(hm:Mp rs) {hv:List Int}{L0:List (List Int)}(hr:Rd (fw rs) rs.flatten hv L0) {e:Int}(heE:e∈rs.flatten) (he:e∉hv) {v0 v3:Option AV}:∃l v6,Cy (fw rs) e l/\vE (qH (vS (nA 6) (nA 2))) wM 100000 [v0,some (.sh (.fd (K51.yv (K51.pV rs)))),some (.owd (kI hv)),v3,some (.sh (.int e)),some (.ow []),some (.sh (.int e))]=some (.nx [v0,some (.sh (.fd (K51.yv (K51.pV rs)))),some (.owd (kI (hv++l))),v3,some (.sh (.int e)),some (aI l),v6]):=by
 have one:=BR hm;obtain⟨l,cy,hle,hmin⟩:=one.cy heE;have hl:=hm.hl;have hvl:=VV _ _ hr.nd hr.sub;have ho:=hr.out cy he;have hst:∀n,Z.getD (K51.yv (K51.pV rs)) (.inl (-(itr (fw rs) n e)))=some (.int (itr (fw rs) (n+1) e)):=λn=>Sz hm.hn (hm.hneg _ (one.itr_mem heE n))
 have key:=EJ (c:=qH (vS (nA 6) (nA 2))) (body:=wM) (λS=>∃n,n<=l.length/\S=[v0,some (.sh (.fd (K51.yv (K51.pV rs)))),some (.owd (kI (hv++l.take n))),v3,some (.sh (.int e)),some (aI (l.take n)),some (.sh (.int (itr (fw rs) n e)))]) (mu2 l.length) (λS=>∃v6,S=[v0,some (.sh (.fd (K51.yv (K51.pV rs)))),some (.owd (kI (hv++l))),v3,some (.sh (.int e)),some (aI l),v6]) (by
  rintro S ⟨n,h2,rfl⟩;have hg:=Mn (hv++l.take n) (itr (fw rs) n e)
  by_cases hn:n<l.length
  .have hat:=cy.at hn;have hnew:itr (fw rs) n e∉hv++l.take n:=λm=>by
    rcases mAq.mp m with q|q
    .exact ho _ (mGq hat) q
    .have:=bf.sublist (aW (n+1) l) cy.nd;rw[qX hat]at this;exact(nAq.mp this).2.2 _ q _ (by simp) rfl
   rw[decide_eq_false hnew]at hg;have hp:=RK hnew;rw[ar,←qX hat]at hp;have hs:=hst n;have l1:(kI (hv++l.take n)).length<qP:=by rw[Tf,lAq,lTq];show _<16777216;lia
   have l2:(l.take n).length<qP:=by rw[lTq];show _<16777216;lia
   have ap:(l.take n).map (λn=>AV.sh (.int n))++[.sh (.int (itr (fw rs) n e))]=(l.take (n+1)).map λn=>.sh (.int n):=by rw[qX hat,mBq];rfl
   refine⟨true,[v0,some (.sh (.fd (K51.yv (K51.pV rs)))),some (.owd (kI (hv++l.take n))),v3,some (.sh (.int e)),some (aI (l.take n)),some (.sh (.int (itr (fw rs) n e)))],?_,λ_=>⟨[v0,some (.sh (.fd (K51.yv (K51.pV rs)))),some (.owd (kI (hv++l.take (n+1)))),v3,some (.sh (.int e)),some (aI (l.take (n+1))),some (.sh (.int (itr (fw rs) (n+1) e)))],?_,⟨n+1,by lia,rfl⟩,?_⟩,λq=>(nomatch q)⟩
   .simp_arith [hg]
   .simp_arith [wM,l1,hp,l2,ap,hs]
   .show l.length+1-_<l.length+1-_;simp only[lMq,lTq];lia
  .have en:n=l.length:=by lia
   subst en;have hb:=cy.back;rw[hb,br]at hg ⊢;rw[decide_eq_true (mAq.mpr (.inr cy.self))]at hg;refine⟨false,[v0,some (.sh (.fd (K51.yv (K51.pV rs)))),some (.owd (kI (hv++l))),v3,some (.sh (.int e)),some (aI l),some (.sh (.int e))],?_,λq=>(nomatch q),λ_=>⟨_,rfl⟩⟩
   simp_arith [hg])
 obtain⟨S',ew,v6,rfl⟩:=key 100000 [v0,some (.sh (.fd (K51.yv (K51.pV rs)))),some (.owd (kI hv)),v3,some (.sh (.int e)),some (.ow []),some (.sh (.int e))] ⟨0,aV _,by simp[itr]⟩ (by
  show l.length+1-0<100000;lia)
 exact⟨l,v6,cy,ew⟩
def Kt(hm:Mp rs):∃v2 v4 v5 v6 L,tN 4 ve (rs.flatten.map D.int) [some (.sh (dM rs)),some (.sh (.fd (K51.yv (K51.pV rs)))),some (.owd []),some (Gj (vw rs) []),none,none,none]=some (.nx [some (.sh (dM rs)),some (.sh (.fd (K51.yv (K51.pV rs)))),v2,some (Gj (vw rs) L),v4,v5,v6])/\JD (fw rs) rs.flatten L:=by
 have one:=BR hm;have hl:=hm.hl;have h1000:=hm.hr;have key:=Ae (x:=4) (body:=ve) (λi S=>∃hv L v4 v5 v6,S=[some (.sh (dM rs)),some (.sh (.fd (K51.yv (K51.pV rs)))),some (.owd (kI hv)),some (Gj (vw rs) L),v4,v5,v6]/\Rd (fw rs) rs.flatten hv L/\L.length<=i/\∀j x,j<i->rs.flatten[j]?=some x->x∈hv) (ds:=rs.flatten.map D.int) (S:=[some (.sh (dM rs)),some (.sh (.fd (K51.yv (K51.pV rs)))),some (.owd []),some (Gj (vw rs) []),none,none,none]) ⟨[],[],none,none,none,rfl,⟨by simp,rfl,aT,by simp,by simp⟩,af _,λj x h=>absurd h (cS _)⟩ (by
  rintro i d S hd ⟨hv,L,v4,v5,v6,rfl,hr,hLl,hall⟩;rw[gMq]at hd;obtain⟨e,he,rfl⟩:=oMq.mp hd;have hi:=(gSq.mp he).1;have heE:e∈rs.flatten:=mGq he;have hg:=Mn hv e
  by_cases c:e∈hv
  .rw [decide_eq_true c]at hg;refine⟨[some (.sh (dM rs)),some (.sh (.fd (K51.yv (K51.pV rs)))),some (.owd (kI hv)),some (Gj (vw rs) L),some (.sh (.int e)),v5,v6],?_,hv,L,_,_,_,rfl,hr,by lia,λj x hj hx=>?_⟩
   .simp_arith [ve,hg]
   .rcases de.mp hj with q|rfl
    .exact hall j x q hx
    .rw [he]at hx;cases hx;exact c
  .rw [decide_eq_false c]at hg;obtain⟨l,v6',cy,ew⟩:=T3 hm hr heE c (v0:=some (.sh (dM rs))) (v3:=some (Gj (vw rs) L));have hr2:=hr.add one cy heE c;have sl:=oS l;have lb:=EL rs;have l1:((vw rs).map aI++L.map λl=>AV.sh (dI l)).length<qP:=by rw[lAq,lMq,lMq];show _<16777216;lia
   have ea:((vw rs).map aI++L.map λl=>AV.sh (dI l))++[.sh (dI l)]=(vw rs).map aI++(L++[l]).map λl=>.sh (dI l):=by rw[ar,mBq];rfl
   refine⟨[some (.sh (dM rs)),some (.sh (.fd (K51.yv (K51.pV rs)))),some (.owd (kI (hv++l))),some (Gj (vw rs) (L++[l])),some (.sh (.int e)),some (.sh (dI l)),v6'],?_,hv++l,L++[l],_,_,_,rfl,hr2,by rw[lAq,lSq];lia,λj x hj hx=>?_⟩
   .unfold Gj at ew ⊢
    simp_arith [ve,hg,ew,sl,l1,ea]
   .rcases de.mp hj with q|rfl
    .exact mAq.mpr (.inl (hall j x q hx))
    .rw [he]at hx;cases hx;exact mAq.mpr (.inr cy.self))
 obtain⟨S',e,hv,L,v4,v5,v6,rfl,hr,_,hall⟩:=key;refine⟨_,_,_,_,L,e,hr.orb λx hx=>?_⟩
 obtain⟨j,hj⟩:=bL.mp hx;exact hall j x (by rw[lMq];exact(gSq.mp hj).1) hj
def OK(hm:Mp rs):∃L,JD (fw rs) rs.flatten L/\uR [dM rs]=some (.ow ((yl ((vw rs++L).map good)).map aI)):=by
 obtain⟨v2,v4,v5,v6,L,e,ho⟩:=Kt hm;have hl:=hm.hl;have h1000:=hm.hr;have nk:=O2 hm;have kk:=XT rs;have bc:=Pf rs;have lr:rs.length<=qP:=by show _<=16777216;lia
 have e0:AV.ow ((vw rs).map aI)=Gj (vw rs) []:=by unfold Gj;rw[cQ,aNq]
 have st:=He (vw rs) L;obtain⟨o1,o2⟩:=Ib hm ho;have bl:=EL rs;have mo:=K13.IF (rs:=vw rs++L) (λr hr=>by
  rcases mAq.mp hr with q|q
  .unfold vw at q;obtain⟨x,_,rfl⟩:=mMq.mp q;exact aV _
  .have:=o1 r q;lia) (by rw[lAq];show _<=16777216;lia)
 refine⟨L,ho,?_⟩;have q41:((4:Nat)≠1)=True:=by simp
 simp_arith [uR,Fc,nk,dM,bc,lr,e0,q41,kk,e,st,mo]
def Lr(hm:Mp rs):∃G:List (List Int),uE [dM rs]=some (.ow (G.map aI))/\uR [dM rs]=some (.ow (G.map aI))/\G.flatten.Perm rs.flatten/\G.length<=1000+rs.length:=by
 obtain⟨L,o1,e1⟩:=EH hm;obtain⟨M,o2,e2⟩:=OK hm;have hp:((vw rs++L).map good).Perm ((vw rs++M).map good):=by
  rw[mBq,mBq];exact bG.append_left _ (o1.perm (BR hm) o2)
 refine⟨yl ((vw rs++L).map good),e1,by rw[e2,Hu hp],?_,?_⟩
 .refine (zH (vb _)).trans ((ug yx _).trans ?_);have pL:L.flatten.Perm rs.flatten:=(cO o1.dj hm.hn).mpr o1.all;have hb:(vw rs).flatten=[]:=by
   unfold vw;refine fP.mpr λl hl=>?_
   obtain⟨x,_,rfl⟩:=mMq.mp hl;rfl
  rw[fAq,hb,cm];exact pL
 .have:=(Ib hm o1).2;have:=EL rs;rw[xC,lMq,lAq];lia
end
end K15
--ZQ3 --ZQ4 --ZQ5 --ZQ6 --ZQ8 --ZQ9 --ZQB --ZQC --ZQD --ZQE --ZQF
namespace K16
open PySem L2 Mr Z Xe Zl
def pm(l:List Int):List Int:=l.flatMap λx=>[x, -x]
def V4(l:List Int) (x:Int):pm (l++[x])=pm l++[x, -x]:=by unfold pm;rw[gE];simp
def TL(l:List Int):(pm l).length=2*l.length:=by
 unfold pm
 induction l with
 |nil=>rfl
 |cons a l ih =>
  rw[fv,lAq,ih,lCq (as:=l)];show 2+_=_;lia
def Zx{l:List Int}{z:Int}(h:z∈pm l):-z∈pm l:=by
 unfold pm at h ⊢;rw[fF]at h ⊢;obtain⟨x,hx,hz⟩:=h;refine⟨x,hx,?_⟩;rcases ak.mp hz with e|e
 .rw [e];simp
 .rw [mSq.mp e,hV];simp
end K16
--ZQ3 --ZQ4 --ZQ5 --ZQ6 --ZQ8 --ZQ9 --ZQB --ZQC --ZQD --ZQE --ZQF
namespace K16
open PySem L2 Mr Z Xe Zl
def above(kn:List Int) (n:Int):Nat:=kn.countP λk=>decide (n<=k)
end K16
namespace K16
open PySem L2 Mr Z Xe Zl K15
section
variable {rs:List (List Int)}
def XN(hn:rs.flatten.Nodup) {r:List Int}(hr:r∈rs) {j:Nat}{z y:Int}(hz:r[j]?=some z) (hy:r[(j+1) % r.length]?=some y):nx rs z=y:=by
 have hj:=(gSq.mp hz).1;have h1:=K51.EM hz ((RB hj).trans hy);have h2:(bx z,y)∈K51.pV rs:=by
  unfold K51.pV;exact mFq.mpr ⟨_,mMq.mpr ⟨r,hr,rfl⟩,mGq h1⟩
 have h3:=Do (HS hn) h2;unfold nx;rw[h3]
theorem N7(hn:rs.flatten.Nodup) {r:List Int}(hr:r∈rs) {e:Int}(h0:r[0]?=some e):∀n,r[n % r.length]?=some (itr (nx rs) n e)
 |0=>by rw[Nat.zero_mod];exact h0
 |n+1=>by
  have hp:0<r.length:=(gSq.mp h0).1;have ih:=N7 hn hr h0 n;have hm:(n+1) % r.length<r.length:=Nat.mod_lt _ hp;have hm2:(n % r.length+1) % r.length=(n+1) % r.length:=by rw[Nat.mod_add_mod]
  obtain⟨y,hg⟩:∃y,r[(n+1) % r.length]?=some y:=⟨_,gEg hm⟩;have:=XN hn hr ih (hm2 ▸ hg);rw[hg,←this];rfl
def YS(hn:rs.flatten.Nodup) {r:List Int}(hr:r∈rs) {e:Int}(h0:r[0]?=some e):Cy (nx rs) e r:=by
 have hp:0<r.length:=(gSq.mp h0).1;have it:=N7 hn hr h0;refine⟨hp,?_,?_,bf.sublist (bj hr) hn⟩
 .refine eC λi=>?_
  rw[gMq]
  by_cases hi:i<r.length
  .rw [dO hi,cT,←it i,fG hi]
  .rw [bK (by lia),bK (by rw[ba];lia)]
   rfl
 .have:=it r.length;rw[gM,h0]at this;exact(aS.inj this).symm
noncomputable def ne(rs:List (List Int)):List (List Int):=rs.filter λr=>!decide (r=[])
theorem CZ:∀rs:List (List Int),(ne rs).flatten=rs.flatten
 | []=>rfl
 | []::rs=>CZ rs
 | (x::r)::rs=>by
  show ((x::r)::ne rs).flatten=_;rw[fCq,fCq,CZ rs]
theorem HY:∀rs:List (List Int),(vw rs++ne rs).Perm rs
 | []=>.nil
 | []::rs=>(HY rs).cons []
 | (x::r)::rs=>eP.trans ((HY rs).cons (x::r))
def ZX{r:List Int}:r∈ne rs↔r∈rs/\r≠[]:=by
 unfold ne;rw[eS];simp
def T1(hn:rs.flatten.Nodup):JD (nx rs) rs.flatten (ne rs):=by
 refine⟨λl hl=>?_,by rw[CZ];exact hn,λx=>by rw[CZ]⟩
 obtain⟨h1,h2⟩:=ZX.mp hl;cases l with
 |nil=>exact absurd rfl h2
 |cons x l=>exact⟨x,YS hn h1 rfl⟩
def Z4(hn:rs.flatten.Nodup):K4 (nx rs) rs.flatten:=⟨hn,λe he=>Tn hn he,λa ha b hb h=>TX hn ha hb h⟩
def ab2{f:Int->Int}(hn:rs.flatten.Nodup) (h:∀l∈rs,l=[]∨∃e,Cy f e l) {x:Int}(hx:x∈rs.flatten):nx rs x=f x:=by
 obtain⟨l,hl,hxl⟩:=mFq.mp hx;rcases h l hl with rfl|⟨e,c⟩
 .cases hxl
 .obtain ⟨j,hj⟩:=bL.mp hxl;have hlt:=(gSq.mp hj).1;have e1:=c.at hlt;rw[hj]at e1;have e2:=aS.inj e1;refine XN hn hl hj ?_;rw[e2];show _=some (itr f (j+1) e)
  by_cases q:j+1<l.length
  .rw [fG q];exact c.at q
  .have e3:j+1=l.length:=by lia
   rw[e3,gM,c.back];exact c.at (i:=0) (by lia)
theorem Hv{f g:Int->Int}{E:List Int}(hf:K4 f E) (h:∀x∈E,f x=g x) {e:Int}(he:e∈E):∀n,itr f n e=itr g n e
 |0=>rfl
 |n+1=>by
  show f (itr f n e)=g (itr g n e);rw[h _ (hf.itr_mem he n),Hv hf h he n]
def Uq{f g:Int->Int}{E:List Int}(hf:K4 f E) (h:∀x∈E,f x=g x) {e:Int}(he:e∈E) {l:List Int}(c:Cy f e l):Cy g e l:=by
 have ic:=Hv hf h he;refine⟨c.len,?_,by rw[←ic];exact c.back,c.nd⟩
 rw[←mCq (f:=λn=>itr f n e) λn _=>ic n]
 exact c.get
def Qg{f g:Int->Int}{E E':List Int}{L:List (List Int)}(hf:K4 f E) (h:∀x∈E,f x=g x) (hE:∀x,x∈E↔x∈E') (o:JD f E L):JD g E' L:=by
 refine⟨λl hl=>?_,o.dj,λx=>(o.all x).trans (hE x)⟩
 obtain⟨e,c⟩:=o.cy l hl;exact⟨e,Uq hf h ((o.all e).mp (mFq.mpr ⟨l,hl,c.self⟩)) c⟩
def VL{f:Int->Int}{e:Int}{l:List Int}(c:Cy f e l):∃e',Cy f e' (good l):=by
 unfold good
 by_cases h:pO l l.length<l.length
 .exact ⟨_,c.rot h⟩
 .refine ⟨e,?_⟩;unfold Mr.rot;rw[bT (by lia),bg (by lia),cm]
  exact c
theorem C1:∀rs:List (List Int),vw rs=aD (rs.count []) []
 | []=>rfl
 | []::rs=>by
  rw[List.count_cons_self,gD,←C1 rs];rfl
 | (x::r)::rs=>by
  rw[gi (by simp),←C1 rs]
  rfl
theorem Ko:∀{L:List (List Int)},(∀l∈L,1<=l.length)->L.length<=L.flatten.length
 | [],_=>af _
 |a::L,h=>by
  have h1:=h a (bo ..);have h2:=Ko (L:=L) λl hl=>h l (mCo _ hl)
  rw[lCq,fCq,lAq];lia
theorem Kz:∀{L:List (List Int)},(∀l∈L,1<=l.length)->(L.map good).count []=0
 | [],_=>rfl
 |a::L,h=>by
  have h1:=h a (bo ..);have hg:good a≠[]:=λq=>by
   have:=congrArg cu q;rw[KF,dP]at this;lia
  rw[aw,gi hg];exact Kz λl hl=>h l (mCo _ hl)
def Q2(hm:Mp rs) (hlen:rs.length+rs.flatten.length<=1000):∃M:List (List Int),uE [dM rs]=some (.ow (M.map aI))/\Mp M/\uE [dM M]=some (.ow ((yl (rs.map good)).map aI))/\M.flatten.Perm rs.flatten/\yl (M.map good)=M/\M.count []=rs.count []/\M.length<=rs.length+rs.flatten.length:=by
 obtain⟨L,o1,e1⟩:=EH hm;have one:=BR hm;have pL:L.flatten.Perm rs.flatten:=(cO o1.dj hm.hn).mpr o1.all;have hL1:∀l∈L,1<=l.length:=λl hl=>by obtain⟨e,c⟩:=o1.cy l hl;exact c.len
 have hLl:=Ko hL1;rw[pL.length_eq]at hLl;have hb:(vw rs).flatten=[]:=by
  unfold vw;refine fP.mpr λl hl=>?_
  obtain⟨x,_,rfl⟩:=mMq.mp hl;rfl
 have hf0:(vw rs++L).flatten=L.flatten:=by rw[fAq,hb,cm]
 have pM:(yl ((vw rs++L).map good)).flatten.Perm rs.flatten:=by
  refine(zH (vb _)).trans ((ug yx _).trans ?_);rw[hf0];exact pL
 have tw:=Gb (T:=vw rs++L) (by rw[hf0];exact o1.dj)
 have hcnt:(yl ((vw rs++L).map good)).count []=rs.count []:=by
  rw[(vb _).count_eq,mBq,cAq,Kz hL1,C1,gI,Um,List.count_replicate_self];rfl
 have hMl:(yl ((vw rs++L).map good)).length<=rs.length+rs.flatten.length:=by
  have:=EL rs;rw[xC,lMq,lAq];lia
 have hrow:∀l∈yl ((vw rs++L).map good),l=[]∨∃e,Cy (fw rs) e l:=λl hl=>by
  obtain⟨m,hm',rfl⟩:=mMq.mp ((vb _).mem_iff.mp hl);rcases mAq.mp hm' with q|q
  .left;unfold vw at q;obtain⟨x,_,rfl⟩:=mMq.mp q;rfl
  .right;obtain⟨e,c⟩:=o1.cy m q;exact VL c
 generalize yl ((vw rs++L).map good)=M at e1 pM tw hcnt hMl hrow;have nM:M.flatten.Nodup:=pM.nodup_iff.mpr hm.hn;have mpM:Mp M:=⟨nM,by rw[pM.length_eq];exact hm.hl,by lia,λe he=>pM.mem_iff.mpr (hm.hneg e (pM.mem_iff.mp he))⟩
 obtain⟨L2,o2,e2⟩:=EH mpM;have hfw:∀x∈M.flatten,fw M x=nx rs x:=λx hx=>by
  show nx M (-x)=_;rw[ab2 nM hrow (mpM.hneg x hx)];show nx rs (- -x)=_;rw[hV]
 have o2':=Qg (BR mpM) hfw (λx=>pM.mem_iff) o2
 have hp:=o2'.perm (Z4 hm.hn) (T1 hm.hn);refine⟨M,e1,mpM,?_,pM,tw,hcnt,hMl⟩;rw[e2];have hq:((vw M++L2).map good).Perm (rs.map good):=by
  rw[mBq,C1 M,hcnt,←C1 rs];refine(bG.append_left _ hp).trans ?_;rw[←mBq];exact(HY rs).map good
 rw[Hu hq]
end
end K16
--ZQ3 --ZQ4 --ZQ5 --ZQ6 --ZQ8 --ZQ9 --ZQB --ZQC --ZQD --ZQE --ZQF --ZQG
namespace K22
open PySem L2 Mr Z Xe Zl K21
open K23 (vZ Dw cz)
def uns:under "Taken" "NotThere" = false/\under "Taken" "TooMany" = false/\under "Taken" "NoPlace" = false/\under "NoPlace" "TooMany" = false/\under "NoPlace" "Taken" = false/\under "NoPlace" "NotThere" = false:=by decide +kernel
def Mg(z:Int):K23.qp [.exc "Taken" [("road", z)]]=some (.ow [.sh (.tup [.str "taken", .int z])]):=by
 have l0:0<qP:=by decide
 simp_arith [K23.qp,K23.yQ,uns,fA,l0]
def LQ:K23.qp [.exc "NoPlace" []]=some (.ow [.sh (.tup [.str "place", .int 0])]):=by
 have l0:0<qP:=by decide
 simp_arith [K23.qp,K23.yQ,uns,fA,l0]
noncomputable abbrev qz(z:Int) (d1 d2:D):D:=.ins "Part" [("road", .int z),("first", d1),("second", d2)]
structure Ref (c:Str) (fs:List (Str×Int)) (w:Str) (y:Int):Prop where
 un:under c "MapError" = true
 kd:K23.qp [.exc c fs]=some (.ow [.sh (.tup [.str w,.int y])])
section
variable {z:Int}{d1 d2:D}{rs:List (List Int)}
def Tt{d:D}(h:vF d):∃c fs w y,UJ d = .ex c fs/\lEx d=vZ w y/\Ref c fs w y:=by
 rcases h with rfl|⟨s,rfl⟩
 .exact ⟨_,_,_,_,rfl,rfl,by decide +kernel,LQ⟩
 .exact ⟨_,_,_,_,rfl,rfl,by decide +kernel,K23.Ln s⟩
def vd(hf:rs.flatten.length<=128) (hl:rs.length<=100) (h1:vF d1) (h2:vF d2) :
  (∃G:List (List Int),lr rs z d1 d2=Dw G/\wr rs z d1 d2 = .ok (.ow (G.map aI))/\G.length<=1000/\G.flatten.length<=1000)∨(∃c fs w y,lr rs z d1 d2=vZ w y/\wr rs z d1 d2 = .ex c fs/\Ref c fs w y):=by
 unfold lr wr
 by_cases h:z∈rs.flatten
 .rw [oJ h,oJ h];exact .inr ⟨_,_,_,_,rfl,rfl,by decide +kernel,Mg z⟩
 .rw [oO h,oO h];cases p1:IC rs z d1 with
  |none =>
   obtain⟨c,fs,w,y,e1,e2,r⟩:=Tt h1;exact .inr ⟨c,fs,w,y,e2,e1,r⟩
  |some r1 =>
   obtain⟨pm,ln⟩:=yI h1 p1;have hf1:r1.flatten.length=rs.flatten.length+1:=by rw[pm.length_eq];rfl
   simp only;cases p2:IC r1 (-z) d2 with
   |none =>
    obtain⟨c,fs,w,y,e1,e2,r⟩:=Tt h2;exact .inr ⟨c,fs,w,y,e2,e1,r⟩
   |some r2 =>
    obtain⟨pm2,ln2⟩:=yI h2 p2;have hf2:r2.flatten.length=r1.flatten.length+1:=by rw[pm2.length_eq];rfl
    have bl:bare r2<=r2.length:=List.countP_le_length;simp only
    by_cases c:r2.flatten.length<=128
    .rw [oJ c,oJ ⟨c,by lia⟩]
     refine .inl ⟨_,rfl,rfl,?_,?_⟩
     .rw [xC,lMq];lia
     .rw [(DM _).length_eq];lia
    .rw [oO c,oO λq=>c q.1]
     exact .inr ⟨_,_,_,_,rfl,rfl,by decide +kernel,K23.PV⟩
def ip2:GG "Put" "back" (.sh (pz z d1 d2))=some (pz z d1 d2):=by rfl
def mkC{S:AS}(h:S[0]?.join=some (.sh (pz z d1 d2))):Eh "Cut" ["road"] (nu (wx (yr "Put" "road") (nA 0)) nQ) S=some (.sh (cz z),S):=by
 have f:=fl1 (z:=z) (d1:=d1) (d2:=d2)
 simp_arith [Tc,h,f]
 rfl
def JO{x:D}{G:List (List Int)}(h:pd [pz z d1 d2,x]=some (.ok (.ow (G.map aI)))):pX [pz z d1 d2,x]=some (Dw G)/\rD [pz z d1 d2,x]=some (.ow [.sh (.str "back"),.sh (cz z)]):=by
 have i1:=ip1 (z:=z) (d1:=d1) (d2:=d2);have i2:=ip2 (z:=z) (d1:=d1) (d2:=d2);have e1:∃a,pR [pz z d1 d2,x]=some (.ok a):=by
  refine⟨.sh .non,?_⟩
  simp_arith [pR,tK,Au,i1,h]
 obtain⟨a,e1⟩:=e1;have mk:∀y,Eh "Cut" ["road"] (nu (wx (yr "Put" "road") (nA 0)) nQ) [some (.sh (pz z d1 d2)),y]=some (.sh (cz z),[some (.sh (pz z d1 d2)),y]):=λy=>mkC rfl
 have e2:rO [pz z d1 d2,x]=some (.ok (.sh (cz z))):=by
  simp_arith [rO,AU,e1,mk]
 refine⟨?_,?_⟩
 .simp_arith [pX,yo,Au,i1,h,Dw]
 .simp_arith [rD,ye,Au,i2,e2]
def FC{x:D}{c:Str}{fs:List (Str×Int)}{w:Str}{y:Int}(r:Ref c fs w y) (h:pd [pz z d1 d2,x]=some (.ex c fs)):rO [pz z d1 d2,x]=some (.ex c fs)/\pX [pz z d1 d2,x]=some (vZ w y)/\rD [pz z d1 d2,x]=some (vZ w y):=by
 have i1:=ip1 (z:=z) (d1:=d1) (d2:=d2);have i2:=ip2 (z:=z) (d1:=d1) (d2:=d2);have e1:pR [pz z d1 d2,x]=some (.ex c fs):=by
  simp_arith [pR,tK,Au,i1,h]
 have e2:rO [pz z d1 d2,x]=some (.ex c fs):=by
  simp_arith [rO,AU,e1]
 have hu:=r.un;have hk:=r.kd;refine⟨e2,?_,?_⟩
 .simp_arith [pX,yo,Au,i1,h,hu,hk,vZ]
 .simp_arith [rD,ye,Au,i2,e2,hu,hk,vZ]
def iq1:GG "Part" "done" (.sh (qz z d1 d2))=some (qz z d1 d2):=by rfl
def iq2:GG "Part" "back" (.sh (qz z d1 d2))=some (qz z d1 d2):=by rfl
def iq4:GG "Part" "other" (.sh (qz z d1 d2))=some (qz z d1 d2):=by rfl
def gl1:yr "Part" "road" (qz z d1 d2)=some (.int z):=by rfl
def gl2:yr "Part" "first" (qz z d1 d2)=some d1:=by rfl
def gl3:yr "Part" "second" (qz z d1 d2)=some d2:=by rfl
def mkQ{S:AS}(h:S[0]?.join=some (.sh (qz z d1 d2))) (q1:vF d1) (q2:vF d2):Eh "Put" ["road", "first", "second"] (nu (wx (yr "Part" "road") (nA 0)) (nu (wx (yr "Part" "first") (nA 0)) (nu (wx (yr "Part" "second") (nA 0)) nQ))) S=some (.sh (pz z d1 d2),S):=by
 have a:=gl1 (z:=z) (d1:=d1) (d2:=d2);have b:=gl2 (z:=z) (d1:=d1) (d2:=d2);have c:=gl3 (z:=z) (d1:=d1) (d2:=d2);rcases q1 with rfl|⟨s,rfl⟩ <;> rcases q2 with rfl|⟨t,rfl⟩ <;> (simp_arith [Tc,h,a,b,c];rfl)
def Ue(q1:vF d1) (q2:vF d2):sT [qz z d1 d2]=some (.sh (pz z d1 d2)):=by
 have h:=mkQ (S:=[some (.sh (qz z d1 d2))]) rfl q1 q2
 simp_arith [sT,BE,h]
def Q6{F M:List (List Int)}{c:Str}{fs:List (Str×Int)}{w:Str}{y:Int}(q1:vF d1) (q2:vF d2) (hl:K15.uE [dM F]=some (.ow (M.map aI))) (r:Ref c fs w y) (h:pd [pz z d1 d2,dM M]=some (.ex c fs)):tF [qz z d1 d2,dM F]=some (vZ w y)/\tH [qz z d1 d2,dM F]=some (vZ w y):=by
 have i1:=ip1 (z:=z) (d1:=d1) (d2:=d2);have i2:=ip2 (z:=z) (d1:=d1) (d2:=d2);have k1:=iq1 (z:=z) (d1:=d1) (d2:=d2);have k2:=iq2 (z:=z) (d1:=d1) (d2:=d2);have k4:=iq4 (z:=z) (d1:=d1) (d2:=d2);have oe:=Ue (z:=z) q1 q2;have sM:(M.map aI).map nR=M.map dI:=by rw[mPq];exact mCq λr _=>oS r
 obtain⟨e2,_,_⟩:=FC r h;have hu:=r.un;have hk:=r.kd;have o1:sj [qz z d1 d2,dM F]=some (.ex c fs):=by
  simp_arith [sj,xZ,Au,k4,oe,i1,hl,sM,h]
 have o2:sq [qz z d1 d2,dM F]=some (.ex c fs):=by
  simp_arith [sq,yc,acp,Au,k4,oe,i2,hl,sM,e2]
 have o3:wd [qz z d1 d2,dM F]=some (.ex c fs):=by
  simp_arith [wd,C0,o1]
 have o4:wt [qz z d1 d2,dM F]=some (.ex c fs):=by
  simp_arith [wt,Ct,o2]
 refine⟨?_,?_⟩
 .simp_arith [tF,AI,Au,k1,o3,hu,hk,vZ]
 .simp_arith [tH,AL,Au,k2,o4,hu,hk,vZ]
end
def aax{z:Int}:vM [cz z]=some (.sh (.tup [.str "cut", .int z])):=by
 have h:=K23.ad1 z
 simp_arith [vM,Eb,h]
def p61:IV (.int 10) (.int 61)=some (.int (10 ^ 61)):=vV ⟨by decide,by decide,by decide⟩ _
def Nr{c z y:Int}{E:List Int}(hl:E.length<=1000):∃d,uB [.int c,dI E,.int z,.int y]=some (.sh d)/\vF d:=by
 have dv:=zA (i:=c) (j:=3) (by decide) (by decide)
 have m3:=WT (i:=c) (j:=3) (by decide)
 have mb:=WT (i:=c) (j:=10 ^ 60) (by decide)
 have hp:=p61;have m6:=WT (i:=c / 3) (j:=6) (by decide)
 have b0:=bA (c / 3) (b:=6) (by decide)
 have b1:=bq (c / 3) (b:=6) (by decide)
 generalize hk:c / 3 % 6=k at m6 b0 b1;obtain⟨d,hd,hs⟩:∃d,atI [D.non,.int 0,.int z,.int (-z),.int y,.int (10 ^ 61+c % 10 ^ 60)] k=some d/\vF d:=by
  have:k=0∨k=1∨k=2∨k=3∨k=4∨k=5:=by lia
  rcases this with rfl|rfl|rfl|rfl|rfl|rfl
  .exact ⟨_,rfl,.inl rfl⟩
  .exact ⟨_,rfl,.inr ⟨_,rfl⟩⟩
  .exact ⟨_,rfl,.inr ⟨_,rfl⟩⟩
  .exact ⟨_,rfl,.inr ⟨_,rfl⟩⟩
  .exact ⟨_,rfl,.inr ⟨_,rfl⟩⟩
  .exact ⟨_,rfl,.inr ⟨_,rfl⟩⟩
 by_cases c3:0<c % 3
 .cases hE:E with
  |nil =>
   have t0:yO (dI [])=some false:=rfl;refine⟨d,?_,hs⟩;have t0:yO (.list [])=some false:=rfl
   simp_arith [uB,Bh,dI,hp,mb,m3,c3,t0,dv,m6,hd]
  |cons x E' =>
   have t1:yO (dI (x::E'))=some true:=rfl;rw[hE]at hl;generalize hL:x::E'=L at t1 hl;have hpos:0<L.length:=by rw[←hL];simp
   have m5:=WT (i:=c / 3) (j:=((L.length:Nat):Int)) (by lia)
   have a0:=bA (c / 3) (b:=((L.length:Nat):Int)) (by lia)
   have a1:=bq (c / 3) (b:=((L.length:Nat):Int)) (by lia)
   generalize c / 3 % ((L.length:Nat):Int)=i at m5 a0 a1;have hjl:i.toNat<L.length:=by lia
   have ha:atI (L.map D.int) i=some (.int L[i.toNat]):=by rw[Ew a0,gMq,gEg hjl];rfl
   refine⟨.int L[i.toNat],?_,.inr ⟨_,rfl⟩⟩;unfold dI at t1
   simp_arith [uB,Bh,dI,hp,mb,m3,c3,t1,dv,m5,ha]
 .refine ⟨d,?_,hs⟩
  simp_arith [uB,Bh,dI,hp,mb,m3,c3,dv,m6,hd]
def L8{nm:List Int}(hl:nm.length<=1000) {v0 v1:Option AV}:∃v3,tN 3 wH (nm.map D.int) [v0,v1,some (.ow [.ow []]),none]=some (.nx [v0,v1,some (.ow [aI (K16.pm nm)]),v3]):=by
 have key:=Ae (x:=3) (body:=wH) (λi S=>∃v3,S=[v0,v1,some (.ow [aI (K16.pm (nm.take i))]),v3]) (ds:=nm.map D.int) (S:=[v0,v1,some (.ow [.ow []]),none]) ⟨none,rfl⟩ (by
  rintro i d S hd ⟨v3,rfl⟩;rw[gMq]at hd;obtain⟨x,hx,rfl⟩:=oMq.mp hd;have hi:=(gSq.mp hx).1;have hp:=K16.TL (nm.take i);rw[lTq]at hp;have e:K16.pm (nm.take (i+1))=K16.pm (nm.take i)++[x]++[-x]:=by rw[qX hx,K16.V4,ar];rfl
  rw[e];generalize K16.pm (nm.take i)=p at hp;have nr:=FT (rs:=[p]) (k:=0) (r:=p) rfl;have nr2:=FT (rs:=[p++[x]]) (k:=0) (r:=p++[x]) rfl;have pt:=Eo (rs:=[p]) (k:=0) (r:=p) (r':=p++[x]) rfl;have pt2:=Eo (rs:=[p++[x]]) (k:=0) (r:=p++[x]) (r':=p++[x]++[-x]) rfl;simp only[aw,cQ,cJ]at nr nr2 pt pt2;have i0:Hk 1 0=some 0:=rfl;have l1:p.length<qP:=by show _<16777216;lia
  have l2:(p++[x]).length<qP:=by rw[lAq,lSq];show _<16777216;lia
  have a1:(p.map λn=>AV.sh (.int n))++[.sh (.int x)]=(p++[x]).map λn=>.sh (.int n):=by rw[mBq];rfl
  have a2:((p++[x]).map λn=>AV.sh (.int n))++[.sh (.int (-x))]=(p++[x]++[-x]).map λn=>.sh (.int n):=by rw[mBq (l₁:=p++[x])];rfl
  refine⟨[v0,v1,some (.ow [aI (p++[x]++[-x])]),some (.sh (.int x))],?_,_,rfl⟩;generalize hq:p++[x]=q at nr2 pt pt2 l2 a1 a2
  simp_arith [wH,i0,nr,l1,a1,pt,nr2,l2,a2,pt2])
 obtain⟨S',e,v3,rfl⟩:=key;rw[lMq,br]at e;exact⟨v3,e⟩
def Ux(nm:List Int):qO rY (kSc (wx uj (nA 0))) [] (nm.map D.int)=some ((nm.map λx=>-x).map λn=>.sh (.int n)):=by
 rw[Z.uZ λd=>match d with|.int i=>AV.sh (.int (-i))|_=>.sh .non]
 .rw [mPq,mPq];rfl
 .intro d hd;obtain⟨x,_,rfl⟩:=mMq.mp hd;refine⟨[some (.sh (.int x))],?_⟩
  simp_arith []
def UU{nm:List Int}(hl:nm.length<=1000):uL [dI nm,.int 1]=some (.ow ([K16.pm nm].map aI)):=by
 obtain⟨v3,e⟩:=L8 hl (v0:=some (.sh (dI nm))) (v1:=some (.sh (.int 1)))
 simp_arith [uL,BL,e]
def W1{nm:List Int}(hl:nm.length<=1000) {w:Int}(hw:w≠1):uL [dI nm,.int w]=some (.ow ([nm,nm.map λx=>-x].map aI)):=by
 have nc:=Ux nm;have l1:nm.length<=qP:=rP (by lia)
 simp_arith [uL,BL,dI,hw,l1,nc]
end K22
--ZQ3 --ZQ4 --ZQ5 --ZQ6 --ZQ8 --ZQ9 --ZQB --ZQC --ZQD --ZQE --ZQF --ZQG
namespace K22
open PySem L2 Mr Z Xe Zl K21
open K23 (vZ Dw cz)
def tl:MS:=(nS (oj 9 (Eh "Put" ["road", "first", "second"] (nu (nA 6) (nu (nA 7) (nu (nA 8) nQ)))))
 (nS (oj 10 (oi K51.ux (nv (nI 4) nP)))
 (nS (oj 11 (oi K21.uf (nv (nI 4) (nv (nI 6) (nv (nI 7) (nv (nI 8) nP))))))
 (nS (uT (Eg (rE (qH (pK K13.oE (nu (rOf (oi K22.pX (nv (nI 9) (nv (nI 10) nP)))) (nu (nA 11) nQ))))) (rE (qH (pK K13.oE (nu (nA 10) (nu (nA 4) nQ)))))) (pJ (kSc (rC (.bl false)))) oH)
 (nS (oj 12 (oi K22.rD (nv (nI 9) (nv (nI 10) nP))))
 (nS (uT (qH (oR Gi (oR Bu (nA 11) (rC (.int 0))) (rC (.str "refused")))) (nS (uT (rE (qH (pK K13.oE (nu (nA 12) (nu (nA 11) nQ))))) (pJ (kSc (rC (.bl false)))) oH) (nS (oj 13 (Eh "Part" ["road", "first", "second"] (nu (nA 6) (nu (nA 7) (nu (nA 8) nQ))))) (nS (oj 14 (oi K15.uR (nv (nI 4) nP))) (uT (Eg (rE (qH (pK K13.oE (nu (rOf (oi K22.tF (nv (nI 13) (nv (nI 14) nP)))) (nu (nA 11) nQ))))) (rE (qH (pK K13.oE (nu (rOf (oi K22.tH (nv (nI 13) (nv (nI 14) nP)))) (nu (nA 11) nQ)))))) (pJ (kSc (rC (.bl false)))) oH)))) (uT (Eg (qH (oR G2 (oR Bu (nA 12) (rC (.int 0))) (rC (.str "back")))) (rE (qH (pK K13.oE (nu (rOf (oi K22.vM (DH "Cut" "told" (Y4 (uG 12) (rC (.int 1))) nP))) (nu (rOf (Bx (nv (kSc (rC (.str "cut"))) (nv (nI 6) nP)))) nQ)))))) (pJ (kSc (rC (.bl false)))) oH))
 (nS (oj 15 (oi K13.tO (nv (CP (lOf (rQ (xJ (nI 4)) [6] rY (rQ (xJ (nI 0)) [1] (Cq (qH (oR G2 (nA 0) (nA 1))) (qH (oR G2 (nA 0) (wx uj (nA 1))))) (nI 0)))) (lOf (qc (nv (qc nP) (nv (qc nP) nP))))) nP)))
 (nS (uT (rE (qH (pK K13.oE (nu (rOf (oi K22.pX (nv (nI 9) (nv (oi K51.ux (nv (nI 15) nP)) nP)))) (nu (rOf (oi K21.uf (nv (nI 15) (nv (nI 6) (nv (nI 7) (nv (nI 8) nP)))))) nQ))))) (pJ (kSc (rC (.bl false)))) oH)
 (pJ (kSc (JL (pK K13.oE (nu (rOf (oi K22.pX (nv (nI 9) (nv (nI 10) nP)))) (nu (nA 11) nQ))) (pK K13.oE (nu (nA 10) (nu (nA 4) nQ))))))))))))))
def mkX{c:Str}{z:Int}{d1 d2:D}{S:AS}(h0:S[6]?.join=some (.sh (.int z))) (h1:S[7]?.join=some (.sh d1)) (h2:S[8]?.join=some (.sh d2)) (q1:vF d1) (q2:vF d2):Eh c ["road", "first", "second"] (nu (nA 6) (nu (nA 7) (nu (nA 8) nQ))) S=some (.sh (.ins c [("road", .int z),("first", d1),("second", d2)]),S):=by
 rcases q1 with rfl|⟨s,rfl⟩ <;> rcases q2 with rfl|⟨t,rfl⟩ <;> (simp_arith [Tc,h0,h1,h2];rfl)
def Sj(w:Str) (y:Int):nR (vZ w y) = .list [.str "refused", .list [.tup [.str w,.int y]]]:=by
 unfold vZ
 simp_arith []
def Ry(G:List (List Int)):nR (Dw G) = .list [.str "map", .list (G.map dI)]:=by
 have sG:(G.map aI).map nR=G.map dI:=by rw[mPq];exact mCq λr _=>oS r
 unfold Dw
 simp_arith [sG]
section
variable {z:Int}{d1 d2:D}{rs:List (List Int)}
def M7(hn:rs.flatten.Nodup) (hf:rs.flatten.length<=128) (hl:rs.length<=100) (h1:vF d1) (h2:vF d2):pX [pz z d1 d2,dM rs]=some (lr rs z d1 d2)/\K13.oE [nR (lr rs z d1 d2),nR (lr rs z d1 d2)]=some (.sh (.bl true))/\uf [dM rs,.int z,d1,d2]=some (lr rs z d1 d2):=by
 have e1:=Rq (z:=z) (rs:=rs) (by lia) (by lia) h1 h2
 have e2:=(Nl (z:=z) h1 h2 (dM rs)).trans (Dg (z:=z) hn (by lia) (by lia) h1 h2)
 refine⟨?_,?_,e1⟩
 .rcases vd (z:=z) hf hl h1 h2 with ⟨G,q1,q2,_,_⟩|⟨c,fs,w,y,q1,q2,r⟩
  .rw [q2]at e2;rw[q1];exact(JO e2).1
  .rw [q2]at e2;rw[q1];exact(FC r e2).2.1
 .rcases vd (z:=z) hf hl h1 h2 with ⟨G,q1,q2,g1,g2⟩|⟨c,fs,w,y,q1,q2,r⟩
  .rw [q1,Ry];exact K13.vJ 4 _ (K13.Oz G g1 g2)
  .rw [q1,Sj];exact K13.vJ 4 _ (K13.L9 w y)
end
def acf{M:List (List Int)}{z:Int}{d1 d2:D}(mp:Mp M) (gd:yl (M.map good)=M) (hf:M.flatten.length<=128) (hl:M.length<=80) (s1:vF d1) (s2:vF d2) {v0 v1 v2 v3 v5:Option AV}{a4:AV}(h4:nR a4=dM M):tl [v0,v1,v2,v3,some a4,v5,some (.sh (.int z)),some (.sh d1),some (.sh d2),none,none,none,none,none,none,none]=some (.rt (.sh (.bl true))):=by
 have mk:=λc S h0 h1 h2=>@mkX c z d1 d2 S h0 h1 h2 s1 s2
 have al1:K13.oE [dM M,dM M]=some (.sh (.bl true)):=K13.vJ 4 _ (K13.Oc 1 M (by lia) (by lia))
 have lM:M.length<=qP:=rP (by lia)
 have cp:K51.ux [dM M]=some (.ow (M.map aI)):=by
  have cG:=K12.Dz M
  simp_arith [K51.ux,K51.DY,cG,lM]
 have sM:(M.map aI).map nR=M.map dI:=by rw[mPq];exact mCq λr _=>oS r
 have lc:=K23.QD z (rs:=M) λr hr=>by have:=AG hr;lia
 have sC:((M.map (K23.IY z)).map aI).map nR=(K23.C z M).map dI:=by rw[mPq];exact mCq λr _=>oS r
 have cl:(K23.C z M).length=M.length:=by unfold K23.C;rw[lMq]
 have l2:(K23.C z M).length+2<=qP:=rP (by lia)
 have q1:(K23.C z M).map dI++[D.list [],D.list []]=(K23.C z M++[[],[]]).map dI:=by rw[mBq];rfl
 have cf:(K23.C z M++[[],[]]).flatten=K23.IY z M.flatten:=by rw[fAq,K23.YW];simp
 have cnd:(K23.C z M++[[],[]]).flatten.Nodup:=by rw[cf];exact bf.sublist List.filter_sublist mp.hn
 have cle:(K23.C z M++[[],[]]).flatten.length<=128:=by rw[cf];exact bB (du _ _) hf
 have cll:(K23.C z M++[[],[]]).length=M.length+2:=by rw[lAq,cl];rfl
 have mo:=K13.IF (rs:=K23.C z M++[[],[]]) (λr hr=>by have:=AG hr;lia) (rP (by lia))
 have gf:=DM (K23.C z M++[[],[]]);have gl:(yl ((K23.C z M++[[],[]]).map good)).length=M.length+2:=by rw[xC,lMq,cll]
 have gn:=gf.nodup_iff.mpr cnd;have gle:(yl ((K23.C z M++[[],[]]).map good)).flatten.length<=128:=by rw[gf.length_eq];exact cle
 generalize K23.C z M++[[],[]]=T at q1 mo gf gl gn gle;generalize yl (T.map good)=N at mo gf gl gn gle;obtain⟨n1,n2,n3⟩:=M7 (z:=z) (rs:=N) gn gle (by lia) s1 s2
 have lN:N.length<=qP:=rP (by lia)
 have cpN:K51.ux [dM N]=some (.ow (N.map aI)):=by
  have cG:=K12.Dz N
  simp_arith [K51.ux,K51.DY,cG,lN]
 have sN:(N.map aI).map nR=N.map dI:=by rw[mPq];exact mCq λr _=>oS r
 generalize lr N z d1 d2=VN at n1 n2 n3;obtain⟨m1,m2,m3⟩:=M7 (z:=z) (rs:=M) mp.hn hf (by lia) s1 s2
 have e2:=(Nl (z:=z) s1 s2 (dM M)).trans (Dg (z:=z) mp.hn (by lia) (by lia) s1 s2)
 rcases vd (z:=z) hf (by lia) s1 s2 with ⟨G,g1,g2,_,_⟩|⟨c,fs,w,y,g1,g2,r⟩
 .rw [g2]at e2;rw[g1]at m1 m2 m3;rw[Ry]at m2;have bk:=(JO e2).2;have sG:(G.map aI).map nR=G.map dI:=by rw[mPq];exact mCq λr _=>oS r
  have a0:atI [D.str "map", .list (G.map dI)] 0=some (.str "map"):=rfl;have ne:decide ((("map" : Str)) = "refused")=false:=by decide
  have b0:atI [D.str "back", cz z] 0=some (.str "back"):=rfl;have b1:atI [D.str "back", cz z] 1=some (cz z):=rfl;have i3:=K23.in3 z;have lt:=aax (z:=z);have al0:K13.oE [.tup [.str "cut", .int z],.tup [.str "cut", .int z]]=some (.sh (.bl true)):=K13.vJ 4 _ ⟨by show 2<1000000;decide,λd hd=>by
   rcases ak.mp hd with rfl|hd
   .trivial
   .rw [mSq.mp hd];trivial⟩
  unfold Dw at m1 m3
  simp_arith [tl,h4,mk,cp,m3,sM,sG,m1,m2,al1,bk,a0,ne,b0,b1,ne_eq,not_true,Au,i3,lt,al0,lM,lc,sC,l2,q1,mo,cpN,sN,n1,n3,n2]
 .rw [g2]at e2;rw[g1]at m1 m2 m3;rw[Sj]at m2;obtain⟨_,_,bk⟩:=FC r e2;obtain⟨F,f1,mpF,f2,_⟩:=K16.Q2 mp (by lia)
  rw[gd]at f2;obtain⟨F',f1',f3,_⟩:=K15.Lr mp;rw[f1']at f1;have f3':K15.uR [dM M]=some (.ow (F.map aI)):=f3.trans f1;have sF:(F.map aI).map nR=F.map dI:=by rw[mPq];exact mCq λr _=>oS r
  obtain⟨k1,k2⟩:=Q6 s1 s2 f2 r e2;have a0:atI [D.str "refused", .list [.tup [.str w,.int y]]] 0=some (.str "refused"):=rfl;unfold vZ at m1 m3 bk k1 k2
  simp_arith [tl,h4,mk,cp,m3,sM,m1,m2,al1,bk,a0,f3',sF,k1,k2,lM,lc,sC,l2,q1,mo,cpN,sN,n1,n3,n2]
def m10:MS:=(nS (oj 7 (oi K22.uB (nv (kSc (pK Zl.nU (nu (nA 0) (nu (rC (.int 3)) nQ)))) (nv (nI 5) (nv (nI 6) (nv (kSc (oR Bu (nA 1) (rC (.int 65)))) nP))))))
 (nS (oj 8 (oi K22.uB (nv (kSc (oR zf (pK Zl.nU (nu (nA 0) (nu (rC (.int 4)) nQ))) (rC (.int 4)))) (nv (nI 5) (nv (nI 6) (nv (kSc (wx uj (oR Bu (nA 1) (rC (.int 65))))) nP))))))
 K22.tl))
def X0{M:List (List Int)}{z:Int}{ns nm:List Int}{n65:Int}(mp:Mp M) (gd:yl (M.map good)=M) (hf:M.flatten.length<=128) (hl:M.length<=80) (a65:atI (nm.map D.int) 65=some (.int n65)) {v2 v3:Option AV}{a4 a5:AV}(h4:nR a4=dM M) (h5:nR a5=dI M.flatten):m10 [some (.sh (.scr ns)),some (.sh (dI nm)),v2,v3,some a4,some a5,some (.sh (.int z)),none,none,none,none,none,none,none,none,none]=some (.rt (.sh (.bl true))):=by
 have c3:nU [.scr ns,.int 3]=some (.sh (.int (cell ns 3))):=wJ ns (by decide)
 have c4:nU [.scr ns,.int 4]=some (.sh (.int (cell ns 4))):=wJ ns (by decide)
 have dv:=zA (i:=cell ns 4) (j:=4) (by decide) (by decide)
 obtain⟨d1,e1,s1⟩:=Nr (c:=cell ns 3) (z:=z) (y:=n65) (E:=M.flatten) (by lia)
 obtain⟨d2,e2,s2⟩:=Nr (c:=cell ns 4 / 4) (z:=z) (y:=-n65) (E:=M.flatten) (by lia)
 have t:=λa b c d e a4 h=>@acf M z d1 d2 mp gd hf hl s1 s2 a b c d e a4 h
 have t1:=λa b c d e=>t a b c d e (.sh (dM M)) (by simp)
 have t2:=λa b c d e=>t a b c d e a4 h4
 simp_arith [m10,c3,c4,dv,h5,dI,a65,e1,e2,t1,t2]
def m5:MS:=(nS (oj 2 (CP (Cc 2) (lOf (rQ (Yp (nu (oR um (oR zf (pK Zl.nU (nu (nA 0) (nu (rC (.int 5)) nQ))) (rC (.int 4))) (rC (.int 3))) nQ)) [] rY (qc nP)))))
 (nS (oj 4 (oi K13.tO (nv (nI 2) nP)))
 (nS (oj 5 (oi Zl.ou (nv (nI 4) nP)))
 (nS (oj 6 (kSc (oR Bu (nA 1) (rC (.int 64)))))
 (nS (uT (Cq (qH (oR Gi (oR um (pK Zl.nU (nu (nA 0) (nu (rC (.int 4)) nQ))) (rC (.int 4))) (rC (.int 1)))) (Bq (nA 5))) (oj 6 (kSc (xF OP (nu (oR Bu (nA 5) (oR um (oR zf (pK Zl.nU (nu (nA 0) (nu (rC (.int 4)) nQ))) (rC (.int 4))) (xF uU (nu (nA 5) nQ)))) nQ)))) oH)
 K22.m10)))))
def Qs(k:Nat):qO rY (qc nP) [] (pZ 0 k)=some ((aD k ([]:List Int)).map aI):=by
 rw[Z.uZ λ_=>AV.ow []]
 .rw [gI,List.map_const',rN];rfl
 .intro d hd;refine⟨[some (.sh d)],?_⟩
  simp_arith []
def abX{T:List (List Int)}{ns nm:List Int}{n64 n65:Int}(hnd:T.flatten.Nodup) (hng:∀e∈T.flatten, -e∈T.flatten) (hf:T.flatten.length<=128) (hl:T.length<=70) (a64:atI (nm.map D.int) 64=some (.int n64)) (a65:atI (nm.map D.int) 65=some (.int n65)) {v3:Option AV}{a2:AV}(h2:lsA a2=some (T.map dI)):m5 [some (.sh (.scr ns)),some (.sh (dI nm)),some a2,v3,none,none,none,none,none,none,none,none,none,none,none,none]=some (.rt (.sh (.bl true))):=by
 have c5:nU [.scr ns,.int 5]=some (.sh (.int (cell ns 5))):=wJ ns (by decide)
 have c4:nU [.scr ns,.int 4]=some (.sh (.int (cell ns 4))):=wJ ns (by decide)
 have dv5:=zA (i:=cell ns 5) (j:=4) (by decide) (by decide)
 have m3:=WT (i:=cell ns 5 / 4) (j:=3) (by decide)
 have b0:=bA (cell ns 5 / 4) (b:=3) (by decide)
 have b1:=bq (cell ns 5 / 4) (b:=3) (by decide)
 obtain⟨k,hk⟩:∃k:Nat,cell ns 5 / 4 % 3=(k:Int):=⟨(cell ns 5 / 4 % 3).toNat,by lia⟩
 rw[hk]at m3 b1;have rg:=Bd (n:=k) (by lia)
 have nc:=Qs k;have rd:=rN 0 k;have lk:k<=qP:=rP (by lia)
 have sK:((aD k ([]:List Int)).map aI).map nR=(aD k ([]:List Int)).map dI:=by rw[mPq];exact mCq λr _=>oS r
 have lR:(aD k ([]:List Int)).length=k:=cL;have q2:T.map dI++(aD k ([]:List Int)).map dI=(T++aD k []).map dI:=by rw[mBq]
 have l5:T.length+k<=qP:=rP (by lia)
 have fR:(T++aD k ([]:List Int)).flatten=T.flatten:=by simp
 have lW:(T++aD k ([]:List Int)).length=T.length+k:=by rw[lAq,lR]
 rw[←fR]at hnd hng hf;generalize T++aD k ([]:List Int)=W at q2 hnd hng hf lW;have mo:=K13.IF (rs:=W) (λr hr=>by have:=AG hr;lia) (rP (by lia))
 have gf:=DM W;have gd:=Gb (T:=W) hnd;have gl:(yl (W.map good)).length=T.length+k:=by rw[xC,lMq,lW]
 have mp:Mp (yl (W.map good)):=⟨gf.nodup_iff.mpr hnd,by rw[gf.length_eq];lia,by lia,λe he=>gf.mem_iff.mpr (hng e (gf.mem_iff.mp he))⟩
 have hM:(yl (W.map good)).flatten.length<=128:=by rw[gf.length_eq];exact hf
 generalize yl (W.map good)=M at mo gf gd gl mp hM;have sW:(W.map λr=>AV.sh (dI r)).map nR=W.map dI:=by rw[mPq];exact mCq λr _=>by simp
 have sM:(M.map aI).map nR=M.map dI:=by rw[mPq];exact mCq λr _=>oS r
 have tm:=zo (rs:=M) (by lia)
 have sE:=oS M.flatten;have m4:=WT (i:=cell ns 4) (j:=4) (by decide)
 have dv4:=zA (i:=cell ns 4) (j:=4) (by decide) (by decide)
 have t:=λz v2 v3 a4 a5 h4 h5=>@X0 M z ns nm n65 mp gd hM (by lia) a65 v2 v3 a4 a5 h4 h5
 have t1:=λz v2 v3=>t z v2 v3 (.sh (dM M)) (.sh (dI M.flatten)) (by simp) (by simp)
 have t2:=λz v2 v3=>t z v2 v3 (.sh (dM M)) (aI M.flatten) (by simp) (oS _)
 by_cases c:cell ns 4 % 4=1
 .by_cases hE:M.flatten=[]
  .have t0:yO (.list (M.flatten.map D.int))=some false:=by rw[hE];rfl
   simp_arith [m5,h2,c5,dv5,m3,rg,nc,rd,lk,sK,lR,l5,q2,sW,mo,sM,tm,a64,c4,m4,c,sE,dI,t0,t1,t2]
  .have te:yO (.list (M.flatten.map D.int))=some true:=K12.Xv hE;have hp:0<M.flatten.length:=dG.mpr hE;have mx:=WT (i:=cell ns 4 / 4) (j:=((M.flatten.length:Nat):Int)) (by lia)
   have x0:=bA (cell ns 4 / 4) (b:=((M.flatten.length:Nat):Int)) (by lia)
   have x1:=bq (cell ns 4 / 4) (b:=((M.flatten.length:Nat):Int)) (by lia)
   generalize cell ns 4 / 4 % ((M.flatten.length:Nat):Int)=i at mx x0 x1;have hjl:i.toNat<M.flatten.length:=by lia
   have ha:atI (M.flatten.map D.int) i=some (.int M.flatten[i.toNat]):=by rw[Ew x0,gMq,gEg hjl];rfl
   generalize M.flatten[i.toNat]=e at ha
   simp_arith [m5,h2,c5,dv5,m3,rg,nc,rd,lk,sK,lR,l5,q2,sW,mo,sM,tm,a64,c4,m4,c,sE,dI,te,dv4,mx,ha,t1,t2]
 .simp_arith [m5,h2,c5,dv5,m3,rg,nc,rd,lk,sK,lR,l5,q2,sW,mo,sM,tm,a64,c4,m4,c,sE,dI,t1,t2]
def DL:Uy=(nS (oj 1 (oi K12.vO (nv (nI 0) nP)))
 (nS (oj 2 (oi Zl.ou (nv (oi K12.wR (nv (Jk (uG 0) (uO (rC (.int 6))) (uO (rC (.int 66)))) (nv (nI 1) nP))) nP)))
 (nS (uT (qH (oR Gi (oR um (oR zf (pK Zl.nU (nu (nA 0) (nu (rC (.int 0)) nQ))) (rC (.int 13266))) (rC (.int 3))) (rC (.int 1)))) (oj 2 (rQ (xJ (nI 2)) [] (Bq (nA 0)) (nI 0))) oH)
 (nS (oj 3 (kSc (oR um (pK Zl.nU (nu (nA 0) (nu (rC (.int 5)) nQ))) (rC (.int 4)))))
 (nS (uT (qH (oR Qx (nA 3) (rC (.int 1)))) (oj 2 (oi K22.uL (nv (Jk (uG 1) wF (uO (rC (.int 64)))) (nv (kSc (oR VG (nA 3) (rC (.int 1)))) nP)))) oH)
 K22.m5))))):=rfl
def Ov(rs:List (List Int)):qO (Bq (nA 0)) (nI 0) [] (rs.map dI)=some ((K16.ne rs).map λr=>.sh (dI r)):=by
 rw[Z.tY (λd=>!decide (Am d=[])) (λd=>.sh d)]
 .rw [dQ,mPq];have:(λd=>!decide (Am d=[]))∘dI=λr=>!decide (r=[]):=by funext r;show (!decide (Am (dI r)=[]))=_;rw[uC]
  rw[this];rfl
 .intro d hd;obtain⟨r,hr,rfl⟩:=zK hd;rw[uC];refine⟨[some (.sh (dI r))],?_,λ_=>⟨[some (.sh (dI r))],?_⟩⟩
  .cases r with
   |nil =>
    have t0:yO (dI [])=some false:=rfl
    simp_arith [t0]
   |cons x r =>
    have t1:yO (dI (x::r))=some true:=rfl
    simp_arith [t1]
  .simp_arith []
def acC{nm:List Int}(h:nm.Nodup) (hp:∀x∈nm,1<=x):(K16.pm nm).Nodup:=K12.E2 h hp
def SX(nm:List Int):([nm,nm.map λx=>-x]:List (List Int)).flatten.Perm (K16.pm nm):=by
 rw[show ([nm,nm.map λx=>-x]:List (List Int)).flatten=nm++nm.map λx=>-x by simp]
 unfold K16.pm
 induction nm with
 |nil=>exact .nil
 |cons x nm ih =>
  rw[fv,aw];show (x::(nm ++ -x::nm.map λx=>-x)).Perm (x :: -x::_)
  exact(eP.trans (ih.cons _)).cons _
def aaG{ns:List Int}(hns:ns.length<=63):D6 [.scr ns]=some (.sh (.bl true)):=by
 obtain⟨st,sh,a,b,h1,h1',h2,h2',h3,h4,en⟩:=K12.T5 ns;have hnm:=K12.X1 (b:=b) h1 h1' h2 h2' h3 h4;generalize K12.W7 st sh a b=nm at en hnm;have hcs:wz ns (some 6) (some 66)=(ns.drop 6).take 60:=QH ns 6 66;have hl:((ns.drop 6).take 60).length<=63:=by rw[lTq];lia
 generalize (ns.drop 6).take 60=cs at hcs hl;obtain⟨P,u,ep,pp,hu,l1,l2⟩:=K12.Ur (nm:=nm) hl hnm.len;have hP:=K12.abu hnm pp hu l1 l2;have sP:=K12.N2 P;have he:=hP.le;have fl:ou [.list (P.map dM)]=some (K13.oM P.flatten):=K13.ZD (ms:=P) (by lia)
 have hnd:=hP.nd;have hng:=hP.ng;generalize P.flatten=Q at fl l1 he hnd hng;have sQ:(Q.map λr=>AV.sh (dI r)).map nR=Q.map dI:=by rw[mPq];exact mCq λr _=>by simp
 have sN:=oS nm;have hnl:=hnm.len;obtain⟨n64,e64⟩:∃x,nm[64]?=some x:=⟨_,gEg (by lia)⟩
 obtain⟨n65,e65⟩:∃x,nm[65]?=some x:=⟨_,gEg (by lia)⟩
 have a64:atI (nm.map D.int) 64=some (.int n64):=zN (j:=64) (by rw[gMq,e64];rfl)
 have a65:atI (nm.map D.int) 65=some (.int n65):=zN (j:=65) (by rw[gMq,e65];rfl)
 have c0:nU [.scr ns,.int 0]=some (.sh (.int (cell ns 0))):=wJ ns (by decide)
 have c5:nU [.scr ns,.int 5]=some (.sh (.int (cell ns 5))):=wJ ns (by decide)
 have dv0:=zA (i:=cell ns 0) (j:=13266) (by decide) (by decide)
 have m0:=WT (i:=cell ns 0 / 13266) (j:=3) (by decide)
 have m4:=WT (i:=cell ns 5) (j:=4) (by decide)
 have w0:=bA (cell ns 5) (b:=4) (by decide)
 have w1:=bq (cell ns 5) (b:=4) (by decide)
 have lQ:Q.length<=qP:=rP (by lia)
 have fc:=Ov Q;generalize cell ns 5 % 4=w at m4 w0 w1;have c64:wz nm none (some 64)=nm.take 64:=K12.Lu nm 64;have lt64:(nm.take 64).length=64:=by rw[lTq];lia
 have nd64:(nm.take 64).Nodup:=bf.sublist (aW ..) hnm.nd;have lo64:∀x∈nm.take 64,1<=x:=λx hx=>hnm.lo x (aU hx)
 generalize nm.take 64=L at c64 lt64 nd64 lo64;have pnd:=acC nd64 lo64;have pl:=K16.TL L;have pneg:∀e∈K16.pm L, -e∈K16.pm L:=λe he=>K16.Zx he
 have F:=λT (x1:T.flatten.Nodup) x2 x3 x4 v3 a2 h=>@abX T ns nm n64 n65 x1 x2 x3 x4 a64 a65 v3 a2 h
 by_cases cw:1<w
 .have sub:w-1=1∨w-1=2:=by lia
  rcases sub with q|q
  .have la:=UU (nm:=L) (by lia)
   have fe:([K16.pm L]:List (List Int)).flatten=K16.pm L:=by simp
   have t:=λv3=>F [K16.pm L] (by rw[fe];exact pnd) (by rw[fe];exact pneg) (by rw[fe];lia) (by simp) v3 (.ow ([K16.pm L].map aI)) (by rw[EZ];congr 1;rw[mPq];exact mCq λr _=>oS r)
   simp only[aw,cQ]at t
   by_cases q0:cell ns 0 / 13266 % 3=1
   .simp_arith [D6,DL,en,sN,tq,hcs,ep,sP,fl,c0,dv0,m0,q0,K13.oM,sQ,lQ,fc,c5,m4,cw,c64,q,la,t]
   .simp_arith [D6,DL,en,sN,tq,hcs,ep,sP,fl,c0,dv0,m0,q0,K13.oM,sQ,lQ,fc,c5,m4,cw,c64,q,la,t]
  .have la:=W1 (nm:=L) (by lia) (w:=2) (by decide)
   have fp:=SX L;have t:=λv3=>F [L,L.map λx=>-x] (fp.nodup_iff.mpr pnd) (λe he=>fp.mem_iff.mpr (pneg e (fp.mem_iff.mp he))) (by rw[fp.length_eq];lia) (by simp) v3 (.ow ([L,L.map λx=>-x].map aI)) (by rw[EZ];congr 1;rw[mPq];exact mCq λr _=>oS r)
   simp only[aw,cQ]at t
   by_cases q0:cell ns 0 / 13266 % 3=1
   .simp_arith [D6,DL,en,sN,tq,hcs,ep,sP,fl,c0,dv0,m0,q0,K13.oM,sQ,lQ,fc,c5,m4,cw,c64,q,la,t]
   .simp_arith [D6,DL,en,sN,tq,hcs,ep,sP,fl,c0,dv0,m0,q0,K13.oM,sQ,lQ,fc,c5,m4,cw,c64,q,la,t]
 .by_cases q0:cell ns 0 / 13266 % 3=1
  .have fe:=K16.CZ Q;have nl:(K16.ne Q).length<=Q.length:=du _ _;have t:=λv3=>F (K16.ne Q) (by rw[fe];exact hnd) (by rw[fe];exact hng) (by rw[fe];lia) (by lia) v3 (.ow ((K16.ne Q).map λr=>.sh (dI r))) (by rw[EZ];congr 1;rw[mPq];exact mCq λr _=>by simp)
   simp_arith [D6,DL,en,sN,tq,hcs,ep,sP,fl,c0,dv0,m0,q0,K13.oM,sQ,lQ,fc,c5,m4,cw,t]
  .have t:=λv3=>F Q hnd hng (by lia) (by lia) v3 (.ow (Q.map λr=>.sh (dI r))) (by rw[EZ,sQ])
   simp_arith [D6,DL,en,sN,tq,hcs,ep,sP,fl,c0,dv0,m0,q0,K13.oM,sQ,lQ,fc,c5,m4,cw,t]
end K22
namespace K22
open PySem L2 Mr Z Xe
def Z8{l:W.OpenLaw}{w:iZ}{K:W.Frag}{h:Heap}{mg:Str->Option Value}{fa:Addr}(X:K.In h) (G:h.Ns iV mg) (hfa:mg "law" = some (.ref fa))
  {M:Addr}
  {vC:Addr}
  {Ba:Addr}
  {yJ:Addr}
  {yU:Addr}
  {xT:Addr}
  {IT:Addr}{Zo Yz XW aar T6 YM:Value}{Yg Zr:Option Addr}{X7:Array (Option Value)}
  {uK:Addr}
  {Ep:Addr}{Wk WR WM VC N1 Vb:Value}{VP WB:Option Addr}{Wc:Array (Option Value)}
  {AZ:Addr}
  {HU:Addr}{Ze YK Yw Zk QC Y1:Value}{aaw Yc:Option Addr}{aaa:Array (Option Value)}
  (a0:At K "turned" Aw f0 fd0)
  (a1:At K "told_ends" sI f1 fd1)
  (a2:At K "refuse_too_many" rz f2 fd2)
  (a3:At K "in_good_order" ro f3 fd3)
  (a4:At K "ends_of" yW f4 fd4)
  (a5:At K "nexts" CY f5 fd5)
  (a6:At K "onwards" yB f6 fd6)
  (a7:At K "gone_round" vq f7 fd7)
  (a8:At K "lands" Bk f8 fd8)
  (a9:At K "settled" yD f9 fd9)
  (a10:At K "spread" Ao f10 fd10)
  (a11:At K "put_behind" vi f11 fd11)
  (a12:At K "put_alone" wu f12 fd12)
  (a13:At K "put_end" za f13 fd13)
  (a14:At K "with_road" wa f14 fd14)
  (a16:At K "refuse_as_done" qE f16 fd16)
  (a18:At K "done_over" sA f18 fd18)
  (a20:At K "back_over" sm f20 fd20)
  (a21:At K "_law_cell" yM f21 fd21)
  (a22:At K "_law_names" yL f22 fd22)
  (a23:At K "_law_parts" yz f23 fd23)
  (a24:At K "_law_turn" AN f24 fd24)
  (a25:At K "_law_map" zT f25 fd25)
  (a26:At K "_law_all" Be f26 fd26)
  (a27:At K "_law_alike" uP f27 fd27)
  (a28:At K "_law_copy" AC f28 fd28)
  (a29:At K "_law_put" Di f29 fd29)
  (a30:At K "_law_kind" wo f30 fd30)
  (a31:At K "_law_done" vp f31 fd31)
  (a34:At K "_law_large" yF f34 fd34)
  (a35:At K "_law_spot" AQ f35 fd35)
  (a36:At K "_law_nexts" yT f36 fd36)
  (a37:At K "_law_lands" yy f37 fd37)
  (a38:At K "_law_back" vt f38 fd38)
  (a42:W.nsIn K iV "law" = some (some (.ref f42))) (l42:K.lookup f42=some ⟨oc42,od42,.func (W.fnOf "law" "law" (rS BB) (qL BB) (nH BB) .none kV42 dc42 pm42 an42 cd42 ct42),sl42⟩) (c42:W.codeIn K cd42 "law" = true) (k42:W.keepIn K (.ref f42)=true)
  (aM:W.nsIn K iV "MapError" = some (some (.ref M))) (xM:yj K "MapError" M xE=true)
  (rM:W.readsIn K M (.type "type")=true) (sM:W.specialIn K (.ref M) "__getattribute__" = some (some (.builtin "type.__getattribute__"))) (fM:W.findCls K (.ref M) (.type "type") "__init__" = some (.val (.builtin "ValueError.__init__")))
  (Fy:W.nsIn K iV "NotThere" = some (some (.ref vC))) (LU:yj K "NotThere" vC (.ref M::xE)=true) (Me:Zp K vC=true)
  (LW:W.findIn K (.ref vC) "__init__" = some (some (.ref B0))) (FH:K.lookup B0=some ⟨Xs,XI,.func (W.fnOf "__init__" "NotThere.__init__" (rS wg) (qL wg) (nH wg) .none Xb XJ Xt Xr Jt Xg),XD⟩) (Fd:W.codeIn K Jt "NotThere.__init__" = true) (Fw:W.keepIn K (.ref B0)=true) (Jq:W.isFn K (.ref B0)=true) (JW:W.keepIn K (.ref vC)=true) (J1:W.findIn K (.ref vC) "end" = some none)
  (Nv:W.nsIn K iV "Taken" = some (some (.ref Ba))) (WH:yj K "Taken" Ba (.ref M::xE)=true) (V0:Zp K Ba=true)
  (VE:W.findIn K (.ref Ba) "__init__" = some (some (.ref Ii))) (Od:K.lookup Ii=some ⟨acm,acn,.func (W.fnOf "__init__" "Taken.__init__" (rS Az) (qL Az) (nH Az) .none abb abD abR ab7 S9 abz),aci⟩) (Ng:W.codeIn K S9 "Taken.__init__" = true) (Nf:W.keepIn K (.ref Ii)=true) (Sk:W.isFn K (.ref Ii)=true) (Q5:W.keepIn K (.ref Ba)=true) (QI:W.findIn K (.ref Ba) "road" = some none)
  (Qh:W.nsIn K iV "TooMany" = some (some (.ref yJ))) (OC:yj K "TooMany" yJ (.ref M::xE)=true) (Oo:Zp K yJ=true)
  (PX:W.findIn K (.ref yJ) "__init__" = some (some (.builtin "ValueError.__init__"))) (Mz:W.keepIn K (.ref yJ)=true)
  (Qm:W.nsIn K iV "NoPlace" = some (some (.ref yU))) (Pb:yj K "NoPlace" yU (.ref M::xE)=true) (OW:Zp K yU=true)
  (Pq:W.findIn K (.ref yU) "__init__" = some (some (.builtin "ValueError.__init__"))) (Lv:W.keepIn K (.ref yU)=true)
  (bve:W.nsIn K iV "ValueError" = some none)
  (btu:W.nsIn K iV "tuple" = some none)
  (Tb:W.nsIn K iV "Put" = some (some (.ref xT))) (ZR:W.plainGet K xT Str.empty=true) (Zm:W.hasDictIn K xT=true) (Yd:W.plainOver K xT=true) (Ym:W.findIn K (.ref xT) "__setattr__" = some (some (.builtin "object.__setattr__")))
  (qT:W.findIn K (.ref xT) "road" = some none)
  (qv:W.findIn K (.ref xT) "first" = some none)
  (qh:W.findIn K (.ref xT) "second" = some none)
  (ZO:W.makesIn K xT=true) (Yr:W.findIn K (.ref xT) "__init__" = some (some (.ref IT))) (aaz:W.isFn K (.ref IT)=true) (ZI:W.keepIn K (.ref xT)=true)
  (Sa:K.lookup IT=some ⟨Zo,Yg,.func (W.fnOf "__init__" "Put.__init__" (rS EK) (qL EK) (nH EK) .none Yz XW aar Zr T6 YM),X7⟩) (Sd:W.codeIn K T6 "Put.__init__" = true) (RQ:W.keepIn K (.ref IT)=true)
  (On:W.nsIn K iV "Part" = some (some (.ref uK))) (Wr:W.plainGet K uK Str.empty=true) (Wz:W.hasDictIn K uK=true) (WA:W.plainOver K uK=true) (UY:W.findIn K (.ref uK) "__setattr__" = some (some (.builtin "object.__setattr__")))
  (qN:W.findIn K (.ref uK) "road" = some none)
  (qw:W.findIn K (.ref uK) "first" = some none)
  (qi:W.findIn K (.ref uK) "second" = some none)
  (V3:W.makesIn K uK=true) (W3:W.findIn K (.ref uK) "__init__" = some (some (.ref Ep))) (W2:W.isFn K (.ref Ep)=true) (WO:W.keepIn K (.ref uK)=true)
  (NY:K.lookup Ep=some ⟨Wk,VP,.func (W.fnOf "__init__" "Part.__init__" (rS CW) (qL CW) (nH CW) .none WR WM VC WB N1 Vb),Wc⟩) (M9:W.codeIn K N1 "Part.__init__" = true) (Oh:W.keepIn K (.ref Ep)=true)
  (S4:W.nsIn K iV "Cut" = some (some (.ref AZ))) (Ys:W.plainGet K AZ Str.empty=true) (YC:W.hasDictIn K AZ=true) (aap:W.plainOver K AZ=true) (Z3:W.findIn K (.ref AZ) "__setattr__" = some (some (.builtin "object.__setattr__")))
  (xS:W.findIn K (.ref AZ) "road" = some none)
  (aat:W.makesIn K AZ=true) (Yf:W.findIn K (.ref AZ) "__init__" = some (some (.ref HU))) (ZH:W.isFn K (.ref HU)=true) (Zh:W.keepIn K (.ref AZ)=true)
  (RX:K.lookup HU=some ⟨Ze,aaw,.func (W.fnOf "__init__" "Cut.__init__" (rS FR) (qL FR) (nH FR) .none YK Yw Zk Yc QC Y1),aaa⟩) (Rm:W.codeIn K QC "Cut.__init__" = true) (Te:W.keepIn K (.ref HU)=true)
  (a15:Yb K xT "done" "Put.done" Cf f15 fd15)
  (a17:Yb K uK "other" "Part.other" zL f17 fd17)
  (a19:Yb K xT "back" "Put.back" Cd f19 fd19)
  (a32:Yb K uK "done" "Part.done" A3 f32 fd32)
  (a39:Yb K uK "back" "Part.back" AR f39 fd39)
  (a41:Yb K AZ "told" "Cut.told" Cj f41 fd41)
  {D4:Tok}(Jl:W.nsIn K iV "MOST_ENDS" = some (some (.int 128 D4))) {wV:Tok}(B5:W.nsIn K iV "MOST_BARE_PLACES" = some (some (.int 128 wV)))
  (z0:W.nsIn K iV "len" = some none) (z1:W.nsIn K iV "min" = some none) (z2:W.nsIn K iV "max" = some none) (z3:W.nsIn K iV "abs" = some none) (z4:W.nsIn K iV "all" = some none) (z5:W.nsIn K iV "sorted" = some none) (z6:W.nsIn K iV "isinstance" = some none) (z7:W.nsIn K iV "list" = some none) (z8:W.nsIn K iV "int" = some none) (z9:W.nsIn K iV "bool" = some none) (z10:W.nsIn K iV "str" = some none) (z11:W.nsIn K iV "dict" = some none) (z12:W.nsIn K iV "zip" = some none) (z13:W.nsIn K iV "enumerate" = some none) (z14:W.nsIn K iV "range" = some none) (z15:W.nsIn K iV "reversed" = some none) :
  ∃fd:jb,(∀(s:iM) (v:Value),kN s fd ⟨[v],[]⟩ [("_law_script", v)])/\∀base:Heap,K.In base->base.Ns iV mg->wX l.prog w K mg base O0 12 fa fd ["_law_script"] (M3 K):=by
 have e:=hfa.symm.trans (W.mg_of X G a42);cases e;have B:Bt mg:=⟨W.mg_none_of X G z0,W.mg_none_of X G z1,W.mg_none_of X G z2,W.mg_none_of X G z3,W.mg_none_of X G z4,W.mg_none_of X G z5,W.mg_none_of X G z6,W.mg_none_of X G z7,W.mg_none_of X G z8,W.mg_none_of X G z9,W.mg_none_of X G z10,W.mg_none_of X G z11,W.mg_none_of X G z12,W.mg_none_of X G z13,W.mg_none_of X G z14,W.mg_none_of X G z15⟩;have D42:xP K mg "law" BB ["_law_script"] _ _:=⟨va l42 c42 k42,W.mg_of X G a42,b1 (va l42 c42 k42) λ_ _ _ _ _ _ _=>rfl⟩
 have AW:=W.mg_of X G Jl;have uJ:=W.mg_of X G B5;refine⟨W.fnOf "law" "law" (rS BB) (qL BB) (nH BB) .none kV42 dc42 pm42 an42 cd42 ct42,λs v=>.of_eq rfl,λbase kb nb=>?_⟩
 have bTU:=W.mg_none_of X G btu;have oI:=VT X G aM xM;have bVE:=W.mg_none_of X G bve;have Mw:=Jd Fy aM LU xM Me;have rK:=IE (P:=l.prog) (w:=w) (base:=base) (va FH Fd Fw) (b2 (va FH Fd Fw) λ_ _ _ _ _ _ _ _=>rfl) Mw (W.mg_of X G aM) rM sM fM LW Jq JW J1 (W.mg_of X G Fy)
 have V5:=Jd Nv aM WH xM V0;have vR:=OG (P:=l.prog) (w:=w) (base:=base) (va Od Ng Nf) (b2 (va Od Ng Nf) λ_ _ _ _ _ _ _ _=>rfl) V5 (W.mg_of X G aM) rM sM fM VE Sk Q5 QI (W.mg_of X G Nv)
 have OM:=Jd Qh aM OC xM Oo;have rn:=Ni X G OM PX Mz;have Pm:=Jd Qm aM Pb xM OW;have ue:=Ni X G Pm Pq Lv;have qd:wj K "Put" xT:=⟨Tb,⟨ZR,Zm,Yd,Ym⟩⟩;have Hr:=Wx (P:=l.prog) (w:=w) (base:=base) (va Sa Sd RQ) (b4 (va Sa Sd RQ) λ_ _ _ _ _ _ _ _ _ _=>rfl) ⟨ZO,Yr,aaz,ZI⟩ qd.cl qT qv qh (W.mg_of X G Tb)
 have pP:wj K "Part" uK:=⟨On,⟨Wr,Wz,WA,UY⟩⟩;have LC:=Tg (P:=l.prog) (w:=w) (base:=base) (va NY M9 Oh) (b4 (va NY M9 Oh) λ_ _ _ _ _ _ _ _ _ _=>rfl) ⟨V3,W3,W2,WO⟩ pP.cl qN qw qi (W.mg_of X G On)
 have xo:wj K "Cut" AZ:=⟨S4,⟨Ys,YC,aap,Z3⟩⟩;have Ua:=UX (P:=l.prog) (w:=w) (base:=base) (va RX Rm Te) (b2 (va RX Rm Te) λ_ _ _ _ _ _ _ _=>rfl) ⟨aat,Yf,ZH,Zh⟩ xo.cl xS (W.mg_of X G S4)
 have F0:=ON (P:=l.prog) (w:=w) (base:=base) (Ak X G a0 (b1 a0.F λ_ _ _ _ _ _ _=>rfl)) B
 have F1:=HK (P:=l.prog) (w:=w) (base:=base) (Ak X G a1 (b1 a1.F λ_ _ _ _ _ _ _=>rfl)) B
 have F2:=BK (Ak X G a2 (b1 a2.F λ_ _ _ _ _ _ _=>rfl)) B AW uJ rn F1
 have F3:=DC (Ak X G a3 (b1 a3.F λ_ _ _ _ _ _ _=>rfl)) B F0
 have F4:=My (Ak X G a4 (b1 a4.F λ_ _ _ _ _ _ _=>rfl)) B F1
 have F5:=Sr (P:=l.prog) (w:=w) (base:=base) (Ak X G a5 (b1 a5.F λ_ _ _ _ _ _ _=>rfl)) B
 have F6:=LR (Ak X G a6 (b1 a6.F λ_ _ _ _ _ _ _=>rfl)) B F5
 have F7:=GM (P:=l.prog) (w:=w) (base:=base) (Ak X G a7 (b2 a7.F λ_ _ _ _ _ _ _ _=>rfl)) B
 have F8:=R5 (Ak X G a8 (b1 a8.F λ_ _ _ _ _ _ _=>rfl)) B F6 F4 F3 F7
 have F9:=Mf (Ak X G a9 (b1 a9.F λ_ _ _ _ _ _ _=>rfl)) B F2 F3
 have F10:=Qr (P:=l.prog) (w:=w) (base:=base) (Ak X G a10 (b3 a10.F λ_ _ _ _ _ _ _ _ _=>rfl)) B
 have F11:=GF (Ak X G a11 (b3 a11.F λ_ _ _ _ _ _ _ _ _=>rfl)) B rK F1 F10
 have F12:=HJ (P:=l.prog) (w:=w) (base:=base) (Ak X G a12 (b2 a12.F λ_ _ _ _ _ _ _ _=>rfl)) B ue
 have F13:=Ll (Ak X G a13 (b3 a13.F λ_ _ _ _ _ _ _ _ _=>rfl)) B F11 F12
 have F14:=Ih (Ak X G a14 (b4 a14.F λ_ _ _ _ _ _ _ _ _ _=>rfl)) B vR F13 F9 F1
 have F15:=Kb a15.F ⟨a15.a,a15.i,a15.F.kp⟩ (b2 a15.F λ_ _ _ _ _ _ _ _=>rfl) B F14 qd qT qv qh
 have F16:=Ah (P:=l.prog) (w:=w) (base:=base) (Ak X G a16 (b2 a16.F λ_ _ _ _ _ _ _ _=>rfl)) B qd qT qv qh F15
 have F17:=GD (P:=l.prog) (w:=w) (base:=base) a17.F ⟨a17.a,a17.i,a17.F.kp⟩ (b1 a17.F λ_ _ _ _ _ _ _=>rfl) B qd qT qv qh pP qN qw qi Hr
 have F18:=Cr (Ak X G a18 (b2 a18.F λ_ _ _ _ _ _ _ _=>rfl)) B F8 qd qT qv qh pP qN qw qi F17 F15
 have F19:=Jp a19.F ⟨a19.a,a19.i,a19.F.kp⟩ (b2 a19.F λ_ _ _ _ _ _ _ _=>rfl) B F16 qd qT qv qh xo xS Ua
 have F20:=CI (Ak X G a20 (b2 a20.F λ_ _ _ _ _ _ _ _=>rfl)) B F8 qd qT qv qh pP qN qw qi F17 F19
 have F21:=OS (P:=l.prog) (w:=w) (base:=base) (Ak X G a21 (b2 a21.F λ_ _ _ _ _ _ _ _=>rfl)) B
 have F22:=LH (Ak X G a22 (b1 a22.F λ_ _ _ _ _ _ _=>rfl)) B F21
 have F23:=Le (P:=l.prog) (w:=w) (base:=base) (Ak X G a23 (b2 a23.F λ_ _ _ _ _ _ _ _=>rfl)) B
 have F24:=Qi (P:=l.prog) (w:=w) (base:=base) (Ak X G a24 (b1 a24.F λ_ _ _ _ _ _ _=>rfl)) B
 have F25:=QO (Ak X G a25 (b1 a25.F λ_ _ _ _ _ _ _=>rfl)) B F24
 have F26:=Ss (P:=l.prog) (w:=w) (base:=base) (Ak X G a26 (b1 a26.F λ_ _ _ _ _ _ _=>rfl)) B
 have F27:=MQ (P:=l.prog) (w:=w) (base:=base) (Ak X G a27 (b2 a27.F λ_ _ _ _ _ _ _ _=>rfl)) B bTU
 have F28:=PM (P:=l.prog) (w:=w) (base:=base) (Ak X G a28 (b1 a28.F λ_ _ _ _ _ _ _=>rfl)) B
 have F29:=Q4 (Ak X G a29 (b4 a29.F λ_ _ _ _ _ _ _ _ _ _=>rfl)) B F26 F25
 have F30:=Qt (P:=l.prog) (w:=w) (base:=base) (Ak X G a30 (b1 a30.F λ_ _ _ _ _ _ _=>rfl)) B rK vR rn ue bVE
 have F31:=GE (Ak X G a31 (b2 a31.F λ_ _ _ _ _ _ _ _=>rfl)) B oI F30 qd qT qv qh F15
 have F32:=II a32.F ⟨a32.a,a32.i,a32.F.kp⟩ (b2 a32.F λ_ _ _ _ _ _ _ _=>rfl) B F18 pP qN qw qi
 have F33:=Fm (Ak X G a31 (b2 a31.F λ_ _ _ _ _ _ _ _=>rfl)) B oI F30 pP qN qw qi F32
 have F34:=Lx (P:=l.prog) (w:=w) (base:=base) (Ak X G a34 (b2 a34.F λ_ _ _ _ _ _ _ _=>rfl)) B
 have F35:=OR (P:=l.prog) (w:=w) (base:=base) (Ak X G a35 (b4 a35.F λ_ _ _ _ _ _ _ _ _ _=>rfl)) B
 have F36:=LL (P:=l.prog) (w:=w) (base:=base) (Ak X G a36 (b1 a36.F λ_ _ _ _ _ _ _=>rfl)) B
 have F37:=MJ (Ak X G a37 (b1 a37.F λ_ _ _ _ _ _ _=>rfl)) B F36 F25
 have F38:=GJ (Ak X G a38 (b2 a38.F λ_ _ _ _ _ _ _ _=>rfl)) B oI F30 qd qT qv qh F19
 have F39:=HZ a39.F ⟨a39.a,a39.i,a39.F.kp⟩ (b2 a39.F λ_ _ _ _ _ _ _ _=>rfl) B F20 pP qN qw qi
 have F40:=FG (Ak X G a38 (b2 a38.F λ_ _ _ _ _ _ _ _=>rfl)) B oI F30 pP qN qw qi F39
 have F41:=J0 (P:=l.prog) (w:=w) (base:=base) a41.F ⟨a41.a,a41.i,a41.F.kp⟩ (b1 a41.F λ_ _ _ _ _ _ _=>rfl) B xo xS
 have F42:=Za D42 B F22 F26 F25 F35 F28 F29 F38 F23 F21 F34 F37 F27 F31 F33 F40 qd qT qv qh pP qN qw qi xo xS Hr LC F41;exact F42.ok.imp (U2 λns h=>aaG h)
def ad5{l:W.OpenLaw}{q:iW}{loose:List Str}{XP:(Str->Option Value)->Heap->Prop}{YP:iZ->Heap->Prop}{d:DefRec}{K:Params->W.Frag}(hn:l.most=some 63) (hdf:d.params.defaults=[])
  (hY:∀(w:iZ) (h:Heap),YP w h->(K w.params).In h)
  (F:∀(w:iZ) (mg:Str->Option Value) (fa:Addr) (h:Heap),(K w.params).In h->h.Ns iV mg->mg d.name=some (.ref fa) ->
   ∃fd:jb,(∀(s:iM) (u:Value),kN s fd ⟨[u],[]⟩ [("_law_script", u)])/\∀base:Heap,(K w.params).In base->base.Ns iV mg->wX l.prog w (K w.params) mg base O0 12 fa fd ["_law_script"] (M3 (K w.params))) :
  W.WalkO q loose XP YP l.row.toRowW d [] (λf vs=>PySem.call f vs) :=
 L2.Vs (n:=63) (k:=12) (x := "_law_script") (CX:=λ_=>O0) (sp:=λw=>M3 (K w.params)) hn (by decide) hdf ⟨rfl,by decide,by decide⟩ hY F (λ_ _ a ns hl _ hS=>⟨a,ns,rfl,hS,hl,λ_=>rfl⟩) λ_ _ _ _ _ z=>z
end K22
structure PySem.W.Fast:Prop where(tw7779028772394463562 tw4162014688427950579 tw17947612147954506050 tw2336242521897680655 tw8339388812510752272 tw17431170164854119660 tw9975457806483617722 tw2015791060845026820 tw7570503488405212513 tw1140999918845966558 tw5798484194476949066 tw6315685653131489603 tw5653983884272766012 tw3965138494042957813 tw11356145291925039343 tw10533915075626557789 tw3006659929466749937 tw400558097392570437 tw11966187367856092331 tw9213572137050772763 tw17650973245747206791 tw15272059527908869278 tw903192497094774556 tw1466113772778018747 tw15368060188222446614 tw8319546619997642668 tw10731836992230496667 tw5324480538102372536 tw3635478007288350728 tw18438178281127310923 tw14717235226526481255 tw7773741499546208912 tw2585569274415984471 tw14218206298100039456 tw15931787922072594808 tw276091351060128261 tw1231517084759345173 tw8664947585480601327 tw10862697043090458880 tw13109045378881407719 tw3718107540224796201 tw3977978589155126752 tw9547500642124022513 tw11951184121855673194 tw15244927248933312147 tw6247871983046729291 tw17327016702139642761 tw499626078307597260 tw10990108473903253614 tw11636765275478799741 tw4065312781365488772 tw5396243157981350018 tw15166363234194739649 tw14863876481485153907 tw8984377454406057876 tw14338543017786735994 tw15079547752904069919 tw1246607166707998702 tw11692754563631589177 tw4292546719110505346 tw11674280062509521319 tw17850063737500428096 tw1921160824506908000 tw7607058505687396026 tw15969963081858948939 tw13470540057986296579 tw16222581564817703735 tw17194192608897459823 tw11718507100360632342 tw15440052203124949403 tw16250116921053270459 tw5612908713156011615 tw1458212569877890449 tw287316951267231121 tw7128104143588624810 tw12339559347590274546 tw5991629223316066040 tw14122343458225267207 tw8033224594377888455 tw4708696175510537542 tw12540011000998361667 tw3594721408462770007 tw10756184235437224688 tw9046891309453610874 tw7758772606822387606 tw1823026024695389681 tw10504792157985446850 tw16995286315041404063 tw4094169874958714554 tw13529329950306177801 tw11667740743904819900 tw13831017234090654251 tw3058407848459059165 tw17010889249217735015 tw17653956478482303492 tw7780124556576865697 tw16037751235351320048 tw15178839209755919380 tw16160105792803936141 tw8161407114544387901 tw11472915136340715889 tw560756388591577593 tw9514396853313784711 tw8033025113738944082 tw12998380162035053794 tw6002127919912492181 tw6680267878675280384 tw3533158547362942644 tw11250802967872930326 tw4153327787340603003 tw16585263554503731885 tw7610157700583853403 tw710552326377959384 tw10716431781461795737 tw15845367814121024797 tw12488183472471696454 tw17774020481777152220 tw3241766537860078828 tw12049503221578223064 tw10978360644582733026 tw289325146026116182 tw4350706700186021180 tw17758276155079412992 tw11624941791229744623 tw4080104204014555674 tw2710664024260142721 tw9753166675349761627 tw12655274301324734836 tw15312771452985423026 tw13947276060310085692 tw10337050262172598720 tw10950591005313388768 tw7632973893390722882 tw18068856526049353676 tw11386100997740288588 tw477428881342604402 tw15578873157708163018 tw2969742077225376744 tw8930161894728006348 tw17763969370843594018 tw16823004860227533276 tw10377511821570033893 tw6285275371061471349 tw12659466428313456379 tw5701466531962046021 tw14839774932669281471 tw8548005034281919765 tw17900325347697024192 tw4458945896863925317 tw15555991906152287853 tw16852821418186811850 tw6471846021147416242 tw14899010679167139783 tw18170167439332371007 tw16051126434185212673 tw15257127488398858487 tw8923895288444384604 tw2286748755059658140 tw1878808123151433792 tw6766118858047562327 tw5516501094586502874 tw8240465915454098237 tw9651475054256055571 tw12932894548644168500 tw457765451921244124 tw10346369930717959163 tw4399373186292893310 tw12522709330445218801 tw15343138604582249561 tw3943807643794970793 tw7858124742359145591 tw1787402147862384442 tw8235138197125283566 tw15600758577235885733 tw5472119853787586959 tw6745174967806605138 tw4724240518859213985 tw12589882272839313102 tw7510279414142568954 tw17199732600748800596 tw166105378094406509 tw5947334035273864946 tw11170507067837428154 tw14875670767960918489 tw3629565850725926561 tw3162587422354866627 tw5869011484739568615 tw18153161015829420227 tw9957812121799328144 tw11489275178159331882 tw9045672142289997019 tw7245573405043819455 tw13751210466527420419 tw7529409157749688364 tw13858341234511597439 tw15518078564269100608 tw16817060684857244365 tw4032444394333490372 tw6868976310240277900 tw13146060976236084050 tw11997094762095172510 tw17356568626205630423 tw5687792231690345018 tw2181722356777305526 tw13379413258901534563 tw2822379589874921079 tw5695354160919781773 tw7527013089877219873 tw3632855493204687891 tw16161567156986111226 tw1208646120299634168 tw11630132566855794469 tw6043791816472075530 tw13808130139369993974 tw1372549242277944363 tw16715975426677494641 tw18383916161485766263 tw488322724754505510 tw8767386146945845386 tw17028845841168870303 tw1959264375854340061 tw1771064513267146482 tw15878181503492549681 tw10487373633554387009 tw8086832392952575044 tw9607545390330364660 tw731262183057741035 tw12242827048140427735 tw9237442394920736732 tw4403941628966615924 tw16158454826005578156 tw12574683475725523719 tw5906635604201383747 tw12332665109356926220 tw16656916484791291605 tw15989833310769554144 tw14232124036912949461 tw6127036908060057430 tw9902097895050305183 tw9510562231106205663 tw12199725998320212417 tw17612541895572981468 tw2613462531592285605 tw4018530191988240864 tw14366149155308710996 tw5302732010291566971 tw12857853115123885648 tw9749354138571486167 tw3601381339481442545 tw7025107377962515925 tw7478831962468585104 tw13589815599439639803 tw3740735716165266743 tw12083244338036377333 tw8741715134549844258 tw13072415950737277799 tw5637884982095890346 tw12671421792727994480 tw3398523023673004078 tw14209922468532862738 tw9098512717514086689 tw1814248300954709369 tw16489187897405927851 tw13961735809002344799 tw5567375553708848666 tw405702551720488274 tw5936170771061693182 tw6374568675894740678 tw9814051921589012231 tw7352675054981225193 tw9695837942467718865 tw8395606320423205323 tw12834925278818739363 tw4111960511500281180 tw14531285488099044045 tw6892835083078886807 tw167313858134803722 tw5993449700052781448 tw13791373125301201826 tw8147804541109153417 tw12855538115369902369 tw17826732786169327264 tw5592151168622558391 tw6476184367366834718 tw15237637457750724890 tw18211650584486768227 tw10384140161542029438 tw600909140784652004 tw10939093598350162316 tw10351703288201993159 tw7188674652345647462 tw11775656051934544841 tw17550596284110340407 tw12437780206698383561 tw7070624982589924238 tw476252668059967653 tw14401173360921968050 tw3016590637581033652 tw11483805017410534609 tw11636688581316902749 tw13684999196262527450 tw651125198174198283 tw13480127919925882473 tw16512125587421884463 tw4904210749112597236 tw2119064532675011600 tw3901744517817720087 tw11888787345871327046 tw14096723373870543939 tw5487636317359811923 tw10406001255335068395 tw9661488914545733241 tw1686347926390783305 tw9156313123029000968 tw5334198420947837856 tw10669058703158250789 tw6222093530248232926 tw6121736041169790021 tw12385000908158137675 tw4793107145528207198 tw5978521727781666460 tw16200858313113477098 tw15154711135394579044 tw12772239119509720772 tw11670848988564767921 tw9104211758529134790 tw8759354753125755788 tw1777022423754169079 tw10675924592603523018 tw2909088679870555586 tw623861690520615745 tw1892608823348547893 tw7158734131766882525 tw1734827075027218682 tw11169303514693825513 tw18318788551081443751 tw9959265439494754882 tw17384257699870962217 tw6909924117602783460 tw8124698380081193762 tw11223707323299376471 tw13498248502233945972 tw1896769823443832122 tw15123626487809502478 tw9001557210199677460 tw16720965300514102784 tw3413121825212364144 tw18252589132077074378 tw3997956847723293040 tw4900096108265622803 tw5249205619730774178 tw15127782502868070550 tw7231712959431597437 tw7325998846689226074 tw15068360306924871616 tw14997802277313491091 tw5222388458132052694 tw7236704055172681802 tw653296169578209355 tw911960448804456551 tw11590901988730569831 tw1206257750000720940 tw6346550815043649046 tw8571934046966549750 tw2469282245474681316 tw6887197047077026353 tw15589894128608847768 tw15833298121017391554 tw13373694089962390747 tw16349971687632432562 tw16935479362965876776 tw2091806481728202871 tw14473584310318972110 tw12918952394926824015 tw9921310174881942365 tw14108616513038483693 tw6424460774090430708 tw500601640540489014 tw1351891234544790931 tw7308807271448794605 tw11076214052015048074 tw8345630531177654106 tw5556848789216932380 tw7949249807877266728 tw5104479365470995228 tw2564947770318938184 tw18132607377889702311:True)
open PySem PySem.W PyProof.Rows
set_option maxRecDepth 100000 in
set_option maxHeartbeats 0 in
theorem PySem.Challenge.cw_mapround_k22_puts_refused_holds : PySem.Challenge.rw_mapround_k22_puts_refused.Holds := by
 w_on;o_law;k_head;(case hw=>w_witness2)
 k_fill
 refine K22.ad5 (l:=PySem.Challenge.rw_mapround_k22_puts_refused) rfl rfl (λw h Y=>W.kIn_of Y) ?F
 case F =>
  intro w mg fa h KX G hmg;apply K22.Z8 KX G hmg
  all_goals first|exact Mr.abM (by k_is) (by k_is) (by k_is) (by k_is)|exact Mr.Y9 (by k_is) (by k_is) (by k_is) (by k_is) (by k_is)|k_is|kernel_rfl
